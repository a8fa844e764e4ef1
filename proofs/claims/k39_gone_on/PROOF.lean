import PyProof.Rows.All
import Wide.All
import OpenK.AllK
import Wide.FinOn
import Lean
import PyProof.EqAt
import PyProof.EqKinds
import PyProof.TupleCall
import PyProof.NeKinds
import PyProof.StationsW
import PyProof.RulesAs
import PyProof.ExcClass3
import PyProof.ExcInit
import PyProof.ExcArgsOwn
import PyProof.IsiH_set
import PyProof.NsDelKeeps
import PyProof.CompFree
import PySem.Challenge.RW_stow_k39_gone_on
set_option tactic.hygienic false
open List renaming toArray→ϋ
local macro_rules
 | `(term| #[$xs,*])=>`(term| ⟨$xs,*⟩)
local macro_rules
 | `(tactic| lia)=>`(tactic| first|lia (splits:=9)|omega)
local macro_rules
 | `(term| s!"")=>`(term| by rfl)
local macro_rules
 | `(term| m!"")=>`(term| by decide)
local macro_rules
 | `(term| f!"")=>`(term| by simp)
local macro_rules
 | `(tactic| symm)=>`(tactic| walk_at "D")
local macro_rules
 | `(term| ∎)=>do
   let i:=λn=>Lean.mkIdent (Lean.Name.mkSimple n)
   `(term| $(i "yE") $(i "P") $(i "w") $(i "K") $(i "mg") $(i "base"))
local macro_rules
 | `(term| ⋯)=>do
   let i:=λn=>Lean.mkIdent (Lean.Name.mkSimple n)
   `(term| ($(i "cF") $(i "Ae") $(i "Af") $(i "Ac") $(i "Ag") $(i "Y6") $(i "Y4") $(i "Ah")))
local macro_rules
 | `(tactic| ext)=>`(tactic| walk_at "")
local macro_rules
 | `(term| ∅)=>`(term| by lia)
open List renaming getElem?_eq_some_iff→γ,mem_append_right→ε,mem_of_getElem?→ζ,mem_cons_self→η,getElem?_append_right→θ,mem_cons_of_mem→ι,mem_append→ν,size_toArray→ο,mem_append_left→π,getElem?_eq_getElem→ρ,mem_singleton→χ,getElem?_append_left→ψ,replicate→ω,length_append→Δ,mem_cons→Ξ,length_map→Φ,length_cons→Ψ,length_singleton→Ω,length_replicate→ae,getElem?_set_ne→ag,getElem?_set_self→ai,getElem?_of_mem→aj,append_assoc→am,getD_eq_getElem?_getD→ao,append_nil→aq,take_of_length_le→av,length_set→ax,map_append→ay,getElem?_map→bh,take_add_one→bj,length_take→bx,getElem_mem→bz,map_cons→cb,mem_map→ce,getElem?_replicate→cf,length_drop→cg,replicate_succ→cm,range→cq,any_eq_true→cw,nil_append→dk,flatten_cons→dw,getElem?_eq_none→dz,length_nil→eo,toArray→fb,length_eq_zero_iff→fg,mem_or_eq_of_mem_set→fv,filter_append→gc,filter_cons→gf,any_cons→gj,mem_replicate→gw,mem_filter→ib,nodup_cons→ic,foldl_cons→ie,mem_iff_getElem→ii,getElem?_take_of_lt→ik,filterMap_cons_none→il,length_pos_iff→io,all_eq_true→iq,lookup→iw,map_nil→ix,find?_cons→ja,any_append→jd,lookup_cons_self→jf,any_eq_false→jg,getLast?_concat→jj,filterMap_cons_some→jn,cons→jt,mem_range→jv,foldl_append→jz,filter_eq_nil_iff→ka,getElem?_toArray→kb,lookup_cons→kf,replicate_succ'→kh,mem_of_mem_take→ki,filterMap_cons→kj,mem_filterMap→lg,getElem?_drop→lr,getLast?_eq_getElem?→lx,length→lz,cons_append→mj,getElem?_cons_succ→mw,mem_flatten→mx,of_mem_zip→og,set_append_right→oj,singleton_append→oq,eq_nil_or_concat→ot,take_append_drop→ou,set_getElem_self→ow,dropLast_concat→pe,flatten_append→px,map_congr_left→qc,length_take_le→qd,zip_cons_cons→qk,foldl→qm,contains_cons→qo,getElem?_take→qp,ext_getElem?→qy,length_range→ra,any_nil→re,range'_succ→rk,flatten_nil→rl,append_inj'→rm,append_inj→rq,forIn_cons→rz,filter_nil→se,nodup_nil→sr,all_cons→sy,set_set→uk,range'→vd,map_id→ve
open PySem.W renaming Frag→δ,findIn→bp,SharedT→fj,looks_findIn→ig,mroIn→ij,Looks→me,clsIn→mf,OpenLaw→oh,looks_mroIn→pr,InstAt→sj,LeftO→sv,WalkO→tf
open PySem.Heap renaming get?_push_of_some→μ,lt_size→af,get?_update_other→ah,get?_push_size→ak,get?_update_self→ck,SameBut→df,get?_none_of_le→ff,size_push→jw,MadeExcOf→sq,Ns1→vw
open Bool renaming false_ne_true→ξ,eq_iff_iff→dj,and_eq_true→dm,false_eq_true→fe,and_eq_true_iff→gr,not_eq_true'→jx,and_false→li,false_or→qf,or_eq_true→rn,false_and→si,not_false→su,or_false→tm,and_true→tw,or_true→ue,true_or→uf
open Or renaming inl→υ,inr→lj
open Nat renaming le_refl→Γ,lt_of_lt_of_le→ba,ne_of_lt→bi,le_trans→cr,not_lt_zero→cu,lt_irrefl→cv,zero_le→dv,le_of_lt→gh,sub_self→gp,lt_succ_self→ip,lt_of_le_of_lt→jq,le_succ→jr,lt_trichotomy→jy,lt_or_ge→kq,lt_succ_of_lt→ma,ne_of_gt→my,zero_add→ng,le_of_eq→qv,add_zero→qz,le_of_not_lt→rj
open Option.some renaming inj→Θ
open Int renaming le_refl→ar,mul_le_mul_of_nonneg_left→au,toNat_of_nonneg→bc,emod_lt_of_pos→bg,emod_nonneg→br,natCast_add→ci,add_sub_cancel→di,mul_add→dy,eq_of_mul_eq_mul_left→fu,zero_add→gq,mul_ediv_add_emod→gz,natCast_mul→jb,toNat_natCast→jh,mul_nonneg→jk,toNat→jl,mul_le_mul_of_nonneg_right→kg,lt_or_le→ku,add_zero→kx,fdiv_eq_ediv_of_nonneg→lh,mul_emod_right→ll,add_mul_emod_self_left→lq,sub_add_cancel→lw,mul_assoc→mh,mul_ediv_cancel_left→mi,pow_succ→nh,ediv_eq_zero_of_lt→nt,ediv_nonneg→oi,emod_add_mul_ediv→ol,add_mul_ediv_left→oz,emod_eq_of_lt→qx,le_of_eq→rf,natCast_pow→sd,add_assoc→tq,ofNat_le→uh,zero_mul→uj,le_trans→um,mul_one→uz,mul_sub→va,pow_add→vc,add_mul→vf
open PySem.Builtin.Range renaming rangeSize→aw,small→pz,rangeFitsLong→sg
open PyProof.Rows renaming boot_list→az,boot_isinstance→bo,boot_min→fw,callWith_type1→ko,boot_bool→oa,lt_int→pq,call_int_bit_length→rc,callWith_builtin1→rg,boot_sorted→tz,intBits_le→ua,boot_range→ub,boot_tuple→uc,bitOr_and→ug,boot_dict→ul,boot_any→uo,boot_int→uq,boot_max→ur
open PySem renaming boot_len→bq,mem_of_lookup→im,Within→km,call→sk,Fin→vv,Value→vz,Addr→wa,Shared→wb,FuncData→wc,Program→we,World→wf,Around→wg,Expr→wk,Stmt→wl,Scope→wm,GenState→wn,starEach→wo,bindArgs→wq,sizeLine→wt,wpAny_bind→wu,wpAny_pure→wv,wpAny_mono→ww,wpAny→wx,PassesOwn→wy,backTo→wz,seqItems?→xa,compareOp→xc,mainGlobals→xg,isInstance→xh,callWith→xi,Drawn→xj,eval→xk,model→xl,cLine→xm,wpAny_truthy_bool→xn,wpAny_loadPart_at→xo,wpAny_execs_nil→xp,Sem→xq,Params→xr,Heap→xt,Env→xu,Model→xv
open True renaming intro→bu
open PySem.PassesOwn renaming never→cc,leaving→rb
open Option renaming map_eq_some_iff→cj,toList_some→iy,bind_eq_some_iff→mn,toList_none→qu,getD_none→rh
open PySem.Obj renaming mapSeq→cn,data_mapFields→gb,isFreed_of_fields→je,mapFields→jm,data_mapDictKeys→ph,cls_mapFields→qw
open PySem.F renaming slot_list_append→cy,type_list_append→db,plainAttrs_list→dh,excBase_ValueError→gv,attr_ValueError→iu,slot_int_bit_length→kz,type_int_bit_length→la,plainAttrs_int→nq
open False renaming elim→de
open Array renaming length_toList→du,getElem?_eq_some_iff→gu,getElem?_eq_getElem→ia,getElem?_toList→kc,getD_eq_getD_getElem?→ky,getElem?_eq_none→nk,Perm→qt
open Ne renaming symm→fh
open PySem.Value renaming builtin→gk,isStrOf→sx,isInt→ut
open PySem.Str renaming ofString→iz
open PySem.SeqAt.EqAt renaming same→jo,of_refs→lu,int_str→qg,str_int→qh,int_int→qj,none_bool→uu,bool_none→uv,bool_bool→uw,none_int→vg,none_str→vh,bool_int→vi,bool_str→vj,int_none→vk,int_bool→vm,str_none→vn,str_bool→vo,str_str→vp
open Classical renaming propDecidable→ju,em→vy
open PySem.Calls renaming Name_function_global→lb,call_function_entry→ly,callWith_builtin→nc,evalArgs_plain→pd
open PySem.SeqAt.RcAt renaming lists→mq,lists_lengths→tj,tuples→vq
open PyProof renaming noPylong_small→mz
open Eq renaming symm→vt
open Iff renaming rfl→vx
open PySem.W (BT absHeap boot_drawn boot_heap boot_o_2 boot_toks callWith_K callWith_K0 cellsFrom_some codeIn emptyDict excIn findCls findObj_own fnOf handedIn hasDictIn instObj isFn keepIn kia_one kitOne kitx_dict kitx_list lookIn makesIn methodCall_KW methodObj mg_of nsIn piece_app piecesOf plainGet plainGet_of plainOver readsIn segRunT segRun_of specialIn takerIn takesIn topFrame topRun topStub)
set_option Elab.async false
set_option compiler.extract_closed false
set_option linter.all false
set_option maxRecDepth 100000
set_option maxHeartbeats 4000000
theorem xb0{a b:Prop}(h:a)(g:¬a):b:=absurd h g
theorem xb1{c:Prop}{_:Decidable c}(h:c){α:Sort _}{t e:α}:ite c t e=t:=if_pos h
theorem xb2{c:Prop}{_:Decidable c}(h:¬c){α:Sort _}{t e:α}:ite c t e=e:=if_neg h
theorem xb3{p:Prop}[Decidable p](h:p):decide p=true:=decide_eq_true h
theorem xb4{p:Prop}[Decidable p](h:¬p):decide p=false:=decide_eq_false h
theorem Stow.said0:PySem.Challenge.rw_stow_k39_gone_on.wellSaid=true:=by decide +kernel
open PySem PySem.W PySem.Challenge in
theorem Stow.said1:rw_stow_k39_gone_on.row.prog.tablesWhole=true:=by decide +kernel
open PySem PySem.W PySem.Challenge in
theorem Stow.said2:(chainsOk (view pw_stow_k39_gone_on [88])&&opensWell rw_stow_k39_gone_on.row.prog&&(frees rw_stow_k39_gone_on.row.toRowW&&rw_stow_k39_gone_on.row.within.isEmpty))=true:=by decide +kernel
namespace L2
open PySem PySem.Spec PyProof.Rows
theorem zA0{α:Type}{n}:∀{t:List α},t.length=n+1->∃a s,t=a::s/\s.length=n
 | a::s,h=>#[a,s,rfl,Nat.succ.inj h]
theorem c_{α:Type}{t:List α}(h:t.length=1):∃a,t=[a]:=by obtain⟨a,s,rfl,g⟩:=zA0 h;cases s;exact#[a,rfl];cases g
theorem e_{α:Type}{t:List α}(h:t.length=2):∃a b,t=[a,b]:=by obtain⟨a,s,rfl,g⟩:=zA0 h;obtain⟨b,rfl⟩:=c_ g;exact#[a,b,rfl]
theorem ad{α:Type}{t:List α}(h:t.length=3):∃a b c,t=[a,b,c]:=by obtain⟨a,s,rfl,g⟩:=zA0 h;obtain⟨b,c,rfl⟩:=e_ g;exact#[a,b,c,rfl]
theorem zA4{α:Type}{t:List α}(h:t.length=4):∃a b c d,t=[a,b,c,d]:=by obtain⟨a,s,rfl,g⟩:=zA0 h;obtain⟨b,c,d,rfl⟩:=ad g;exact#[a,b,c,d,rfl]
theorem zA5{α:Type}{t:List α}(h:t.length=5):∃a b c d e,t=[a,b,c,d,e]:=by obtain⟨a,s,rfl,g⟩:=zA0 h;obtain⟨b,c,d,e,rfl⟩:=zA4 g;exact#[a,b,c,d,e,rfl]
theorem zA6{α:Type}{t:List α}(h:t.length=6):∃a b c d e f,t=[a,b,c,d,e,f]:=by obtain⟨a,s,rfl,g⟩:=zA0 h;obtain⟨b,c,d,e,f,rfl⟩:=zA5 g;exact#[a,b,c,d,e,f,rfl]
theorem zA7{α:Type}{t:List α}(h:t.length=7):∃a b c d e f i,t=[a,b,c,d,e,f,i]:=by obtain⟨a,s,rfl,g⟩:=zA0 h;obtain⟨b,c,d,e,f,i,rfl⟩:=zA6 g;exact#[a,b,c,d,e,f,i,rfl]
def As(s:wl)(j:Nat):wl:=match s with
 | .ClassDef _ _ _ body _ _ _ _ _ _ _=>body.getD j (.Pass #[0,0,0,0])
 | _=>.Pass #[0,0,0,0]
def Bb(s:wl):Arguments:=match s with
 | .FunctionDef _ a _ _ _ _ _ _ _ _=>a
 | _=>{ posonlyargs:=[],args:=[],vararg:=none,kwonlyargs:=[],kw_defaults:=[],kwarg:=none,defaults:=[] }
def A3(s:wl):List wl:=match s with
 | .FunctionDef _ _ b _ _ _ _ _ _ _=>b
 | _=>[]
def An(s:wl):wm:=match s with
 | .FunctionDef _ _ _ _ _ _ sc _ _ _=>sc
 | _=>{ kind:=.function,names:=[],isGenerator:=false,isCoroutine:=false }
end L2
namespace Stow
open PySem L2 PyProof.Rows
abbrev bN(o:Obj)(l r:BT):BT:=.node o l r
abbrev bF(o:Obj):BT:=.node o .nil .nil
noncomputable section
def top(i:Nat):wl:=PySem.Challenge.pw_stow_k39_gone_on.main.body.getD i (.Pass #[0,0,0,0])
noncomputable def en(P:xr)(s:Str)(t:Tok)(v:vz):DictEntry:=#[PyData.keyHash P s,.str s t,v]
noncomputable def fo(nm qn:Str)(st:wl)(dV kV dc pm:vz)(an:Option wa)(cd ct:vz)(od:Option wa):Obj:=#[.type "function",od,.func (fnOf nm qn (Bb st) (A3 st) (An st) dV kV dc pm an cd ct),(ϋ [])]
noncomputable def fq(nm qn:Str)(st:wl):Obj:=#[.none,none,.func { name:=nm,qualname:=qn,params:=Bb st,body:=.stmts (A3 st),scope:=An st,globals:=0,closure:=[],defaults:=.none,kwdefaults:=.none },(ϋ [])]
noncomputable def tu(l:List vz):Obj:=#[(.type "tuple"),none,.seq l.toArray 0,(ϋ [])]
noncomputable def fl(l:List vz):Obj:=#[.none,none,.fields l.toArray,(ϋ [])]
noncomputable def co(l:List vz):Obj:=#[(.type "code"),none,.fields l.toArray,(ϋ [])]
noncomputable abbrev vI(n:Int):vz:=.int n 0
noncomputable abbrev vR(n:wa):vz:=.ref n
noncomputable abbrev cp(a b:Str)(t:Tok)(l:List vz):Obj:=co ((.str a t)::(.str b (t+1))::(.str "/claim/cut.py" (t+2))::l)
noncomputable def xk0(a b:Str)(t:Tok)(l n x:Int)(r:wa)(u:Int)(v:Tok):Obj:=cp a b t (vI l::vI n::vI 0::vI 0::vI x::vR r::(.bool false)::vI 181::vR (r+1)::.none::.none::.none::.none::vI u::vI l::(.str "/claim/cut.py" v)::[])
noncomputable def xfm0(l:List (Option vz)):Obj:=#[(.type "frame"),none,.plain,l.toArray]
noncomputable def xk1(a b:Str)(t:Tok)(l n x:Int)(r:wa)(u:Int)(v:Tok):Obj:=cp a b t (vI l::vI n::vI 0::vI 0::vI x::vR r::(.bool true)::vI 181::vR (r+1)::.none::vR (r+2)::vR (r+3)::vR (r+4)::vI u::vI l::(.str "/claim/cut.py" v)::[])
noncomputable def xbi0(l:List vz):Obj:=#[(.type "builtin_function_or_method"),none,.fields l.toArray,(ϋ [])]
noncomputable def xsu0(l:List vz):Obj:=#[(.type "super"),none,.fields l.toArray,(ϋ [])]
def AT:Obj:=#[(.type "tuple"),none,.seq (ϋ []) 0,(ϋ [])]
def Bl:Obj:=#[.none,none,.fields (ϋ []),(ϋ [])]
noncomputable def tn(t:Tok)(l:List Str):List vz:=l.foldr (λs f t=>.str s t::f (t+1)) (λ_=>[]) t
noncomputable def f3(l:List (Int×Int×wa)):List vz:=l.flatMap λp=>[vI p.1,vI p.2.1,vR p.2.2]
noncomputable def rs(l:List wa):List vz:=l.map .ref
noncomputable def fm(n q:Str)(s:wl)(m:vz)(c:wa):Obj:=fo n q s .none .none .none m none (.ref c) .none none
noncomputable def fn(n:Str)(s:wl)(m:vz)(c:wa):Obj:=fm n n s m c
noncomputable def fd(n q:Str)(s:wl)(d:wa)(m:vz)(c:wa):Obj:=fo n q s (.ref d) .none .none m none (.ref c) .none none
noncomputable def xf(a b:wa)(m:vz):Obj:=xfm0 ((some (.ref a))::(some (.ref 3))::(some (.ref b))::none::(some m)::none::(some (.ref 0))::[])
noncomputable def xs(a:wa):Obj:=xsu0 ((.ref a)::(.ref a)::(.ref a)::[])
noncomputable def xb(a:wa):Obj:=xbi0 ((.builtin "object.__init_subclass__")::(.ref a)::[])
noncomputable def eM(P:xr)(t:Tok)(m:vz):DictEntry:=en P "__module__" t m
noncomputable def eL(P:xr)(l:Int)(t:Tok):DictEntry:=en P "__firstlineno__" (t+1) (.int l t)
noncomputable def eQ(P:xr)(n:Str)(t:Tok):DictEntry:=en P "__qualname__" (t+1) (.str n t)
noncomputable def eS(P:xr)(t:Tok)(a:wa):DictEntry:=en P "__static_attributes__" t (.ref a)
noncomputable def eD(P:xr)(t:Tok):DictEntry:=en P "__doc__" t .none
noncomputable def eF(P:xr)(n:Str)(t:Tok)(a:wa):DictEntry:=en P n t (.ref a)
noncomputable def dd(l:List DictEntry)(n:Nat):Obj:=#[(.type "dict"),none,.dict l.toArray n,(ϋ [])]
noncomputable def cX(n:Str)(b:List vz)(r:List wa)(w:List vz)(d:wa)(u:List vz)(x:wa)(t v:Tok)(e:String):Obj:=#[(.type "type"),none,.cls #[n,b,rs r++w,d,n,true,[],u,false,none,false],((some (.ref x))::none::(some (.str n t))::(some (.str n v))::(some (.builtin e))::(some (.bool true))::[]).toArray]
noncomputable def cO(n:Str)(b:List vz)(r:List wa)(d:wa)(u:List vz)(x:wa)(t v:Tok):Obj:=cX n b r [(.type "object")] d u x t v "object.__new__"
noncomputable def cV(n:Str)(b:List vz)(r:List wa)(d:wa)(u:List vz)(x:wa)(t v:Tok):Obj:=cX n b r [(.type "ValueError"),(.type "Exception"),(.type "BaseException"),(.type "object")] d u x t v "ValueError.__new__"
noncomputable def dq(t:Tok)(l:List Str)(n q:Str)(s:wl)(c f:Obj)(r:List Obj):List Obj:=AT::Bl::tu (tn t l)::AT::fq n q s::c::f::r
noncomputable def dg(t:Tok)(l:List Str)(n:Str)(s:wl)(c f:Obj)(r:List Obj):List Obj:=dq t l n n s c f r
noncomputable def sp2(l:List Obj):List Obj×List Obj:=l.foldr (λx p=>(x::p.2,p.1)) ([],[])
noncomputable def bt:Nat->List Obj->BT
 | n+1,x::r=>.node x (bt n (sp2 r).1) (bt n (sp2 r).2)
 | _,_=>.nil
noncomputable def up(l:List Obj)(u:List (Nat×Obj)):List Obj:=u.foldl (λl p=>l.set p.1 p.2) l
noncomputable def mo0:vz:=.str "__main__" 164
noncomputable def mo1:vz:=.str "stow.errors" 194
noncomputable def mo2:vz:=.str "stow.asks" 367
noncomputable def mo3:vz:=.str "stow.marks" 387
noncomputable def mo4:vz:=.str "stow.looks" 411
noncomputable def mo5:vz:=.str "stow.pieces" 452
noncomputable def mo6:vz:=.str "stow.keepers" 582
noncomputable def mo7:vz:=.str "stow.halves" 735
noncomputable def mo8:vz:=.str "stow.rows" 824
noncomputable def mo9:vz:=.str "stow.shelves" 874
noncomputable def mo10:vz:=.str "stow.places" 990
noncomputable def yL:vz:=.str "stow.stretches" 1017
noncomputable def mo12:vz:=.str "stow.kinds" 1233
noncomputable def y_:vz:=.str "law_stow_k39_gone_on" 1245
def Eo:Obj:=xk0 "<module>" "<module>" 182 1 0 0 11 185 186
def D2:Obj:=xf 13 3 mo0
def LG:Obj:=xk1 "_wall" "_wall" 187 1 1 3 15 191 192
def LH:Obj:=fn "_wall" (top 0) mo0 20
def A4:Obj:=xbi0 ((.builtin "type.__prepare__")::(.type "type")::[])
def LJ(P:xr):Obj:=dd (eM P 203 mo1::eQ P "StowError" 204::eL P 5 206::eS P 208 29::[]) 4
def LK(P:xr):Obj:=dd (eM P 203 mo1::eL P 5 206::eS P 208 29::eF P "__weakref__" 210 32::eD P 211::[]) 3
def Cv:Obj:=tu (vR 31::[])
def LL(P:xr):Obj:=dd (eM P 221 mo1::eQ P "NoName" 222::eL P 7 224::eS P 226 42::[]) 4
def LM(P:xr):Obj:=dd (eM P 221 mo1::eL P 7 224::eS P 226 42::eD P 227::[]) 2
def LN:Obj:=cV "NoName" (rs [31]) [44,31] 43 (rs []) 35 214 222
def LO(P:xr):Obj:=dd (eM P 237 mo1::eQ P "NoSize" 238::eL P 9 240::eS P 242 54::[]) 4
def LP(P:xr):Obj:=dd (eM P 237 mo1::eL P 9 240::eS P 242 54::eD P 243::[]) 2
def LQ:Obj:=cV "NoSize" (rs [31]) [56,31] 55 (rs []) 47 230 238
def LR(P:xr):Obj:=dd (eM P 253 mo1::eQ P "Broken" 254::eL P 11 256::eF P "__init__" 265 72::eS P 267 73::[]) 5
def LS:Obj:=xk1 "__init__" "Broken.__init__" 258 13 2 3 66 263 264
def LU:Obj:=fm "__init__" "Broken.__init__" (As (top 5) 0) mo1 71
def LV(P:xr):Obj:=dd (eM P 253 mo1::eL P 11 256::eF P "__init__" 265 72::eS P 267 73::eD P 268::[]) 2
def LW:Obj:=cV "Broken" (rs [31]) [75,31] 74 (rs []) 59 246 254
def LX(P:xr):Obj:=dd (eM P 278 mo1::eQ P "NoGive" 279::eL P 15 281::eS P 283 85::[]) 4
def LY(P:xr):Obj:=dd (eM P 278 mo1::eL P 15 281::eS P 283 85::eD P 284::[]) 2
def LZ:Obj:=cV "NoGive" (rs [31]) [87,31] 86 (rs []) 78 271 279
def L0(P:xr):Obj:=dd (eM P 294 mo1::eQ P "NoPiece" 295::eL P 17 297::eS P 299 97::[]) 4
def L3(P:xr):Obj:=dd (eM P 294 mo1::eL P 17 297::eS P 299 97::eD P 300::[]) 2
def L4:Obj:=cV "NoPiece" (rs [31]) [99,31] 98 (rs []) 90 287 295
def L5(P:xr):Obj:=dd (eM P 310 mo1::eQ P "NoCell" 311::eL P 19 313::eS P 315 109::[]) 4
def WV(P:xr):Obj:=dd (eM P 310 mo1::eL P 19 313::eS P 315 109::eD P 316::[]) 2
def WW:Obj:=cV "NoCell" (rs [31]) [111,31] 110 (rs []) 102 303 311
def WX(P:xr):Obj:=dd (eM P 326 mo1::eQ P "NoAsk" 327::eL P 21 329::eS P 331 121::[]) 4
def WY(P:xr):Obj:=dd (eM P 326 mo1::eL P 21 329::eS P 331 121::eD P 332::[]) 2
def WZ:Obj:=cV "NoAsk" (rs [31]) [123,31] 122 (rs []) 114 319 327
def W4:Obj:=cV "StowError" [(.type "ValueError")] [31] 30 (rs [44,56,75,87,99,111,123,135,147]) 22 196 204
def W8(P:xr):Obj:=dd (eM P 342 mo1::eQ P "NoBound" 343::eL P 23 345::eS P 347 133::[]) 4
def W9(P:xr):Obj:=dd (eM P 342 mo1::eL P 23 345::eS P 347 133::eD P 348::[]) 2
def Xa:Obj:=cV "NoBound" (rs [31]) [135,31] 134 (rs []) 126 335 343
def Xb(P:xr):Obj:=dd (eM P 358 mo1::eQ P "NoRoom" 359::eL P 25 361::eS P 363 145::[]) 4
def Xc(P:xr):Obj:=dd (eM P 358 mo1::eL P 25 361::eS P 363 145::eD P 364::[]) 2
def Xd:Obj:=cV "NoRoom" (rs [31]) [147,31] 146 (rs []) 138 351 359
def Xe:Obj:=xk1 "check_ask" "check_ask" 371 29 2 3 150 376 377
def Xf:Obj:=fn "check_ask" (top 14) mo2 155
def Xg:Obj:=xk1 "check_plain_ask" "check_plain_ask" 379 32 2 3 157 384 385
def Xh:Obj:=fn "check_plain_ask" (top 15) mo2 162
def Xi:Obj:=xk1 "mark_of" "mark_of" 389 37 2 3 164 394 395
def Xj:Obj:=fn "mark_of" (top 17) mo3 169
def Xk:Obj:=xk1 "long_of" "long_of" 397 41 1 3 171 401 402
def Xl:Obj:=fn "long_of" (top 18) mo3 176
def Xm:Obj:=xk1 "live_of" "live_of" 404 43 1 3 178 408 409
def Xn:Obj:=fn "live_of" (top 19) mo3 183
def Xo:Obj:=xk1 "can_begin" "can_begin" 415 47 2 3 185 421 422
def Xp:Obj:=fn "can_begin" (top 22) mo4 190
def Xq:Obj:=xk1 "bad_of_piece" "bad_of_piece" 424 52 2 3 192 430 431
def Xr:Obj:=fn "bad_of_piece" (top 23) mo4 197
def Xs:Obj:=xk1 "looked" "looked" 433 59 1 3 199 441 442
def Xt:Obj:=fn "looked" (top 24) mo4 204
def Xu:Obj:=xk1 "fresh_room" "fresh_room" 444 70 1 3 206 449 450
def Xv:Obj:=fn "fresh_room" (top 25) mo4 211
def Xw:Obj:=xk1 "laid" "laid" 454 78 4 3 213 462 463
def Xx:Obj:=fn "laid" (top 27) mo5 218
def Xy:Obj:=xk1 "laid_free" "laid_free" 465 83 3 3 220 471 472
def Xz:Obj:=fn "laid_free" (top 28) mo5 225
def XA:Obj:=xk1 "piece_at" "piece_at" 474 87 2 3 227 480 481
def XB:Obj:=fn "piece_at" (top 29) mo5 232
def XD:Obj:=xk1 "live_at" "live_at" 483 92 2 3 234 489 490
def XE:Obj:=fn "live_at" (top 30) mo5 239
def XF:Obj:=xk1 "free_at" "free_at" 492 97 2 3 241 498 499
def XG:Obj:=fn "free_at" (top 31) mo5 246
def XH:Obj:=cp "begin_around" "begin_around" 501 (vI 102::vI 2::vI 0::vI 0::vI 3::vR 248::(.bool true)::vI 181::vR 249::.none::.none::.none::vR 250::vI 504::vI 102::(.str "/claim/cut.py" 505)::[])
def XJ:Obj:=fn "begin_around" (top 32) mo5 251
def XL:Obj:=xk1 "free_begin" "free_begin" 507 105 2 3 253 512 513
def XM:Obj:=fn "free_begin" (top 33) mo5 258
def XN:Obj:=xk1 "free_end" "free_end" 515 109 2 3 260 520 521
def XO:Obj:=fn "free_end" (top 34) mo5 265
def XQ:Obj:=xk1 "cut_out" "cut_out" 523 113 4 3 267 535 536
def XR:Obj:=fn "cut_out" (top 35) mo5 272
def XS:Obj:=xk1 "freed" "freed" 538 121 2 3 274 546 547
def XT:Obj:=fn "freed" (top 36) mo5 279
def XU:Obj:=xk1 "joined_pieces" "joined_pieces" 549 124 1 3 281 557 558
def XV:Obj:=fn "joined_pieces" (top 37) mo5 286
def XW:Obj:=xk1 "joined" "joined" 560 132 1 3 288 568 569
def XX:Obj:=fn "joined" (top 38) mo5 293
def XY:Obj:=xk1 "carried" "carried" 571 137 4 3 295 579 580
def XZ:Obj:=fn "carried" (top 39) mo5 300
def X0(P:xr):Obj:=dd (eM P 591 mo6::eQ P "Keeper" 592::eL P 141 594::eF P "__init__" 603 315::eF P "cells" 610 322::eF P "pieces" 617 329::eF P "lay" 625 336::eF P "clear" 632 343::eF P "many" 643 350::eF P "get" 652 357::eF P "put" 663 364::eF P "ask" 673 372::eF P "give" 684 379::eF P "grow" 696 387::eF P "room_begin" 704 394::eF P "room_cell_of" 714 401::eF P "room_moved" 725 408::eS P 727 409::[]) 18
def X1:Obj:=xk1 "__init__" "Keeper.__init__" 596 143 2 3 309 601 602
def X2:Obj:=fm "__init__" "Keeper.__init__" (As (top 41) 0) mo6 314
def X3:Obj:=xk1 "cells" "Keeper.cells" 604 146 1 3 316 608 609
def X4:Obj:=fm "cells" "Keeper.cells" (As (top 41) 1) mo6 321
def X5:Obj:=xk1 "pieces" "Keeper.pieces" 611 149 1 3 323 615 616
def X6:Obj:=fm "pieces" "Keeper.pieces" (As (top 41) 2) mo6 328
def X7:Obj:=xk1 "lay" "Keeper.lay" 618 152 2 3 330 623 624
def X8:Obj:=fm "lay" "Keeper.lay" (As (top 41) 3) mo6 335
def X9:Obj:=xk1 "clear" "Keeper.clear" 626 158 1 3 337 630 631
def Ya:Obj:=fm "clear" "Keeper.clear" (As (top 41) 4) mo6 342
def Yb:Obj:=xk1 "many" "Keeper.many" 633 161 2 3 344 641 642
def Yc:Obj:=fm "many" "Keeper.many" (As (top 41) 5) mo6 349
def Yd:Obj:=xk1 "get" "Keeper.get" 644 165 3 3 351 650 651
def Ye:Obj:=fm "get" "Keeper.get" (As (top 41) 6) mo6 356
def Yf:Obj:=xk1 "put" "Keeper.put" 653 168 4 3 358 661 662
def Yg:Obj:=fm "put" "Keeper.put" (As (top 41) 7) mo6 363
def Yh:Obj:=tu ((.int 1 685)::[])
def Yi:Obj:=xk1 "grow" "Keeper.grow" 686 180 4 3 381 694 695
def Yj:Obj:=fd "grow" "Keeper.grow" (As (top 41) 10) 380 mo6 386
def Yk:Obj:=xk1 "room_begin" "Keeper.room_begin" 697 187 2 3 388 702 703
def Yl:Obj:=fm "room_begin" "Keeper.room_begin" (As (top 41) 11) mo6 393
def Ym:Obj:=xk1 "room_cell_of" "Keeper.room_cell_of" 705 190 3 3 395 712 713
def Yn:Obj:=fm "room_cell_of" "Keeper.room_cell_of" (As (top 41) 12) mo6 400
def Yo:Obj:=xk1 "room_moved" "Keeper.room_moved" 715 196 4 3 402 723 724
def Yp:Obj:=fm "room_moved" "Keeper.room_moved" (As (top 41) 13) mo6 407
def Yq(P:xr):Obj:=dd (eM P 591 mo6::eL P 141 594::eF P "__init__" 603 315::eF P "cells" 610 322::eF P "pieces" 617 329::eF P "lay" 625 336::eF P "clear" 632 343::eF P "many" 643 350::eF P "get" 652 357::eF P "put" 663 364::eF P "ask" 673 372::eF P "give" 684 379::eF P "grow" 696 387::eF P "room_begin" 704 394::eF P "room_cell_of" 714 401::eF P "room_moved" 725 408::eS P 727 409::eF P "__dict__" 729 412::eF P "__weakref__" 731 413::eD P 732::[]) 4
def Yr:Obj:=#[(.type "type"),none,.cls #["Keeper",[(.type "object")],[(.ref 411),(.type "object")],410,"Keeper",true,[],[(.ref 480),(.ref 515),(.ref 599),(.ref 676)],false,none,false],(none::none::(some (.str "Keeper" 584))::(some (.str "Keeper" 592))::(some (.builtin "object.__new__"))::(some (.bool true))::[]).toArray]
def Ys:Obj:=xk1 "is_power" "is_power" 737 202 1 3 416 741 742
def Yt:Obj:=fn "is_power" (top 43) mo7 421
def Yu:Obj:=xk1 "block_for" "block_for" 744 204 1 3 423 748 749
def Yv:Obj:=fn "block_for" (top 44) mo7 428
def Yw:Obj:=cp "least_free" "least_free" 751 (vI 206::vI 2::vI 0::vI 0::vI 3::vR 430::(.bool true)::vI 181::vR 431::.none::.none::.none::vR 432::vI 754::vI 206::(.str "/claim/cut.py" 755)::[])
def Yx:Obj:=fn "least_free" (top 45) mo7 433
def Yy:Obj:=xk1 "cut_down" "cut_down" 757 212 4 3 435 765 766
def Yz:Obj:=fn "cut_down" (top 46) mo7 440
def YA:Obj:=xk1 "grown_together" "grown_together" 768 218 3 3 442 774 775
def YB:Obj:=fn "grown_together" (top 47) mo7 447
def Qy:Obj:=tu (vR 411::[])
def YC(P:xr):Obj:=dd (eM P 784 mo7::eQ P "Halves" 785::eL P 223 787::eF P "__init__" 796 462::eF P "ask" 809 470::eF P "give" 819 477::eS P 820 478::[]) 7
def YD:Obj:=xk1 "__init__" "Halves.__init__" 789 225 2 3 456 794 795
def YE:Obj:=fm "__init__" "Halves.__init__" (As (top 48) 0) mo7 461
def YF:Obj:=tu ((.int 1 797)::[])
def YG:Obj:=xk1 "ask" "Halves.ask" 798 230 3 3 464 807 808
def YH:Obj:=fd "ask" "Halves.ask" (As (top 48) 1) 463 mo7 469
def YI:Obj:=xk1 "give" "Halves.give" 810 237 2 3 471 817 818
def YJ:Obj:=fm "give" "Halves.give" (As (top 48) 2) mo7 476
def YK(P:xr):Obj:=dd (eM P 784 mo7::eL P 223 787::eF P "__init__" 796 462::eF P "ask" 809 470::eF P "give" 819 477::eS P 820 478::eD P 821::[]) 2
def YL:Obj:=cO "Halves" (rs [411]) [480,411] 479 (rs []) 449 777 785
def YM(P:xr):Obj:=dd (eM P 833 mo8::eQ P "Row" 834::eL P 241 836::eF P "ask" 850 497::eF P "give" 858 504::eF P "grow" 869 512::eS P 870 513::[]) 7
def YN:Obj:=tu ((.int 1 838)::[])
def YO:Obj:=xk1 "ask" "Row.ask" 839 243 3 3 491 848 849
def YQ:Obj:=fd "ask" "Row.ask" (As (top 50) 0) 490 mo8 496
def YR:Obj:=xk1 "give" "Row.give" 851 251 2 3 498 856 857
def YS:Obj:=fm "give" "Row.give" (As (top 50) 1) mo8 503
def FE:Obj:=tu ((.int 1 859)::[])
def YT:Obj:=xk1 "grow" "Row.grow" 860 254 4 3 506 867 868
def YU:Obj:=fd "grow" "Row.grow" (As (top 50) 2) 505 mo8 511
def YV(P:xr):Obj:=dd (eM P 833 mo8::eL P 241 836::eF P "ask" 850 497::eF P "give" 858 504::eF P "grow" 869 512::eS P 870 513::eD P 871::[]) 2
def YW:Obj:=cO "Row" (rs [411]) [515,411] 514 (rs []) 483 826 834
def YX:Obj:=xk1 "all_whole" "all_whole" 876 257 2 3 518 881 882
def YY:Obj:=fn "all_whole" (top 52) mo9 523
def YZ:Obj:=xk1 "begin_of" "begin_of" 884 261 2 3 525 889 890
def Za:Obj:=fn "begin_of" (top 53) mo9 530
def Zb:Obj:=cp "whole_ones" "whole_ones" 892 (vI 263::vI 2::vI 0::vI 0::vI 3::vR 532::(.bool true)::vI 181::vR 533::.none::.none::.none::vR 534::vI 895::vI 263::(.str "/claim/cut.py" 896)::[])
def Zc:Obj:=fn "whole_ones" (top 54) mo9 535
def Zd:Obj:=cp "free_slots" "free_slots" 898 (vI 265::vI 3::vI 0::vI 0::vI 3::vR 537::(.bool true)::vI 181::vR 538::.none::.none::.none::vR 539::vI 901::vI 265::(.str "/claim/cut.py" 902)::[])
def Ze:Obj:=fn "free_slots" (top 55) mo9 540
def FF:Obj:=xk1 "cut_for" "cut_for" 904 268 4 3 542 914 915
def Zf:Obj:=fn "cut_for" (top 56) mo9 547
def Zg:Obj:=xk1 "with_slot" "with_slot" 917 274 3 3 549 924 925
def Zh:Obj:=fn "with_slot" (top 57) mo9 554
def Zi:Obj:=cp "has_live" "has_live" 927 (vI 281::vI 3::vI 0::vI 0::vI 3::vR 556::(.bool true)::vI 181::vR 557::.none::.none::.none::vR 558::vI 930::vI 281::(.str "/claim/cut.py" 931)::[])
def Zj:Obj:=fn "has_live" (top 58) mo9 559
def Zk(P:xr):Obj:=dd (eM P 940 mo9::eQ P "Shelves" 941::eL P 283 943::eF P "__init__" 954 574::eF P "clear" 961 581::eF P "ask" 974 589::eF P "give" 984 596::eS P 986 597::[]) 8
def FG:Obj:=xk1 "__init__" "Shelves.__init__" 945 285 3 3 568 952 953
def Zl:Obj:=fm "__init__" "Shelves.__init__" (As (top 59) 0) mo9 573
def Zm:Obj:=xk1 "clear" "Shelves.clear" 955 291 1 3 575 959 960
def Zn:Obj:=fm "clear" "Shelves.clear" (As (top 59) 1) mo9 580
def Zo:Obj:=tu ((.int 1 962)::[])
def Zp:Obj:=xk1 "ask" "Shelves.ask" 963 294 3 3 583 972 973
def Zq:Obj:=fd "ask" "Shelves.ask" (As (top 59) 2) 582 mo9 588
def Zr:Obj:=xk1 "give" "Shelves.give" 975 302 2 3 590 982 983
def Zs:Obj:=fm "give" "Shelves.give" (As (top 59) 3) mo9 595
def Zt(P:xr):Obj:=dd (eM P 940 mo9::eL P 283 943::eF P "__init__" 954 574::eF P "clear" 961 581::eF P "ask" 974 589::eF P "give" 984 596::eS P 986 597::eD P 987::[]) 2
def Zu:Obj:=cO "Shelves" (rs [411]) [599,411] 598 (rs []) 561 933 941
def Zv:Obj:=xk1 "first_place" "first_place" 992 309 3 3 602 1002 1003
def Zw:Obj:=fn "first_place" (top 61) mo10 607
def Zx:Obj:=xk1 "spots_for" "spots_for" 1005 315 3 3 609 1014 1015
def Zy:Obj:=fn "spots_for" (top 62) mo10 614
def Zz:Obj:=xk1 "least_place" "least_place" 1019 323 1 3 616 1023 1024
def ZA:Obj:=fn "least_place" (top 64) yL 621
def ZB(P:xr):Obj:=dd (eM P 1033 yL::eQ P "Stretches" 1034::eL P 327 1036::eF P "chosen" 1046 636::eF P "ask" 1058 644::eF P "give" 1066 651::eF P "grow" 1082 659::eF P "room_begin" 1090 666::eF P "room_granted" 1098 673::eS P 1100 674::[]) 10
def ZC:Obj:=tu ((.int 1 1047)::[])
def ZD:Obj:=xk1 "ask" "Stretches.ask" 1048 332 3 3 638 1056 1057
def ZE:Obj:=fd "ask" "Stretches.ask" (As (top 65) 1) 637 yL 643
def ZF:Obj:=xk1 "give" "Stretches.give" 1059 342 2 3 645 1064 1065
def ZG:Obj:=fm "give" "Stretches.give" (As (top 65) 2) yL 650
def ZH:Obj:=tu ((.int 1 1067)::[])
def ZI:Obj:=xk1 "grow" "Stretches.grow" 1068 345 4 3 653 1080 1081
def FH:Obj:=fd "grow" "Stretches.grow" (As (top 65) 3) 652 yL 658
def ZJ:Obj:=xk1 "room_begin" "Stretches.room_begin" 1083 355 2 3 660 1088 1089
def ZK:Obj:=fm "room_begin" "Stretches.room_begin" (As (top 65) 4) yL 665
def ZL:Obj:=xk1 "room_granted" "Stretches.room_granted" 1091 358 2 3 667 1096 1097
def ZM:Obj:=fm "room_granted" "Stretches.room_granted" (As (top 65) 5) yL 672
def ZN(P:xr):Obj:=dd (eM P 1033 yL::eL P 327 1036::eF P "chosen" 1046 636::eF P "ask" 1058 644::eF P "give" 1066 651::eF P "grow" 1082 659::eF P "room_begin" 1090 666::eF P "room_granted" 1098 673::eS P 1100 674::eD P 1101::[]) 2
def FI(P:xr):Obj:=dd (en P "__name__" 165 (.str "law_stow_k39_gone_on" 1245)::eD P 166::en P "__package__" 167 .none::en P "__loader__" 168 (.builtin "__main__.__loader__#opaque")::en P "__spec__" 169 .none::eF P "__annotations__" 170 6::eF P "__builtins__" 171 4::en P "__file__" 173 (.str "/claim/cut.py" 172)::en P "__cached__" 174 .none::eF P "_wall" 193 21::eF P "StowError" 213 31::eF P "NoName" 229 44::eF P "NoSize" 245 56::eF P "Broken" 270 75::eF P "NoGive" 286 87::eF P "NoPiece" 302 99::eF P "NoCell" 318 111::eF P "NoAsk" 334 123::eF P "NoBound" 350 135::eF P "NoRoom" 366 147::en P "MARKS" 370 (.int 2 369)::eF P "check_ask" 378 156::eF P "check_plain_ask" 386 163::eF P "mark_of" 396 170::eF P "long_of" 403 177::eF P "live_of" 410 184::en P "LEAST_LIVE" 414 (.int 3 413)::eF P "can_begin" 423 191::eF P "bad_of_piece" 432 198::eF P "looked" 443 205::eF P "fresh_room" 451 212::eF P "laid" 464 219::eF P "laid_free" 473 226::eF P "piece_at" 482 233::eF P "live_at" 491 240::eF P "free_at" 500 247::eF P "begin_around" 506 252::eF P "free_begin" 514 259::eF P "free_end" 522 266::eF P "cut_out" 537 273::eF P "freed" 548 280::eF P "joined_pieces" 559 287::eF P "joined" 570 294::eF P "carried" 581 301::eF P "Keeper" 734 411::eF P "is_power" 743 422::eF P "block_for" 750 429::eF P "least_free" 756 434::eF P "cut_down" 767 441::eF P "grown_together" 776 448::eF P "Halves" 823 480::eF P "Row" 873 515::eF P "all_whole" 883 524::eF P "begin_of" 891 531::eF P "whole_ones" 897 536::eF P "free_slots" 903 541::eF P "cut_for" 916 548::eF P "with_slot" 926 555::eF P "has_live" 932 560::eF P "Shelves" 989 599::eF P "first_place" 1004 608::eF P "spots_for" 1016 615::eF P "least_place" 1025 622::eF P "Stretches" 1103 676::eF P "First" 1125 693::eF P "Best" 1147 710::eF P "Next" 1202 755::eF P "Likes" 1224 772::eF P "stretches_of" 1232 781::eF P "keeper_of" 1244 789::eF P "_law_cell_at" 1254 796::eF P "_law_whole" 1261 803::eF P "_law_alike" 1270 810::eF P "_law_walk" 1281 817::eF P "_law_number" 1288 824::eF P "_law_answer" 1302 831::eF P "_law_way" 1311 838::eF P "_law_known" 1326 845::eF P "_law_step" 1332 850::eF P "_law_holds" 1347 857::eF P "_law_seen" 1358 864::eF P "_law_like" 1370 871::eF P "_law_lay_refused" 1383 878::eF P "_law_laid" 1394 885::eF P "law" 1400 890::[]) 85
def FJ:Obj:=cO "Stretches" (rs [411]) [676,411] 675 (rs [693,710,755,772]) 623 1026 1034
def Qz:Obj:=tu (vR 676::[])
def FK(P:xr):Obj:=dd (eM P 1111 yL::eQ P "First" 1112::eL P 360 1114::eF P "chosen" 1121 690::eS P 1122 691::[]) 5
def FL:Obj:=cp "chosen" "First.chosen" 1116 (vI 362::vI 3::vI 0::vI 0::vI 3::vR 686::(.bool true)::vI 181::vR 687::.none::.none::.none::vR 688::vI 1119::vI 362::(.str "/claim/cut.py" 1120)::[])
def FM:Obj:=fm "chosen" "First.chosen" (As (top 66) 0) yL 689
def FN(P:xr):Obj:=dd (eM P 1111 yL::eL P 360 1114::eF P "chosen" 1121 690::eS P 1122 691::eD P 1123::[]) 2
def FO:Obj:=cO "First" (rs [676]) [693,676,411] 692 (rs []) 679 1104 1112
def FP(P:xr):Obj:=dd (eM P 1133 yL::eQ P "Best" 1134::eL P 365 1136::eF P "chosen" 1143 707::eS P 1144 708::[]) 5
def FQ:Obj:=cp "chosen" "Best.chosen" 1138 (vI 367::vI 3::vI 0::vI 0::vI 3::vR 703::(.bool true)::vI 181::vR 704::.none::.none::.none::vR 705::vI 1141::vI 367::(.str "/claim/cut.py" 1142)::[])
def FR:Obj:=fm "chosen" "Best.chosen" (As (top 67) 0) yL 706
def FS(P:xr):Obj:=dd (eM P 1133 yL::eL P 365 1136::eF P "chosen" 1143 707::eS P 1144 708::eD P 1145::[]) 2
def FT:Obj:=cO "Best" (rs [676]) [710,676,411] 709 (rs []) 696 1126 1134
def FU(P:xr):Obj:=dd (eM P 1155 yL::eQ P "Next" 1156::eL P 371 1158::eF P "__init__" 1167 726::eF P "rover" 1174 733::eF P "chosen" 1180 738::eF P "room_begin" 1188 745::eF P "room_granted" 1196 752::eS P 1199 753::[]) 9
def FV:Obj:=xk1 "__init__" "Next.__init__" 1160 373 2 3 720 1165 1166
def FW:Obj:=fm "__init__" "Next.__init__" (As (top 68) 0) yL 725
def FX:Obj:=cp "chosen" "Next.chosen" 1175 (vI 380::vI 3::vI 0::vI 0::vI 3::vR 734::(.bool true)::vI 181::vR 735::.none::.none::.none::vR 736::vI 1178::vI 380::(.str "/claim/cut.py" 1179)::[])
def FY:Obj:=fm "chosen" "Next.chosen" (As (top 68) 2) yL 737
def FZ:Obj:=xk1 "room_begin" "Next.room_begin" 1181 384 2 3 739 1186 1187
def F2:Obj:=fm "room_begin" "Next.room_begin" (As (top 68) 3) yL 744
def F4:Obj:=xk1 "room_granted" "Next.room_granted" 1189 388 2 3 746 1194 1195
def F5:Obj:=fm "room_granted" "Next.room_granted" (As (top 68) 4) yL 751
def F6(P:xr):Obj:=dd (eM P 1155 yL::eL P 371 1158::eF P "__init__" 1167 726::eF P "rover" 1174 733::eF P "chosen" 1180 738::eF P "room_begin" 1188 745::eF P "room_granted" 1196 752::eS P 1199 753::eD P 1200::[]) 2
def F7:Obj:=cO "Next" (rs [676]) [755,676,411] 754 (rs []) 713 1148 1156
def F8(P:xr):Obj:=dd (eM P 1210 yL::eQ P "Likes" 1211::eL P 390 1213::eF P "chosen" 1220 769::eS P 1221 770::[]) 5
def F9:Obj:=cp "chosen" "Likes.chosen" 1215 (vI 392::vI 3::vI 0::vI 0::vI 3::vR 765::(.bool true)::vI 181::vR 766::.none::.none::.none::vR 767::vI 1218::vI 392::(.str "/claim/cut.py" 1219)::[])
def Ga:Obj:=fm "chosen" "Likes.chosen" (As (top 69) 0) yL 768
def Gb(P:xr):Obj:=dd (eM P 1210 yL::eL P 390 1213::eF P "chosen" 1220 769::eS P 1221 770::eD P 1222::[]) 2
def Gc:Obj:=cO "Likes" (rs [676]) [772,676,411] 771 (rs []) 758 1203 1211
def Gf:Obj:=xk1 "stretches_of" "stretches_of" 1225 396 2 3 775 1230 1231
def Gg:Obj:=fn "stretches_of" (top 70) yL 780
def Gi:Obj:=tu ((.int 8 1235)::[])
def Gj:Obj:=xk1 "keeper_of" "keeper_of" 1236 407 3 3 783 1242 1243
def Gk:Obj:=fd "keeper_of" "keeper_of" (top 72) 782 mo12 788
def Gm:Obj:=xk1 "_law_cell_at" "_law_cell_at" 1247 416 2 3 790 1252 1253
def Gn:Obj:=fn "_law_cell_at" (top 74) y_ 795
def Go:Obj:=xk1 "_law_whole" "_law_whole" 1255 420 1 3 797 1259 1260
def Gp:Obj:=fn "_law_whole" (top 75) y_ 802
def Gq:Obj:=xk1 "_law_alike" "_law_alike" 1262 422 2 3 804 1268 1269
def Gr:Obj:=fn "_law_alike" (top 76) y_ 809
def Gu:Obj:=xk1 "_law_walk" "_law_walk" 1271 431 1 3 811 1279 1280
def Gv:Obj:=fn "_law_walk" (top 77) y_ 816
def Gw:Obj:=xk1 "_law_number" "_law_number" 1282 448 1 3 818 1286 1287
def Gx:Obj:=fn "_law_number" (top 78) y_ 823
def Gy:Obj:=xk1 "_law_answer" "_law_answer" 1289 452 6 3 825 1300 1301
def Gz:Obj:=fn "_law_answer" (top 79) y_ 830
def GA:Obj:=xk1 "_law_way" "_law_way" 1303 469 2 3 832 1309 1310
def GB:Obj:=fn "_law_way" (top 80) y_ 837
def GC:Obj:=xk1 "_law_known" "_law_known" 1312 476 7 3 839 1324 1325
def GD:Obj:=fn "_law_known" (top 81) y_ 844
def GE:Obj:=cp "_law_step" "_law_step" 1327 (vI 488::vI 4::vI 0::vI 0::vI 3::vR 846::(.bool true)::vI 181::vR 847::.none::.none::.none::vR 848::vI 1330::vI 488::(.str "/claim/cut.py" 1331)::[])
def GF:Obj:=fn "_law_step" (top 82) y_ 849
def GG:Obj:=xk1 "_law_holds" "_law_holds" 1333 511 3 3 851 1345 1346
def GH:Obj:=fn "_law_holds" (top 83) y_ 856
def GI:Obj:=xk1 "_law_seen" "_law_seen" 1348 522 3 3 858 1356 1357
def GJ:Obj:=fn "_law_seen" (top 84) y_ 863
def GK:Obj:=xk1 "_law_like" "_law_like" 1359 532 2 3 865 1368 1369
def GL:Obj:=fn "_law_like" (top 85) y_ 870
def GM:Obj:=xk1 "_law_lay_refused" "_law_lay_refused" 1371 540 1 3 872 1381 1382
def GN:Obj:=fn "_law_lay_refused" (top 86) y_ 877
def GO:Obj:=xk1 "_law_laid" "_law_laid" 1384 558 1 3 879 1392 1393
def GP:Obj:=fn "_law_laid" (top 87) y_ 884
def GQ:Obj:=cp "law" "law" 1395 (vI 572::vI 1::vI 0::vI 0::vI 3::vR 886::(.bool true)::vI 181::vR 887::.none::.none::.none::vR 888::vI 1398::vI 572::(.str "/claim/cut.py" 1399)::[])
def GR:Obj:=fn "law" (top 88) y_ 889
noncomputable def q0(P:xr):List Obj:=PySem.W.boot_o_0 P::PySem.W.boot_o_1 P::boot_o_2 P::PySem.W.boot_o_3 P::PySem.W.boot_o_4 P::PySem.W.boot_o_5 P::PySem.W.boot_o_6 P::PySem.W.boot_o_7 P::PySem.W.boot_o_8 P::PySem.W.boot_o_9 P::PySem.W.boot_o_10 P::AT::Bl::Eo::D2::[]
noncomputable def q1(P:xr):List Obj:=up (q0 P) [(3,dd (en P "__name__" 165 (.str "stow.errors" 194)::eD P 166::en P "__package__" 167 .none::en P "__loader__" 168 (.builtin "__main__.__loader__#opaque")::en P "__spec__" 169 .none::eF P "__annotations__" 170 6::eF P "__builtins__" 171 4::en P "__file__" 173 (.str "/claim/cut.py" 172)::en P "__cached__" 174 .none::eF P "_wall" 193 21::eF P "StowError" 213 31::eF P "NoName" 229 44::eF P "NoSize" 245 56::eF P "Broken" 270 75::eF P "NoGive" 286 87::eF P "NoPiece" 302 99::eF P "NoCell" 318 111::eF P "NoAsk" 334 123::[]) 18),(12,fl (f3 [(1,0,20),(5,0,27),(7,0,40),(9,0,52),(11,0,64),(15,0,83),(17,0,95),(19,0,107),(21,0,119)]))]++(dg 190 ["k"] "_wall" (top 0) LG LH (tu ((.type "ValueError")::[])::A4::LJ P::AT::Bl::xk0 "StowError" "StowError" 198 5 0 0 25 201 202::xf 27 24 mo1::AT::LK P::cV "StowError" [(.type "ValueError")] [31] 30 (rs [44,56,75,87,99,111,123]) 22 196 204::#[(.type "getset_descriptor"),none,.fields ((.str "__weakref__" 209)::(.ref 31)::(.builtin "ExceptionGroup.__weakref__")::.none::[]).toArray,(ϋ [])]::xs 31::xb 31::Cv::A4::LL P::AT::Bl::xk0 "NoName" "NoName" 216 7 0 0 38 219 220::xf 40 37 mo1::AT::LM P::LN::xs 44::xb 44::Cv::A4::LO P::AT::Bl::xk0 "NoSize" "NoSize" 232 9 0 0 50 235 236::xf 52 49 mo1::AT::LP P::LQ::xs 56::xb 56::Cv::A4::LR P::AT::fl (f3 [(13,4,71)])::xk0 "Broken" "Broken" 248 11 0 0 62 251 252::xf 64 61 mo1::dq 261 ["self","cell"] "__init__" "Broken.__init__" (As (top 5) 0) LS LU (tu (tn 266 ["cell"])::LV P::LW::xs 75::xb 75::Cv::A4::LX P::AT::Bl::xk0 "NoGive" "NoGive" 273 15 0 0 81 276 277::xf 83 80 mo1::AT::LY P::LZ::xs 87::xb 87::Cv::A4::L0 P::AT::Bl::xk0 "NoPiece" "NoPiece" 289 17 0 0 93 292 293::xf 95 92 mo1::AT::L3 P::L4::xs 99::xb 99::Cv::A4::L5 P::AT::Bl::xk0 "NoCell" "NoCell" 305 19 0 0 105 308 309::xf 107 104 mo1::AT::WV P::WW::xs 111::xb 111::Cv::A4::WX P::AT::Bl::xk0 "NoAsk" "NoAsk" 321 21 0 0 117 324 325::xf 119 116 mo1::AT::WY P::WZ::xs 123::xb 123::[])))
noncomputable def q2(P:xr):List Obj:=up (q1 P) [(3,dd (en P "__name__" 165 (.str "stow.keepers" 582)::eD P 166::en P "__package__" 167 .none::en P "__loader__" 168 (.builtin "__main__.__loader__#opaque")::en P "__spec__" 169 .none::eF P "__annotations__" 170 6::eF P "__builtins__" 171 4::en P "__file__" 173 (.str "/claim/cut.py" 172)::en P "__cached__" 174 .none::eF P "_wall" 193 21::eF P "StowError" 213 31::eF P "NoName" 229 44::eF P "NoSize" 245 56::eF P "Broken" 270 75::eF P "NoGive" 286 87::eF P "NoPiece" 302 99::eF P "NoCell" 318 111::eF P "NoAsk" 334 123::eF P "NoBound" 350 135::eF P "NoRoom" 366 147::en P "MARKS" 370 (.int 2 369)::eF P "check_ask" 378 156::eF P "check_plain_ask" 386 163::eF P "mark_of" 396 170::eF P "long_of" 403 177::eF P "live_of" 410 184::en P "LEAST_LIVE" 414 (.int 3 413)::eF P "can_begin" 423 191::eF P "bad_of_piece" 432 198::eF P "looked" 443 205::eF P "fresh_room" 451 212::eF P "laid" 464 219::eF P "laid_free" 473 226::eF P "piece_at" 482 233::eF P "live_at" 491 240::eF P "free_at" 500 247::eF P "begin_around" 506 252::eF P "free_begin" 514 259::eF P "free_end" 522 266::eF P "cut_out" 537 273::eF P "freed" 548 280::eF P "joined_pieces" 559 287::eF P "joined" 570 294::eF P "carried" 581 301::eF P "Keeper" 734 411::[]) 45),(12,fl (f3 [(1,0,20),(5,0,27),(7,0,40),(9,0,52),(11,0,64),(15,0,83),(17,0,95),(19,0,107),(21,0,119),(23,0,131),(25,0,143),(29,0,155),(32,0,162),(37,0,169),(41,0,176),(43,0,183),(47,0,190),(52,0,197),(59,0,204),(70,0,211),(78,0,218),(83,0,225),(87,0,232),(92,0,239),(97,0,246),(102,0,251),(105,0,258),(109,0,265),(113,0,272),(121,0,279),(124,0,286),(132,0,293),(137,0,300),(141,0,307)])),(31,W4)]++(Cv::A4::W8 P::AT::Bl::xk0 "NoBound" "NoBound" 337 23 0 0 129 340 341::xf 131 128 mo1::AT::W9 P::Xa::xs 135::xb 135::Cv::A4::Xb P::AT::Bl::xk0 "NoRoom" "NoRoom" 353 25 0 0 141 356 357::xf 143 140 mo1::AT::Xc P::Xd::xs 147::xb 147::dg 374 ["count","bound"] "check_ask" (top 14) Xe Xf (dg 382 ["count","bound"] "check_plain_ask" (top 15) Xg Xh (dg 392 ["long","live"] "mark_of" (top 17) Xi Xj (dg 400 ["number"] "long_of" (top 18) Xk Xl (dg 407 ["number"] "live_of" (top 19) Xm Xn (dg 418 ["cells","at","long"] "can_begin" (top 22) Xo Xp (dg 427 ["cells","at","last"] "bad_of_piece" (top 23) Xq Xr (dg 436 ["cells","pieces","at","bad","long"] "looked" (top 24) Xs Xt (dg 447 ["count","cells"] "fresh_room" (top 25) Xu Xv (dg 457 ["cells","at","long","live","row"] "laid" (top 27) Xw Xx (dg 468 ["cells","begin","end"] "laid_free" (top 28) Xy Xz (dg 477 ["cells","at","piece"] "piece_at" (top 29) XA XB (dg 486 ["cells","at","piece"] "live_at" (top 30) XD XE (dg 495 ["cells","at","piece"] "free_at" (top 31) XF XG (AT::Bl::fq "begin_around" "begin_around" (top 32)::XH::XJ::dg 510 ["cells","at"] "free_begin" (top 33) XL XM (dg 518 ["cells","end"] "free_end" (top 34) XN XO (dg 526 ["cells","at","place","long","begin","free_long","live","end","row"] "cut_out" (top 35) XQ XR (dg 541 ["cells","at","begin","long","live"] "freed" (top 36) XS XT (dg 552 ["pieces","row","at","long","live"] "joined_pieces" (top 37) XU XV (dg 563 ["cells","row","at","long","live"] "joined" (top 38) XW XX (dg 574 ["cells","source","goal","count","row"] "carried" (top 39) XY XZ (AT::A4::X0 P::AT::fl (f3 [(143,4,314),(146,4,321),(149,4,328),(152,4,335),(158,4,342),(161,4,349),(165,4,356),(168,4,363),(172,4,371),(176,4,378),(180,4,386),(187,4,393),(190,4,400),(196,4,407)])::xk0 "Keeper" "Keeper" 586 141 0 0 305 589 590::xf 307 304 mo6::dq 599 ["self","size"] "__init__" "Keeper.__init__" (As (top 41) 0) X1 X2 (dq 607 ["self"] "cells" "Keeper.cells" (As (top 41) 1) X3 X4 (dq 614 ["self"] "pieces" "Keeper.pieces" (As (top 41) 2) X5 X6 (dq 621 ["self","cells"] "lay" "Keeper.lay" (As (top 41) 3) X7 X8 (dq 629 ["self"] "clear" "Keeper.clear" (As (top 41) 4) X9 Ya (dq 636 ["self","place","at","long","live"] "many" "Keeper.many" (As (top 41) 5) Yb Yc (dq 647 ["self","place","k"] "get" "Keeper.get" (As (top 41) 6) Yd Ye (dq 656 ["self","place","k","number","cell"] "put" "Keeper.put" (As (top 41) 7) Yf Yg (tu ((.int 1 664)::[])::dq 668 ["self","count","bound"] "ask" "Keeper.ask" (As (top 41) 8) (xk1 "ask" "Keeper.ask" 665 172 3 3 366 671 672) (fd "ask" "Keeper.ask" (As (top 41) 8) 365 mo6 371) (dq 677 ["self","place","at","long","live"] "give" "Keeper.give" (As (top 41) 9) (xk1 "give" "Keeper.give" 674 176 2 3 373 682 683) (fm "give" "Keeper.give" (As (top 41) 9) mo6 378) (Yh::dq 689 ["self","place","count","bound","had"] "grow" "Keeper.grow" (As (top 41) 10) Yi Yj (dq 700 ["self","cells"] "room_begin" "Keeper.room_begin" (As (top 41) 11) Yk Yl (dq 708 ["self","place","k","many"] "room_cell_of" "Keeper.room_cell_of" (As (top 41) 12) Ym Yn (dq 718 ["self","place","count","bound","goal"] "room_moved" "Keeper.room_moved" (As (top 41) 13) Yo Yp (tu (tn 726 ["room_cells"])::Yq P::#[(.type "type"),none,.cls #["Keeper",[(.type "object")],[(.ref 411),(.type "object")],410,"Keeper",true,[],[],false,none,false],(none::none::(some (.str "Keeper" 584))::(some (.str "Keeper" 592))::(some (.builtin "object.__new__"))::(some (.bool true))::[]).toArray]::#[(.type "getset_descriptor"),none,.fields ((.str "__dict__" 728)::(.ref 411)::(.builtin "function.__dict__")::(.builtin "function.__dict__#set")::[]).toArray,(ϋ [])]::#[(.type "getset_descriptor"),none,.fields ((.str "__weakref__" 730)::(.ref 411)::(.builtin "ExceptionGroup.__weakref__")::.none::[]).toArray,(ϋ [])]::xs 411::xb 411::[]))))))))))))))))))))))))))))))))))))
noncomputable def q3(P:xr):List Obj:=up (q2 P) [(3,dd (en P "__name__" 165 (.str "stow.stretches" 1017)::eD P 166::en P "__package__" 167 .none::en P "__loader__" 168 (.builtin "__main__.__loader__#opaque")::en P "__spec__" 169 .none::eF P "__annotations__" 170 6::eF P "__builtins__" 171 4::en P "__file__" 173 (.str "/claim/cut.py" 172)::en P "__cached__" 174 .none::eF P "_wall" 193 21::eF P "StowError" 213 31::eF P "NoName" 229 44::eF P "NoSize" 245 56::eF P "Broken" 270 75::eF P "NoGive" 286 87::eF P "NoPiece" 302 99::eF P "NoCell" 318 111::eF P "NoAsk" 334 123::eF P "NoBound" 350 135::eF P "NoRoom" 366 147::en P "MARKS" 370 (.int 2 369)::eF P "check_ask" 378 156::eF P "check_plain_ask" 386 163::eF P "mark_of" 396 170::eF P "long_of" 403 177::eF P "live_of" 410 184::en P "LEAST_LIVE" 414 (.int 3 413)::eF P "can_begin" 423 191::eF P "bad_of_piece" 432 198::eF P "looked" 443 205::eF P "fresh_room" 451 212::eF P "laid" 464 219::eF P "laid_free" 473 226::eF P "piece_at" 482 233::eF P "live_at" 491 240::eF P "free_at" 500 247::eF P "begin_around" 506 252::eF P "free_begin" 514 259::eF P "free_end" 522 266::eF P "cut_out" 537 273::eF P "freed" 548 280::eF P "joined_pieces" 559 287::eF P "joined" 570 294::eF P "carried" 581 301::eF P "Keeper" 734 411::eF P "is_power" 743 422::eF P "block_for" 750 429::eF P "least_free" 756 434::eF P "cut_down" 767 441::eF P "grown_together" 776 448::eF P "Halves" 823 480::eF P "Row" 873 515::eF P "all_whole" 883 524::eF P "begin_of" 891 531::eF P "whole_ones" 897 536::eF P "free_slots" 903 541::eF P "cut_for" 916 548::eF P "with_slot" 926 555::eF P "has_live" 932 560::eF P "Shelves" 989 599::eF P "first_place" 1004 608::eF P "spots_for" 1016 615::eF P "least_place" 1025 622::eF P "Stretches" 1103 676::[]) 64),(12,fl (f3 [(1,0,20),(5,0,27),(7,0,40),(9,0,52),(11,0,64),(15,0,83),(17,0,95),(19,0,107),(21,0,119),(23,0,131),(25,0,143),(29,0,155),(32,0,162),(37,0,169),(41,0,176),(43,0,183),(47,0,190),(52,0,197),(59,0,204),(70,0,211),(78,0,218),(83,0,225),(87,0,232),(92,0,239),(97,0,246),(102,0,251),(105,0,258),(109,0,265),(113,0,272),(121,0,279),(124,0,286),(132,0,293),(137,0,300),(141,0,307),(202,0,421),(204,0,428),(206,0,433),(212,0,440),(218,0,447),(223,0,454),(241,0,488),(257,0,523),(261,0,530),(263,0,535),(265,0,540),(268,0,547),(274,0,554),(281,0,559),(283,0,566),(309,0,607),(315,0,614),(323,0,621),(327,0,628)])),(411,Yr)]++(dg 740 ["number"] "is_power" (top 43) Ys Yt (dg 747 ["need"] "block_for" (top 44) Yu Yv (AT::Bl::fq "least_free" "least_free" (top 45)::Yw::Yx::dg 760 ["cells","at","long","block","row"] "cut_down" (top 46) Yy Yz (dg 771 ["pieces","at","long"] "grown_together" (top 47) YA YB (Qy::A4::YC P::AT::fl (f3 [(225,4,461),(230,4,469),(237,4,476)])::xk0 "Halves" "Halves" 779 223 0 0 452 782 783::xf 454 451 mo7::dq 792 ["self","size"] "__init__" "Halves.__init__" (As (top 48) 0) YD YE (YF::dq 801 ["self","count","bound","block","at","long"] "ask" "Halves.ask" (As (top 48) 1) YG YH (dq 813 ["self","place","at","long"] "give" "Halves.give" (As (top 48) 2) YI YJ (AT::YK P::YL::xs 480::xb 480::Qy::A4::YM P::AT::fl (f3 [(243,4,496),(251,4,503),(254,4,511)])::xk0 "Row" "Row" 828 241 0 0 486 831 832::xf 488 485 mo8::YN::dq 842 ["self","count","bound","at","long","live"] "ask" "Row.ask" (As (top 50) 0) YO YQ (dq 854 ["self","place"] "give" "Row.give" (As (top 50) 1) YR YS (FE::dq 863 ["self","place","count","bound"] "grow" "Row.grow" (As (top 50) 2) YT YU (AT::YV P::YW::xs 515::xb 515::dg 879 ["size","shelf"] "all_whole" (top 52) YX YY (dg 887 ["at","shelf"] "begin_of" (top 53) YZ Za (AT::Bl::fq "whole_ones" "whole_ones" (top 54)::Zb::Zc::AT::Bl::fq "free_slots" "free_slots" (top 55)::Zd::Ze::dg 907 ["cells","begin","shelf","size","row","end","at"] "cut_for" (top 56) FF Zf (dg 920 ["cells","shelf","size","begins"] "with_slot" (top 57) Zg Zh (AT::Bl::fq "has_live" "has_live" (top 58)::Zi::Zj::Qy::A4::Zk P::AT::fl (f3 [(285,4,573),(291,4,580),(294,4,588),(302,4,595)])::xk0 "Shelves" "Shelves" 935 283 0 0 564 938 939::xf 566 563 mo9::dq 948 ["self","size","shelf","cells"] "__init__" "Shelves.__init__" (As (top 59) 0) FG Zl (dq 958 ["self"] "clear" "Shelves.clear" (As (top 59) 1) Zm Zn (Zo::dq 966 ["self","count","bound","size","cells","at"] "ask" "Shelves.ask" (As (top 59) 2) Zp Zq (dq 978 ["self","place","cells","begin"] "give" "Shelves.give" (As (top 59) 3) Zr Zs (tu (tn 985 ["shelf"])::Zt P::Zu::xs 599::xb 599::dg 995 ["piece","long","bound","at","piece_long","live","place"] "first_place" (top 61) Zv Zw (dg 1008 ["cells","long","bound","spots","piece","place"] "spots_for" (top 62) Zx Zy (dg 1022 ["ranked"] "least_place" (top 64) Zz ZA (Qy::A4::ZB P::AT::fl (f3 [(329,4,635),(332,4,643),(342,4,650),(345,4,658),(355,4,665),(358,4,672)])::xk0 "Stretches" "Stretches" 1028 327 0 0 626 1031 1032::xf 628 625 yL::dq 1041 ["self","long","bound"] "chosen" "Stretches.chosen" (As (top 65) 0) (xk1 "chosen" "Stretches.chosen" 1038 329 3 3 630 1044 1045) (fm "chosen" "Stretches.chosen" (As (top 65) 0) yL 635) (ZC::dq 1051 ["self","count","bound","long","at"] "ask" "Stretches.ask" (As (top 65) 1) ZD ZE (dq 1062 ["self","place"] "give" "Stretches.give" (As (top 65) 2) ZF ZG (ZH::dq 1071 ["self","place","count","bound","at","had","live","long","end"] "grow" "Stretches.grow" (As (top 65) 3) ZI FH (dq 1086 ["self","cells"] "room_begin" "Stretches.room_begin" (As (top 65) 4) ZJ ZK (dq 1094 ["self","behind"] "room_granted" "Stretches.room_granted" (As (top 65) 5) ZL ZM (tu (tn 1099 ["room_cells"])::ZN P::cO "Stretches" (rs [411]) [676,411] 675 (rs []) 623 1026 1034::xs 676::xb 676::[]))))))))))))))))))))))))))))
noncomputable def q4(P:xr):List Obj:=up (q3 P) [(3,FI P),(12,fl (f3 [(1,0,20),(5,0,27),(7,0,40),(9,0,52),(11,0,64),(15,0,83),(17,0,95),(19,0,107),(21,0,119),(23,0,131),(25,0,143),(29,0,155),(32,0,162),(37,0,169),(41,0,176),(43,0,183),(47,0,190),(52,0,197),(59,0,204),(70,0,211),(78,0,218),(83,0,225),(87,0,232),(92,0,239),(97,0,246),(102,0,251),(105,0,258),(109,0,265),(113,0,272),(121,0,279),(124,0,286),(132,0,293),(137,0,300),(141,0,307),(202,0,421),(204,0,428),(206,0,433),(212,0,440),(218,0,447),(223,0,454),(241,0,488),(257,0,523),(261,0,530),(263,0,535),(265,0,540),(268,0,547),(274,0,554),(281,0,559),(283,0,566),(309,0,607),(315,0,614),(323,0,621),(327,0,628),(360,0,684),(365,0,701),(371,0,718),(390,0,763),(396,0,780),(407,0,788),(416,0,795),(420,0,802),(422,0,809),(431,0,816),(448,0,823),(452,0,830),(469,0,837),(476,0,844),(488,0,849),(511,0,856),(522,0,863),(532,0,870),(540,0,877),(558,0,884),(572,0,889)])),(676,FJ)]++(Qz::A4::FK P::AT::fl (f3 [(362,4,689)])::xk0 "First" "First" 1106 360 0 0 682 1109 1110::xf 684 681 yL::AT::Bl::fq "chosen" "First.chosen" (As (top 66) 0)::FL::FM::AT::FN P::FO::xs 693::xb 693::Qz::A4::FP P::AT::fl (f3 [(367,4,706)])::xk0 "Best" "Best" 1128 365 0 0 699 1131 1132::xf 701 698 yL::AT::Bl::fq "chosen" "Best.chosen" (As (top 67) 0)::FQ::FR::AT::FS P::FT::xs 710::xb 710::Qz::A4::FU P::AT::fl (f3 [(373,4,725),(377,4,732),(380,4,737),(384,4,744),(388,4,751)])::xk0 "Next" "Next" 1150 371 0 0 716 1153 1154::xf 718 715 yL::dq 1163 ["self","size"] "__init__" "Next.__init__" (As (top 68) 0) FV FW (dq 1171 ["self"] "rover" "Next.rover" (As (top 68) 1) (xk1 "rover" "Next.rover" 1168 377 1 3 727 1172 1173) (fm "rover" "Next.rover" (As (top 68) 1) yL 732) (AT::Bl::fq "chosen" "Next.chosen" (As (top 68) 2)::FX::FY::dq 1184 ["self","cells"] "room_begin" "Next.room_begin" (As (top 68) 3) FZ F2 (dq 1192 ["self","behind"] "room_granted" "Next.room_granted" (As (top 68) 4) F4 F5 (tu (tn 1197 ["room_cells","room_rover"])::F6 P::F7::xs 755::xb 755::Qz::A4::F8 P::AT::fl (f3 [(392,4,768)])::xk0 "Likes" "Likes" 1205 390 0 0 761 1208 1209::xf 763 760 yL::AT::Bl::fq "chosen" "Likes.chosen" (As (top 69) 0)::F9::Ga::AT::Gb P::Gc::xs 772::xb 772::dg 1228 ["word","size"] "stretches_of" (top 70) Gf Gg (Gi::dg 1239 ["word","size","shelf"] "keeper_of" (top 72) Gj Gk (dg 1250 ["_law_script","_law_k"] "_law_cell_at" (top 74) Gm Gn (dg 1258 ["_law_found"] "_law_whole" (top 75) Go Gp (dg 1265 ["_law_found","_law_due","_law_piece"] "_law_alike" (top 76) Gq Gr (dg 1274 ["_law_cells","_law_told","_law_at","_law_long","_law_live"] "_law_walk" (top 77) Gu Gv (dg 1285 ["_law_cell"] "_law_number" (top 78) Gw Gx (dg 1292 ["_law_keeper","_law_way_here","_law_place","_law_count","_law_k","_law_number_here","_law_word","_law_told"] "_law_answer" (top 79) Gy Gz (dg 1306 ["_law_kind","_law_cell","_law_way_here"] "_law_way" (top 80) GA GB (dg 1315 ["_law_known_here","_law_way_here","_law_place","_law_told","_law_k","_law_number_here","_law_least","_law_new","_law_at"] "_law_known" (top 81) GC GD (AT::Bl::fq "_law_step" "_law_step" (top 82)::GE::GF::dg 1336 ["_law_keeper","_law_known_here","_law_cell","_law_cells","_law_place","_law_k","_law_at","_law_one","_law_found"] "_law_holds" (top 83) GG GH (dg 1351 ["_law_keepers","_law_known_here","_law_cell","_law_pieces","_law_keeper"] "_law_seen" (top 84) GI GJ (dg 1362 ["_law_found","_law_cells","_law_pieces","_law_at","_law_long","_law_live"] "_law_like" (top 85) GK GL (dg 1374 ["_law_keeper","_law_cells","_law_told","_law_handed","_law_flags","e","_law_at"] "_law_lay_refused" (top 86) GM GN (dg 1387 ["_law_keepers","_law_cells","_law_handed","_law_others","_law_spoilt"] "_law_laid" (top 87) GO GP (AT::Bl::fq "law" "law" (top 88)::GQ::GR::[]))))))))))))))))))))
noncomputable def ub7:xr->xt:=λP=>#[Array.mk (q0 P),#[[],[],[],0,[],[],false,(ϋ []),[],0,false,false,false,0,[2000,10,10],false,0,true,[],[],0,false]]
def QA:List wl:=PySem.W.behindTheImports PySem.Challenge.pw_stow_k39_gone_on
def sts0:List wl:=(QA.drop 0).take 10
def sts1:List wl:=(QA.drop 10).take 32
def sts2:List wl:=(QA.drop 42).take 24
def sts3:List wl:=(QA.drop 66).take 23
def all0:List wl:=sts0++(sts1++(sts2++(sts3++[])))
def env0:xu:={ scope:=(PySem.Challenge.pw_stow_k39_gone_on).main.scope,locals:=mainNs,globals:=mainNs,cells:=[],code:=(.ref 13),frame:=some 14 }
def DP:Code:=.body all0 env0
theorem pre0(w:wf)(os:OsState):PySem.W.topGo treeTable PySem.Challenge.pw_stow_k39_gone_on w 11 (some (.ref 6)) 12 #[boot_heap w.params,Array.mk [],boot_drawn,boot_toks,os] (topStub PySem.Challenge.pw_stow_k39_gone_on)=some (#[ub7 w.params,(ϋ []),#[0,0,0,0],187,os],#[denote treeTable (.body all0 env0),DP,#[0,0,0,0],[topFrame #[0,0,0,0]]]):=by kernel_rfl
noncomputable def zM:xr->BT:=λP=>bt 11 (q0 P)
theorem blk0(w:wf)(os:OsState):PySem.W.segRun treeTable PySem.Challenge.pw_stow_k39_gone_on w 11 (some (.ref 6)) 1 1 #[ub7 w.params,(ϋ []),#[0,0,0,0],187,os] (PySem.W.blockOf all0 env0 DP #[0,0,0,0] [topFrame #[0,0,0,0]])=some (.next,(fj.mk (zM w.params) 15 #[[],[],[],0,[],[],false,(ϋ []),[],0,false,false,false,0,[2000,10,10],false,0,true,[],[],0,false] (ϋ []) #[0,0,0,0] 187 os).abs,DP,#[0,0,0,0]):=by kernel_rfl
noncomputable def ZO:xr->BT:=λP=>bt 11 (q1 P)
theorem grp0(w:wf)(os:OsState):segRunT treeTable PySem.Challenge.pw_stow_k39_gone_on w 11 (some (.ref 6)) 1 1748 (fj.mk (zM w.params) 15 #[[],[],[],0,[],[],false,(ϋ []),[],0,false,false,false,0,[2000,10,10],false,0,true,[],[],0,false] (ϋ []) #[0,0,0,0] 187 os) (piecesOf sts0 env0 DP #[0,0,0,0] [topFrame #[0,0,0,0]])=some (.next,(fj.mk (ZO w.params) 126 #[[],[],[],0,[],[],false,(ϋ []),[],0,false,false,false,0,[2000,10,10],false,0,true,[],[],0,false] (ϋ []) #[0,0,0,0] 335 os),DP,#[21,0,22,8]):=by kernel_rfl
noncomputable def ZP:xr->BT:=λP=>bt 11 (q2 P)
theorem grp1(w:wf)(os:OsState):segRunT treeTable PySem.Challenge.pw_stow_k39_gone_on w 11 (some (.ref 6)) 1 1833 (fj.mk (ZO w.params) 126 #[[],[],[],0,[],[],false,(ϋ []),[],0,false,false,false,0,[2000,10,10],false,0,true,[],[],0,false] (ϋ []) #[0,0,0,0] 335 os) (piecesOf sts1 env0 DP #[21,0,22,8] [topFrame #[0,0,0,0]])=some (.next,(fj.mk (ZP w.params) 416 #[[],[],[],0,[],[],false,(ϋ []),[],0,false,false,false,0,[2000,10,10],false,0,true,[],[],0,false] (ϋ []) #[0,0,0,0] 735 os),DP,#[141,0,200,19]):=by kernel_rfl
noncomputable def ZQ:xr->BT:=λP=>bt 11 (q3 P)
theorem grp2(w:wf)(os:OsState):segRunT treeTable PySem.Challenge.pw_stow_k39_gone_on w 11 (some (.ref 6)) 1 1901 (fj.mk (ZP w.params) 416 #[[],[],[],0,[],[],false,(ϋ []),[],0,false,false,false,0,[2000,10,10],false,0,true,[],[],0,false] (ϋ []) #[0,0,0,0] 735 os) (piecesOf sts2 env0 DP #[141,0,200,19] [topFrame #[0,0,0,0]])=some (.next,(fj.mk (ZQ w.params) 679 #[[],[],[],0,[],[],false,(ϋ []),[],0,false,false,false,0,[2000,10,10],false,0,true,[],[],0,false] (ϋ []) #[0,0,0,0] 1104 os),DP,#[327,0,359,12]):=by kernel_rfl
noncomputable def L6:xr->BT:=λP=>bt 11 (q4 P)
theorem grp3(w:wf)(os:OsState):segRunT treeTable PySem.Challenge.pw_stow_k39_gone_on w 11 (some (.ref 6)) 1 1707 (fj.mk (ZQ w.params) 679 #[[],[],[],0,[],[],false,(ϋ []),[],0,false,false,false,0,[2000,10,10],false,0,true,[],[],0,false] (ϋ []) #[0,0,0,0] 1104 os) (piecesOf sts3 env0 DP #[327,0,359,12] [topFrame #[0,0,0,0]])=some (.next,(fj.mk (L6 w.params) 891 #[[],[],[],0,[],[],false,(ϋ []),[],0,false,false,false,0,[2000,10,10],false,0,true,[],[],0,false] (ϋ []) #[0,0,0,0] 1401 os),DP,#[572,0,609,102]):=by kernel_rfl
theorem fin0(w:wf)(os:OsState):topRun treeTable PySem.Challenge.pw_stow_k39_gone_on w 11 (some (.ref 6)) 2 #[absHeap (L6 w.params) 891 #[[],[],[],0,[],[],false,(ϋ []),[],0,false,false,false,0,[2000,10,10],false,0,true,[],[],0,false],(ϋ []),#[0,0,0,0],1401,os] (PySem.W.restOf [] env0 DP #[572,0,609,102] [topFrame #[0,0,0,0]])=some #[absHeap (L6 w.params) 891 #[[],[],[],0,[],[],false,(ϋ []),[],0,false,false,false,0,[2000,10,10],false,0,true,[],[],0,false],(ϋ []),#[0,0,0,0],1401,os]:=by kernel_rfl
theorem run0(w:wf)(os:OsState):topRun treeTable PySem.Challenge.pw_stow_k39_gone_on w 11 (some (.ref 6)) (12+(1+(1748+(1833+(1901+(1707+2)))))) #[boot_heap w.params,Array.mk [],boot_drawn,boot_toks,os] (topStub PySem.Challenge.pw_stow_k39_gone_on)=some #[absHeap (L6 w.params) 891 #[[],[],[],0,[],[],false,(ϋ []),[],0,false,false,false,0,[2000,10,10],false,0,true,[],[],0,false],(ϋ []),#[0,0,0,0],1401,os]:=PySem.W.go_top (pre0 w os) (PySem.W.piece_block (blk0 w os) (piece_app (segRun_of (grp0 w os)) (piece_app (segRun_of (grp1 w os)) (piece_app (segRun_of (grp2 w os)) (piece_app (segRun_of (grp3 w os)) (fin0 w os))))))
theorem open0(w:wf):(PySem.W.fencedOpening treeTable PySem.Challenge.pw_stow_k39_gone_on w 7904).map (λs=>(s.heap,s.gens,s.drawn,s.toks))=some (boot_heap w.params,Array.mk [],boot_drawn,boot_toks):=PySem.W.boot_open (by kernel_rfl) rfl (λs=>by kernel_rfl) w
noncomputable def heap0:xr->δ:=λP=>
 (nat_lit 2,boot_o_2 P)::
 (nat_lit 3,FI P)::
 (nat_lit 20,LG)::
 (nat_lit 21,LH)::
 (nat_lit 24,LJ P)::
 (nat_lit 30,LK P)::
 (nat_lit 31,W4)::
 (nat_lit 37,LL P)::
 (nat_lit 43,LM P)::
 (nat_lit 44,LN)::
 (nat_lit 49,LO P)::
 (nat_lit 55,LP P)::
 (nat_lit 56,LQ)::
 (nat_lit 61,LR P)::
 (nat_lit 71,LS)::
 (nat_lit 72,LU)::
 (nat_lit 74,LV P)::
 (nat_lit 75,LW)::
 (nat_lit 80,LX P)::
 (nat_lit 86,LY P)::
 (nat_lit 87,LZ)::
 (nat_lit 92,L0 P)::
 (nat_lit 98,L3 P)::
 (nat_lit 99,L4)::
 (nat_lit 104,L5 P)::
 (nat_lit 110,WV P)::
 (nat_lit 111,WW)::
 (nat_lit 116,WX P)::
 (nat_lit 122,WY P)::
 (nat_lit 123,WZ)::
 (nat_lit 128,W8 P)::
 (nat_lit 134,W9 P)::
 (nat_lit 135,Xa)::
 (nat_lit 140,Xb P)::
 (nat_lit 146,Xc P)::
 (nat_lit 147,Xd)::
 (nat_lit 155,Xe)::
 (nat_lit 156,Xf)::
 (nat_lit 162,Xg)::
 (nat_lit 163,Xh)::
 (nat_lit 169,Xi)::
 (nat_lit 170,Xj)::
 (nat_lit 176,Xk)::
 (nat_lit 177,Xl)::
 (nat_lit 183,Xm)::
 (nat_lit 184,Xn)::
 (nat_lit 190,Xo)::
 (nat_lit 191,Xp)::
 (nat_lit 197,Xq)::
 (nat_lit 198,Xr)::
 (nat_lit 204,Xs)::
 (nat_lit 205,Xt)::
 (nat_lit 211,Xu)::
 (nat_lit 212,Xv)::
 (nat_lit 218,Xw)::
 (nat_lit 219,Xx)::
 (nat_lit 225,Xy)::
 (nat_lit 226,Xz)::
 (nat_lit 232,XA)::
 (nat_lit 233,XB)::
 (nat_lit 239,XD)::
 (nat_lit 240,XE)::
 (nat_lit 246,XF)::
 (nat_lit 247,XG)::
 (nat_lit 251,XH)::
 (nat_lit 252,XJ)::
 (nat_lit 258,XL)::
 (nat_lit 259,XM)::
 (nat_lit 265,XN)::
 (nat_lit 266,XO)::
 (nat_lit 272,XQ)::
 (nat_lit 273,XR)::
 (nat_lit 279,XS)::
 (nat_lit 280,XT)::
 (nat_lit 286,XU)::
 (nat_lit 287,XV)::
 (nat_lit 293,XW)::
 (nat_lit 294,XX)::
 (nat_lit 300,XY)::
 (nat_lit 301,XZ)::
 (nat_lit 304,X0 P)::
 (nat_lit 314,X1)::
 (nat_lit 315,X2)::
 (nat_lit 321,X3)::
 (nat_lit 322,X4)::
 (nat_lit 328,X5)::
 (nat_lit 329,X6)::
 (nat_lit 335,X7)::
 (nat_lit 336,X8)::
 (nat_lit 342,X9)::
 (nat_lit 343,Ya)::
 (nat_lit 349,Yb)::
 (nat_lit 350,Yc)::
 (nat_lit 356,Yd)::
 (nat_lit 357,Ye)::
 (nat_lit 363,Yf)::
 (nat_lit 364,Yg)::
 (nat_lit 380,Yh)::
 (nat_lit 386,Yi)::
 (nat_lit 387,Yj)::
 (nat_lit 393,Yk)::
 (nat_lit 394,Yl)::
 (nat_lit 400,Ym)::
 (nat_lit 401,Yn)::
 (nat_lit 407,Yo)::
 (nat_lit 408,Yp)::
 (nat_lit 410,Yq P)::
 (nat_lit 411,Yr)::
 (nat_lit 421,Ys)::
 (nat_lit 422,Yt)::
 (nat_lit 428,Yu)::
 (nat_lit 429,Yv)::
 (nat_lit 433,Yw)::
 (nat_lit 434,Yx)::
 (nat_lit 440,Yy)::
 (nat_lit 441,Yz)::
 (nat_lit 447,YA)::
 (nat_lit 448,YB)::
 (nat_lit 451,YC P)::
 (nat_lit 461,YD)::
 (nat_lit 462,YE)::
 (nat_lit 463,YF)::
 (nat_lit 469,YG)::
 (nat_lit 470,YH)::
 (nat_lit 476,YI)::
 (nat_lit 477,YJ)::
 (nat_lit 479,YK P)::
 (nat_lit 480,YL)::
 (nat_lit 485,YM P)::
 (nat_lit 490,YN)::
 (nat_lit 496,YO)::
 (nat_lit 497,YQ)::
 (nat_lit 503,YR)::
 (nat_lit 504,YS)::
 (nat_lit 505,FE)::
 (nat_lit 511,YT)::
 (nat_lit 512,YU)::
 (nat_lit 514,YV P)::
 (nat_lit 515,YW)::
 (nat_lit 523,YX)::
 (nat_lit 524,YY)::
 (nat_lit 530,YZ)::
 (nat_lit 531,Za)::
 (nat_lit 535,Zb)::
 (nat_lit 536,Zc)::
 (nat_lit 540,Zd)::
 (nat_lit 541,Ze)::
 (nat_lit 547,FF)::
 (nat_lit 548,Zf)::
 (nat_lit 554,Zg)::
 (nat_lit 555,Zh)::
 (nat_lit 559,Zi)::
 (nat_lit 560,Zj)::
 (nat_lit 563,Zk P)::
 (nat_lit 573,FG)::
 (nat_lit 574,Zl)::
 (nat_lit 580,Zm)::
 (nat_lit 581,Zn)::
 (nat_lit 582,Zo)::
 (nat_lit 588,Zp)::
 (nat_lit 589,Zq)::
 (nat_lit 595,Zr)::
 (nat_lit 596,Zs)::
 (nat_lit 598,Zt P)::
 (nat_lit 599,Zu)::
 (nat_lit 607,Zv)::
 (nat_lit 608,Zw)::
 (nat_lit 614,Zx)::
 (nat_lit 615,Zy)::
 (nat_lit 621,Zz)::
 (nat_lit 622,ZA)::
 (nat_lit 625,ZB P)::
 (nat_lit 637,ZC)::
 (nat_lit 643,ZD)::
 (nat_lit 644,ZE)::
 (nat_lit 650,ZF)::
 (nat_lit 651,ZG)::
 (nat_lit 652,ZH)::
 (nat_lit 658,ZI)::
 (nat_lit 659,FH)::
 (nat_lit 665,ZJ)::
 (nat_lit 666,ZK)::
 (nat_lit 672,ZL)::
 (nat_lit 673,ZM)::
 (nat_lit 675,ZN P)::
 (nat_lit 676,FJ)::
 (nat_lit 681,FK P)::
 (nat_lit 689,FL)::
 (nat_lit 690,FM)::
 (nat_lit 692,FN P)::
 (nat_lit 693,FO)::
 (nat_lit 698,FP P)::
 (nat_lit 706,FQ)::
 (nat_lit 707,FR)::
 (nat_lit 709,FS P)::
 (nat_lit 710,FT)::
 (nat_lit 715,FU P)::
 (nat_lit 725,FV)::
 (nat_lit 726,FW)::
 (nat_lit 737,FX)::
 (nat_lit 738,FY)::
 (nat_lit 744,FZ)::
 (nat_lit 745,F2)::
 (nat_lit 751,F4)::
 (nat_lit 752,F5)::
 (nat_lit 754,F6 P)::
 (nat_lit 755,F7)::
 (nat_lit 760,F8 P)::
 (nat_lit 768,F9)::
 (nat_lit 769,Ga)::
 (nat_lit 771,Gb P)::
 (nat_lit 772,Gc)::
 (nat_lit 780,Gf)::
 (nat_lit 781,Gg)::
 (nat_lit 782,Gi)::
 (nat_lit 788,Gj)::
 (nat_lit 789,Gk)::
 (nat_lit 795,Gm)::
 (nat_lit 796,Gn)::
 (nat_lit 802,Go)::
 (nat_lit 803,Gp)::
 (nat_lit 809,Gq)::
 (nat_lit 810,Gr)::
 (nat_lit 816,Gu)::
 (nat_lit 817,Gv)::
 (nat_lit 823,Gw)::
 (nat_lit 824,Gx)::
 (nat_lit 830,Gy)::
 (nat_lit 831,Gz)::
 (nat_lit 837,GA)::
 (nat_lit 838,GB)::
 (nat_lit 844,GC)::
 (nat_lit 845,GD)::
 (nat_lit 849,GE)::
 (nat_lit 850,GF)::
 (nat_lit 856,GG)::
 (nat_lit 857,GH)::
 (nat_lit 863,GI)::
 (nat_lit 864,GJ)::
 (nat_lit 870,GK)::
 (nat_lit 871,GL)::
 (nat_lit 877,GM)::
 (nat_lit 878,GN)::
 (nat_lit 884,GO)::
 (nat_lit 885,GP)::
 (nat_lit 889,GQ)::
 (nat_lit 890,GR)::
 []
noncomputable def at0:List wa:=2::3::20::21::24::30::31::37::43::44::49::55::56::61::71::72::74::75::80::86::87::92::98::99::104::110::111::116::122::123::128::134::135::140::146::147::155::156::162::163::169::170::176::177::183::184::190::191::197::198::204::205::211::212::218::219::225::226::232::233::239::240::246::247::251::252::258::259::265::266::272::273::279::280::286::287::293::294::300::301::304::314::315::321::322::328::329::335::336::342::343::349::350::356::357::363::364::380::386::387::393::394::400::401::407::408::410::411::421::422::428::429::433::434::440::441::447::448::451::461::462::463::469::470::476::477::479::480::485::490::496::497::503::504::505::511::512::514::515::523::524::530::531::535::536::540::541::547::548::554::555::559::560::563::573::574::580::581::582::588::589::595::596::598::599::607::608::614::615::621::622::625::637::643::644::650::651::652::658::659::665::666::672::673::675::676::681::689::690::692::693::698::706::707::709::710::715::725::726::737::738::744::745::751::752::754::755::760::768::769::771::772::780::781::782::788::789::795::796::802::803::809::810::816::817::823::824::830::831::837::838::844::845::849::850::856::857::863::864::870::871::877::878::884::885::889::890::[]
noncomputable def W_:List Str:="_wall"::"StowError"::"NoName"::"NoSize"::"Broken"::"NoGive"::"NoPiece"::"NoCell"::"NoAsk"::"NoBound"::"NoRoom"::"MARKS"::"check_ask"::"check_plain_ask"::"mark_of"::"long_of"::"live_of"::"LEAST_LIVE"::"can_begin"::"bad_of_piece"::"looked"::"fresh_room"::"laid"::"laid_free"::"piece_at"::"live_at"::"free_at"::"begin_around"::"free_begin"::"free_end"::"cut_out"::"freed"::"joined_pieces"::"joined"::"carried"::"Keeper"::"is_power"::"block_for"::"least_free"::"cut_down"::"grown_together"::"Halves"::"Row"::"all_whole"::"begin_of"::"whole_ones"::"free_slots"::"cut_for"::"with_slot"::"has_live"::"Shelves"::"first_place"::"spots_for"::"least_place"::"Stretches"::"First"::"Best"::"Next"::"Likes"::"stretches_of"::"keeper_of"::"_law_cell_at"::"_law_whole"::"_law_alike"::"_law_walk"::"_law_number"::"_law_answer"::"_law_way"::"_law_known"::"_law_step"::"_law_holds"::"_law_seen"::"_law_like"::"_law_lay_refused"::"_law_laid"::[]
theorem at0_eq(P:xr):at0=(heap0 P).map (·.1):=by kernel_rfl
abbrev seen0(s:wb):Bool:=PySem.W.recOk (PySem.W.RowW.records (PySem.W.OpenRow.toRowW (PySem.Challenge.rw_stow_k39_gone_on).row)) s
theorem left0:sv PySem.Challenge.pw_stow_k39_gone_on (PySem.W.view PySem.Challenge.pw_stow_k39_gone_on [88]) W_ seen0 (λs=>at0.map s.heap.get?) (λw=>(heap0 w.params).map λp=>some p.2) 7904:=
 sv.of_pieces (H₁:=λP=>absHeap (L6 P) 891 #[[],[],[],0,[],[],false,(ϋ []),[],0,false,false,false,0,[2000,10,10],false,0,true,[],[],0,false]) (gs₁:=(ϋ [])) (d₁:=#[0,0,0,0]) (k₁:=1401) (m₀:=11) (ann:=(some (.ref 6))) open0 (λw=>by kernel_rfl) run0 rfl (λw=>funext λos=>by kernel_rfl)
end
end Stow
namespace L2
open PySem PySem.Spec PyProof.Rows
variable{a b C:wa}{o:Obj}{u:vz}{P:we}{w:wf}{h base:xt}{g':Array wn}{t' i k n:Nat}{ch:List wa}{pins' ϊ:List (wa×Obj)}{N ps:List Str}{x qual:Str}{M:xv}{A:wg}{E Q:vz->wb->Prop}{e c tg:wk}{s:wb}{pos:Pos}{op:CmpOp}{K:δ}{es:List wk}{g:Int->Int->Int}{body:List wl}{pl:xq Bool}{f:vz->vz->xq vz}{us:List vz}{mA mg:Str->Option vz}{kw:List (Str×vz)}{outer:List xu}{scope:wm}{osl:Array (Option vz)}
abbrev Key:=Sum Int Str
def KY:Key->vz->Bool
 | .inl k,v=>ut k v
 | .inr x,v=>sx x v
def keyH(w:wf):Key->Int
 | .inl k=>hashInt k
 | .inr x=>hashStr w x
theorem EA:∀{k:Key}{v:vz},KY k v=true->(∃i t,k=Sum.inl i/\v=Value.int i t)\/(∃x t,k=Sum.inr x/\v=Value.str x t)
 | .inl i,v,h=>by
   obtain⟨t,e⟩:=Value.isInt_shape (k:=i) (v:=v) h;exact .inl #[i,t,rfl,e]
 | .inr x,v,h=>by
   obtain⟨t,e⟩:=Value.isStrOf_shape (x:=x) (v:=v) h;exact .inr #[x,t,rfl,e]
theorem jR(i:Int)(t:Tok):KY (.inl i) (.int i t)=true:=by simp [KY,ut]
theorem jS(x:Str)(t:Tok):KY (.inr x) (.str x t)=true:=by simp [KY,sx]
theorem ua7(a b:Int):decide ((Sum.inl a:Key)=Sum.inl b)=(a==b):=by
 by_cases e:a=b;subst e;simp;have h:¬(Sum.inl a:Key)=Sum.inl b:=λq=>e (Sum.inl.inj q);rw[xb4 h];exact(beq_eq_false_iff_ne.mpr e).symm
theorem ua4(a b:Str):decide ((Sum.inr a:Key)=Sum.inr b)=decide (a=b):=by
 by_cases e:a=b;subst e;simp;have h:¬(Sum.inr a:Key)=Sum.inr b:=λq=>e (Sum.inr.inj q);rw[xb4 h,xb4 e]
theorem ua6(a:Int)(b:Str):decide ((Sum.inl a:Key)=Sum.inr b)=false:=xb4 (λq=>nomatch q)
theorem ua5(a:Str)(b:Int):decide ((Sum.inr a:Key)=Sum.inl b)=false:=xb4 (λq=>nomatch q)
def Cm(prog:we)(w:wf):PySem.KeyKind prog w Key where
 is:=KY
 hash:=keyH w
 inj:=λv a b ha hb=>by
   rcases EA ha with ⟨i,t,rfl,rfl⟩ | ⟨x,t,rfl,rfl⟩
   . rcases EA hb with ⟨j,u,rfl,e⟩ | ⟨y,u,rfl,e⟩
     . injection e with e1 _;rw[e1]
     . exact nomatch e
   . rcases EA hb with ⟨j,u,rfl,e⟩ | ⟨y,u,rfl,e⟩
     . exact nomatch e
     . injection e with e1 _;rw[e1]
 byValue:=λk v h=>by
   rcases EA h with ⟨i,t,rfl,rfl⟩ | ⟨x,t,rfl,rfl⟩ <;> rfl
 pyHash:=λhv h=>by
   rcases EA hv with ⟨i,t,rfl,rfl⟩ | ⟨x,t,rfl,rfl⟩
   . exact wpAny_pyHash_int h
   . exact wpAny_pyHash_str h
 eqBool:=λhu hv h=>by
   rcases EA hu with ⟨i,t,rfl,rfl⟩ | ⟨x,t,rfl,rfl⟩
   . rcases EA hv with ⟨j,u,rfl,rfl⟩ | ⟨y,u,rfl,rfl⟩
     . rw[ua7] at h;exact wpAny_eqBool_int h
     . rw[ua6] at h;exact qg i t y u _ _ _ _ h
   . rcases EA hv with ⟨j,u,rfl,rfl⟩ | ⟨y,u,rfl,rfl⟩
     . rw[ua5] at h;exact qh x t j u _ _ _ _ h
     . rw[ua4] at h;exact wpAny_eqBool_str h
 «strs»:=λk x t v h=>by
   rcases EA h with ⟨i,u,rfl,e⟩ | ⟨y,u,rfl,e⟩
   . exact nomatch e
   . injection e with e1 _
     subst e1
     cases v <;> rfl
theorem jT(prog:we)(w:wf)(i:Int)(t:Tok):(Cm prog w).is (.inl i) (.int i t)=true:=jR i t
theorem jU(prog:we)(w:wf)(x:Str)(t:Tok):(Cm prog w).is (.inr x) (.str x t)=true:=jS x t
inductive V where
 | non | bl (b:Bool) | int (i:Int) | str (x:Str) | byt (b:Array UInt8) | flt (b:UInt64) | ref (a:wa) | ty (n:String)
 deriving DecidableEq
variable{v:V}{vs:List V}
def RelV:V->vz->Prop
 | .non,u=>u=Value.none
 | .bl b,u=>u=Value.bool b
 | .int i,u=>∃t,u=Value.int i t
 | .str x,u=>∃t,u=Value.str x t
 | .byt b,u=>∃t,u=Value.bytes b t
 | .flt b,u=>∃t,u=Value.float b t
 | .ref a,u=>u=Value.ref a
 | .ty n,u=>u=Value.type n
abbrev Vals:List V->List vz->Prop:=Paired RelV
theorem Vals.length{xs:List V}{us:List vz}(r:Vals xs us):xs.length=us.length:=Paired.length r
theorem Vals.get:∀{xs:List V}{us:List vz}{i:Nat}{x:V},Vals xs us->xs[i]?=some x->∃u,us[i]?=some u/\RelV x u
 | _,_,_,_,.nil,e=>by simp at e
 | _,_,0,_,.cons r _,e=>by simp at e;subst e;exact#[_,rfl,r]
 | _,_,i+1,x,.cons _ t,e=>by
   obtain⟨u,h1,h2⟩:=Vals.get (i:=i) (x:=x) t (by simpa using e);exact#[u,by simpa using h1,h2]
theorem Vals.set{x:V}{u:vz}(r:RelV x u):∀{xs:List V}{us:List vz}(i:Nat),Vals xs us->Vals (xs.set i x) (us.set i u)
 | _,_,_,.nil=>.nil
 | _,_,0,.cons _ t=>.cons r t
 | _,_,i+1,.cons q t=>.cons q (Vals.set r i t)
theorem Vals.append:∀{xs ys:List V}{us ws:List vz},Vals xs us->Vals ys ws->Vals (xs++ys) (us++ws)
 | _,_,_,_,.nil,s=>s
 | _,_,_,_,.cons r t,s=>.cons r (Vals.append t s)
theorem Vals.take:∀{xs:List V}{us:List vz}(n:Nat),Vals xs us->Vals (xs.take n) (us.take n)
 | _,_,0,_=>.nil
 | _,_,_+1,.nil=>.nil
 | _,_,n+1,.cons r t=>.cons r (Vals.take n t)
theorem Vals.drop:∀{xs:List V}{us:List vz}(n:Nat),Vals xs us->Vals (xs.drop n) (us.drop n)
 | _,_,0,r=>r
 | _,_,_+1,.nil=>.nil
 | _,_,n+1,.cons _ t=>Vals.drop n t
def RelO:Option V->Option vz->Prop
 | some v,some u=>RelV v u
 | none,none=>True
 | _,_=>False
def KV{κ:Type}:List (κ×V)->List (κ×vz)->Prop:=Paired λ(p:κ×V)(q:κ×vz)=>p.1=q.1/\RelV p.2 q.2
def kV:Key->V
 | .inl i=>.int i
 | .inr x=>.str x
inductive HO where
 | lst (xs:List V)
 | tup (xs:List V)
 | dK (kvs:List (Key×V)) | dT (kvs:List (List Key×V))
 | set (S:Int->Bool) (n:Nat)
 | ins (C dx:wa) (fs:List (Str×V))
 | own (x:wa)
 | xd (fs:List (Str×V))
 | met (f x:wa)
 | rng (lo hi:Int)
 | frz (o:Obj) (u:HO)
 | tbl (ps:Array vz)
 | ext (φ:xt->Prop)
abbrev Hp:=wa->Option HO
variable{H:Hp}{R:V->V->Hp->Prop}
def upd(H:Hp)(a:wa)(o:HO):Hp:=λb=>if b=a then some o else H b
theorem upd_same{o:HO}:upd H a o a=some o:=by unfold upd;rw[xb1 rfl]
theorem xb5{H:Hp}{a:PySem.Addr}{o:HO}:upd H a o a=some o:=upd_same
theorem AE{o:HO}(h:b≠a):upd H a o b=H b:=by unfold upd;rw[xb2 h]
theorem ne_of{o u:HO}(h:H a=some o)(h':H b=some u)(d:o≠u):a≠b:=by
 intro e;subst e;rw[h] at h';exact d (Θ h')
theorem BW{o:HO}(h:H a=some o)(h':H b=none):a≠b:=by
 intro e;subst e;rw[h] at h';cases h'
section
variable (P:we)(w:wf)
def Bc(H:Hp)(h:xt)(a:wa):HO->Prop
 | .lst xs=>xs.length<=wt/\∃(its:List vz)(n:Nat),Vals xs its/\h.get? a=some { cls:=.type "list",data:=.seq its.toArray n }
 | .tup xs=>xs.length<=wt/\∃its:List vz,Vals xs its/\IsTup h a its.toArray
 | .dK kvs=>kvs.length<=wt/\(a==sysModules)=false/\∃vs,KV kvs vs/\h.DictOf (Cm P w) a vs
 | .dT kvs=>kvs.length<=wt/\(a==sysModules)=false/\∃xs:List (List Key×wa×vz),
     Paired (λ(p:List Key×V)(q:List Key×wa×vz)=>p.1=q.1/\H q.2.1=some (.tup (p.1.map kV))/\RelV p.2 q.2.2) kvs xs /\
     ∃o es ep,h.get? a=some o/\o.ExactDict/\o.data = .dict es ep/\es.toList=xs.map (entryOfKey (tupleKind (Cm P w)))/\(xs.map (·.1)).Nodup
 | .set S n=>h.SetOf (intKind P w) a S n
 | .ins C dx fs=>H dx=some (.own a)/\fs.length<=1000/\dx≠a/\h.get? a=some (instObj C dx) /\
     ∃mA,h.Ns1 dx mA/\(∀f,RelO (fs.lookup f) (mA f))/\km mA (fs.map (·.1))
 | .own _=>∃o,h.get? a=some o
 | .xd fs=>∃mA,h.Ns1 a mA/\∀f,RelO (fs.lookup f) (mA f)
 | .rng lo hi=>∃t u v,h.get? a=some { cls:=.type "range",data:=.fields (ϋ [.int lo t,.int hi u,.int 1 v]) }
 | .frz o u=>h.get? a=some o/\Bc H h a u
 | .tbl ps=>h.get? a=some { cls:=.none,data:=.fields ps }
 | .met f x=>h.get? a=some (methodObj (.ref f) (.ref x))
 | .ext φ=>φ h/\(∃o,h.get? a=some o)/\∀h1 h2:xt,φ h1->(∀o,h1.get? a=some o->h2.get? a=some o)->φ h2
def HOk(H:Hp)(h:xt):Prop:=∀a o,H a=some o->Bc P w H h a o
end
section
variable {P:we}{w:wf}{H H':Hp}{h h':xt}{a:wa}{o:HO}
theorem Bc.lt(x:Bc P w H h a o):a<h.objs.size:=by
 cases o with
 | lst xs=>obtain⟨_,_,_,_,e⟩:=x;exact af e
 | tup xs=>obtain⟨_,_,_,p⟩:=x;exact p.lt
 | dK kvs=>obtain⟨_,_,_,_,o,_,_,e,_⟩:=x;exact af e
 | dT kvs=>obtain⟨_,_,_,_,o,_,_,e,_⟩:=x;exact af e
 | set S n=>obtain⟨o,_,_,_,e,_⟩:=x;exact af e
 | ins C dx fs=>obtain⟨_,_,_,e,_⟩:=x;exact af e
 | own y=>obtain⟨_,e⟩:=x;exact af e
 | xd fs=>obtain⟨_,⟨_,_,_,e,_⟩,_⟩:=x;exact af e
 | rng lo hi=>obtain⟨_,_,_,e⟩:=x;exact af e
 | frz ob u=>obtain⟨e,_⟩:=x;exact af e
 | tbl ps=>exact af (show h.get? a=some _ from x)
 | met f y=>exact af (show h.get? a=some _ from x)
 | ext φ=>obtain⟨_,⟨_,e⟩,_⟩:=x;exact af e
theorem Paired.mapP{α β:Type}{F G:α->β->Prop}:∀{l₁:List α}{l₂:List β},Paired F l₁ l₂->(∀a b,F a b->G a b)->Paired G l₁ l₂
 | _,_,.nil,_=>.nil
 | _,_,.cons r t,f=>.cons (f _ _ r) (Paired.mapP t f)
theorem Bc.stay(x:Bc P w H h a o)(k:∀b u,(b=a\/H b=some (.own a))->h.get? b=some u->h'.get? b=some u)
   (ho:∀b,H b=some (.own a)->H' b=some (.own a)) (ht:∀b xs,H b=some (.tup xs)->H' b=some (.tup xs)):Bc P w H' h' a o:=by
 induction o with
 | lst xs=>obtain⟨z,its,n,r,e⟩:=x;exact#[z,its,n,r,k _ _ (.inl rfl) e]
 | tup xs=>obtain⟨z,its,r,ob,e,c⟩:=x;exact#[z,its,r,ob,k _ _ (.inl rfl) e,c]
 | dK kvs=>obtain⟨z,y,vs,r,ob,es,ep,e,c⟩:=x;exact#[z,y,vs,r,ob,es,ep,k _ _ (.inl rfl) e,c]
 | dT kvs=>
   obtain⟨z,y,xs,r,ob,es,ep,e,c⟩:=x;exact#[z,y,xs,Paired.mapP r λp q z=>#[z.1,ht _ _ z.2.1,z.2.2],ob,es,ep,k _ _ (.inl rfl) e,c]
 | set S n=>obtain⟨ob,es,ep,t,e,c⟩:=x;exact#[ob,es,ep,t,k _ _ (.inl rfl) e,c]
 | ins C dx fs=>
   obtain⟨d,z,ne,e,mA,⟨od,es,ep,e2,c⟩,r⟩:=x;exact#[ho _ d,z,ne,k _ _ (.inl rfl) e,mA,#[od,es,ep,k _ _ (.inr d) e2,c],r]
 | own y=>obtain⟨ob,e⟩:=x;exact#[ob,k _ _ (.inl rfl) e]
 | xd fs=>obtain⟨mA,⟨od,es,ep,e,c⟩,r⟩:=x;exact#[mA,#[od,es,ep,k _ _ (.inl rfl) e,c],r]
 | rng lo hi=>obtain⟨t,u,v,e⟩:=x;exact#[t,u,v,k _ _ (.inl rfl) e]
 | frz ob u ih=>obtain⟨e,q⟩:=x;exact#[k _ _ (.inl rfl) e,ih q]
 | tbl ps=>
   have e:h.get? a=some { cls:=.none,data:=.fields ps }:=x;show h'.get? a=some { cls:=.none,data:=.fields ps };exact k a _ (.inl rfl) e
 | met f y=>
   have e:h.get? a=some (methodObj (.ref f) (.ref y)):=x;show h'.get? a=some (methodObj (.ref f) (.ref y));exact k a _ (.inl rfl) e
 | ext φ=>obtain⟨p,⟨o,e⟩,st⟩:=x;exact#[st _ _ p λo q=>k _ _ (.inl rfl) q,#[o,k _ _ (.inl rfl) e],st]
theorem HOk.lt(x:HOk P w H h)(e:H a=some o):a<h.objs.size:=(x a o e).lt
theorem HOk.fresh(x:HOk P w H h)(e:h.objs.size<=a):H a=none:=by
 cases q:H a with
 | none=>rfl
 | some u=>exact xb0 (ba (x.lt q) e) (cv _)
theorem HOk.kept(x:HOk P w H h)(k:∀b u,h.get? b=some u->h'.get? b=some u):HOk P w H h':=λa o e=>
 (x a o e).stay (λb u _ q=>k b u q) (λ_ q=>q) λ_ _ q=>q
theorem HOk.laid(x:HOk P w H h)(k:∀b u,h.get? b=some u->h'.get? b=some u)(hp:h.objs.size<=a)(new:Bc P w (upd H a o) h' a o):HOk P w (upd H a o) h':=λb u e=>by
 have hn:=x.fresh hp;by_cases hb:b=a;subst hb;rw[xb5] at e;cases e;exact new;rw[AE hb] at e;exact(x b u e).stay (λc v _ q=>k c v q) (λc q=>by rw[AE (BW q hn)];exact q) λc xs q=>by rw[AE (BW q hn)];exact q
end
def Rd(H:Hp)(a:wa)(u:HO):Prop:=H a=some u\/∃o,H a=some (.frz o u)
theorem Rd.ok{u:HO}(r:Rd H a u)(x:HOk P w H h):Bc P w H h a u:=by
 rcases r with r | ⟨o,r⟩
 exact x a u r;obtain⟨_,q⟩:=x a _ r;exact q
def Mut:Option HO->Prop
 | some (.lst _)=>True
 | some (.dK _)=>True
 | some (.dT _)=>True
 | some (.set _ _)=>True
 | some (.ins _ _ _)=>True
 | some (.ext _)=>True
 | _=>False
section
variable {P:we}{w:wf}{H:Hp}{h h':xt}{x e:wa}{o':HO}
theorem HOk.write(ok:HOk P w H h)(mu:Mut (H x))(he:e=x\/H e=some (.own x))(k:∀b u,b≠e->h.get? b=some u->h'.get? b=some u)(heo:∃u,h'.get? e=some u)
   (new:Bc P w (upd H x o') h' x o'):HOk P w (upd H x o') h':=λb u q=>by
 have nown:∀c y,H c=some (.own y)->c≠x:=λc y r z=>by subst z;rw[r] at mu;exact mu
 have ntup:∀c xs,H c=some (.tup xs)->c≠x:=λc xs r z=>by subst z;rw[r] at mu;exact mu
 by_cases hb:b=x;subst hb;rw[xb5] at q;cases q;exact new;rw[AE hb] at q;by_cases hbe:b=e;have q':H b=some (.own x):=by
   rcases he with z | z
   exact xb0 (hbe.trans z) hb;rw[hbe];exact z
 rw[q] at q';cases q';obtain⟨v,hv⟩:=heo;exact#[v,by rw[hbe];exact hv];refine(ok b u q).stay (λc v hc r=>k c v ?_ r) (λc r=>by rw[AE (nown c b r)];exact r) λc xs r=>by rw[AE (ntup c xs r)];exact r
 rcases hc with rfl | hc
 exact hbe;rintro rfl;rcases he with z | z
 exact nown c b hc z;rw[hc] at z;cases z;exact hb rfl
end
structure Un(fs ex:List wa)(H H':Hp)(h h':xt):Prop where
 keep:∀b o,h.get? b=some o->H b=none->b ∉ fs->b ∉ ex->h'.get? b=some o
 slot:∀b o,h.get? b=some o->H b=none->b∈fs->b ∉ ex->∃sl,h'.get? b=some { o with slots:=sl }
 free:∀b o,h.get? b=some o->H b=none->b ∉ ex->H' b=none
 there:∀b o,h.get? b=some o->b ∉ ex->∃o',h'.get? b=some o'
 tups:∀b xs,H b=some (.tup xs)->H' b=some (.tup xs)
 frzs:∀b o u,H b=some (.frz o u)->H' b=some (.frz o u)
 tbls:∀b ps,H b=some (.tbl ps)->∃more,H' b=some (.tbl (ps++more))
section
variable {fs fs' ex ex':List wa}{H H1 H2:Hp}{h h1 h2 h':xt}{a x e:wa}{o:HO}
theorem Un.any(u:Un fs ex H H1 h h1){ob:Obj}(q:h.get? b=some ob)(n:H b=none)(hx:b ∉ ex):∃sl,h1.get? b=some { ob with slots:=sl }:=by
 by_cases hb:b∈fs;exact u.slot b ob q n hb hx;exact#[ob.slots,u.keep b ob q n hb hx]
theorem Un.kept(k:∀b u,h.get? b=some u->h'.get? b=some u):Un fs ex H H h h':=
 #[λb ob q _ _ _=>k b ob q,λb ob q _ _ _=>#[ob.slots,k b ob q],λ_ _ _ n _=>n,λb ob q _=>#[ob,k b ob q],λ_ _ q=>q,λ_ _ _ q=>q,λ_ ps q=>#[(ϋ []),by rw[q];simp]]
theorem Un.refl:Un fs ex H H h h:=Un.kept λ_ _ q=>q
theorem Un.laid(k:∀b u,h.get? b=some u->h'.get? b=some u)(hp:h.objs.size<=a)(hn:H a=none):Un fs ex H (upd H a o) h h' where
 keep:=λb u q _ _ _=>k b u q
 slot:=λb u q _ _ _=>#[u.slots,k b u q]
 free:=λb u q n _=>by rw[AE (bi (ba (af q) hp))];exact n
 there:=λb u q _=>#[u,k b u q]
 tups:=λb xs q=>by rw[AE (BW q hn)];exact q
 frzs:=λb u xs q=>by rw[AE (BW q hn)];exact q
 tbls:=λb ps q=>#[(ϋ []),by rw[AE (BW q hn),q];simp]
theorem Un.write(mu:Mut (H x))(he:e=x\/H e=some (.own x))(k:∀b u,b≠e->h.get? b=some u->h'.get? b=some u)(heo:∃u,h'.get? e=some u):Un fs ex H (upd H x o) h h':=by
 have hx:∀b,H b=none->b≠x:=λb n z=>by subst z;rw[n] at mu;exact mu
 have hb:∀b,H b=none->b≠e:=λb n z=>by
   subst z;rcases he with r | r
   exact hx b n r;rw[n] at r;cases r
 have hm:∀b u,H b=some u->¬Mut (some u)->b≠x:=λb u q nm z=>by subst z;rw[q] at mu;exact nm mu
 refine#[λb u q n _ _=>k b u (hb b n) q,λb u q n _ _=>#[u.slots,k b u (hb b n) q],λb u q n _=>by rw[AE (hx b n)];exact n,λb u q _=>?_,
   λb xs q=>by rw[AE (hm b _ q λz=>z)];exact q,λb u xs q=>by rw[AE (hm b _ q λz=>z)];exact q,λb ps q=>#[(ϋ []),by rw[AE (hm b _ q λz=>z),q];simp]]
 by_cases hbe:b=e;subst hbe;exact heo;exact#[u,k b u hbe q]
end
def trk(h:xt)(H:Hp):List wa:=(cq h.objs.size).filter λa=>(H a).isSome
def zp(h:xt)(H:Hp):xt:=PySem.W.hideAll h (trk h H)
theorem jV(h:xt)(H:Hp):(zp h H).objs.size=h.objs.size:=PySem.W.hideAll_size _ _
theorem jW(e:h.get? b=some o)(n:H b=none):(zp h H).get? b=some o:=
 PySem.W.hideAll_get _ e λhm=>by
   have q:(H b).isSome=true:=(ib.mp hm).2;rw[n] at q;simp at q
theorem jX(e:(zp h H).get? b=some o):h.get? b=some o/\H b=none:=by
 have e':h.get? b=some o:=PySem.W.of_hideAll (trk h H) e;refine#[e',?_];cases q:H b with
 | none=>rfl
 | some x=>
   have hm:b∈trk h H:=ib.mpr #[jv.mpr (af e'),by simp [q]];have z:(zp h H).get? b=none:=PySem.W.hideAll_none (trk h H) hm;rw[z] at e;cases e
def jY(g h:xt)(L:wa):List (wa×Obj):=(cq h.objs.size).filterMap λa=>if a=L\/(g.get? a).isSome=true then none else (h.get? a).map λo=>(a,o)
def yV(g h:xt)(L d:wa):List (wa×Obj):=(jY g h L).filter λp=>decide (p.1≠d)
structure Mod(K:δ)(mg:Str->Option vz)(base:xt):Prop where
 kin:K.In base
 glob:base.Ns xg mg
 blt:∃mb,base.Ns builtinsNs mb/\∀x:Str,x≠"__name__"->mb x=bootBuiltins x
 nolimit:base.NoLimit
structure Cx where
 prog:we
 w:wf
 K:δ
 mg:Str->Option vz
 base:xt
 A:wg
 N:List Str
 s₀:wb
 H₀:Hp
 env:xu
 outer:List xu
 stack:List xu
 ex:List wa
 fn:Str->Bool
 calm:Bool
 pn:List (wa×Obj)
 xe:vz->wb->Prop
variable{X:Cx}
def frs(l:List xu):List wa:=l.filterMap (·.frame)
abbrev Cx.fs(X:Cx):List wa:=frs X.outer
def Vis(sc:wm)(x:Str):Prop:=sc.names.lookup x=some .local\/sc.names.lookup x=some .cell\/sc.names.lookup x=some .free
def Loc(sc:wm)(x:Str):Prop:=sc.names.lookup x=some .local\/sc.names.lookup x=some .cell
def Look(env:xu)(h:xt)(m:Str->Option vz)(x:Str)(u:vz):Prop:=
 (env.kindOf x=some .local/\m x=some u)\/((env.kindOf x=some .cell\/env.kindOf x=some .free)/\∃c,env.cells.lookup x=some c/\h.IsCell c (some u))
structure Cx.Ok(X:Cx):Prop where
 mod:Mod X.K X.mg X.base
 kind:X.env.scope.kind = .function
 glob:X.env.globals=xg
 blt:X.env.builtins=builtinsNs
 above:X.s₀.heap.objs.size<=X.env.locals
 inj:∀x y c,X.env.cells.lookup x=some c->X.env.cells.lookup y=some c->x=y
 has:∀x,(X.env.kindOf x=some .cell\/X.env.kindOf x=some .free)->∃c,X.env.cells.lookup x=some c
 cab:∀x c,X.fn x=true->X.env.cells.lookup x=some c->X.s₀.heap.objs.size<=c
 hd:X.calm=true->X.A.handled=none
 frames:X.A.frames=some X.stack
 stk:X.stack=X.outer\/(X.stack=X.env::X.outer/\X.env.frame=some X.env.locals)
 exf:∀b∈X.ex,b≠X.env.locals/\∀x c,X.env.cells.lookup x=some c->c≠b
 bs:∀b o,X.base.get? b=some o->X.s₀.heap.get? b=some o/\X.H₀ b=none
 bsz:X.base.objs.size<=X.s₀.heap.objs.size
 noex:∀b o,X.base.get? b=some o->b ∉ X.ex
 exfs:∀b∈X.ex,b ∉ X.fs
 funs:X.s₀.heap.FunFrames X.base X.outer
 frf:∀b∈X.fs,X.H₀ b=none
structure Inv(X:Cx)(ϊ:List (wa×Obj))(σ:List (Option V))(H:Hp)(s:wb):Prop where
 ok:X.Ok
 os:s.os=X.s₀.os
 bare:AllBare s.gens
 base:Un X.fs X.ex X.H₀ H X.s₀.heap s.heap
 loc:∃m,s.heap.Ns X.env.locals m/\∀(i:Nat)(x:Str)(v:V),X.N[i]?=some x->σ[i]?=some (some v)->Vis X.env.scope x->∃u,RelV v u/\Look X.env s.heap m x u
 cell:∀x c,X.env.cells.lookup x=some c->∃v,s.heap.IsCell c v
 free:H X.env.locals=none
 freeC:∀x c,X.env.cells.lookup x=some c->H c=none
 pin:∀p∈X.pn++ϊ,s.heap.get? p.1=some p.2/\H p.1=none/\p.1≠X.env.locals/\p.1 ∉ X.fs/\∀v,p.2.data≠.cell v
 hok:HOk X.prog X.w H s.heap
 len:σ.length=X.N.length
section
variable {X:Cx}{ϊ:List (wa×Obj)}{σ:List (Option V)}{H H':Hp}{s:wb}{h':xt}
theorem Cx.Ok.nofr(ok:X.Ok)(e:X.base.get? b=some o):b ∉ X.fs:=λhb=>by
 have:=(ok.funs.mem hb).1;rw[e] at this;cases this
theorem Inv.bs(I:Inv X ϊ σ H s):∀b o,X.base.get? b=some o->s.heap.get? b=some o/\H b=none:=λb o e=>
 #[I.base.keep b o (I.ok.bs b o e).1 (I.ok.bs b o e).2 (I.ok.nofr e) (I.ok.noex b o e),I.base.free b o (I.ok.bs b o e).1 (I.ok.bs b o e).2 (I.ok.noex b o e)]
theorem Inv.bk(I:Inv X ϊ σ H s):∀b o,X.base.get? b=some o->s.heap.get? b=some o:=λb o e=>(I.bs b o e).1
theorem Inv.mod(I:Inv X ϊ σ H s):Mod X.K X.mg X.base:=I.ok.mod
theorem Inv.kIn(I:Inv X ϊ σ H s):X.K.In s.heap:=I.ok.mod.kin.keeps I.bk
theorem Inv.lt(I:Inv X ϊ σ H s):X.env.locals<s.heap.objs.size:=let ⟨_,hn,_⟩:=I.loc;hn.lt
theorem Inv.sz(I:Inv X ϊ σ H s):X.s₀.heap.objs.size<=s.heap.objs.size:=cr I.ok.above (gh I.lt)
theorem Inv.nofs(I:Inv X ϊ σ H s)(h:s.heap.objs.size<=a):a ∉ X.fs:=λhb=>by
 obtain⟨_,o,ho,_⟩:=I.ok.funs.mem hb;exact xb0 (ba (af ho) (cr I.sz h)) (cv _)
theorem Inv.cne(I:Inv X ϊ σ H s):∀x c,X.env.cells.lookup x=some c->c≠X.env.locals:=λx c e z=>by
 obtain⟨v,o,ho,hd⟩:=I.cell x c e;obtain⟨m,⟨o',es,ep,ho',hd',_⟩,_⟩:=I.loc;rw[z,ho'] at ho;cases ho;rw[hd'] at hd;cases hd
theorem Inv.funs(I:Inv X ϊ σ H s):s.heap.FunFrames X.base X.outer:=by
 have all:∀(l:List xu),(∀b∈frs l,b∈X.fs)->X.s₀.heap.FunFrames X.base l->s.heap.FunFrames X.base l:=by
   intro l
   induction l with
   | nil=>intro _ _;trivial
   | cons env r ih=>
     intro hs hl;obtain⟨hk,⟨L,o,hf,hn,ho,hd⟩,hr⟩:=hl;have hL:L∈X.fs:=hs L (by unfold frs;rw[kj,hf];exact η);obtain⟨sl,e⟩:=I.base.slot L o ho (I.ok.frf L hL) hL λz=>I.ok.exfs L z hL;exact#[hk,#[L,_,hf,hn,e,hd],ih (λb hb=>hs b (by unfold frs;rw[kj,hf];exact ι _ hb)) hr]
 exact all X.outer (λ_ hb=>hb) I.ok.funs
theorem Inv.stack(I:Inv X ϊ σ H s):s.heap.FunFrames X.base X.stack:=by
 rcases I.ok.stk with e | ⟨e,hf⟩
 rw[e];exact I.funs;rw[e];obtain⟨m,hn,_⟩:=I.loc;refine .cons (by rw[I.ok.kind];decide) hf hn ?_ I.funs;exact ff (cr I.ok.bsz I.ok.above)
theorem Inv.stkSub(I:Inv X ϊ σ H s):∀b∈frs X.stack,b∈X.env.locals::X.fs:=λb hb=>by
 rcases I.ok.stk with e | ⟨e,hf⟩
 rw[e] at hb;exact ι _ hb;rw[e] at hb;unfold frs at hb;rw[kj,hf] at hb;exact hb
theorem Inv.stkFree(I:Inv X ϊ σ H s):∀b∈frs X.stack,H b=none:=λb hb=>by
 rcases Ξ.mp (I.stkSub b hb) with e | hb
 rw[e];exact I.free;obtain⟨_,o,ho,_⟩:=I.ok.funs.mem hb;exact I.base.free b o ho (I.ok.frf b hb) λz=>I.ok.exfs b z hb
theorem Inv.step{d':xj}(I:Inv X ϊ σ H s)
   (hch:∀b∈ch,(b∈X.ex\/X.s₀.heap.objs.size<=b)/\b≠X.env.locals/\(∀x c,X.env.cells.lookup x=some c->c≠b)/\∀p∈X.pn++ϊ,p.1≠b)
   (keep:∀b o,b≠X.env.locals->b ∉ X.fs->b ∉ ch->s.heap.get? b=some o->H b=none->h'.get? b=some o)
   (slot:∀b o,b≠X.env.locals->b∈X.fs->b ∉ ch->s.heap.get? b=some o->H b=none->∃sl,h'.get? b=some { o with slots:=sl }) (free:∀b o,b ∉ ch->s.heap.get? b=some o->H b=none->H' b=none)
   (there:∀b o,b ∉ ch->s.heap.get? b=some o->∃o',h'.get? b=some o')
   (tups:∀b xs,H b=some (.tup xs)->H' b=some (.tup xs)) (frzs:∀b o u,H b=some (.frz o u)->H' b=some (.frz o u)) (tbls:∀b ps,H b=some (.tbl ps)->∃more,H' b=some (.tbl (ps++more)))
   (ns:∀m,s.heap.Ns X.env.locals m->h'.Ns X.env.locals m) (hok:HOk X.prog X.w H' h') (hg:AllBare g'):
   Inv X ϊ σ H' { s with heap:=h',gens:=g',drawn:=d',toks:=t' }:=by
 have neL:∀b o,X.s₀.heap.get? b=some o->b≠X.env.locals:=λb o e=>bi (ba (af e) I.ok.above);have neC:∀b o,X.s₀.heap.get? b=some o->b ∉ X.ex->b ∉ ch:=λb o e hx hb=>by
   rcases(hch b hb).1 with z | z
   exact hx z;exact xb0 (ba (af e) z) (cv _)
 have cellK:∀x c,X.env.cells.lookup x=some c->∀v,s.heap.IsCell c v->h'.IsCell c v:=λx c e v ⟨o,ho,hd⟩=>by
   have nch:c ∉ ch:=λz=>(hch c z).2.2.1 x c e rfl;by_cases hc:c∈X.fs;obtain⟨sl,q⟩:=slot c o (I.cne x c e) hc nch ho (I.freeC x c e);exact#[_,q,hd];exact#[o,keep c o (I.cne x c e) hc nch ho (I.freeC x c e),hd]
 refine#[I.ok,I.os,hg,#[λb o e n hb hx=>?_,λb o e n hb hx=>?_,λb o e n hx=>?_,λb o e hx=>?_,λb xs e=>tups b xs (I.base.tups b xs e),λb o xs e=>frzs b o xs (I.base.frzs b o xs e),λb ps e=>?_],?_,λx c e=>?_,?_,λx c e=>?_,λp hp=>?_,hok,I.len];exact keep b o (neL b o e) hb (neC b o e hx) (I.base.keep b o e n hb hx) (I.base.free b o e n hx);obtain⟨sl,e1⟩:=I.base.slot b o e n hb hx;obtain⟨sl',e2⟩:=slot b _ (neL b o e) hb (neC b o e hx) e1 (I.base.free b o e n hx);exact#[sl',e2];obtain⟨o',e1⟩:=I.base.there b o e hx;exact free b o' (neC b o e hx) e1 (I.base.free b o e n hx);obtain⟨o',e1⟩:=I.base.there b o e hx;exact there b o' (neC b o e hx) e1;obtain⟨m1,e1⟩:=I.base.tbls b ps e;obtain⟨m2,e2⟩:=tbls b _ e1;exact#[m1++m2,by rw[e2,Array.append_assoc]];obtain⟨m,hn,hl⟩:=I.loc;refine#[m,ns m hn,λi x v e1 e2 e3=>?_];obtain⟨u,r,l⟩:=hl i x v e1 e2 e3;refine#[u,r,?_];rcases l with l | ⟨k,c,e,z⟩
 exact .inl l;exact .inr #[k,c,e,cellK x c e _ z];obtain⟨v,z⟩:=I.cell x c e;exact#[v,cellK x c e v z];obtain⟨m,⟨o,_,_,ho,_⟩,_⟩:=I.loc;exact free _ o (λz=>(hch _ z).2.1 rfl) ho I.free;obtain⟨v,o,ho,hd⟩:=I.cell x c e;exact free c o (λz=>(hch c z).2.2.1 x c e rfl) ho (I.freeC x c e);obtain⟨e,n,ne,nf,d⟩:=I.pin p hp;have nch:p.1 ∉ ch:=λz=>(hch p.1 z).2.2.2 p hp rfl;exact#[keep p.1 p.2 ne nf nch e n,free p.1 p.2 nch e n,ne,nf,d]
theorem Inv.un(I:Inv X ϊ σ H s)(u:Un X.fs [] H H' s.heap h')(hok:HOk X.prog X.w H' h'):Inv X ϊ σ H' { s with heap:=h',toks:=t' }:=by
 obtain⟨m,⟨o,es,ep,ho,r⟩,_⟩:=id I.loc;obtain⟨sl,hL⟩:=u.any ho I.free f!"";exact I.step (g':=s.gens) (d':=s.drawn) (ch:=[]) (λ_ z=>nomatch z) (λb o _ hb _ e n=>u.keep b o e n hb f!"") (λb o _ hb _ e n=>u.slot b o e n hb f!"") (λb o _ e n=>u.free b o e n f!"") (λb o _ e=>u.there b o e f!"") u.tups u.frzs u.tbls (λm' hm=>by
   obtain⟨o',es',ep',ho',r'⟩:=hm;rw[ho] at ho';cases ho';exact#[_,es',ep',hL,r']) hok I.bare
theorem Inv.call{d':xj}(I:Inv X ϊ σ H s)(u:Un (frs X.stack) ch H H' s.heap h')(hok:HOk X.prog X.w H' h')(hg:AllBare g')
   (hch:∀b∈ch,(b∈X.ex\/X.s₀.heap.objs.size<=b)/\b≠X.env.locals/\(∀x c,X.env.cells.lookup x=some c->c≠b)/\∀p∈X.pn++ϊ,p.1≠b):
   Inv X ϊ σ H' { s with heap:=h',gens:=g',drawn:=d',toks:=t' }:=by
 obtain⟨m,⟨o,es,ep,ho,r⟩,_⟩:=id I.loc;obtain⟨sl,hL⟩:=u.any ho I.free λz=>(hch _ z).2.1 rfl;exact I.step (ch:=ch) hch (λb o hL hb hc e n=>u.keep b o e n (λz=>(Ξ.mp (I.stkSub b z)).elim hL hb) hc) (λb o _ _ hc e n=>u.any e n hc) (λb o hc e n=>u.free b o e n hc) (λb o hc e=>u.there b o e hc) u.tups u.frzs u.tbls (λm' hm=>by
   obtain⟨o',es',ep',ho',r'⟩:=hm;rw[ho] at ho';cases ho';exact#[_,es',ep',hL,r']) hok hg
theorem Inv.turned{it:wa}(I:Inv X ϊ σ H s)(k:∀b o,b≠it->s.heap.get? b=some o->h'.get? b=some o)(hn:H it=none)(hL:it≠X.env.locals)
   (h1:it∈X.ex\/X.s₀.heap.objs.size<=it) (h2:∀x c,X.env.cells.lookup x=some c->c≠it) (h3:∀p∈X.pn++ϊ,p.1≠it):Inv X ϊ σ H { s with heap:=h',toks:=t' }:=by
 have nit:∀b u,H b=some u->b≠it:=λb u e z=>by rw[z,hn] at e;cases e
 refine I.step (g':=s.gens) (d':=s.drawn) (ch:=[it]) (λb hb=>?_) (λb o _ _ hc e _=>k b o (λz=>hc (by simp [z])) e) (λb o _ _ hc e _=>#[o.slots,k b o (λz=>hc (by simp [z])) e]) (λ_ _ _ _ n=>n)
   (λb o hc e=>#[o,k b o (λz=>hc (by simp [z])) e]) (λ_ _ e=>e) (λ_ _ _ e=>e) (λb ps e=>#[(ϋ []),by rw[e];simp]) (λm hm=>?_) (λb u e=>?_) I.bare
 have e:b=it:=by simpa using hb
 subst e;exact#[h1,hL,h2,h3];obtain⟨o,es,ep,ho,r⟩:=hm;exact#[o,es,ep,k _ o (fh hL) ho,r];refine(I.hok b u e).stay (λc v hc q=>k c v ?_ q) (λ_ q=>q) λ_ _ q=>q;rcases hc with z | z
 rw[z];exact nit b u e;exact nit c _ z
theorem Inv.tok(I:Inv X ϊ σ H s)(t:Nat):Inv X ϊ σ H { s with toks:=t }:=I.un (h':=s.heap) (t':=t) Un.refl I.hok
theorem Inv.kept{t':Nat}(I:Inv X ϊ σ H s)(k:∀b u,s.heap.get? b=some u->h'.get? b=some u):Inv X ϊ σ H { s with heap:=h',toks:=t' }:=I.un (Un.kept k) (I.hok.kept k)
theorem Inv.laid{a:wa}{o:HO}{t':Nat}(I:Inv X ϊ σ H s)(k:∀b u,s.heap.get? b=some u->h'.get? b=some u)(hp:s.heap.objs.size<=a)(new:Bc X.prog X.w (upd H a o) h' a o):
   Inv X ϊ σ (upd H a o) { s with heap:=h',toks:=t' }:=I.un (Un.laid k hp (I.hok.fresh hp)) (I.hok.laid k hp new)
theorem Inv.write{x e:wa}{o:HO}{t':Nat}(I:Inv X ϊ σ H s)(mu:Mut (H x))(he:e=x\/H e=some (.own x))(k:∀b u,b≠e->s.heap.get? b=some u->h'.get? b=some u)(heo:∃u,h'.get? e=some u)
   (new:Bc X.prog X.w (upd H x o) h' x o):Inv X ϊ σ (upd H x o) { s with heap:=h',toks:=t' }:=I.un (Un.write mu he k heo) (I.hok.write mu he k heo new)
theorem Inv.pins_of(I:Inv X ϊ σ H s)(h:∀p∈pins',s.heap.get? p.1=some p.2/\H p.1=none/\p.1≠X.env.locals/\p.1 ∉ X.fs/\∀v,p.2.data≠.cell v):Inv X pins' σ H s:=
 #[I.ok,I.os,I.bare,I.base,I.loc,I.cell,I.free,I.freeC,λp hp=>(ν.mp hp).elim (λz=>I.pin p (π _ z)) (h p),I.hok,I.len]
theorem Ti(hN:N.Nodup){j:Nat}(a:N[i]?=some x)(b:N[j]?=some x):i=j:=by
 obtain⟨h1,e1⟩:=γ.mp a;obtain⟨h2,e2⟩:=γ.mp b;exact(List.getElem_inj hN).mp (e1.trans e2.symm)
theorem ZR{Q:Unit->wb->Prop}(I:Inv X ϊ σ H s)(hN:X.N.Nodup)(hi:X.N[i]?=some x)(hx:Loc X.env.scope x)(r:RelV v u)
   (h:∀s',Inv X ϊ (σ.set i (some v)) H s'->(∃a,df a s.heap s'.heap/\(a=X.env.locals\/X.env.cells.lookup x=some a))->Q () s') (hf:X.fn x=true\/X.env.scope.names.lookup x=some .local:=by first | exact .inl rfl | exact .inr rfl | assumption):wx M A (storeName X.env x u) Q E s:=by
 obtain⟨m,hn,hl⟩:=id I.loc;have hcls:(X.env.scope.kind==.class||(X.env.scope.kind==.module&&X.env.locals != X.env.globals))=false:=by rw[I.ok.kind];rfl
 have hiσ:i<σ.length:=by rw[I.len];exact(γ.mp hi).1
 have cne:=I.cne;have tracked:∀{a:wa}{h':xt},(∃o,s.heap.get? a=some o/\H a=none)->df a s.heap h'->HOk X.prog X.w H h':=λ{a h'} ha hs b ob e=>by
   obtain⟨_,_,hfree⟩:=ha;refine(I.hok b ob e).stay (λc w' hc q=>(hs.2 c ?_).trans q) (λ_ q=>q) λ_ _ q=>q;rintro rfl;rcases hc with rfl | hc
   rw[hfree] at e;cases e;rw[hfree] at hc;cases hc
 rcases hx with hk | hk
 refine wpAny_storeName_local hk hn (λh' hn' hs=>?_) hcls;obtain⟨oL,_,_,hoL,_⟩:=id hn;refine h _ #[I.ok,I.os,I.bare,#[λb o e n hb hx=>?_,λb o e n hb hx=>?_,I.base.free,λb o e hx=>?_,I.base.tups,I.base.frzs,I.base.tbls],#[_,hn',λj y v' e1 e2 e3=>?_],λy c e=>?_,I.free,I.freeC,λp hp=>?_,tracked #[oL,hoL,I.free] hs,by simpa using I.len] #[_,hs,.inl rfl];exact(hs.2 b (bi (ba (af e) I.ok.above))).trans (I.base.keep b o e n hb hx);obtain⟨sl,e1⟩:=I.base.slot b o e n hb hx;exact#[sl,(hs.2 b (bi (ba (af e) I.ok.above))).trans e1];obtain⟨o',e1⟩:=I.base.there b o e hx;exact#[o',(hs.2 b (bi (ba (af e) I.ok.above))).trans e1];by_cases hj:j=i;subst hj;rw[hi] at e1;cases e1;rw[ai hiσ] at e2;cases e2;exact#[u,r,.inl #[hk,f!""]];rw[ag (fh hj)] at e2;obtain⟨u',r',q⟩:=hl j y v' e1 e2 e3;refine#[u',r',?_];rcases q with ⟨k,e⟩ | ⟨k,c,e,z⟩
 refine .inl #[k,?_];have:y≠x:=λe=>hj (Ti hN e1 (e▸hi));simp [this,e];exact .inr #[k,c,e,z.sameBut hs (cne y c e)];obtain⟨w',z⟩:=I.cell y c e;exact#[w',z.sameBut hs (cne y c e)];obtain⟨e,n,ne,nf,d⟩:=I.pin p hp;exact#[(hs.2 p.1 ne).trans e,n,ne,nf,d];have hfn:X.fn x=true:=by
   rcases hf with z | z
   exact z;rw[z] at hk;cases hk
 obtain⟨c,hc⟩:=I.ok.has x (.inl hk);obtain⟨w',z⟩:=I.cell x c hc;refine wpAny_storeName_cell I.ok.kind hk hc z (λh' hc' hs=>?_);obtain⟨oc,hoc,hocd⟩:=id z;refine h { s with heap:=h' } #[I.ok,I.os,I.bare,#[λb o e n hb hx=>?_,λb o e n hb hx=>?_,I.base.free,λb o e hx=>?_,I.base.tups,I.base.frzs,I.base.tbls],#[m,hn.sameBut hs (fh (cne x c hc)),λj y v' e1 e2 e3=>?_],λy c' e=>?_,I.free,I.freeC,λp hp=>?_,tracked #[oc,hoc,I.freeC x c hc] hs,by simpa using I.len] #[c,hs,.inr hc];exact(hs.2 b (bi (ba (af e) (I.ok.cab x c hfn hc)))).trans (I.base.keep b o e n hb hx);obtain⟨sl,e1⟩:=I.base.slot b o e n hb hx;exact#[sl,(hs.2 b (bi (ba (af e) (I.ok.cab x c hfn hc)))).trans e1];obtain⟨o',e1⟩:=I.base.there b o e hx;exact#[o',(hs.2 b (bi (ba (af e) (I.ok.cab x c hfn hc)))).trans e1];by_cases hj:j=i;subst hj;rw[hi] at e1;cases e1;rw[ai hiσ] at e2;cases e2;exact#[u,r,.inr #[.inl hk,c,hc,hc']];rw[ag (fh hj)] at e2;obtain⟨u',r',q⟩:=hl j y v' e1 e2 e3;refine#[u',r',?_];rcases q with q | ⟨k,c',e,z'⟩
 exact .inl q;refine .inr #[k,c',e,z'.sameBut hs ?_];rintro rfl;exact hj (Ti hN e1 (I.ok.inj _ _ _ e hc▸hi));by_cases hcc:c'=c;subst hcc;exact#[_,hc'];obtain⟨w2,z2⟩:=I.cell y c' e;exact#[w2,z2.sameBut hs hcc];obtain⟨e,n,ne,nf,d⟩:=I.pin p hp;refine#[(hs.2 p.1 ?_).trans e,n,ne,nf,d];intro q;rw[q,hoc] at e;have q':oc=p.2:=Θ e;exact d w' (by rw[<-q'];exact hocd)
theorem QB{Q:Unit->wb->Prop}(I:Inv X ϊ σ H s)(hN:X.N.Nodup)(hi:X.N[i]?=some x)(hx:Loc X.env.scope x)(r:RelV v u)
   (h:∀s',Inv X ϊ (σ.set i (some v)) H s'->Q () s') (hf:X.fn x=true\/X.env.scope.names.lookup x=some .local:=by first | exact .inl rfl | exact .inr rfl | assumption):wx M A (storeName X.env x u) Q E s:=
 ZR I hN hi hx r (λs' I' _=>h s' I') hf
theorem Inv.call'{s':wb}(I:Inv X ϊ σ H s)(ho:s'.os=s.os)(u:Un (frs X.stack) ch H H' s.heap s'.heap)(hok:HOk X.prog X.w H' s'.heap)(hg:AllBare s'.gens)
   (hch:∀b∈ch,(b∈X.ex\/X.s₀.heap.objs.size<=b)/\b≠X.env.locals/\(∀x c,X.env.cells.lookup x=some c->c≠b)/\∀p∈X.pn++ϊ,p.1≠b):Inv X ϊ σ H' s':=by
 obtain⟨h',g',d',t',o'⟩:=s';have e:o'=s.os:=ho;subst e;exact I.call (g':=g') (t':=t') (d':=d') u hok hg hch
end
abbrev XK:=vz->Option wa->Hp->Prop
abbrev St:=List (Option V)
variable{σ:St}
abbrev VK:=V->Hp->Prop
abbrev TE:=St->Hp->VK->Prop
variable{t:TE}
abbrev TT:=St->Hp->(Bool->Hp->Prop)->Prop
abbrev TA:=St->Hp->(List V->Hp->Prop)->Prop
structure Ends where
 nx:St->Hp->Prop
 rt:VK
 bk:St->Hp->Prop:=λ_ _=>False
 ct:St->Hp->Prop:=λ_ _=>False
abbrev TS:=Ends->St->Hp->Prop
variable{tb:TS}
def EP(X:Cx)(ϊ:List (wa×Obj))(σ:St)(Q:VK)(u:vz)(s':wb):Prop:=∃v H',Inv X ϊ σ H' s'/\RelV v u/\Q v H'
def TP(X:Cx)(ϊ:List (wa×Obj))(σ:St)(Q:Bool->Hp->Prop)(b:Bool)(s':wb):Prop:=∃H',Inv X ϊ σ H' s'/\Q b H'
def AP(X:Cx)(ϊ:List (wa×Obj))(σ:St)(Q:List V->Hp->Prop)(us:List vz)(s':wb):Prop:=∃vs H',Inv X ϊ σ H' s'/\Vals vs us/\Q vs H'
def SP(X:Cx)(ϊ:List (wa×Obj))(D:Ends)(f:Flow)(s':wb):Prop:=
 match f with
 | .next=>∃σ' H',Inv X ϊ σ' H' s'/\D.nx σ' H'
 | .brk=>∃σ' H',Inv X ϊ σ' H' s'/\D.bk σ' H'
 | .cont=>∃σ' H',Inv X ϊ σ' H' s'/\D.ct σ' H'
 | .ret u=>∃v σ' H',Inv X ϊ σ' H' s'/\RelV v u/\D.rt v H'
def PE(X:Cx)(e:wk)(t:TE):Prop:=
 ∀(ϊ:List (wa×Obj)) (s:wb) (σ:St) (H:Hp) (Q:VK),Inv X ϊ σ H s->t σ H Q->wx (xl X.prog X.w) X.A (xk e X.env) (EP X ϊ σ Q) X.xe s
def PT(X:Cx)(e:wk)(t:TT):Prop:=
 ∀(ϊ:List (wa×Obj)) (s:wb) (σ:St) (H:Hp) (Q:Bool->Hp->Prop),Inv X ϊ σ H s->t σ H Q->wx (xl X.prog X.w) X.A (isTrue e X.env (xk e X.env)) (TP X ϊ σ Q) X.xe s
def PW(X:Cx)(e:wk)(t:TT):Prop:=
 ∀(whole:xq vz) (ϊ:List (wa×Obj)) (s:wb) (σ:St) (H:Hp) (Q:Bool->Hp->Prop),Inv X ϊ σ H s->t σ H Q->wx (xl X.prog X.w) X.A (isTrue e X.env whole) (TP X ϊ σ Q) X.xe s
theorem PW.pt{t:TT}(h:PW X e t):PT X e t:=h _
def PA(X:Cx)(es:List wk)(t:TA):Prop:=
 ∀(pos:Pos) (ϊ:List (wa×Obj)) (s:wb) (σ:St) (H:Hp) (Q:List V->Hp->Prop),Inv X ϊ σ H s->t σ H Q->wx (xl X.prog X.w) X.A (spliced (wz pos (wo es X.env))) (AP X ϊ σ Q) X.xe s
def PS(X:Cx)(st:wl)(t:TS):Prop:=
 ∀(ϊ:List (wa×Obj)) (s:wb) (σ:St) (H:Hp) (D:Ends),Inv X ϊ σ H s->t D σ H->wx (xl X.prog X.w) X.A (exec st X.env) (SP X ϊ D) X.xe s
def PSs(X:Cx)(st:List wl)(t:TS):Prop:=
 ∀(ϊ:List (wa×Obj)) (s:wb) (σ:St) (H:Hp) (D:Ends),Inv X ϊ σ H s->t D σ H->wx (xl X.prog X.w) X.A (execs st X.env) (SP X ϊ D) X.xe s
theorem thn{α:Type}{t:xq α}{Q Q':α->wb->Prop}(h:wx M A t Q E s)(hQ:∀a s,Q a s->Q' a s):wx M A t Q' E s:=ww h hQ λ_ _ x=>x
section
variable {X:Cx}
theorem bin{a b:wk}{ta tb:TE}(ha:PE X a ta)(hb:PE X b tb)(I:Inv X ϊ σ H s)(h:ta σ H λx H1=>tb σ H1 λy H2=>R x y H2)
   {α:Type} {Q:α->wb->Prop} {f:vz->vz->xq α}
   (hf:∀v u s2 x y H2,Inv X ϊ σ H2 s2->RelV x v->RelV y u->R x y H2->wx (xl X.prog X.w) X.A (f v u) Q X.xe s2):
   wx (xl X.prog X.w) X.A (xk a X.env) (λv s₁=>wx (xl X.prog X.w) X.A (xk b X.env) (λu s₂=>wx (xl X.prog X.w) X.A (f v u) Q X.xe s₂) X.xe s₁) X.xe s:=by
 refine thn (ha ϊ s σ H _ I h) λv s1 hZ=>?_;obtain⟨x,H1,I1,r1,q1⟩:=hZ;refine thn (hb ϊ s1 σ H1 _ I1 q1) λu s2 hZ=>?_;obtain⟨y,H2,I2,r2,q2⟩:=hZ;exact hf v u s2 x y H2 I2 r1 r2 q2
def tVar(i:Nat):TE:=λσ H Q=>∃v,σ[i]?=some (some v)/\Q v H
def tC(v:V):TE:=λ_ H Q=>Q v H
theorem O_(hN:X.N[i]?=some x)(hv:Vis X.env.scope x)(hd:(x==("__debug__":Str))=false:=by decide)(hcd:(x==("__classdict__":Str))=false:=by decide):PE X (.Name x pos) (tVar i):=by
 intro ϊ s σ H Q I h;obtain⟨v,e,h⟩:=h;obtain⟨m,hn,hl⟩:=I.loc;obtain⟨u,r,l⟩:=hl i x v hN e hv;have fin:EP X ϊ σ Q u s:=#[v,H,I,r,h]
 rcases l with ⟨hk,hm⟩ | ⟨hk,c,hc,hcell⟩
 exact wpAny_Name (wpAny_loadName_local I.ok.kind hk hn hm fin) hd;rcases hk with hk | hk
 exact wpAny_Name (wpAny_loadName_cell I.ok.kind hk hc hcell fin) hd;exact wpAny_Name (wpAny_loadName_free I.ok.kind hk hc hcell fin hcd) hd
theorem Ai{i j pos}:PE X (.Constant (.int i) j pos) (tC (.int i)):=λ_ _ _ H _ I h=>wpAny_Constant_int #[.int i,H,I.tok _,#[_,rfl],h]
theorem AV{b j pos}:PE X (.Constant (.bool b) j pos) (tC (.bl b)):=λ_ _ _ H _ I h=>Constant_bool #[.bl b,H,I,rfl,h]
theorem BH{j pos}:PE X (.Constant .none j pos) (tC .non):=λ_ _ _ H _ I h=>Constant_none #[.non,H,I,rfl,h]
theorem AG{x j pos}:PE X (.Constant (.str x) j pos) (tC (.str x)):=λ_ _ _ H _ I h=>Calls.Constant_str #[.str x,H,I.tok _,#[_,rfl],h]
def Gl(X:Cx)(x:Str):Prop:=X.env.kindOf x=some .globalImplicit
theorem Ep(I:Inv X ϊ σ H s)(hg:Gl X x)(hm:X.mg x=some u)(h:Q u s)
   (hd:(x==("__debug__":Str))=false:=by decide):wx (xl X.prog X.w) X.A (xk (.Name x pos) X.env) Q E s:=
 lb I.ok.kind hg (Calls.loadGlobal_global (by rw[I.ok.glob];exact I.mod.glob.keeps I.bk) hm h) hd
theorem QC(I:Inv X ϊ σ H s)(hg:Gl X x)(hm:X.mg x=none)(hv:bootBuiltins x=some u)(h:Q u s)
   (hn:x≠"__name__":=by decide) (hd:(x==("__debug__":Str))=false:=by decide):wx (xl X.prog X.w) X.A (xk (.Name x pos) X.env) Q E s:=by
 obtain⟨mb,h1,h2⟩:=I.mod.blt;exact lb I.ok.kind hg (Calls.loadGlobal_builtin (by rw[I.ok.glob];exact I.mod.glob.keeps I.bk) hm (by rw[I.ok.blt];exact h1.keeps I.bk) ((h2 x hn).trans hv) h) hd
theorem DQ(hg:Gl X x)(hm:X.mg x=some u)(r:RelV v u)(hd:(x==("__debug__":Str))=false:=by decide):PE X (.Name x pos) (tC v):=
 λ_ _ _ H _ I h=>Ep I hg hm #[v,H,I,r,h] hd
theorem KZ(hg:Gl X x)(hm:X.mg x=none)(hv:bootBuiltins x=some u)(r:RelV v u)(hn:x≠"__name__":=by decide)(hd:(x==("__debug__":Str))=false:=by decide):PE X (.Name x pos) (tC v):=
 λ_ _ _ H _ I h=>QC I hg hm hv #[v,H,I,r,h] hn hd
variable {a b:wk}{ta tb:TE}{pos:Pos}
def PC(X:Cx)(op:CmpOp)(a b:wk)(t:TE):Prop:=
 ∀(ϊ:List (wa×Obj)) (s:wb) (σ:St) (H:Hp) (Q:VK),Inv X ϊ σ H s->t σ H Q ->
   wx (xl X.prog X.w) X.A (xk a X.env) (λv s₁=>wx (xl X.prog X.w) X.A (xk b X.env) (λu s₂=>wx (xl X.prog X.w) X.A (xc op v u) (EP X ϊ σ Q) X.xe s₂) X.xe s₁) X.xe s
theorem jZ(b:wk)(h:op≠.In)(h2:op≠.NotIn):behindInMarks op b=false:=by
 have e1:(op==CmpOp.In)=false:=by cases op <;> first | rfl | exact xb0 rfl h
 have e2:(op==CmpOp.NotIn)=false:=by cases op <;> first | rfl | exact xb0 rfl h2
 cases b <;> simp [behindInMarks,e1,e2]
def tB(t:TE):TT:=λσ H Q=>t σ H λx H1=>∃c,x = .bl c/\Q c H1
theorem pt_cmp(h:PC X op a b t)(h1:behindInMarks op b=false:=by first | exact jZ _ m!"" m!"" | rfl):PT X (.Compare a [op] [b] pos) (tB t):=by
 intro ϊ s σ H Q I hw;refine wpAny_isTrue_Compare1 (thn (h ϊ s σ H _ I hw) λv s1 h1=>thn h1 λu s2 h2=>thn h2 λc s3 hZ=>?_) h1;obtain⟨x,H1,I1,r1,q1⟩:=hZ;obtain⟨d,rfl,q⟩:=q1;cases r1;exact xn #[H1,I1,q]
theorem BU(h:PE X e t)(he:∀whole,isTrue e X.env whole=(do let v <-whole;standAt e.pos;holding [v] (truthy v)):=by intro _;rfl):PT X e (tB t):=by
 intro ϊ s σ H Q I hw;refine isTrue_plain (thn (h ϊ s σ H _ I hw) λv s1 hZ=>?_) (he _);obtain⟨x,H1,I1,r1,q1⟩:=hZ;obtain⟨d,rfl,q⟩:=q1;cases r1;exact xn #[H1,I1,q]
variable {tA tB':TT}{yV:List wk}
def tAnd(t u:TT):TT:=λσ H Q=>t σ H λc H1=>if c=true then u σ H1 Q else Q false H1
def tOr(t u:TT):TT:=λσ H Q=>t σ H λc H1=>if c=true then Q true H1 else u σ H1 Q
def tNot(t:TT):TT:=λσ H Q=>t σ H λc H1=>Q (!c) H1
theorem DR(ha:PT X a tA):PW X (.BoolOp .And [a] pos) tA:=by
 intro wh ϊ s σ H Q I h;refine isTrue_and (thn (ha ϊ s σ H Q I h) λc s1 e=>?_);cases c with
 | true=>exact isTrue_and_nil e
 | false=>exact e
theorem BB(ha:PT X a tA):PW X (.BoolOp .Or [a] pos) tA:=by
 intro wh ϊ s σ H Q I h;refine isTrue_or (thn (ha ϊ s σ H Q I h) λc s1 e=>?_);cases c with
 | false=>exact isTrue_or_nil e
 | true=>exact e
theorem DL(ha:PT X a tA)(hb:PW X (.BoolOp .And (b::yV) pos) tB'):PW X (.BoolOp .And (a::b::yV) pos) (tAnd tA tB'):=by
 intro wh ϊ s σ H Q I h;refine isTrue_and (thn (ha ϊ s σ H _ I h) λc s1 hZ=>?_);obtain⟨H1,I1,q1⟩:=hZ;cases c with
 | true=>exact hb wh ϊ s1 σ H1 Q I1 q1
 | false=>exact#[H1,I1,q1]
theorem Bf(ha:PT X a tA)(hb:PW X (.BoolOp .Or (b::yV) pos) tB'):PW X (.BoolOp .Or (a::b::yV) pos) (tOr tA tB'):=by
 intro wh ϊ s σ H Q I h;refine isTrue_or (thn (ha ϊ s σ H _ I h) λc s1 hZ=>?_);obtain⟨H1,I1,q1⟩:=hZ;cases c with
 | true=>exact#[H1,I1,q1]
 | false=>exact hb wh ϊ s1 σ H1 Q I1 q1
theorem Bd(ha:PT X a tA):PT X (.UnaryOp .Not a pos) (tNot tA):=by
 intro ϊ s σ H Q I h;exact isTrue_not (ha ϊ s σ H (λc H1=>Q (!c) H1) I h)
def QD(ta tb:TE):TE:=λσ H Q=>ta σ H λx H1=>∃c,x = .bl c/\if c=true then tb σ H1 Q else Q (.bl false) H1
def ue0(ta tb:TE):TE:=λσ H Q=>ta σ H λx H1=>∃c,x = .bl c/\if c=true then Q (.bl true) H1 else tb σ H1 Q
def zR(ta:TE):TE:=λσ H Q=>ta σ H λx H1=>∃c,x = .bl c/\Q (.bl (!c)) H1
theorem HA{op}(h:PE X a t):PE X (.BoolOp op [a] pos) t:=λϊ s σ H Q I hw=>BoolOp_one (h ϊ s σ H Q I hw)
theorem K0(ha:PE X a ta)(hb:PE X (.BoolOp .And (b::yV) pos) tb):PE X (.BoolOp .And (a::b::yV) pos) (QD ta tb):=by
 intro ϊ s σ H Q I h;refine BoolOp_and (thn (ha ϊ s σ H _ I h) λv s1 hZ=>?_);obtain⟨x,H1,I1,r1,q1⟩:=hZ;obtain⟨c,rfl,q1⟩:=q1;cases r1;refine xn ?_;cases c with
 | true=>exact hb ϊ s1 σ H1 Q I1 q1
 | false=>exact#[.bl false,H1,I1,rfl,q1]
theorem pe_or(ha:PE X a ta)(hb:PE X (.BoolOp .Or (b::yV) pos) tb):PE X (.BoolOp .Or (a::b::yV) pos) (ue0 ta tb):=by
 intro ϊ s σ H Q I h;refine BoolOp_or (thn (ha ϊ s σ H _ I h) λv s1 hZ=>?_);obtain⟨x,H1,I1,r1,q1⟩:=hZ;obtain⟨c,rfl,q1⟩:=q1;cases r1;refine xn ?_;cases c with
 | false=>exact hb ϊ s1 σ H1 Q I1 q1
 | true=>exact#[.bl true,H1,I1,rfl,q1]
theorem ZT(ha:PE X a ta):PE X (.UnaryOp .Not a pos) (zR ta):=by
 intro ϊ s σ H Q I h;refine UnaryOp_ (thn (ha ϊ s σ H _ I h) λv s1 hZ=>?_);obtain⟨x,H1,I1,r1,q1⟩:=hZ;obtain⟨c,rfl,q1⟩:=q1;cases r1;exact not_of (xn #[.bl (!c),H1,I1,rfl,q1])
def tIf(t:TT)(ta tb:TE):TE:=λσ H Q=>t σ H λc H1=>if c=true then ta σ H1 Q else tb σ H1 Q
theorem kB(hc:PT X c tA)(ha:PE X a ta)(hb:PE X b tb):PE X (.IfExp c a b pos) (tIf tA ta tb):=by
 intro ϊ s σ H Q I h;refine wpAny_IfExp (thn (hc ϊ s σ H _ I h) λd s1 hZ=>?_);obtain⟨H1,I1,q1⟩:=hZ;cases d with
 | true=>exact ha ϊ s1 σ H1 Q I1 q1
 | false=>exact hb ϊ s1 σ H1 Q I1 q1
end
def SqL(K:δ)(H:Hp)(a:wa)(xs:List V):Prop:=
 Rd H a (.lst xs) \/
   ∃(o:Obj)(its:Array vz)(n:Nat),K.lookup a=some o/\o.cls = .type "list"/\o.dict=none/\o.data = .seq its n/\its.size<=wt/\Vals xs its.toList
def SqT(K:δ)(H:Hp)(a:wa)(xs:List V):Prop:=
 Rd H a (.tup xs) \/
   ∃(o:Obj)(its:Array vz)(n:Nat),K.lookup a=some o/\o.cls = .type "tuple"/\o.data = .seq its n/\its.size<=wt/\Vals xs its.toList
def absV:vz->Option V
 | .none=>some .non
 | .bool b=>some (.bl b)
 | .int i _=>some (.int i)
 | .str x _=>some (.str x)
 | .bytes b _=>some (.byt b)
 | .float b _=>some (.flt b)
 | .ref a=>some (.ref a)
 | .type n=>some (.ty n)
 | _=>none
theorem RelV.abs{x:V}(r:RelV x u):absV u=some x:=by
 cases x with
 | non=>cases r;rfl
 | bl _=>cases r;rfl
 | int _=>obtain⟨t,rfl⟩:=r;rfl
 | str _=>obtain⟨t,rfl⟩:=r;rfl
 | byt _=>obtain⟨t,rfl⟩:=r;rfl
 | flt _=>obtain⟨t,rfl⟩:=r;rfl
 | ref _=>cases r;rfl
 | ty _=>cases r;rfl
theorem RelV.inj{x y:V}(r:RelV x u)(q:RelV y u):x=y:=Θ (r.abs.symm.trans q.abs)
theorem Vals.inj:∀{xs ys:List V}{us:List vz},Vals xs us->Vals ys us->xs=ys
 | _,_,_,.nil,.nil=>rfl
 | _,_,_,.cons r t,.cons r' t'=>by rw[r.inj r',Vals.inj t t']
section
variable {X:Cx}{ϊ:List (wa×Obj)}{σ:St}{H:Hp}{s:wb}{a:wa}{xs ys:List V}
theorem SqL.of(h:H a=some (.lst xs)):SqL K H a xs:=.inl (.inl h)
theorem SqT.of(h:H a=some (.tup xs)):SqT K H a xs:=.inl (.inl h)
theorem Inv.list(I:Inv X ϊ σ H s)(h:SqL X.K H a xs):∃its:List vz,Vals xs its/\PlainL s.heap a its.toArray/\xs.length<=wt:=by
 rcases h with h | ⟨o,its,n,hk,hc,hd,hs,hz,r⟩
 obtain⟨z,its,n,r,e⟩:=h.ok I.hok;exact#[its,r,#[_,n,e,rfl,rfl,rfl],z];refine#[its.toList,r,#[o,n,I.kIn a o hk,hc,hd,by simpa using hs],?_];have e:=r.length;simp only [du] at e;lia
theorem Inv.tuple(I:Inv X ϊ σ H s)(h:SqT X.K H a xs):∃its:List vz,Vals xs its/\IsTup s.heap a its.toArray/\xs.length<=wt:=by
 rcases h with h | ⟨o,its,n,hk,hc,hs,hz,r⟩
 obtain⟨z,its,r,p⟩:=h.ok I.hok;exact#[its,r,p,z];refine#[its.toList,r,#[o,I.kIn a o hk,hc,n,by simpa using hs],?_];have e:=r.length;simp only [du] at e;lia
theorem Inv.list_inj(I:Inv X ϊ σ H s)(h:SqL X.K H a xs)(h':SqL X.K H a ys):xs=ys:=by
 obtain⟨its,r,⟨o,n,e,_,_,d⟩,_⟩:=I.list h;obtain⟨its',r',⟨o',n',e',_,_,d'⟩,_⟩:=I.list h';rw[e] at e';cases e';rw[d] at d'
 injection d' with d1 _
 have:its=its':=by simpa using congrArg Array.toList d1
 subst this;exact r.inj r'
end
abbrev Cx.wish(X:Cx)(E:vz->wb->Prop):Cx:={ X with xe:=E }
abbrev Cx.nox(X:Cx):Cx:=X.wish λ_ _=>False
theorem Cx.Ok.wish(ok:X.Ok)(E:vz->wb->Prop):(X.wish E).Ok:=
 #[ok.mod,ok.kind,ok.glob,ok.blt,ok.above,ok.inj,ok.has,ok.cab,ok.hd,ok.frames,ok.stk,ok.exf,ok.bs,ok.bsz,ok.noex,ok.exfs,ok.funs,ok.frf]
theorem Cx.Ok.unwish(ok:(X.wish E).Ok):X.Ok:=
 #[ok.mod,ok.kind,ok.glob,ok.blt,ok.above,ok.inj,ok.has,ok.cab,ok.hd,ok.frames,ok.stk,ok.exf,ok.bs,ok.bsz,ok.noex,ok.exfs,ok.funs,ok.frf]
section
variable {X:Cx}{ϊ:List (wa×Obj)}{σ:St}{H:Hp}{s:wb}{E:vz->wb->Prop}
theorem Inv.wish(I:Inv X ϊ σ H s)(E:vz->wb->Prop):Inv (X.wish E) ϊ σ H s:=#[I.ok.wish E,I.os,I.bare,I.base,I.loc,I.cell,I.free,I.freeC,I.pin,I.hok,I.len]
theorem Inv.unwish(I:Inv (X.wish E) ϊ σ H s):Inv X ϊ σ H s:=#[I.ok.unwish,I.os,I.bare,I.base,I.loc,I.cell,I.free,I.freeC,I.pin,I.hok,I.len]
theorem SP.unwish{D:Ends}{f:Flow}{s':wb}(h:SP (X.wish E) ϊ D f s'):SP X ϊ D f s':=by
 cases f with
 | next=>obtain⟨σ',H',I,q⟩:=h;exact#[σ',H',I.unwish,q]
 | brk=>obtain⟨σ',H',I,q⟩:=h;exact#[σ',H',I.unwish,q]
 | cont=>obtain⟨σ',H',I,q⟩:=h;exact#[σ',H',I.unwish,q]
 | ret u=>obtain⟨v,σ',H',I,r,q⟩:=h;exact#[v,σ',H',I.unwish,r,q]
theorem PSs.nox{st:List wl}{t:TS}(h:PSs X.nox st t):PSs X st t:=λϊ s σ H D I hw=>
 ww (h ϊ s σ H D (I.wish _) hw) (λ_ _ q=>q.unwish) λ_ _ z=>de z
end
section
variable {X:Cx}{st:wl}{yV:List wl}{t u:TS}{e:wk}{te:TE}{pos:Pos}
def Tj:TS:=λD σ H=>D.nx σ H
def zB(t u:TS):TS:=λD σ H=>t { D with nx:=u D } σ H
theorem AB:PSs X [] Tj:=λ_ _ σ H _ I h=>xp #[σ,H,I,h]
theorem Ad(h1:PS X st t)(h2:PSs X yV u):PSs X (st::yV) (zB t u):=by
 intro ϊ s σ H D I h;refine wpAny_execs_cons (thn (h1 ϊ s σ H { D with nx:=u D } I h) λf s1 q=>?_);cases f with
 | next=>
   obtain⟨σ',H',I',q⟩:=q;exact h2 ϊ s1 σ' H' D I' q
 | ret v=>exact q
 | brk=>exact q
 | cont=>exact q
theorem Aj(h1:PS X st t):PSs X [st] t:=by
 intro ϊ s σ H D I h;refine wpAny_execs_cons (thn (h1 ϊ s σ H D I h) λf s1 q=>?_);cases f with
 | next=>exact xp q
 | ret v=>exact q
 | brk=>exact q
 | cont=>exact q
theorem kC:PS X (.Pass pos) Tj:=λ_ _ σ H _ I h=>wpAny_Pass #[σ,H,I,h]
theorem Inv.quiet(I:Inv X ϊ σ H s):interactive X.env=false:=by simp [interactive,I.ok.kind]
def zU(te:TE):TS:=λD σ H=>te σ H λ_ H1=>D.nx σ H1
theorem Bm(he:PE X e te)(hs:swapsWith e none pos.line X.env=pure false:=by rfl):PS X (.Expr e pos) (zU te):=by
 intro ϊ s σ H D I h;exact wpAny_Expr_any (thn (he ϊ s σ H _ I h) λv s1 ⟨x,H1,I1,r1,q1⟩=>#[σ,H1,I1,q1]) I.quiet hs
def tRet(te:TE):TS:=λD σ H=>te σ H D.rt
theorem Aq(he:PE X e te):PS X (.Return (some e) pos) (tRet te):=by
 intro ϊ s σ H D I h;exact wpAny_Return_some (thn (he ϊ s σ H _ I h) λv s1 ⟨x,H1,I1,r1,q1⟩=>#[x,σ,H1,I1,r1,q1])
def zI(c:TT)(t u:TS):TS:=λD σ H=>c σ H λb H1=>if b=true then t D σ H1 else u D σ H1
theorem AA{a b:List wl}{tc:TT}(hc:PT X c tc)(ha:PSs X a t)(hb:PSs X b u):PS X (.If c a b pos) (zI tc t u):=by
 intro ϊ s σ H D I h;refine wpAny_If (thn (hc ϊ s σ H _ I h) λd s1 hZ=>?_);obtain⟨H1,I1,q1⟩:=hZ;cases d with
 | true=>exact ha ϊ s1 σ H1 D I1 q1
 | false=>exact hb ϊ s1 σ H1 D I1 q1
end
abbrev TG:=V->St->Hp->(St->Hp->Prop)->Prop
abbrev TGs:=List V->St->Hp->(St->Hp->Prop)->Prop
def PG(X:Cx)(target:wk)(t:TG):Prop:=
 ∀(ϊ:List (wa×Obj)) (s:wb) (σ:St) (H:Hp) (v:V) (u:vz) (Q:St->Hp->Prop),Inv X ϊ σ H s->RelV v u->t v σ H Q ->
   wx (xl X.prog X.w) X.A (assign target X.env u) (λ_ s'=>∃σ' H',Inv X ϊ σ' H' s'/\Q σ' H') X.xe s
def PGs(X:Cx)(ts:List wk)(t:TGs):Prop:=
 ∀(ϊ:List (wa×Obj)) (s:wb) (σ:St) (H:Hp) (vs:List V) (us:List vz) (Q:St->Hp->Prop),Inv X ϊ σ H s->Vals vs us->t vs σ H Q ->
   wx (xl X.prog X.w) X.A (assignInOrder ((assignEach ts X.env).map (·.2)) us) (λ_ s'=>∃σ' H',Inv X ϊ σ' H' s'/\Q σ' H') X.xe s
abbrev ue4:=V->V->V->Hp->(Hp->Prop)->Prop
def PSet(X:Cx)(t:ue4):Prop:=
 ∀(ϊ:List (wa×Obj)) (s:wb) (σ:St) (H:Hp) (o i v:V) (ov iv u:vz) (Q:Hp->Prop),Inv X ϊ σ H s->RelV o ov->RelV i iv->RelV v u->t o i v H Q ->
   wx (xl X.prog X.w) X.A (setItem ov iv u) (λ_ s'=>∃H',Inv X ϊ σ H' s'/\Q H') X.xe s
section
variable {X:Cx}{pos:Pos}
def HB(i:Nat):TG:=λv σ H Q=>Q (σ.set i (some v)) H
theorem AF(hN:X.N.Nodup)(hi:X.N[i]?=some x)(hx:Loc X.env.scope x)(hf:X.fn x=true\/X.env.scope.names.lookup x=some .local:=by first | exact .inl rfl | exact .inr rfl | assumption):PG X (.Name x pos) (HB i):=by
 intro ϊ s σ H v u Q I r h;exact wpAny_assign_Name (QB I hN hi hx r (λs' I'=>#[_,H,I',h]) hf)
def gNil:TGs:=λvs σ H Q=>vs=[]/\Q σ H
def uc0(t:TG)(u:TGs):TGs:=λvs σ H Q=>∃v r,vs=v::r/\t v σ H λσ' H'=>u r σ' H' Q
theorem Cn:PGs X [] gNil:=by
 intro ϊ s σ H vs us Q I r h;obtain⟨e,h⟩:=h;subst e;cases r;exact assignInOrder_nil #[σ,H,I,h]
theorem AO{t:TG}{u:TGs}(h1:PG X e t)(h2:PGs X es u)
   (hs:(assignEach (e::es) X.env).map (·.2)=assign e X.env::(assignEach es X.env).map (·.2):=by rfl):PGs X (e::es) (uc0 t u):=by
 intro ϊ s σ H vs us Q I r h;obtain⟨v,vr,e1,h⟩:=h;subst e1;cases r with
 | cons r rr=>
   rw[hs];refine assignInOrder_cons (thn (h1 ϊ s σ H _ _ _ I r h) λ_ s1 hZ=>?_);obtain⟨σ1,H1,I1,q1⟩:=hZ;exact h2 ϊ s1 σ1 H1 _ _ Q I1 rr q1
def gTup(K:δ)(n:Nat)(t:TGs):TG:=λv σ H Q=>∃a xs,v = .ref a/\SqT K H a xs/\xs.length=n/\t xs σ H Q
theorem De{t:TGs}(hc:X.calm=true)(h:PGs X es t)
   (hn:(assignEach es X.env).length=n:=by rfl) (hst:(assignEach es X.env).findIdx? (·.1)=none:=by rfl):PG X (.Tuple es k pos) (gTup X.K n t):=by
 intro ϊ s σ H v u Q I r hw;obtain⟨a,xs,e1,hq,hl,hw⟩:=hw;subst e1;cases r;obtain⟨its,rv,ht,hz⟩:=I.tuple hq;refine assign_Tuple_tuple (I.ok.hd hc) ht (by simp [hn,<-hl,rv.length]) hst λh' hx=>?_;have I1:Inv X ϊ σ H { s with heap:=h' }:=I.kept (t':=s.toks) λb o e=>hx b o (bi (af e)) e;exact h ϊ _ σ H xs _ Q I1 (by simpa using rv) hw
def gSub(to ti:TE)(t:ue4):TG:=λv σ H Q=>to σ H λo H1=>ti σ H1 λi H2=>t o i v H2 λH3=>Q σ H3
theorem GS{o i:wk}{to ti:TE}{t:ue4}(ho:PE X o to)(hi:PE X i ti)(hs:PSet X t)
   (ha:∀v,assign (.Subscript o i pos) X.env v=(do
     let ov <-holding [v] (xk o X.env)
     let iv <-holding [v,ov] (xk i X.env)
     standAt pos
     holding [v,ov,iv] (setItem ov iv v)
     release [v,ov,iv] []):=by intro _;rfl):PG X (.Subscript o i pos) (gSub to ti t):=by
 intro ϊ s σ H v u Q I r h;rw[ha];refine wu (wpAny_holding (thn (ho ϊ s σ H _ I h) λov s1 hZ=>?_));obtain⟨x,H1,I1,r1,q1⟩:=hZ;refine wu (wpAny_holding (thn (hi ϊ s1 σ H1 _ I1 q1) λiv s2 hZ=>?_));obtain⟨y,H2,I2,r2,q2⟩:=hZ;refine wu (wpAny_standAt (wu (wpAny_holding (thn (hs ϊ s2 σ H2 x y v ov iv u _ I2 r1 r2 r q2) λ_ s3 hZ=>?_))));obtain⟨H3,I3,q3⟩:=hZ;exact wpAny_release #[σ,H3,I3,q3]
def zJ(te:TE)(g:TG):TS:=λD σ H=>te σ H λx H1=>g x σ H1 D.nx
theorem CJ{te:TE}{g:TG}(he:PE X e te)(hg:PG X tg g)(hs:swapsWithSole [tg] e pos.line X.env=pure false:=by rfl)(hw:swappedStores [tg] e X.env=pure none:=by rfl)
   (h1:(assignEach [tg] X.env).map (·.2)=[assign tg X.env]:=by rfl):PS X (.Assign [tg] e pos) (zJ te g):=by
 intro ϊ s σ H D I h;refine wpAny_Assign_stores (thn (he ϊ s σ H _ I h) λv s1 hZ=>?_) hs hw;obtain⟨x,H1,I1,r1,q1⟩:=hZ;rw[h1];exact thn (hg ϊ s1 σ H1 x v _ I1 r1 q1) λ_ s2 q=>q
theorem Au{te:TE}{pos':Pos}(hN:X.N.Nodup)(hi:X.N[i]?=some x)(hx:Loc X.env.scope x)(he:PE X e te)(hs:swapsWith e (some (.Name x pos')) pos.line X.env=pure false:=by rfl)(hf:X.fn x=true\/X.env.scope.names.lookup x=some .local:=by first | exact .inl rfl | exact .inr rfl | assumption):
   PS X (.Assign [.Name x pos'] e pos) (zJ te (HB i)):=by
 intro ϊ s σ H D I h;refine wpAny_Assign_Name (thn (he ϊ s σ H _ I h) λv s1 hZ=>?_) hs;obtain⟨y,H1,I1,r1,q1⟩:=hZ;exact QB I1 hN hi hx r1 (λs2 I2=>#[_,H1,I2,q1]) hf
end
section
variable {X:Cx}{pos:Pos}
def zN(c:TT)(tb:TS):TS:=λD σ H=>∃W:Nat->St->Hp->Prop,(∃m,W m σ H)/\∀m σ H,W m σ H ->
 c σ H λb H1=>if b=true then ∃N:St->Hp->Prop,(∀σ' H',N σ' H'->∃m',m'<m/\W m' σ' H')/\tb { D with nx:=N,ct:=N,bk:=D.nx } σ H1 else D.nx σ H1
theorem QE{tc:TT}(hp:wy (xl X.prog X.w) X.A X.env X.xe)(hc:PT X c tc)(hb:PSs X body tb):PS X (.While c body [] pos) (zN tc tb):=by
 intro ϊ s σ H D I h;obtain⟨W,⟨m0,w0⟩,turn⟩:=h;refine wpAny_While (codeAny_whileLoop (λn s'=>∃σ' H',Inv X ϊ σ' H' s'/\W n σ' H') ?_ m0 #[σ,H,I,w0]);rintro n s1 ⟨σ1,H1,I1,w1⟩;refine wpAny_passesOwn hp (thn (hc ϊ s1 σ1 H1 _ I1 (turn n σ1 H1 w1)) λb s2 hZ=>?_);obtain⟨H2,I2,q2⟩:=hZ;cases b with
 | true=>
   obtain⟨N,hN,q2⟩:=q2;rw[xb1 rfl];refine wpAny_passesOwn hp (thn (hb ϊ s2 σ1 H2 _ I2 q2) λf s3 q3=>?_);cases f with
   | next=>
     obtain⟨σ3,H3,I3,n3⟩:=q3;obtain⟨m',hm,w3⟩:=hN σ3 H3 n3;exact#[m',hm,σ3,H3,I3,w3]
   | cont=>
     obtain⟨σ3,H3,I3,n3⟩:=q3;obtain⟨m',hm,w3⟩:=hN σ3 H3 n3;exact#[m',hm,σ3,H3,I3,w3]
   | brk=>exact q3
   | ret v=>exact q3
 | false=>
   rw[xb2 ξ];exact xp #[σ1,H2,I2,q2]
end
structure It where
 go:Nat->Hp->Prop
 yld:Nat->Hp->V->Hp->Prop
 stop:Nat->Hp->Prop
def zo(X:Cx)(ϊ:List (wa×Obj))(H:Hp)(b:wa):Prop:=
 H b=none/\b≠X.env.locals/\b ∉ X.fs/\(b∈X.ex\/X.s₀.heap.objs.size<=b)/\(∀x c,X.env.cells.lookup x=some c->c≠b)/\∀p∈X.pn++ϊ,p.1≠b
theorem Inv.fpOk{H':Hp}(I:Inv X ϊ σ H s)(hb:s.heap.objs.size<=b)(hn:H' b=none):zo X ϊ H' b:=by
 refine#[hn,my (ba I.lt hb),I.nofs hb,.inr (cr I.sz hb),λx c e z=>?_,λp hp z=>?_];obtain⟨v,q⟩:=I.cell x c e;exact xb0 (ba q.lt (by rw[z];exact hb)) (cv _);exact xb0 (ba (af (I.pin p hp).1) (by rw[z];exact hb)) (cv _)
structure ud6(P:we)(w:wf)(K:δ)(tg:wk)(J:It)(fp:List wa)(it:wa)(tn:Nat->xt->Prop):Prop where
 mem:it∈fp
 obj:∀i h,tn i h->∀b∈fp,∃o,h.get? b=some o/\∀v,o.data≠.cell v
 keep:∀i h h',tn i h->(∀b∈fp,∀o,h.get? b=some o->h'.get? b=some o)->tn i h'
 item:∀(X:Cx),X.prog=P->X.w=w->X.K=K->X.calm=true->∀(i:Nat) (ϊ:List (wa×Obj)) (s:wb) (σ:St) (H:Hp) (E:vz->wb->Prop),Inv X ϊ σ H s->(∀b∈fp,zo X ϊ H b)->tn i s.heap->J.go i H ->
   wx (xl P w) X.A (pyNext (.ref it)) (λr s1=>∃u,r=some u /\
     wx (xl P w) X.A (letOwnedTupleGo tg (.ref it) u) (λ_ s2=>∃x H',Inv X ϊ σ H' s2/\RelV x u/\J.yld i H x H'/\tn (i+1) s2.heap/\∀b∈fp,H' b=none) E s1) E s
 done:∀(X:Cx),X.prog=P->X.w=w->X.K=K->X.calm=true->∀(i:Nat) (ϊ:List (wa×Obj)) (s:wb) (σ:St) (H:Hp) (E:vz->wb->Prop),Inv X ϊ σ H s->(∀b∈fp,zo X ϊ H b)->tn i s.heap->J.stop i H ->
   wx (xl P w) X.A (pyNext (.ref it)) (λr s1=>r=none/\Inv X ϊ σ H s1) E s
 self:∀(A:wg)(i:Nat)(s:wb)(Q:vz->wb->Prop)(E:vz->wb->Prop),tn i s.heap->Q (.ref it) s->wx (xl P w) A (pyIter (.ref it)) Q E s
abbrev TI:=St->Hp->(It->Hp->Prop)->Prop
def PIE(X:Cx)(ϊ:List (wa×Obj))(σ:St)(tg:wk)(R:It->Hp->Prop)(itv:vz)(s2:wb):Prop:=
 ∃(it:wa)(fp:List wa)(tn:Nat->xt->Prop)(J:It)(H':Hp),itv = .ref it/\Inv X ϊ σ H' s2/\ud6 X.prog X.w X.K tg J fp it tn/\tn 0 s2.heap/\(∀b∈fp,zo X ϊ H' b)/\R J H'
def PI(X:Cx)(tg iter:wk)(wi:TI):Prop:=
 ∀(ϊ:List (wa×Obj)) (s:wb) (σ:St) (H:Hp) (R:It->Hp->Prop),Inv X ϊ σ H s->wi σ H R ->
   wx (xl X.prog X.w) X.A (xk iter X.env) (λv s1=>wx (xl X.prog X.w) X.A (pyIter v) (PIE X ϊ σ tg R) X.xe s1) X.xe s
theorem Tk{it:wa}{n:String}{vs:Array vz}{Q:Unit->wb->Prop}(ho:s.heap.get? it=some o)(hc:o.cls = .type n)(hd:o.data = .fields vs)
   (hn:["enumerate","zip","dict_itemiterator","dict_reverseitemiterator","odict_iterator","itertools.zip_longest","itertools.pairwise"].contains n=false) (hQ:Q () s):wx M A (letOwnedTupleGo tg (.ref it) u) Q E s:=by
 unfold letOwnedTupleGo;cases tg <;> first
   | exact wv hQ
   | (cases u <;> first
       | exact wv hQ
       | (refine wu (wpAny_load ho ?_)
          rw[hc,hd];show wx M A (if (["enumerate","zip","dict_itemiterator","dict_reverseitemiterator","odict_iterator","itertools.zip_longest","itertools.pairwise"].contains n&&vs[0]?==some (rawInt _))=true then _ else _) Q E s;rw[xb2 (by intro h;rw[hn,si] at h;cases h)];exact wv hQ))
def Itl(K:δ)(a:wa):It:=
 #[λi H=>∃xs x,SqL K H a xs/\xs[i]?=some x,λi H x H'=>H'=H/\∀xs,SqL K H a xs->xs[i]?=some x,λi H=>∃xs,SqL K H a xs/\xs.length<=i]
def Itt(K:δ)(a:wa):It:=
 #[λi H=>∃xs x,SqT K H a xs/\xs[i]?=some x,λi H x H'=>H'=H/\∀xs,SqT K H a xs->xs[i]?=some x,λi H=>∃xs,SqT K H a xs/\xs.length<=i]
theorem kD(a it:wa):ud6 P w K tg (Itl K a) [it] it (λi h=>h.IsListIter it a i) where
 mem:=by simp
 obj:=λi h st b hb=>by
   have e:b=it:=by simpa using hb
   subst e;obtain⟨o,e,c,d⟩:=st;exact#[o,e,λv z=>by rw[d] at z;cases z]
 keep:=λi h h' st k=>st.at λo e=>k it f!"" o e
 item:=by
   intro X hP hw hK hc i ϊ s σ H E I hf st hg;subst hP hw hK;obtain⟨xs,x,hq,hx⟩:=hg;obtain⟨its,rv,p,hz⟩:=I.list hq;obtain⟨u,hu,ru⟩:=rv.get hx;obtain⟨f0,f1,f2,f3,f4,f5⟩:=hf it f!"";refine wpAny_pyNext_list_item st p.isList (x:=u) (by simpa using hu) λh' st' sb=>?_;have I1:Inv X ϊ σ H { s with heap:=h' }:=I.turned (t':=s.toks) (λb o hb e=>(sb.2 b hb).trans e) f0 f1 f3 f4 f5;obtain⟨o,e,c,d⟩:=id st';exact#[u,rfl,Tk (s:={ s with heap:=h' }) e c d m!"" #[x,H,I1,ru,#[rfl,λys hy=>by rw[I.list_inj hy hq];exact hx],st',λb hb=>(hf b hb).1]]
 done:=by
   intro X hP hw hK hc i ϊ s σ H E I hf st hg;subst hP hw hK;obtain⟨xs,hq,hx⟩:=hg;obtain⟨its,rv,p,hz⟩:=I.list hq;obtain⟨f0,f1,f2,f3,f4,f5⟩:=hf it f!"";have hl:=rv.length;exact wpAny_pyNext_list_end (I.ok.hd hc) st p.isList (by simp;lia) λh' eb=>#[rfl,I.turned (t':=s.toks) (λb o hb e=>eb b o hb e) f0 f1 f3 f4 f5]
 self:=λ_ _ _ _ _ st h=>wpAny_pyIter_listiter st h
section
variable {X:Cx}{tg:wk}
def ub4(K:δ)(tl:TE):TI:=λσ H R=>tl σ H λx H1=>∃a,x = .ref a/\(∃xs,SqL K H1 a xs)/\R (Itl K a) H1
theorem BX{l:wk}{tl:TE}(hl:PE X l tl):PI X tg l (ub4 X.K tl):=by
 intro ϊ s σ H R I h;refine thn (hl ϊ s σ H _ I h) λv s1 hZ=>?_;obtain⟨x,H1,I1,r1,q1⟩:=hZ;obtain⟨a,e,⟨xs,hq⟩,q⟩:=q1;subst e;cases r1;obtain⟨its,rv,p,hz⟩:=I1.list hq;refine wpAny_pyIter_list p.isList ?_;refine#[s1.heap.objs.size,[s1.heap.objs.size],_,_,H1,rfl,I1.kept (t':=s1.toks) λb o e=>μ _ e,kD a _,#[_,ak _ rfl,rfl,rfl],λb hb=>?_,q];have e:b=s1.heap.objs.size:=by simpa using hb
 subst e;exact I1.fpOk (Γ _) (I1.hok.fresh (Γ _))
def tFor(wi:TI)(g:TG)(tb:TS):TS:=λD σ H=>wi σ H λJ H1=>∃W:Nat->Nat->St->Hp->Prop,(∃m,W 0 m σ H1)/\∀i m σ H,W i m σ H ->
 (J.stop i H/\D.nx σ H)\/(J.go i H/\∃N:St->Hp->Prop,(∀σ' H',N σ' H'->∃m',m'<m/\W (i+1) m' σ' H')/\∀x H',J.yld i H x H'->g x σ H' λσ2 H2=>tb { D with nx:=N,ct:=N,bk:=D.nx } σ2 H2)
def L7(fp:List wa)(h:xt):List (wa×Obj):=fp.filterMap λb=>(h.get? b).map λo=>(b,o)
theorem QF{fp:List wa}(hb:b∈fp)(e:h.get? b=some o):(b,o)∈L7 fp h:=lg.mpr #[b,hb,by rw[e];rfl]
theorem kE{fp:List wa}{p:wa×Obj}(hp:p∈L7 fp h):p.1∈fp/\h.get? p.1=some p.2:=by
 obtain⟨b,hb,e⟩:=lg.mp hp;cases q:h.get? b with
 | none=>rw[q] at e;cases e
 | some o=>
   rw[q] at e;have e':(b,o)=p:=Θ e;subst e';exact#[hb,q]
theorem Inv.pinned{fp:List wa}(I:Inv X ϊ σ H s)(hf:∀b∈fp,zo X ϊ H b)(ho:∀b∈fp,∃o,s.heap.get? b=some o/\∀v,o.data≠.cell v):Inv X (ϊ++L7 fp s.heap) σ H s:=
 I.pins_of λp hp=>(ν.mp hp).elim (λz=>I.pin p (ε _ z)) λz=>by
   obtain⟨hb,e⟩:=kE z;obtain⟨f0,f1,f2,_⟩:=hf p.1 hb;obtain⟨o,e',d⟩:=ho p.1 hb;rw[e] at e';cases e';exact#[e,f0,f1,f2,d]
theorem Inv.unpinned{pl:List (wa×Obj)}(I:Inv X (ϊ++pl) σ H s):Inv X ϊ σ H s:=I.pins_of λp hp=>I.pin p (ε _ (π _ hp))
theorem DM{iter:wk}{wi:TI}{g:TG}(hp:wy (xl X.prog X.w) X.A X.env X.xe)(hc:X.calm=true)(hi:PI X tg iter wi)(hg:PG X tg g)(hb:PSs X body tb)
   (hs:∀x,foldedSetIterable iter X.env x=pure x:=by intro _;rfl):PS X (.For tg iter body [] pos) (tFor wi g tb):=by
 intro ϊ s σ H D I h;refine wpAny_For (thn (hi ϊ s σ H _ I h) λv s1 h1=>thn h1 λitv s2 h2=>?_) hs;obtain⟨it,fp,tn,J,H2,e,I2,T,st2,f2,W,⟨m0,w0⟩,turn⟩:=h2;subst e;have stat:∀{H':Hp},(∀b∈fp,H' b=none)->∀b∈fp,zo X ϊ H' b:=λhn b hb=>#[hn b hb,(f2 b hb).2]
 refine codeAny_forLoop_any (λn s'=>∃i σ' H',Inv X ϊ σ' H' s'/\tn i s'.heap/\(∀b∈fp,H' b=none)/\W i n σ' H') ?_ m0 #[0,σ,H2,I2,st2,λb hb=>(f2 b hb).1,w0];rintro n s3 ⟨i,σ3,H3,I3,st3,fr3,w3⟩;rcases turn i n σ3 H3 w3 with ⟨stop,qn⟩ | ⟨go,N,hN,step⟩
 . refine wpAny_passesOwn hp (thn (T.done X rfl rfl rfl hc i ϊ s3 σ3 H3 X.xe I3 (stat fr3) st3 stop) λr s4 hZ=>?_);obtain⟨hr,I4⟩:=hZ;subst hr;exact xp #[σ3,H3,I4,qn]
 . refine wpAny_passesOwn hp (thn (T.item X rfl rfl rfl hc i ϊ s3 σ3 H3 X.xe I3 (stat fr3) st3 go) λr s4 hZ=>?_);obtain⟨u,hr,h4⟩:=hZ;subst hr;refine wpAny_passesOwn hp (thn h4 λ_ s5 hZ=>?_);obtain⟨x,H5,I5,r5,y5,st5,fr5⟩:=hZ;have I5':=I5.pinned (stat fr5) (T.obj _ _ st5);refine wpAny_passesOwn hp (thn (hg _ s5 σ3 H5 x u _ I5' r5 (step x H5 y5)) λ_ s6 hZ=>?_);obtain⟨σ6,H6,I6,q6⟩:=hZ;refine wpAny_passesOwn hp (thn (hb _ s6 σ6 H6 _ I6 q6) λf s7 q7=>?_);have again:∀{σ7:St}{H7:Hp},Inv X (ϊ++L7 fp s5.heap) σ7 H7 s7->N σ7 H7->∃m,m<n/\∃i σ' H',Inv X ϊ σ' H' s7/\tn i s7.heap/\(∀b∈fp,H' b=none)/\W i m σ' H':=λ{σ7 H7} I7 n7=>by
     obtain⟨m',hm,w7⟩:=hN σ7 H7 n7;refine#[m',hm,i+1,σ7,H7,I7.unpinned,T.keep _ _ _ st5 λb hb o e=>(I7.pin (b,o) (ε _ (ε _ (QF hb e)))).1,λb hb=>?_,w7];obtain⟨o,e,d⟩:=T.obj _ _ st5 b hb;exact(I7.pin (b,o) (ε _ (ε _ (QF hb e)))).2.1
   cases f with
   | next=>obtain⟨σ7,H7,I7,n7⟩:=q7;exact again I7 n7
   | cont=>obtain⟨σ7,H7,I7,n7⟩:=q7;exact again I7 n7
   | brk=>obtain⟨σ7,H7,I7,q7⟩:=q7;exact#[σ7,H7,I7.unpinned,q7]
   | ret v=>obtain⟨x7,σ7,H7,I7,r7,q7⟩:=q7;exact#[x7,σ7,H7,I7.unpinned,r7,q7]
end
theorem D3{xs:List V}{g:TG}{D:Ends}(Pv:Nat->St->Hp->Prop)(h0:Pv 0 σ H)(hl:∀i σ H,i<=xs.length->Pv i σ H->SqL K H a xs)
   (hs:∀i x σ H,xs[i]?=some x->Pv i σ H->g x σ H λσ2 H2=>tb { D with nx:=Pv (i+1),ct:=Pv (i+1),bk:=D.nx } σ2 H2) (hd:∀σ H,Pv xs.length σ H->D.nx σ H):
   ∃W:Nat->Nat->St->Hp->Prop,(∃m,W 0 m σ H)/\∀i m σ H,W i m σ H ->
     ((Itl K a).stop i H/\D.nx σ H)\/((Itl K a).go i H/\∃N:St->Hp->Prop,(∀σ' H',N σ' H'->∃m',m'<m/\W (i+1) m' σ' H')/\∀x H',(Itl K a).yld i H x H'->g x σ H' λσ2 H2=>tb { D with nx:=N,ct:=N,bk:=D.nx } σ2 H2):=by
 refine#[λi m σ H=>m=xs.length-i/\i<=xs.length/\Pv i σ H,#[xs.length,f!"",dv _,h0],?_];rintro i m σ H ⟨rfl,hi,p⟩;have q:=hl i σ H hi p;by_cases hlt:i<xs.length;refine .inr #[#[xs,xs[i],q,by simp [hlt]],Pv (i+1),λσ' H' p'=>#[xs.length-(i+1),∅,rfl,hlt,p'],λx H' y=>?_];obtain⟨e,y⟩:=y;subst e;exact hs i x σ _ (y xs q) p;have e:i=xs.length:=∅;subst e;exact .inl #[#[xs,q,Γ _],hd σ H p]
abbrev R2:=V->V->Hp->VK->Prop
variable{r:R2}
def OpR(X:Cx)(f:vz->vz->xq vz)(r:R2):Prop:=
 ∀(ϊ:List (wa×Obj)) (s:wb) (σ:St) (H:Hp) (x y:V) (v u:vz) (Q:VK),Inv X ϊ σ H s->RelV x v->RelV y u->r x y H Q ->
   wx (xl X.prog X.w) X.A (f v u) (EP X ϊ σ Q) X.xe s
def UnR(X:Cx)(f:vz->xq vz)(r:V->Hp->VK->Prop):Prop:=
 ∀(ϊ:List (wa×Obj)) (s:wb) (σ:St) (H:Hp) (x:V) (v:vz) (Q:VK),Inv X ϊ σ H s->RelV x v->r x H Q ->
   wx (xl X.prog X.w) X.A (f v) (EP X ϊ σ Q) X.xe s
def DN(X:Cx)(f:vz)(r:List V->Hp->VK->Prop):Prop:=
 ∀(ϊ:List (wa×Obj)) (s:wb) (σ:St) (H:Hp) (xs:List V) (us:List vz) (Q:VK),Inv X ϊ σ H s->Vals xs us->r xs H Q ->
   wx (xl X.prog X.w) X.A (call f us) (EP X ϊ σ Q) X.xe s
def TruR(X:Cx)(r:V->Hp->(Bool->Hp->Prop)->Prop):Prop:=
 ∀(ϊ:List (wa×Obj)) (s:wb) (σ:St) (H:Hp) (x:V) (v:vz) (Q:Bool->Hp->Prop),Inv X ϊ σ H s->RelV x v->r x H Q ->
   wx (xl X.prog X.w) X.A (truthy v) (TP X ϊ σ Q) X.xe s
def tOp(r:R2)(ta tb:TE):TE:=λσ H Q=>ta σ H λx H1=>tb σ H1 λy H2=>r x y H2 Q
def tUn(r:V->Hp->VK->Prop)(ta:TE):TE:=λσ H Q=>ta σ H λx H1=>r x H1 Q
def rI(C:Int->Int->Prop)(g:Int->Int->V):R2:=λx y H Q=>∃i j,x = .int i/\y = .int j/\C i j/\Q (g i j) H
def rI0(g:Int->Int->V):R2:=λx y H Q=>∃i j,x = .int i/\y = .int j/\Q (g i j) H
def rU(g:Int->V):V->Hp->VK->Prop:=λx H Q=>∃i,x = .int i/\Q (g i) H
section
variable {X:Cx}{a b c:wk}{ta tb tc:TE}{pos:Pos}
theorem binT(ha:PE X a ta)(hb:PE X b tb)(I:Inv X ϊ σ H s)
   (h:ta σ H λx H1=>tb σ H1 λy H2=>R x y H2)  
   (hf:∀v u s2 x y H2,Inv X ϊ σ H2 s2->RelV x v->RelV y u->R x y H2->wx (xl X.prog X.w) X.A (f v u) Q X.xe s2):
   wx (xl X.prog X.w) X.A (xk a X.env) (λv s₁=>wx (xl X.prog X.w) X.A (xk b X.env) (λu s₂=>wx (xl X.prog X.w) X.A (f v u) Q X.xe s₂) X.xe s₁) X.xe s:=by
 refine thn (ha ϊ s σ H _ I h) λv s1 hZ=>?_;obtain⟨x,H1,I1,r1,q1⟩:=hZ;refine thn (hb ϊ s1 σ H1 _ I1 q1) λu s2 hZ=>?_;obtain⟨y,H2,I2,r2,q2⟩:=hZ;exact hf v u s2 x y H2 I2 r1 r2 q2
theorem Ao{op:Operator}(ho:OpR X (binaryOp op) r)(ha:PE X a ta)(hb:PE X b tb):PE X (.BinOp a op b pos) (tOp r ta tb):=by
 intro ϊ s σ H Q I h;exact wpAny_BinOp (binT ha hb I h λv u s2 x y H2 I2 rx ry q=>ho ϊ s2 σ H2 x y v u Q I2 rx ry q)
theorem HC{op:UnaryOp}{r:V->Hp->VK->Prop}(ho:UnR X (unaryOp op) r)(ha:PE X a ta):PE X (.UnaryOp op a pos) (tUn r ta):=by
 intro ϊ s σ H Q I h;exact UnaryOp_ (thn (ha ϊ s σ H _ I h) λv s1 ⟨x,H1,I1,r1,q1⟩=>ho ϊ s1 σ H1 x v Q I1 r1 q1)
theorem opI{C:Int->Int->Prop}
   (rule:∀(i j:Int)(t u:Tok)(s:wb)(Q:vz->wb->Prop)(E:vz->wb->Prop),C i j->Q (.int (g i j) s.toks) { s with toks:=s.toks+1 }->wx (xl X.prog X.w) X.A (f (.int i t) (.int j u)) Q E s):
   OpR X f (rI C λi j=>.int (g i j)):=by
 intro ϊ s σ H x y v u Q I rx ry h;obtain⟨i,j,rfl,rfl,hc,q⟩:=h;obtain⟨t,rfl⟩:=rx;obtain⟨t',rfl⟩:=ry;exact rule i j t t' s _ _ hc #[.int (g i j),H,I.tok _,#[_,rfl],q]
theorem T_
   (rule:∀(i j:Int)(t u:Tok)(s:wb)(Q:vz->wb->Prop)(E:vz->wb->Prop),Q (.int (g i j) s.toks) { s with toks:=s.toks+1 }->wx (xl X.prog X.w) X.A (f (.int i t) (.int j u)) Q E s):
   OpR X f (rI0 λi j=>.int (g i j)):=by
 intro ϊ s σ H x y v u Q I rx ry h;obtain⟨i,j,rfl,rfl,q⟩:=h;obtain⟨t,rfl⟩:=rx;obtain⟨t',rfl⟩:=ry;exact rule i j t t' s _ _ #[.int (g i j),H,I.tok _,#[_,rfl],q]
theorem ue3{g:Int->Int->Bool}
   (rule:∀(i j:Int)(t u:Tok)(s:wb)(Q:vz->wb->Prop)(E:vz->wb->Prop),Q (.bool (g i j)) s->wx (xl X.prog X.w) X.A (f (.int i t) (.int j u)) Q E s):
   OpR X f (rI0 λi j=>.bl (g i j)):=by
 intro ϊ s σ H x y v u Q I rx ry h;obtain⟨i,j,rfl,rfl,q⟩:=h;obtain⟨t,rfl⟩:=rx;obtain⟨t',rfl⟩:=ry;exact rule i j t t' s _ _ #[.bl (g i j),H,I,rfl,q]
def CDiv(i j:Int):Prop:=0<j/\j<1073741824
def CPow(i j:Int):Prop:=0<=j/\j<=1000000/\i.natAbs<2^64
def CMul(i j:Int):Prop:=(-(2^64)<i/\i<2^64)\/(-(2^64)<j/\j<2^64)
theorem CMul.ok{i j:Int}(h:CMul i j):IntMulOk i j:=by
 rcases h with ⟨h1,h2⟩ | ⟨h1,h2⟩
 exact .of_left (intBits_le_64 h1 h2);exact .of_right (intBits_le_64 h1 h2)
theorem kF(k:Nat):(0:Int)<=2^k:=by
 rw[two_pow_cast];exact Int.natCast_nonneg _
theorem AU:OpR X (binaryOp .Add) (rI0 λi j=>.int (i+j)):=T_ λ_ _ _ _ _ _ _ q=>add_int q
theorem BY:OpR X (binaryOp .Sub) (rI0 λi j=>.int (i-j)):=T_ λ_ _ _ _ _ _ _ q=>sub_int q
theorem GT:OpR X (binaryOp .Mult) (rI CMul λi j=>.int (i*j)):=opI λ_ _ _ _ _ _ _ hc q=>mul_int q hc.ok
theorem HD:OpR X (binaryOp .FloorDiv) (rI CDiv λi j=>.int (i/j)):=opI λi j _ _ _ _ _ hc q=>by
 have h1:(0:Int)<j:=hc.1;have h2:j<1073741824:=hc.2;exact floordiv_int ∅ (by rw[lh i ∅];exact q) (.inl (mz ∅))
theorem BI:OpR X (binaryOp .Mod) (rI (λ_ j=>0<j) λi j=>.int (i%j)):=opI λi j _ _ _ _ _ hc q=>by
 have h1:(0:Int)<j:=hc;exact mod_int' ∅ (by rw[Int.fmod_eq_emod_of_nonneg i ∅];exact q)
theorem ZU:OpR X (binaryOp .Pow) (rI CPow λi j=>.int (i^j.toNat)):=opI λ_ _ _ _ _ _ _ hc q=>pow_int_small hc.1 hc.2.1 hc.2.2 q
theorem Q_:OpR X (binaryOp .LShift) (rI CPow λi j=>.int (i*2^j.toNat)):=opI λ_ _ _ _ _ _ _ hc q=>lshift_int_small hc.1 hc.2.1 hc.2.2 q
theorem P_:OpR X (binaryOp .RShift) (rI (λ_ j=>0<=j) λi j=>.int (i/2^j.toNat)):=opI λi j _ _ _ _ _ hc q=>
 rshift_int hc (by rw[lh i (kF _)];exact q)
theorem ZV:OpR X (binaryOp .BitAnd) (rI0 λi j=>.int (Builtin.bitAnd i j)):=T_ λ_ _ _ _ _ _ _ q=>and_int q
theorem op_or:OpR X (binaryOp .BitOr) (rI0 λi j=>.int (Builtin.bitOr i j)):=T_ λ_ _ _ _ _ _ _ q=>or_int q
theorem ZW:OpR X (binaryOp .BitXor) (rI0 λi j=>.int (Builtin.bitXor i j)):=T_ λ_ _ _ _ _ _ _ q=>xor_int q
theorem unI{f:vz->xq vz}{g:Int->Int}
   (rule:∀(i:Int)(t:Tok)(s:wb)(Q:vz->wb->Prop)(E:vz->wb->Prop),Q (.int (g i) s.toks) { s with toks:=s.toks+1 }->wx (xl X.prog X.w) X.A (f (.int i t)) Q E s):
   UnR X f (rU λi=>.int (g i)):=by
 intro ϊ s σ H x v Q I rx h;obtain⟨i,rfl,q⟩:=h;obtain⟨t,rfl⟩:=rx;exact rule i t s _ _ #[.int (g i),H,I.tok _,#[_,rfl],q]
theorem HE:UnR X (unaryOp .USub) (rU λi=>.int (-i)):=unI λ_ _ _ _ _ q=>neg_int q
end
def scal:V->V->Bool
 | .non,.non=>true | .non,.int _=>true | .int _,.non=>true | .non,.bl _=>true | .bl _,.non=>true | .non,.str _=>true | .str _,.non=>true
 | .int _,.int _=>true | .bl _,.bl _=>true | .str _,.str _=>true | .byt _,.byt _=>true
 | .int _,.str _=>true | .str _,.int _=>true | .bl _,.str _=>true | .str _,.bl _=>true
 | _,_=>false
def rEq:R2:=λx y H Q=>scal x y=true/\Q (.bl (decide (x=y))) H
def rNe:R2:=λx y H Q=>scal x y=true/\Q (.bl (!decide (x=y))) H
theorem QG{i j:Int}:decide (V.int i=V.int j)=(i==j):=by
 rw[dj];simp
theorem ZX{i j:Bool}:decide (V.bl i=V.bl j)=(i==j):=by
 rw[dj];simp
theorem Tl{i j:Str}:decide (V.str i=V.str j)=(i==j):=by
 rw[dj];simp
theorem ZY{i j:Array UInt8}:decide (V.byt i=V.byt j)=(i.toList==j.toList):=by
 rw[dj];cases i;cases j;simp
section
variable {X:Cx}{a b c:wk}{ta tb tc:TE}{pos:Pos}
theorem Bg{Q:VK}{k k':Bool}(I:Inv X ϊ σ H s)(q:Q (.bl k) H)(e:k=k'):EP X ϊ σ Q (.bool k') s:=by
 subst e;exact#[.bl k,H,I,rfl,q]
theorem A8:OpR X (xc .Eq) rEq:=by
 intro ϊ s σ H x y v u Q I rx ry h;obtain⟨hs,q⟩:=h;cases x with
 | non=>
   cases rx;cases y with
   | non=>cases ry;exact PySem.EqNone.eq_none_none (Bg I q f!"")
   | bl j=>cases ry;exact PySem.EqNone.eq_none_bool (Bg I q f!"")
   | int j=>obtain⟨t',rfl⟩:=ry;exact PySem.EqNone.eq_none_int (Bg I q f!"")
   | str j=>obtain⟨t',rfl⟩:=ry;exact PySem.EqNone.eq_none_str (Bg I q f!"")
   | _=>exact xb0 (show false=true from hs) ξ
 | bl i=>
   cases rx;cases y with
   | non=>cases ry;exact PySem.EqNone.eq_bool_none (Bg I q f!"")
   | bl j=>cases ry;exact eq_bool (Bg I q ZX)
   | str j=>obtain⟨t',rfl⟩:=ry;exact PySem.EqMixed.eq_bool_str (Bg I q f!"")
   | _=>exact xb0 (show false=true from hs) ξ
 | int i=>
   obtain⟨t,rfl⟩:=rx;cases y with
   | non=>cases ry;exact PySem.EqNone.eq_int_none (Bg I q f!"")
   | int j=>obtain⟨t',rfl⟩:=ry;exact eq_int (Bg I q QG)
   | str j=>obtain⟨t',rfl⟩:=ry;exact PySem.EqMixed.eq_int_str (Bg I q f!"")
   | _=>exact xb0 (show false=true from hs) ξ
 | str i=>
   obtain⟨t,rfl⟩:=rx;cases y with
   | non=>cases ry;exact PySem.EqNone.eq_str_none (Bg I q f!"")
   | bl j=>cases ry;exact PySem.EqMixed.eq_str_bool (Bg I q f!"")
   | int j=>obtain⟨t',rfl⟩:=ry;exact PySem.EqMixed.eq_str_int (Bg I q f!"")
   | str j=>obtain⟨t',rfl⟩:=ry;exact eq_str (Bg I q Tl)
   | _=>exact xb0 (show false=true from hs) ξ
 | byt i=>
   obtain⟨t,rfl⟩:=rx;cases y with
   | byt j=>obtain⟨t',rfl⟩:=ry;exact PySem.W.eq_bytes (Bg I q ZY)
   | _=>exact xb0 (show false=true from hs) ξ
 | _=>cases y <;> exact xb0 (show false=true from hs) ξ
theorem Df:OpR X (xc .NotEq) rNe:=by
 intro ϊ s σ H x y v u Q I rx ry h;obtain⟨hs,q⟩:=h;cases x with
 | non=>
   cases rx;cases y with
   | non=>cases ry;exact PySem.EqNone.ne_none_none (Bg I q f!"")
   | bl j=>cases ry;exact PySem.EqNone.ne_none_bool (Bg I q f!"")
   | int j=>obtain⟨t',rfl⟩:=ry;exact PySem.EqNone.ne_none_int (Bg I q f!"")
   | str j=>obtain⟨t',rfl⟩:=ry;exact PySem.EqNone.ne_none_str (Bg I q f!"")
   | _=>exact xb0 (show false=true from hs) ξ
 | bl i=>
   cases rx;cases y with
   | non=>cases ry;exact PySem.EqNone.ne_bool_none (Bg I q f!"")
   | bl j=>cases ry;exact ne_bool (Bg I q (congrArg not ZX))
   | str j=>obtain⟨t',rfl⟩:=ry;exact PySem.EqMixed.ne_bool_str (Bg I q f!"")
   | _=>exact xb0 (show false=true from hs) ξ
 | int i=>
   obtain⟨t,rfl⟩:=rx;cases y with
   | non=>cases ry;exact PySem.EqNone.ne_int_none (Bg I q f!"")
   | int j=>obtain⟨t',rfl⟩:=ry;exact ne_int (Bg I q (congrArg not QG))
   | str j=>obtain⟨t',rfl⟩:=ry;exact PySem.EqMixed.ne_int_str (Bg I q f!"")
   | _=>exact xb0 (show false=true from hs) ξ
 | str i=>
   obtain⟨t,rfl⟩:=rx;cases y with
   | non=>cases ry;exact PySem.EqNone.ne_str_none (Bg I q f!"")
   | bl j=>cases ry;exact PySem.EqMixed.ne_str_bool (Bg I q f!"")
   | int j=>obtain⟨t',rfl⟩:=ry;exact PySem.EqMixed.ne_str_int (Bg I q f!"")
   | str j=>obtain⟨t',rfl⟩:=ry;exact ne_str (Bg I q (congrArg not Tl))
   | _=>exact xb0 (show false=true from hs) ξ
 | byt i=>
   obtain⟨t,rfl⟩:=rx;cases y with
   | byt j=>obtain⟨t',rfl⟩:=ry;exact PySem.W.ne_bytes (Bg I q (congrArg not ZY))
   | _=>exact xb0 (show false=true from hs) ξ
 | _=>cases y <;> exact xb0 (show false=true from hs) ξ
theorem Db:OpR X (xc .Lt) (rI0 λi j=>.bl (decide (i<j))):=ue3 λ_ _ _ _ _ _ _ q=>lt_int q
theorem R_:OpR X (xc .LtE) (rI0 λi j=>.bl (decide (i<=j))):=ue3 λ_ _ _ _ _ _ _ q=>le_int q
theorem HF:OpR X (xc .Gt) (rI0 λi j=>.bl (decide (j<i))):=ue3 λ_ _ _ _ _ _ _ q=>gt_int q
theorem K1:OpR X (xc .GtE) (rI0 λi j=>.bl (decide (j<=i))):=ue3 λ_ _ _ _ _ _ _ q=>ge_int q
theorem HG:OpR X (xc .Is) (λx y H Q=>y = .non/\Q (.bl (decide (x = .non))) H):=by
 intro ϊ s σ H x y v u Q I rx ry h;obtain⟨rfl,q⟩:=h;cases ry;refine is_none_gen (Bg I q ?_);cases x <;> first
   | (cases rx;rfl)
   | (obtain⟨t,rfl⟩:=rx;rfl)
theorem QH:OpR X (xc .IsNot) (λx y H Q=>y = .non/\Q (.bl (!decide (x = .non))) H):=by
 intro ϊ s σ H x y v u Q I rx ry h;obtain⟨rfl,q⟩:=h;cases ry;refine isnot_none_gen (Bg I q ?_);cases x <;> first
   | (cases rx;rfl)
   | (obtain⟨t,rfl⟩:=rx;rfl)
theorem Av(b:wk)(h:op≠.In:=by decide)(h2:op≠.NotIn:=by decide):behindInMarks op b=false:=by
 have e1:(op==CmpOp.In)=false:=by cases op <;> first | rfl | exact xb0 rfl h
 have e2:(op==CmpOp.NotIn)=false:=by cases op <;> first | rfl | exact xb0 rfl h2
 cases b <;> simp [behindInMarks,e1,e2]
theorem Er(ho:OpR X (xc op) r)(ha:PE X a ta)(hb:PE X b tb)(hm:behindInMarks op b=false:=by exact Av _):PE X (.Compare a [op] [b] pos) (tOp r ta tb):=by
 intro ϊ s σ H Q I h;exact wpAny_Compare1 (binT ha hb I h λv u s2 x y H2 I2 rx ry q=>ho ϊ s2 σ H2 x y v u Q I2 rx ry q) hm
def Tm(t:TE):TT:=λσ H Q=>t σ H λx H'=>∃k,x = .bl k/\Q k H'
theorem Ax(ho:OpR X (xc op) r)(ha:PE X a ta)(hb:PE X b tb)(hm:behindInMarks op b=false:=by exact Av _):PT X (.Compare a [op] [b] pos) (Tm (tOp r ta tb)):=by
 intro ϊ s σ H Q I h;refine wpAny_isTrue_Compare1 (thn (ha ϊ s σ H _ I h) λv s1 ⟨x,H1,I1,r1,q1⟩=>thn (hb ϊ s1 σ H1 _ I1 q1) λu s2 ⟨y,H2,I2,r2,q2⟩=>
   thn (ho ϊ s2 σ H2 x y v u _ I2 r1 r2 q2) λc s3 ⟨z,H3,I3,r3,k,e,q3⟩=>?_) hm
 subst e;cases r3;exact xn #[H3,I3,q3]
def ZZ(r r':R2)(ta tb tc:TE):TE:=λσ H Q=>ta σ H λx H1=>tb σ H1 λy H2=>r x y H2 λz H3=>∃k,z = .bl k /\
 (if k=true then tc σ H3 λw' H4=>r' y w' H4 Q else Q (.bl false) H3)
theorem kG{op':CmpOp}{r':R2}(ho:OpR X (xc op) r)(ho':OpR X (xc op') r')(ha:PE X a ta)(hb:PE X b tb)(hc:PE X c tc)
   (hm:lastMarks [op,op'] [b,c]=false:=by with_unfolding_all rfl):PT X (.Compare a [op,op'] [b,c] pos) (Tm (ZZ r r' ta tb tc)):=by
 intro ϊ s σ H Q I h;refine isTrue_chain (thn (ha ϊ s σ H _ I h) λv s1 ⟨x,H1,I1,r1,q1⟩=>test_link (thn (hb ϊ s1 σ H1 _ I1 q1) λu s2 ⟨y,H2,I2,r2,q2⟩=>
   thn (ho ϊ s2 σ H2 x y v u _ I2 r1 r2 q2) λd s3 ⟨z,H3,I3,r3,k,e,q3⟩=>?_)) hm
 subst e;cases r3;refine xn ?_;cases k with
 | false=>
   obtain⟨k',e',q'⟩:=q3;cases e';exact ite_ff #[H3,I3,q']
 | true=>
   refine ite_tt (test_last (thn (hc ϊ s3 σ H3 _ I3 q3) λw' s4 ⟨z',H4,I4,r4,q4⟩=>thn (ho' ϊ s4 σ H4 y z' u w' _ I4 r2 r4 q4) λd' s5 hZ=>?_));obtain⟨z2,H5,I5,r5,k2,e2,q5⟩:=hZ;subst e2;cases r5;exact xn #[H5,I5,q5]
def ud7(K:δ)(x:V)(H:Hp)(k:Bool):Prop:=
 match x with
 | .non=>k=false
 | .bl b=>k=b
 | .int i=>k=(i != 0)
 | .str y=>y.length<=wt/\k=((y.length:Int) != 0)
 | .byt y=>y.size<=wt/\k=((y.size:Int) != 0)
 | .ref p=>(∃xs,SqL K H p xs/\k = !xs.isEmpty)\/(∃xs,SqT K H p xs/\k = !xs.isEmpty)\/∃kvs,H p=some (.dK kvs)/\k = !kvs.isEmpty
 | _=>False
theorem kH{κ:Type}{kvs:List (κ×V)}{vs:List (κ×vz)}(r:KV kvs vs):(!vs.isEmpty) = !kvs.isEmpty:=by
 cases r <;> rfl
theorem Z0{xs:List V}{its:List vz}(r:Vals xs its):(!its.toArray.isEmpty) = !xs.isEmpty:=by
 cases r <;> simp
theorem L8:(wt:Nat)<2^63:=by rw[sizeLine_eq];decide
theorem zL:TruR X (λx H Q=>∃k,ud7 X.K x H k/\Q k H):=by
 intro ϊ s σ H x v Q I rx h;obtain⟨k,e,q⟩:=h;have hl:=L8;have hs:wt=16777216:=sizeLine_eq;cases x with
 | non=>
   cases rx;have e':k=false:=e;subst e';exact truthy_none #[H,I,q]
 | bl b=>
   cases rx;have e':k=b:=e;subst e';exact xn #[H,I,q]
 | int i=>
   obtain⟨t,rfl⟩:=rx;have e':k=(i != 0):=e;subst e';exact PySem.P.truthy_int #[H,I,q]
 | str y=>
   obtain⟨t,rfl⟩:=rx;obtain⟨hy,e'⟩:y.length<=wt/\k=((y.length:Int) != 0):=e;subst e';exact PySem.P.truthy_str ∅ #[H,I.tok _,q]
 | byt y=>
   obtain⟨t,rfl⟩:=rx;obtain⟨hy,e'⟩:y.size<=wt/\k=((y.size:Int) != 0):=e;subst e';exact PySem.W.truthy_bytes ∅ #[H,I.tok _,q]
 | ref p=>
   cases rx;have e':(∃xs,SqL X.K H p xs/\k = !xs.isEmpty)\/(∃xs,SqT X.K H p xs/\k = !xs.isEmpty)\/∃kvs,H p=some (.dK kvs)/\k = !kvs.isEmpty:=e;rcases e' with ⟨xs,hx,e'⟩ | ⟨xs,hx,e'⟩ | ⟨kvs,hx,e'⟩
   subst e';obtain⟨its,r,pl,hz⟩:=I.list hx;have hlen:=r.length;exact wpAny_truthy_list pl.isList (by simp only [ο];lia) #[H,I.tok _,by rw[Z0 r];exact q];subst e';obtain⟨its,r,pl,hz⟩:=I.tuple hx;have hlen:=r.length;exact truthy_tuple pl (by simp only [ο];lia) #[H,I.tok _,by rw[Z0 r];exact q];subst e';obtain⟨hz,hS,vs,r,m⟩:kvs.length<=wt/\(p==sysModules)=false/\∃vs,KV kvs vs/\s.heap.DictOf (Cm X.prog X.w) p vs:=I.hok p _ hx;have hlen:kvs.length=vs.length:=Paired.length r;exact wpAny_truthy_dict hS m ∅ #[H,I.tok _,by rw[kH r];exact q]
 | _=>exact(show False from e).elim
theorem Dc(ha:PE X a ta)(he:∀whole,isTrue a X.env whole=(do let v <-whole;standAt a.pos;holding [v] (truthy v))):
   PT X a (λσ H Q=>ta σ H λx H'=>∃k,ud7 X.K x H' k/\Q k H'):=by
 intro ϊ s σ H Q I h;exact isTrue_plain (thn (ha ϊ s σ H _ I h) λv s1 ⟨x,H1,I1,r1,q1⟩=>zL ϊ s1 σ H1 x v Q I1 r1 q1) (he _)
theorem L9{x:V}(r:Vals [x] us):∃u,us=[u]/\RelV x u:=by
 cases r with
 | cons r1 r2=>cases r2;exact#[_,rfl,r1]
theorem QI{x y:V}(r:Vals [x,y] us):∃u w',us=[u,w']/\RelV x u/\RelV y w':=by
 cases r with
 | cons r1 r2=>
   cases r2 with
   | cons r3 r4=>cases r4;exact#[_,_,rfl,r1,r3]
theorem kJ(hc:X.calm=true):DN X (.builtin "max") (λxs H Q=>∃i j,xs=[.int i,.int j]/\Q (.int (if j>i then j else i)) H):=by
 intro ϊ s σ H xs us Q I r h;obtain⟨i,j,rfl,q⟩:=h;obtain⟨u,w',rfl,⟨t,rfl⟩,⟨t',rfl⟩⟩:=QI r;refine max_two_ints (I.ok.hd hc) λh' tk k=>#[_,H,I.kept k,?_,q]
 by_cases hj:j>i;rw[xb1 hj,xb1 hj];exact#[_,rfl];rw[xb2 hj,xb2 hj];exact#[_,rfl]
theorem QJ(hc:X.calm=true):DN X (.builtin "min") (λxs H Q=>∃i j,xs=[.int i,.int j]/\Q (.int (if j<i then j else i)) H):=by
 intro ϊ s σ H xs us Q I r h;obtain⟨i,j,rfl,q⟩:=h;obtain⟨u,w',rfl,⟨t,rfl⟩,⟨t',rfl⟩⟩:=QI r;refine min_two_ints (I.ok.hd hc) λh' tk k=>#[_,H,I.kept k,?_,q]
 by_cases hj:j<i;rw[xb1 hj,xb1 hj];exact#[_,rfl];rw[xb2 hj,xb2 hj];exact#[_,rfl]
end
structure ObjM(h:xt)(x dx C:wa)(mA:Str->Option vz):Prop where
 obj:h.get? x=some (instObj C dx)
 ns:h.Ns1 dx mA
 ne:dx≠x
set_option tactic.hygienic true in
theorem Z1{dx:wa}(n:h.Ns1 dx mA):∃od,h.get? dx=some od/\∀name,lookIn name od=some (mA name):=by
 obtain⟨o,es,ep,ho,hd,hk,_,hm⟩:=n;refine#[o,ho,λname=>?_];have e:=hm name;unfold nsFind findBy at e;rw[<-Array.find?_toList] at e;unfold lookIn;rw[hd];dsimp only
 split
 rename_i y q;rw[q] at e;exact congrArg some e;rename_i q;rw[q] at e;have a:es.toList.any (·.refKey)=false:=by
   rw[jg];intro y hy;obtain⟨z,t,hkey⟩:=hk y (Array.mem_toList_iff.mp hy);simp [DictEntry.refKey,hkey]
 have a':¬es.toList.any (·.refKey)=true:=by rw[a];exact ξ
 rw[xb2 a'];exact congrArg some e
theorem ObjM.look{x dx:wa}(I:ObjM h x dx C mA):∃od,sj h x (instObj C dx) C (some od)/\∀name,lookIn name od=some (mA name):=
 let ⟨od,ho,hl⟩:=Z1 I.ns
 #[od,#[I.obj,rfl,rfl,ho],hl]
section
variable {prog:we}{w:wf}{A:wg}{E:vz->wb->Prop}{s:wb}{K:δ}{x dx C f:wa}{mA:Str->Option vz}{name:Str}{v:vz}
theorem kK{expr:Bool}(X:K.In s.heap)(I:ObjM s.heap x dx C mA)(hg:plainGet K C name=true)(hh:hasDictIn K C=true)
   (ha:bp K (.ref C) name=some none) (hv:mA name=some v) (hv':handedIn v=true) (h:Q v { s with toks:=s.toks+1 }):
   wx (xl prog w) A (getAttr (.ref x) name expr) Q E s:=by
 obtain⟨od,J,hl⟩:=I.look;exact PySem.W.get_value X J (plainGet_of hg).1 (findObj_own hh ha rfl (by rw[hl,hv])) hv' h
theorem kL{Q:vz×List vz->wb->Prop}(X:K.In s.heap)(I:ObjM s.heap x dx C mA)(hg:plainGet K C name=true)
   (hf:bp K (.ref C) name=some (some (.ref f))) (ht:isFn K (.ref f)=true) (hv:mA name=none) (h:Q (.ref f,[.ref x]) s):
   wx (xl prog w) A (getMethod (.ref x) name pl) Q E s:=by
 obtain⟨od,J,hl⟩:=I.look;exact PySem.W.method_fn X J (plainGet_of hg).1 (plainGet_of hg).2 hf (beq_iff_eq.mp ht) (by show (lookIn name od).map (·.isSome)=some false;rw[hl,hv];rfl) h
theorem kM{ns:List Str}{Q:Unit->wb->Prop}(X:K.In s.heap)(I:ObjM s.heap x dx C mA)
   (hs:bp K (.ref C) "__setattr__"=some (some (.builtin "object.__setattr__"))) (hp:plainOver K C=true) (ht:takerIn K C name=some none) (hh:hasDictIn K C=true)
   (hw:km mA ns) (hsz:ns.length<=wt)
   (h:∀h',ObjM h' x dx C (λy=>if y=name then some v else mA y)->df dx s.heap h'->Q () { s with heap:=h',toks:=s.toks+2 }):
   wx (xl prog w) A (setAttr (.ref x) name v) Q E s:=by
 obtain⟨od,J,hl⟩:=I.look;refine PySem.W.set_plain X J hs (PySem.W.osa_open (s:={ s with toks:=s.toks+1 }) (r:=none) X J hp ht λb=>?_);obtain⟨cd,hc,hd'⟩:=PySem.W.any_some hh;have hx:s.heap.get? x=some #[.ref C,some dx,.plain,(ϋ [])]:=I.obj;refine wu (wv (wu (wu (wpAny_loadPart hx (wu (me.here (s:={ s with toks:=s.toks+1 }) (PySem.W.looks_clsIn X hc) ?_))))));rw[hd'];refine wv (a:=some dx) (wu (wv (wu ?_)));refine wpAny_nsSet1 (s:={ s with toks:=s.toks+1 }) I.ns λh' hn2 hs2=>?_;obtain⟨oD,esD,epD,hoD,hdD,hcD⟩:=hn2.count (km.cons name v hw);refine wu (wpAny_lookBehind hoD (by rw[hdD];exact pastItsLine_dict (cr hcD (by rw[Ψ];lia))) ?_);exact wv (h _ #[(hs2.2 _ (fh I.ne)).trans I.obj,hn2,I.ne] hs2)
theorem kN{R:Result->wb->Prop}{vs:List vz}(X:K.In s.heap)(hm:makesIn K C=true)
   (hi:bp K (.ref C) "__init__"=some (some (.ref f))) (hf:PySem.W.typeIn K (.ref f)=some (.type "function"))
   (h:codeAny (xl prog w) (A.under (.builtin "type.__call__" #[.ref C::vs,kw])) (.call (.ref f) #[.ref (s.heap.objs.size+1)::vs,kw]) (PySem.W.InitBack (s.heap.objs.size+1) R)
     { s with heap:=(s.heap.push emptyDict).push (instObj C s.heap.objs.size) }):
   codeAny (xl prog w) A (.call (.ref C) #[vs,kw]) R s:=by
 obtain⟨hh,g,d,t,os⟩:=s;exact PySem.W.make_core (PySem.W.makes_of X hm) (ig X hi) (λself=>PySem.W.bind_fn X self hf) (.inl rfl) h
end
def yT(f:Str)(v:V):List (Str×V)->List (Str×V)
 | []=>[(f,v)]
 | (g,x)::r=>if g=f then (g,v)::r else (g,x)::yT f v r
theorem Z2(f g:Str)(v:V):∀fs:List (Str×V),(yT f v fs).lookup g=if g=f then some v else fs.lookup g
 | []=>by
   show iw g [(f,v)]=_;by_cases h:g=f;have hb:(g==f)=true:=beq_iff_eq.mpr h;simp only [iw,hb,xb1 h];have hb:(g==f)=false:=beq_eq_false_iff_ne.mpr h;simp only [iw,hb,xb2 h]
 | (k,x)::r=>by
   have ih:=Z2 f g v r;rw[show yT f v ((k,x)::r)=(if k=f then (k,v)::r else (k,x)::yT f v r) from rfl];by_cases hk:k=f;rw[xb1 hk];by_cases h:g=k;have hb:(g==k)=true:=beq_iff_eq.mpr h;simp only [iw,hb,xb1 (h.trans hk)];have hb:(g==k)=false:=beq_eq_false_iff_ne.mpr h;simp only [iw,hb,xb2 (λe:g=f=>h (e.trans hk.symm))];rw[xb2 hk];by_cases h:g=k;have hb:(g==k)=true:=beq_iff_eq.mpr h;simp only [iw,hb,xb2 (λe:g=f=>hk (h.symm.trans e))];have hb:(g==k)=false:=beq_eq_false_iff_ne.mpr h;simp only [iw,hb];exact ih
theorem Tn(f:Str)(v:V):∀fs:List (Str×V),f∈(yT f v fs).map (·.1)/\∀g,g∈fs.map (·.1)->g∈(yT f v fs).map (·.1)
 | []=>#[by simp [yT],λg h=>by simp at h]
 | (k,x)::r=>by
   obtain⟨i1,i2⟩:=Tn f v r;rw[show yT f v ((k,x)::r)=(if k=f then (k,v)::r else (k,x)::yT f v r) from rfl];by_cases hk:k=f;rw[xb1 hk];subst hk;exact#[f!"",λg h=>by simpa using h];rw[xb2 hk];refine#[?_,λg h=>?_];rw[cb];exact ι _ i1;rw[cb] at h ⊢;rcases Ξ.mp h with e | e
   exact Ξ.mpr (.inl e);exact ι _ (i2 g e)
theorem Z3(f:Str)(v:V):∀fs:List (Str×V),(yT f v fs).length<=fs.length+1
 | []=>by simp [yT]
 | (k,x)::r=>by
   have ih:=Z3 f v r;rw[show yT f v ((k,x)::r)=(if k=f then (k,v)::r else (k,x)::yT f v r) from rfl];by_cases hk:k=f;rw[xb1 hk,Ψ,Ψ];lia;rw[xb2 hk,Ψ,Ψ];lia
theorem RelO.some_of{o:Option vz}(r:RelO (some v) o):∃u,o=some u/\RelV v u:=by
 cases o with
 | none=>exact(show False from r).elim
 | some u=>exact#[u,rfl,r]
theorem RelO.none_of{o:Option vz}(r:RelO none o):o=none:=by
 cases o with
 | none=>rfl
 | some u=>exact(show False from r).elim
theorem Z4(r:RelV v u):handedIn u=true:=by
 cases v with
 | non=>cases (show u=Value.none from r);rfl
 | bl b=>cases (show u=Value.bool b from r);rfl
 | int i=>obtain⟨t,e⟩:=(show ∃t,u=Value.int i t from r);cases e;rfl
 | str x=>obtain⟨t,e⟩:=(show ∃t,u=Value.str x t from r);cases e;rfl
 | byt b=>obtain⟨t,e⟩:=(show ∃t,u=Value.bytes b t from r);cases e;rfl
 | flt b=>obtain⟨t,e⟩:=(show ∃t,u=Value.float b t from r);cases e;rfl
 | ref a=>cases (show u=Value.ref a from r);rfl
 | ty n=>cases (show u=Value.type n from r);rfl
section
variable {P:we}{w:wf}{H H':Hp}{h h':xt}{a C dx:wa}{fs fs':List (Str×V)}
theorem QK(hok:HOk P w H h)(e:H a=some (.ins C dx fs)):∃mA,ObjM h a dx C mA/\(∀f,RelO (fs.lookup f) (mA f))/\km mA (fs.map (·.1))/\fs.length<=1000/\H dx=some (.own a):=by
 obtain⟨d,z,ne,ob,mA,n,r,q⟩:=(show Bc P w H h a (.ins C dx fs) from hok a _ e)
 exact#[mA,#[ob,n,ne],r,q,z,d]
end
structure Cls(K:δ)(C:wa):Prop where
 pg:plainGet K C Str.empty=true
 hd:hasDictIn K C=true
 po:plainOver K C=true
 sa:bp K (.ref C) "__setattr__"=some (some (.builtin "object.__setattr__"))
theorem Cls.get(c:Cls K C)(f:Str):plainGet K C f=true:=c.pg
def B1(K:δ)(C:wa)(f:Str):Prop:=bp K (.ref C) f=some none
theorem B1.taker{f:Str}(n:B1 K C f):takerIn K C f=some none:=by
 unfold takerIn;rw[show bp K (.ref C) f=some none from n];rfl
structure Con(K:δ)(C:wa)(f:Str)(v:V)(u:vz):Prop where
 at_:bp K (.ref C) f=some (some u)
 rel:RelV v u
 get:specialIn K u "__get__"=some none
 cp:PySem.W.copiedNames.contains f=false
structure yI(K:δ)(C:wa)(m:Str)(f:wa):Prop where
 at_:bp K (.ref C) m=some (some (.ref f))
 fn:isFn K (.ref f)=true
 kp:keepIn K (.ref f)=true
section
variable {X:Cx}{ϊ:List (wa×Obj)}{σ:St}{H:Hp}{s:wb}{a C dx:wa}{fs:List (Str×V)}{f:Str}{v:V}{A:wg}{E:vz->wb->Prop}
theorem kO{b:Bool}(I:Inv X ϊ σ H s)(e:H a=some (.ins C dx fs))(c:Cls X.K C)(n:B1 X.K C f)(l:fs.lookup f=some v)
   (h:∀u s',Inv X ϊ σ H s'->RelV v u->Q u s'):wx (xl X.prog X.w) A (getAttr (.ref a) f b) Q E s:=by
 obtain⟨mA,O,r,_,_,_⟩:=QK I.hok e;obtain⟨u,hu,ru⟩:=RelO.some_of (v:=v) (o:=mA f) (by rw[<-l];exact r f);exact kK I.kIn O (c.get f) c.hd n hu (Z4 ru) (h u _ (I.tok _) ru)
theorem K2{m:Str}{g:wa}{Q:vz×List vz->wb->Prop}(I:Inv X ϊ σ H s)(e:H a=some (.ins C dx fs))(c:Cls X.K C)(k:yI X.K C m g)(l:fs.lookup m=none)
   (h:Q (.ref g,[.ref a]) s):wx (xl X.prog X.w) A (getMethod (.ref a) m pl) Q E s:=by
 obtain⟨mA,O,r,_,_,_⟩:=QK I.hok e;have hn:mA m=none:=RelO.none_of (by rw[<-l];exact r m);exact kL I.kIn O (c.get m) k.at_ k.fn hn h
theorem kP{y:V}{Q:Unit->wb->Prop}(I:Inv X ϊ σ H s)(e:H a=some (.ins C dx fs))(c:Cls X.K C)(n:B1 X.K C f)(hl:fs.length<1000)(ry:RelV y u)
   (h:∀s',Inv X ϊ σ (upd H a (.ins C dx (yT f y fs))) s'->Q () s'):wx (xl X.prog X.w) A (setAttr (.ref a) f u) Q E s:=by
 obtain⟨mA,O,r,wi,_,ho⟩:=QK I.hok e;have hz:(fs.map (·.1)).length<=wt:=by rw[Φ,sizeLine_eq];lia
 refine kM I.kIn O c.sa c.po n.taker c.hd wi hz λh' O' sb=>h _ ?_;have hd:∃o,h'.get? dx=some o:=let ⟨o,_,_,e',_⟩:=O'.ns;#[o,e'];refine I.write (x:=a) (e:=dx) (by rw[e];exact bu) (.inr ho) (λb q hb z=>(sb.2 b hb).trans z) hd ?_;refine#[by rw[AE O.ne];exact ho,?_,O.ne,O'.obj,_,O'.ns,λg=>?_,λg hg=>?_];have:=Z3 f y fs;lia;show RelO ((yT f y fs).lookup g) (if g=f then some u else mA g);rw[Z2];by_cases q:g=f;rw[xb1 q,xb1 q];exact ry;rw[xb2 q,xb2 q];exact r g;by_cases q:g=f;rw[q];exact(Tn f y fs).1;refine(Tn f y fs).2 g (wi g λz=>hg ?_);show (if g=f then some u else mA g)=none;rw[xb2 q];exact z
theorem Inv.made(I:Inv X ϊ σ H s):Inv X ϊ σ (upd (upd H s.heap.objs.size (.own (s.heap.objs.size+1))) (s.heap.objs.size+1) (.ins C s.heap.objs.size []))
   { s with heap:=(s.heap.push emptyDict).push (instObj C s.heap.objs.size) }:=by
 have e1:(s.heap.push emptyDict).get? s.heap.objs.size=some emptyDict:=ak s.heap rfl;have e2:((s.heap.push emptyDict).push (instObj C s.heap.objs.size)).get? (s.heap.objs.size+1)=some (instObj C s.heap.objs.size):=by
   have:=ak (s.heap.push emptyDict) (o:=instObj C s.heap.objs.size) rfl
   rwa [jw] at this
 have e3:(s.heap.push emptyDict).Ns s.heap.objs.size (λ_=>none):=#[emptyDict,(ϋ []),_,e1,rfl,(λe he=>xb0 he f!""),λ_=>rfl]
 have I1:=I.laid (a:=s.heap.objs.size) (o:=.own (s.heap.objs.size+1)) (h':=s.heap.push emptyDict) (t':=s.toks) (λb u q=>μ _ q) (Γ _) #[_,e1];refine I1.laid (a:=s.heap.objs.size+1) (o:=.ins C s.heap.objs.size []) (t':=s.toks) (λb u q=>μ _ q) (qv (jw _ _)) ?_;have ne:s.heap.objs.size≠s.heap.objs.size+1:=bi (ip _);refine#[by rw[AE ne,xb5],dv _,ne,e2,λ_=>none,(vw.of_empty e3).at λo q=>μ _ q,λ_=>bu,λy hy=>xb0 rfl hy]
theorem Z5{prog:we}{env:xu}{f:Str}(hb:attributeBase e f env (xk e env)=xk e env)
   (h:wx (xl prog w) A (xk e env) (λo s₁=>wx (xl prog w) A (getAttr o f true) Q E s₁) E s):wx (xl prog w) A (xk (.Attribute e f pos) env) Q E s:=
 Attribute_any_ h (by rw[arm_eval_Attribute,hb])
end
def tFld(K:δ)(ta:TE)(f:Str):TE:=λσ H Q=>ta σ H λx H1=>∃a C dx fs v,x = .ref a/\H1 a=some (.ins C dx fs)/\Cls K C/\B1 K C f/\fs.lookup f=some v/\Q v H1
def sFld(K:δ)(ta tv:TE)(f:Str):TS:=λD σ H=>tv σ H λy H1=>ta σ H1 λx H2=>∃a C dx fs,x = .ref a/\H2 a=some (.ins C dx fs)/\Cls K C/\B1 K C f/\fs.length<1000 /\
 D.nx σ (upd H2 a (.ins C dx (yT f y fs)))
section
variable {X:Cx}{o e value:wk}{f:Str}{pos pos' tpos:Pos}{ta tv:TE}
theorem BJ(he:PE X e ta)(hb:attributeBase e f X.env (xk e X.env)=xk e X.env):PE X (.Attribute e f pos) (tFld X.K ta f):=by
 intro ϊ s σ H Q I h;refine Z5 hb (thn (he ϊ s σ H _ I h) λu s1 hZ=>?_);obtain⟨x,H1,I1,rx,a,C,dx,fs,v,ex,ea,c,n,l,q⟩:=hZ;subst ex;obtain rfl:u=Value.ref a:=rx;exact kO I1 ea c n l λu' s2 I2 ru=>#[v,H1,I2,ru,q]
theorem CK(ha:PE X o ta)(hv:PE X value tv)(hs:swapsWith value (some (.Attribute o f pos')) pos.line X.env=pure false):PS X (.Assign [.Attribute o f pos'] value pos) (sFld X.K ta tv f):=by
 intro ϊ s σ H D I h;refine plainObj_wpAny_Assign_Attribute (thn (hv ϊ s σ H _ I h) λu s1 ⟨y,H1,I1,ry,q⟩=>thn (ha ϊ s1 σ H1 _ I1 q) λov s2 hZ=>?_) hs;obtain⟨x,H2,I2,rx,a,C,dx,fs,ex,ea,c,n,l,q2⟩:=hZ;subst ex;obtain rfl:ov=Value.ref a:=rx;exact kP I2 ea c n l ry λs3 I3=>#[σ,_,I3,q2]
end
section
variable {X:Cx}{ϊ:List (wa×Obj)}{σ:St}{H:Hp}{s:wb}{A:wg}{E:vz->wb->Prop}{Q:vz->wb->Prop}{c:vz}{b:Bool}
inductive TyOf(K:δ)(H:Hp):V->vz->Prop where
 | non:TyOf K H .non (.type "NoneType")
 | bl (x:Bool):TyOf K H (.bl x) (.type "bool")
 | int (i:Int):TyOf K H (.int i) (.type "int")
 | str (x:Str):TyOf K H (.str x) (.type "str")
 | flt (x:UInt64):TyOf K H (.flt x) (.type "float")
 | lst {a:wa} {xs:List V} (e:H a=some (.lst xs)):TyOf K H (.ref a) (.type "list")
 | frz {a:wa} {o:Obj} {xs:List V} (e:H a=some (.frz o (.lst xs))):TyOf K H (.ref a) (.type "list")
 | tup {a:wa} {xs:List V} (e:H a=some (.tup xs)):TyOf K H (.ref a) (.type "tuple")
 | dK {a:wa} {kvs:List (Key×V)} (e:H a=some (.dK kvs)):TyOf K H (.ref a) (.type "dict")
 | dT {a:wa} {kvs:List (List Key×V)} (e:H a=some (.dT kvs)):TyOf K H (.ref a) (.type "dict")
 | ins {a C dx:wa} {fs:List (Str×V)} (e:H a=some (.ins C dx fs)) (cl:Cls K C) (ha:bp K (.ref C) "__class__"=some (some (.builtin "object.__class__")))
     (hn:specialIn K (.builtin "object.__class__") "__get__"=some (some (.builtin "getset_descriptor.__get__"))) (htk:takesIn K (.builtin "object.__class__")=some true)
     (hm:ij K C (.type "object")=some true):TyOf K H (.ref a) (.ref C)
theorem kQ{x:V}{t:vz}(I:Inv X ϊ σ H s)(rx:RelV x u)(ty:TyOf X.K H x t)(e:kitOne X.K t c=some b)(h:∀tk,Q (.bool b) { s with toks:=tk }):
   wx (xl X.prog X.w) A (call (.builtin "isinstance") [u,c]) Q E s:=by
 cases ty with
 | non=>cases (show u=Value.none from rx);exact kia_one PySem.W.kitx_none I.kIn bu e (λz=>nomatch z) h
 | bl y=>cases (show u=Value.bool y from rx);exact kia_one PySem.W.kitx_bool I.kIn bu e (λz=>nomatch z) h
 | int i=>obtain⟨t,q⟩:=(show ∃t,u=Value.int i t from rx);cases q;exact kia_one PySem.W.kitx_int I.kIn bu e (λz=>nomatch z) h
 | str y=>obtain⟨t,q⟩:=(show ∃t,u=Value.str y t from rx);cases q;exact kia_one PySem.W.kitx_str I.kIn bu e (λz=>nomatch z) h
 | flt y=>obtain⟨t,q⟩:=(show ∃t,u=Value.float y t from rx);cases q;exact kia_one PySem.W.kitx_float I.kIn bu e (λz=>nomatch z) h
 | @lst a xs ea=>
   cases (show u=Value.ref a from rx);obtain⟨_,_,n,_,h1⟩:=(show Bc X.prog X.w H s.heap a (.lst xs) from I.hok a _ ea)
   exact kia_one kitx_list I.kIn #[_,h1,rfl] e (λz=>nomatch z) h
 | @frz a ob xs ea=>
   cases (show u=Value.ref a from rx);obtain⟨_,_,_,n,_,h1⟩:=(show Bc X.prog X.w H s.heap a (.frz ob (.lst xs)) from I.hok a _ ea)
   exact kia_one kitx_list I.kIn #[_,h1,rfl] e (λz=>nomatch z) h
 | @tup a xs ea=>
   cases (show u=Value.ref a from rx);obtain⟨_,_,_,p⟩:=(show Bc X.prog X.w H s.heap a (.tup xs) from I.hok a _ ea)
   obtain⟨o,h1,h2,_⟩:=p;exact kia_one PySem.W.kitx_tuple I.kIn #[o,h1,h2] e (λz=>nomatch z) h
 | @dK a kvs ea=>
   cases (show u=Value.ref a from rx);obtain⟨_,_,vs,_,p⟩:=(show Bc X.prog X.w H s.heap a (.dK kvs) from I.hok a _ ea)
   obtain⟨o,es,ep,h1,h2,_⟩:=p;exact kia_one kitx_dict I.kIn #[o,h1,h2.1] e (λz=>nomatch z) h
 | @dT a kvs ea=>
   cases (show u=Value.ref a from rx);obtain⟨_,_,xs,_,o,es,ep,h1,h2,_⟩:=(show Bc X.prog X.w H s.heap a (.dT kvs) from I.hok a _ ea)
   exact kia_one kitx_dict I.kIn #[o,h1,h2.1] e (λz=>nomatch z) h
 | @ins a C dx fs ea cl ha hn htk hm=>
   cases (show u=Value.ref a from rx);obtain⟨mA,O,_⟩:=QK I.hok ea;obtain⟨od,J,_⟩:=O.look;exact kia_one (PySem.W.kitx_own (cl.get _) cl.hd ha hn htk hm) I.kIn J e (λz=>nomatch z) h
end
structure Room(k:Nat)(A:wg):Prop where
 hd:A.handled=none
 dp:A.depth+3*k+5<recursionLimit
 un:A.units+16*k+200<xm
theorem Room.mono{j:Nat}(r:Room k A)(h:j<=k):Room j A:=#[r.hd,by have:=r.dp;lia,by have:=r.un;lia]
theorem Room.deeper(r:Room (k+1) A)(env:xu):Room k (A.deeper env):=
 #[r.hd,by have:=r.dp;show A.depth+1+3*k+5<_;lia,by have:=r.un;show A.units+3+16*k+200<_;lia]
theorem kR:(A.under (.builtin "type.__call__" #[.ref C::us,kw])).depth=A.depth+1:=by
 first | rfl | simp [Around.under,Code.weight,Code.isCreation,Code.isGuard,Code.isCaller,Code.frames,Code.isFrame,guardIds]
theorem kS:(A.under (.builtin "type.__call__" #[.ref C::us,kw])).units=A.units+1:=by
 first | rfl | simp [Around.under,Code.cUnits,Code.frames,Code.isFrame]
theorem Room.make(r:Room (k+1) A)(C:wa)(us:List vz)(kw:List (Str×vz)):Room k (A.under (.builtin "type.__call__" #[.ref C::us,kw])):=
 #[r.hd,by have:=r.dp;rw[kR];lia,by have:=r.un;rw[kS];lia]
theorem Room.depth(r:Room k A):A.depth<recursionLimit:=by have:=r.dp;lia
theorem Room.units(r:Room k A):A.units+64<xm:=by have:=r.un;lia
theorem Room.units0(r:Room k A):A.units<xm:=by have:=r.un;lia
def ue1:TA:=λ_ H Q=>Q [] H
def zX(ta:TE)(tr:TA):TA:=λσ H Q=>ta σ H λx H1=>tr σ H1 λxs H2=>Q (x::xs) H2
section
variable {X:Cx}{e:wk}{es:List wk}{te:TE}{t:TA}{pos:Pos}
theorem Ab:PA X [] ue1:=λ_ _ _ _ H Q I h=>Calls.spliced_nil #[[],H,I,.nil,h]
theorem Aa(ha:PE X e te)(hr:PA X es t)(hs:wo (e::es) X.env=(false,xk e X.env)::wo es X.env:=by rfl):PA X (e::es) (zX te t):=by
 intro pos ϊ s σ H Q I h;rw[hs];show wx _ _ (spliced ((false,xk e X.env)::wz pos (wo es X.env))) _ _ s;refine Calls.spliced_cons (thn (ha ϊ s σ H _ I h) λu s1 hZ=>?_);obtain⟨x,H1,I1,r1,q1⟩:=hZ;exact thn (hr pos ϊ s1 σ H1 _ I1 q1) λus s2 ⟨xs,H2,I2,r2,q2⟩=>#[x::xs,H2,I2,.cons r1 r2,q2]
def tTup(t:TA):TE:=λσ H Q=>t σ H λxs H1=>xs.length<=wt/\∀p,H1 p=none->Q (.ref p) (upd H1 p (.tup xs))
def tLst(t:TA):TE:=λσ H Q=>t σ H λxs H1=>xs.length<=wt/\∀p,H1 p=none->Q (.ref p) (upd H1 p (.lst xs))
theorem BK{x1}(h:PA X es t):PE X (.Tuple es x1 pos) (tTup t):=by
 intro ϊ s σ H Q I hq;refine wpAny_Tuple_spliced (thn (h pos ϊ s σ H _ I hq) λus s1 ⟨xs,H1,I1,r,z,q⟩=>#[by rw[<-r.length];exact z,?_]);have hf:H1 s1.heap.objs.size=none:=I1.hok.fresh (Γ _);refine#[.ref s1.heap.objs.size,upd H1 s1.heap.objs.size (.tup xs),I1.laid (t':=s1.toks) (λb u e=>μ _ e) (Γ _) ?_,rfl,q _ hf];exact#[z,us,r,#[_,ak _ rfl,rfl,_,rfl]]
theorem Cw(h:PA X es t):PE X (.List es pos) (tLst t):=by
 intro ϊ s σ H Q I hq;refine wpAny_List_spliced (thn (h pos ϊ s σ H _ I hq) λus s1 ⟨xs,H1,I1,r,z,q⟩=>#[by rw[<-r.length];exact z,?_]);have hf:H1 s1.heap.objs.size=none:=I1.hok.fresh (Γ _);refine#[.ref s1.heap.objs.size,upd H1 s1.heap.objs.size (.lst xs),I1.laid (t':=s1.toks) (λb u e=>μ _ e) (Γ _) ?_,rfl,q _ hf];exact#[z,us,0,r,ak _ rfl]
end
abbrev Sp:=List V->Hp->VK->XK->Prop
abbrev CXT:=List xu->Hp->wb->XK->vz->wb->Prop
variable{CX:CXT}
structure Env0(P:we)(w:wf)(K:δ)(mg:Str->Option vz)(base:xt)(A:wg)(outer:List xu)(s:wb)(H:Hp):Prop where
 frames:A.frames=some outer
 mod:Mod K mg base
 bs:∀b o,base.get? b=some o->s.heap.get? b=some o/\H b=none
 bsz:base.objs.size<=s.heap.objs.size
 funs:s.heap.FunFrames base outer
 frf:∀b∈frs outer,H b=none
 hok:HOk P w H s.heap
 bare:AllBare s.gens
def CE(outer:List xu)(P:we)(w:wf)(H:Hp)(s:wb)(Q:VK)(u:vz)(s':wb):Prop:=
 ∃v H',s'.os=s.os/\AllBare s'.gens/\Un (frs outer) [] H H' s.heap s'.heap/\HOk P w H' s'.heap/\RelV v u/\Q v H'
def CR(CX:CXT)(outer:List xu)(P:we)(w:wf)(H:Hp)(s:wb)(Q:VK)(E:XK)(r:Result)(s':wb):Prop:=
 match r with
 | .ok (.ret u)=>CE outer P w H s Q u s'
 | .ok _=>False
 | .error e=>CX outer H s E e s'
structure FnOk(P:we)(w:wf)(K:δ)(mg:Str->Option vz)(base:xt)(CX:CXT)(k:Nat)(f:wa)(fd:wc)(ps:List Str)(sp:Sp):Prop where
 len:∀vs H Q E,sp vs H Q E->vs.length=ps.length
 run:∀(A:wg)(outer:List xu)(s:wb)(H:Hp)(args:Args)(us:List vz)(vs:List V)(Q:VK)(E:XK),Room k A->Env0 P w K mg base A outer s H->BindsTo s fd args (ps.zip us)->Vals vs us->sp vs H Q E ->
   codeAny (xl P w) A (.call (.ref f) args) (CR CX outer P w H s Q E) s
theorem FnOk.mono{P:we}{w:wf}{K:δ}{mg:Str->Option vz}{base:xt}{CX:CXT}{j k:Nat}{f:wa}{fd:wc}{ps:List Str}{sp:Sp}(F:FnOk P w K mg base CX j f fd ps sp)(h:j<=k):
   FnOk P w K mg base CX k f fd ps sp:=#[F.len,λA outer s H args us vs Q E hr=>F.run A outer s H args us vs Q E (hr.mono h)]
theorem FnOk.imp{f:wa}{fd:wc}{sp sp':Sp}(F:FnOk P w K mg base CX k f fd ps sp)
   (h:∀vs H Q E,sp' vs H Q E->sp vs H Q E):FnOk P w K mg base CX k f fd ps sp':=
 #[λvs H Q E q=>F.len vs H Q E (h _ _ _ _ q),λA outer s H args us vs Q E hr he hb hv hs=>F.run A outer s H args us vs Q E hr he hb hv (h _ _ _ _ hs)]
theorem Env0.make(e:Env0 P w K mg base A outer s H)(C:wa)(us:List vz)(kw:List (Str×vz)):
   Env0 P w K mg base (A.under (.builtin "type.__call__" #[.ref C::us,kw])) outer s H:=#[by first | exact e.frames | (simpa [Around.under,Code.envs,Code.isFrame,pushEnvs] using e.frames),e.mod,e.bs,e.bsz,e.funs,e.frf,e.hok,e.bare]
section
variable {X:Cx}{ϊ:List (wa×Obj)}{σ:St}{H:Hp}{s s':wb}
theorem Inv.env0(I:Inv X ϊ σ H s):Env0 X.prog X.w X.K X.mg X.base X.A X.stack s H:=
 #[I.ok.frames,I.ok.mod,I.bs,cr I.ok.bsz I.sz,I.stack,I.stkFree,I.hok,I.bare]
theorem Inv.after{Q:VK}(I:Inv X ϊ σ H s)(h:CE X.stack X.prog X.w H s Q u s'):EP X ϊ σ Q u s':=by
 obtain⟨v,H',os,bare,un,hok,r,q⟩:=h;obtain⟨hh,g,d,t,os'⟩:=s';obtain rfl:os'=s.os:=os;exact#[v,H',I.call (h':=hh) (g':=g) (d':=d) (t':=t) (ch:=[]) un hok bare (λb z=>xb0 z f!""),r,q]
end
def Ma(sp:Sp)(dvs:List V)(E:XK)(t:TA):TE:=λσ H Q=>t σ H λvs H1=>sp (vs++dvs) H1 Q E
def QL(C:wa)(sp:Sp)(dvs:List V)(E:XK)(t:TA):TE:=λσ H Q=>t σ H λvs H1=>∀x dx,H1 x=none->H1 dx=none->dx≠x ->
 sp (.ref x::(vs++dvs)) (upd (upd H1 dx (.own x)) x (.ins C dx [])) (λv H2=>v = .non/\Q (.ref x) H2) E
def BL(K:δ)(fd:wc)(ps:List Str)(ds:List vz):Prop:=
 ∀(s:wb)(us:List vz),K.In s.heap->(us++ds).length=ps.length->BindsTo s fd #[us,[]] (ps.zip (us++ds))
theorem BL.all{fd:wc}(h:∀us:List vz,us.length=ps.length->wq fd #[us,[]]=pure (ps.zip us)):BL K fd ps []:=λs us _ hl=>by
 rw[aq] at hl ⊢;exact .of_eq (h us hl)
def D4(CX:CXT)(X:Cx)(E:XK):Prop:=∀(ϊ:List (wa×Obj)) (σ:St) (H:Hp) (s:wb) (e:vz) (s':wb),Inv X ϊ σ H s->CX X.stack H s E e s'->X.xe e s'
section
variable {X:Cx}{CX:CXT}{k:Nat}{f C:wa}{fd:wc}{ps:List Str}{sp:Sp}{dvs:List V}{ds:List vz}{E:XK}{x m:Str}{p pos apos:Pos}{e o:wk}{es:List wk}{ta:TE}{t:TA}
theorem Mb{Q:VK}(F:FnOk X.prog X.w X.K X.mg X.base CX k f fd ps sp)(hr:Room k X.A)(hb:BL X.K fd ps ds)(hd:Vals dvs ds)(hx:D4 CX X E)
   (I:Inv X ϊ σ H s) (r:Vals vs us) (h:sp (vs++dvs) H Q E):wx (xl X.prog X.w) X.A (call (.ref f) us) (EP X ϊ σ Q) X.xe s:=by
 have r2:Vals (vs++dvs) (us++ds):=r.append hd;have hl:(us++ds).length=ps.length:=by rw[<-r2.length];exact F.len _ _ _ _ h
 refine wpAny_call (codeAny_mono (F.run X.A X.stack s H #[us,[]] (us++ds) (vs++dvs) Q E hr I.env0 (hb s us I.kIn hl) r2 h) λr s' hq=>?_);cases r with
 | error e=>exact hx ϊ σ H s e s' I hq
 | ok fl=>
   cases fl with
   | ret u=>exact I.after hq
   | next=>exact de hq
   | brk=>exact de hq
   | cont=>exact de hq
theorem Z6(F:FnOk X.prog X.w X.K X.mg X.base CX k f fd ps sp)(hr:Room k X.A)(hg:Gl X x)(hm:X.mg x=some (.ref f))(hk:keepIn X.K (.ref f)=true)(hb:BL X.K fd ps ds)(hd:Vals dvs ds)(hx:D4 CX X E)
   (ha:PA X (e::es) t) (hdb:(x==("__debug__":Str))=false:=by decide) (he:wo (e::es) X.env=(false,xk e X.env)::wo es X.env:=by rfl) (hpl:(wz pos (wo es X.env)).any (·.1)=false:=by rfl):
   PE X (.Call (.Name x p) (e::es) [] pos) (Ma sp dvs E t):=by
 intro ϊ s σ H Q I h;refine wpAny_Call_Name_kw (Ep I hg hm ?_ hdb);refine callWith_K (h₀:=X.base) I.ok.mod.kin hk (thn (ha pos ϊ s σ H _ I h) λus s1 ⟨vs,H1,I1,r,q⟩=>#[I1.kIn,?_]) he hpl;exact Mb F hr hb hd hx I1 r q
structure Mk(K:δ)(C f:wa):Prop where
 makes:makesIn K C=true
 init:bp K (.ref C) "__init__"=some (some (.ref f))
 fn:isFn K (.ref f)=true
 kp:keepIn K (.ref C)=true
theorem kT{Q:VK}(M:Mk X.K C f)(F:FnOk X.prog X.w X.K X.mg X.base CX k f fd ps sp)(hr:Room (k+1) X.A)(hb:BL X.K fd ps ds)(hd:Vals dvs ds)
   (hx:D4 CX X E) (I:Inv X ϊ σ H s) (r:Vals vs us)
   (h:∀x dx,H x=none->H dx=none->dx≠x->sp (.ref x::(vs++dvs)) (upd (upd H dx (.own x)) x (.ins C dx [])) (λv H2=>v = .non/\Q (.ref x) H2) E):
   wx (xl X.prog X.w) X.A (call (.ref C) us) (EP X ϊ σ Q) X.xe s:=by
 have hq:=h (s.heap.objs.size+1) s.heap.objs.size (I.hok.fresh (jr _)) (I.hok.fresh (Γ _)) (bi (ip _));have I2:=Inv.made (C:=C) I;have r2:Vals (V.ref (s.heap.objs.size+1)::(vs++dvs)) (Value.ref (s.heap.objs.size+1)::(us++ds)):=.cons rfl (r.append hd);have hl:(Value.ref (s.heap.objs.size+1)::us++ds).length=ps.length:=by
   have e:=r2.length;rw[F.len _ _ _ _ hq] at e;exact e.symm
 refine wpAny_call (kN (f:=f) I.kIn M.makes M.init (beq_iff_eq.mp M.fn) (codeAny_mono (F.run _ X.stack _ _ #[Value.ref (s.heap.objs.size+1)::us,[]] (Value.ref (s.heap.objs.size+1)::(us++ds)) _ _ E (hr.make C us [])
   (I2.env0.make C us []) (hb _ (Value.ref (s.heap.objs.size+1)::us) I2.kIn hl) r2 hq) λr s' hq'=>?_))
 cases r with
 | error e=>exact hx ϊ σ _ _ e s' I2 hq'
 | ok fl=>
   cases fl with
   | ret u=>
     obtain⟨v,H',I3,rv,ev,q3⟩:=I2.after hq';subst ev;exact#[rv,#[V.ref (s.heap.objs.size+1),H',I3,rfl,q3]]
   | next=>exact de hq'
   | brk=>exact de hq'
   | cont=>exact de hq'
theorem zC(M:Mk X.K C f)(F:FnOk X.prog X.w X.K X.mg X.base CX k f fd ps sp)(hr:Room (k+1) X.A)(hg:Gl X x)(hm:X.mg x=some (.ref C))(hb:BL X.K fd ps ds)(hd:Vals dvs ds)(hx:D4 CX X E)
   (ha:PA X (e::es) t) (hdb:(x==("__debug__":Str))=false:=by decide) (he:wo (e::es) X.env=(false,xk e X.env)::wo es X.env:=by rfl) (hpl:(wz pos (wo es X.env)).any (·.1)=false:=by rfl):
   PE X (.Call (.Name x p) (e::es) [] pos) (QL C sp dvs E t):=by
 intro ϊ s σ H Q I h;refine wpAny_Call_Name_kw (Ep I hg hm ?_ hdb);refine callWith_K (h₀:=X.base) I.ok.mod.kin M.kp (thn (ha pos ϊ s σ H _ I h) λus s1 ⟨vs,H1,I1,r,q⟩=>#[I1.kIn,?_]) he hpl;exact kT M F hr hb hd hx I1 r q
end
section
variable {X:Cx}{CX:CXT}{k:Nat}{f C:wa}{fd:wc}{ps ks:List Str}{sp:Sp}{E:XK}{x m:Str}{p pos apos kpos:Pos}{e o:wk}{es:List wk}{kws:List Keyword}{te ta:TE}{t tk:TA}{nm:Option Str}
structure KBinds(K:δ)(fd:wc)(ps ks:List Str)(g:List vz->List vz->List vz)(gV:List V->List V->List V):Prop where
 to:∀(s:wb)(us ws:List vz),K.In s.heap->(g us ws).length=ps.length->BindsTo s fd #[us,ks.zip ws] (ps.zip (g us ws))
 rel:∀{vs:List V}{us:List vz}{zs:List V}{ws:List vz},Vals vs us->Vals zs ws->Vals (gV vs zs) (g us ws)
variable {g:List vz->List vz->List vz}{gV:List V->List V->List V}
end
structure yD(N P:List Str)(sc:wm):Prop where
 kind:sc.kind = .function
 co:sc.isCoroutine=false
 gen:sc.isGenerator=false
 nd:N.Nodup
 pre:N.take P.length=P
 par:∀x∈P,sc.names.lookup x=some .local\/sc.names.lookup x=some .cell
 nofree:∀y∈sc.names,y.2≠.free
theorem Z7{kindOf:Str->Option NameKind}{x:Str}:∀{binds:List (Str×vz)} {m:Str->Option vz},(∀v,(x,v) ∉ binds)->bindL kindOf binds m x=m x
 | [],_,_=>rfl
 | (n,v)::r,m,h=>by
   unfold bindL;rw[Z7 λw hw=>h w (ι _ hw)]
   split
   have:x≠n:=by rintro rfl;exact h v η
   simp [this];rfl
theorem Z8{kindOf:Str->Option NameKind}{x:Str}:∀{binds:List (Str×vz)} {m:Str->Option vz},(∀v,(x,v) ∉ binds)->bindC kindOf binds m x=m x
 | [],_,_=>rfl
 | (n,v)::r,m,h=>by
   unfold bindC;rw[Z8 λw hw=>h w (ι _ hw)]
   split
   rfl;have:x≠n:=by rintro rfl;exact h v η
   simp [this]
theorem Z9{kindOf:Str->Option NameKind}{x:Str}{v:vz}:∀{P:List Str}{vs:List vz}{i:Nat}{m:Str->Option vz},P.Nodup->P[i]?=some x->vs[i]?=some v->kindOf x=some .local ->
   bindL kindOf (P.zip vs) m x=some v
 | [],_,_,_,_,h,_,_=>by simp at h
 | _::_,[],_,_,_,_,h,_=>by simp at h
 | p::P,w::vs,0,m,nd,h1,h2,hk=>by
   simp at h1 h2;subst h1;subst h2;show bindL kindOf ((p,w)::P.zip vs) m p=_;unfold bindL;rw[Z7 λv hv=>(ic.mp nd).1 (og hv).1,xb1 hk];simp
 | p::P,w::vs,i+1,m,nd,h1,h2,hk=>by
   show bindL kindOf ((p,w)::P.zip vs) m x=_;unfold bindL;exact Z9 (i:=i) (ic.mp nd).2 (by simpa using h1) (by simpa using h2) hk
theorem aA{kindOf:Str->Option NameKind}{x:Str}{v:vz}:∀{P:List Str}{vs:List vz}{i:Nat}{m:Str->Option vz},P.Nodup->P[i]?=some x->vs[i]?=some v->kindOf x≠some .local ->
   bindC kindOf (P.zip vs) m x=some v
 | [],_,_,_,_,h,_,_=>by simp at h
 | _::_,[],_,_,_,_,h,_=>by simp at h
 | p::P,w::vs,0,m,nd,h1,h2,hk=>by
   simp at h1 h2;subst h1;subst h2;show bindC kindOf ((p,w)::P.zip vs) m p=_;unfold bindC;rw[Z8 λv hv=>(ic.mp nd).1 (og hv).1,xb2 hk];simp
 | p::P,w::vs,i+1,m,nd,h1,h2,hk=>by
   show bindC kindOf ((p,w)::P.zip vs) m x=_;unfold bindC;exact aA (i:=i) (ic.mp nd).2 (by simpa using h1) (by simpa using h2) hk
def start(N:List Str)(vs:List V):St:=vs.map some++ω (N.length-vs.length) none
def cxOf(CX:CXT)(P:we)(w:wf)(K:δ)(mg:Str->Option vz)(base:xt)(N:List Str)(qual:Str)(scope:wm)(f:wa)(cd:vz)(A:wg)(outer:List xu)(s:wb)(H:Hp)(E:XK):Cx where
 prog:=P
 w:=w
 K:=K
 mg:=mg
 base:=base
 A:=A.deeper (envOfC qual scope s.heap.objs.size f cd)
 N:=N
 s₀:=s
 H₀:=H
 env:=envOfC qual scope s.heap.objs.size f cd
 outer:=outer
 stack:=envOfC qual scope s.heap.objs.size f cd::outer
 ex:=[]
 calm:=true
 fn:=λ_=>true
 pn:=[]
 xe:=λe s'=>wx (xl P w) (A.deeper (envOfC qual scope s.heap.objs.size f cd)) (leaving (envOfC qual scope s.heap.objs.size f cd) e) (λ_ s''=>CX outer H s E e s'') (λe' s''=>CX outer H s E e' s'') s'
theorem aB{sc:wm}(h:sc.names.lookup x=some .cell):∃c,(cellsFrom n sc.names []).lookup x=some c:=by
 have q:=cellsFrom_some sc.names n [] (.inl h);exact Option.isSome_iff_exists.mp q
theorem kU{f:wa}{cd:vz}{s1:wb}{E:XK}
   (S:yD N ps scope) (hd:A.handled=none) (e0:Env0 P w K mg base A outer s H) (hl:vs.length=ps.length) (r:Vals vs us)
   (x:InCallC s s.heap.objs.size (bindL (envOfC qual scope s.heap.objs.size f cd).kindOf (ps.zip us) λ_=>none) (cellsFrom (s.heap.objs.size+1) scope.names []) (bindC (envOfC qual scope s.heap.objs.size f cd).kindOf (ps.zip us) λ_=>none) s1):
   Inv (cxOf CX P w K mg base N qual scope f cd A outer s H E) [] (start N vs) H s1:=by
 have hpl:ps.length<=N.length:=by have:=congrArg lz S.pre;rw[bx] at this;lia
 obtain⟨h1,tk,rfl,hk⟩:=x.done;have noA:∀b:wa,b ∉ (cxOf CX P w K mg base N qual scope f cd A outer s H E).ex:=λb z=>xb0 (show b∈([]:List wa) from z) f!"";refine#[#[e0.mod,S.kind,rfl,rfl,Γ _,λy z c h1 h2=>?_,λy hy=>?_,λy c _ h=>?_,λ_=>hd,Around.frames_deeper e0.frames,.inr #[rfl,rfl],λb z=>xb0 z (noA b),e0.bs,e0.bsz,λb _ _=>noA b,λb z=>xb0 z (noA b),e0.funs,e0.frf],
   rfl,e0.bare,Un.kept hk,#[_,x.toInCall.ns,λi y v h1 h2 h3=>?_],λy c h=>#[_,x.cell y c h],e0.hok.fresh (Γ _),λy c h=>?_,λp hp=>xb0 (show p∈([]:List (wa×Obj)) from hp) f!"",e0.hok.kept hk,?_]
 exact name_of_addr x.apart (im h1) (im h2);have hy:scope.names.lookup y=some .cell\/scope.names.lookup y=some .free:=hy;rcases hy with hy | hy
 exact aB hy;exact xb0 rfl (S.nofree _ (im hy));exact gh (x.above y c (im h));have hi:i<vs.length:=by
   unfold start at h2;by_cases hi:i<vs.length;exact hi;rw[θ (by simpa using hi)] at h2;rw[cf] at h2
   split at h2 <;> cases h2
 have ha:vs[i]?=some v:=by
   unfold start at h2;rw[ψ (by simpa using hi),bh] at h2;cases e:vs[i]? with
   | none=>rw[e] at h2;cases h2
   | some a=>rw[e] at h2;cases h2;rfl
 obtain⟨u,hu,rv⟩:=r.get ha;have hp:ps[i]?=some y:=by
   rw[<-S.pre,ik ∅];exact h1
 have ndP:ps.Nodup:=by rw[<-S.pre];exact S.nd.sublist (List.take_sublist _ _)
 refine#[u,rv,?_];rcases S.par y (ζ hp) with k | k
 exact .inl #[k,Z9 ndP hp hu k];obtain⟨c,e⟩:=aB (n:=s.heap.objs.size+1) k;refine .inr #[.inl k,c,e,?_];have q:=x.cell y c e;rw[aA ndP hp hu (by show scope.names.lookup y≠_;rw[k];decide)] at q;exact q;exact e0.hok.fresh (gh (x.above y c (im h)));unfold start;show _=N.length;rw[Δ,Φ,ae];lia
theorem uc4{f:wa}{name:Str}{params:Arguments}{dV kV doc pm cdv ct oc:vz}{an od:Option wa}
     {sp:Sp} (lk:K.lookup f=some #[oc,od,.func (fnOf name qual params body scope dV kV doc pm an cdv ct),osl]) (hcd:codeIn K cdv qual=true) (S:yD N ps scope)
   (len:∀vs H Q E,sp vs H Q E->vs.length=ps.length)
   (hbody:∀(A:wg)(outer:List xu)(s:wb)(H:Hp)(vs:List V)(Q:VK)(E:XK),Room k (A.deeper (envOfC qual scope s.heap.objs.size f cdv))->sp vs H Q E ->
     ∃t,PSs (cxOf CX P w K mg base N qual scope f cdv A outer s H E) body t/\t { nx:=λ_ H'=>Q .non H',rt:=Q } (start N vs) H):
   FnOk P w K mg base CX (k+1) f (fnOf name qual params body scope dV kV doc pm an cdv ct) ps sp:=by
 refine#[len,λA outer s H args us vs Q E hr e0 hb r hsp=>?_];have hl:=len _ _ _ _ hsp;have KX:K.In s.heap:=e0.mod.kin.keeps λb o e=>(e0.bs b o e).1;have lim:s.heap.NoLimit:=e0.mod.nolimit.keeps λb o e=>(e0.bs b o e).1;have hkind:∀y∈ps.zip us,scope.names.lookup y.1=some .local\/(scope.names.lookup y.1=some .cell/\((cellsFrom (s.heap.objs.size+1) scope.names []).lookup y.1).isSome=true):=λ⟨n,v⟩ hy=>by
   rcases S.par n (og hy).1 with q | q
   exact .inl q;exact .inr #[q,cellsFrom_some _ _ _ (.inl q)]
 refine codeAny_call_function hr.depth (KX _ _ lk) rfl S.co S.gen rfl (PySem.W.codeRec_of KX hcd) (hb _ _ _ _ ?_);refine wpAny_newFunctionEnv_cells S.kind hkind λenv he s1 x=>?_;subst he;refine#[lim.keeps x.toInCall.keep,codeAny_func ?_];obtain⟨t,ht,hq⟩:=hbody A outer s H vs Q E (hr.deeper _) hsp;have I:Inv (cxOf CX P w K mg base N qual scope f cdv A outer s H E) [] (start N vs) H s1:=kU S hr.hd e0 hl r x;refine ww (ht [] s1 (start N vs) H _ I hq) (λfl s' hs=>?_) λe s' hs=>hs;have fin:∀{σ':St}{H':Hp}{v:V}{u:vz},Inv (cxOf CX P w K mg base N qual scope f cdv A outer s H E) [] σ' H' s'->RelV v u->Q v H'->CE outer P w H s Q u s':=
   λ{σ' H' v u} J rv q=>#[v,H',J.os,J.bare,J.base,J.hok,rv,q]
 cases fl with
 | ret u=>
   obtain⟨v,σ',H',J,rv,q⟩:=hs;exact fin J rv q
 | next=>
   obtain⟨σ',H',J,q⟩:=hs;exact fin (v:=V.non) (u:=Value.none) J rfl q
 | brk=>
   obtain⟨_,_,_,q⟩:=hs;exact de q
 | cont=>
   obtain⟨_,_,_,q⟩:=hs;exact de q
section
variable {X:Cx}{x:Str}{p pos:Pos}{e:wk}{es:List wk}{t:TA}{id T:String}{r:List V->Hp->VK->Prop}
def tCB(r:List V->Hp->VK->Prop)(t:TA):TE:=λσ H Q=>t σ H λvs H1=>r vs H1 Q
theorem A7(hc:DN X (.builtin id) r)(hg:Gl X x)(hm:X.mg x=none)(hv:bootBuiltins x=some (.builtin id))(ha:PA X (e::es) t)(hn:x≠"__name__":=by decide)(hdb:(x==("__debug__":Str))=false:=by decide)
   (he:wo (e::es) X.env=(false,xk e X.env)::wo es X.env:=by rfl) (hpl:(wz pos (wo es X.env)).any (·.1)=false:=by rfl):PE X (.Call (.Name x p) (e::es) [] pos) (tCB r t):=by
 intro ϊ s σ H Q I h;refine wpAny_Call_Name_kw (QC I hg hm hv ?_ hn hdb);exact rg (thn (ha pos ϊ s σ H _ I h) λus s1 ⟨vs,H1,I1,r1,q1⟩=>hc ϊ s1 σ H1 vs us Q I1 r1 q1) he hpl
theorem DO(hc:DN X (.type T) r)(hg:Gl X x)(hm:X.mg x=none)(hv:bootBuiltins x=some (.type T))(ha:PA X (e::es) t)(hn:x≠"__name__":=by decide)(hdb:(x==("__debug__":Str))=false:=by decide)
   (he:wo (e::es) X.env=(false,xk e X.env)::wo es X.env:=by rfl) (hpl:(wz pos (wo es X.env)).any (·.1)=false:=by rfl):PE X (.Call (.Name x p) (e::es) [] pos) (tCB r t):=by
 intro ϊ s σ H Q I h;refine wpAny_Call_Name_kw (QC I hg hm hv ?_ hn hdb);exact ko (thn (ha pos ϊ s σ H _ I h) λus s1 ⟨vs,H1,I1,r1,q1⟩=>hc ϊ s1 σ H1 vs us Q I1 r1 q1) he hpl
end
end L2
namespace HT
open PySem PyProof.Rows
variable{Q:vz->wb->Prop}
def lexLt:List Int->List Int->Bool
 | [],[]=>false
 | [],_::_=>true
 | _::_,[]=>false
 | x::xs,y::ys=>if x=y then lexLt xs ys else decide (x<y)
theorem kW(x y:Int)(xs ys:List Int):lexLt (x::xs) (y::ys)=if x=y then lexLt xs ys else decide (x<y):=rfl
theorem kX:lexLt [] []=false:=rfl
theorem kY(y:Int)(ys:List Int):lexLt [] (y::ys)=true:=rfl
theorem kZ(x:Int)(xs:List Int):lexLt (x::xs) []=false:=rfl
theorem lA(A:wg)(s:wb)(a:Int)(t:Tok)(c:Int)(u:Tok):∃e,SeqAt.EqAt A s (.int a t) (.int c u) e/\(e=true↔a=c):=
 #[(a==c),qj a t c u,f!""]
theorem lB(A:wg)(s:wb)(a:Int)(t:Tok)(c:Int)(u:Tok)(prog:we)(w:wf)(E:vz->wb->Prop)(Q:vz->wb->Prop)(h:Q (.bool (decide (a<c))) s):
   wx (xl prog w) A (richCompare .Lt (.int a t) (.int c u)) Q E s:=
 (pq h:wx (xl prog w) A (xc .Lt (.int a t) (.int c u)) Q E s)
section
open PySem.SeqAt
open PySem.AutoSeq1 (wpAny_loadPart')
open PySem.MeetsSeq PySem.MeetsSeq2 PySem.MeetsSeq3
theorem lC(l b:wa)(items items2:Array vz)(n n2:Nat)(dd dd2:Option wa)(sl sl2:Array (Option vz))(ns ms:List Int)(hi:IntsAre items.toList ns)(hj:IntsAre items2.toList ms):
   Meets (Builtin.«tuple.__lt__» #[[.ref l,.ref b],[]])
     (λ_ R s=>s.heap.get? l=some { cls:=.type "tuple",dict:=dd,data:=.seq items n,slots:=sl }/\s.heap.get? b=some { cls:=.type "tuple",dict:=dd2,data:=.seq items2 n2,slots:=sl2 } /\
       R (.ok (.ret (.bool (lexLt ns ms)))) s):=
 .of_wp λprog w A R s h=>by
   obtain⟨hp,g,d,tk,os⟩:=s;obtain⟨hl,hb,h⟩:=h;have f2:=AutoSeq1.sub_tuple_tuple;have z1:items.size=ns.length:=by rw[<-hi.length];simp
   have z2:items2.size=ms.length:=by rw[<-hj.length];simp
   wp_walk using wpAny_loadPart' hl,wpAny_loadPart' hb,wpAny_forIn_list _ (λyV b s'=>b.1=none/\s'=#[hp,g,d,tk,os]/\∃(vs ws:List vz)(ns' ms':List Int),yV=vs.zip ws /\
     IntsAre vs ns'/\IntsAre ws ms'/\ns'.length+items2.size=ms'.length+items.size/\R (.ok (.ret (.bool (lexLt ns' ms')))) #[hp,g,d,tk,os]) _
   case turn=>
     rintro⟨y,x⟩ yV b s' ⟨hb',rfl,vs,ws,ns',ms',hz,hvi,hwi,hlen,hR⟩;cases hvi with
     | nil=>rw[List.zip_nil_left] at hz;cases hz
     | cons a t hvi'=>
       cases hwi with
       | nil=>rw[List.zip_nil_right] at hz;cases hz
       | cons c u hwi'=>
         rw[qk] at hz
         injection hz with hyx hrest
         injection hyx with hy hx
         subst hy hx;rw[kW] at hR;simp only [Ψ] at hlen;obtain⟨e,he,hiff⟩:=lA A.in1 #[hp,g,d,tk,os] a t c u;refine wu (he prog w _ _ ?_);cases e with
         | true=>
           rw[xb1 (hiff.mp rfl)] at hR
           wp_walk
           exact#[rfl,rfl,_,_,_,_,hrest,hvi',hwi',∅,hR]
         | false=>
           rw[xb2 (λq=>xb0 (hiff.mpr q) ξ)] at hR;have hri:=lB A.in1 #[hp,g,d,tk,os] a t c u prog w
           wp_walk using hri
           exact#[_,rfl,by simpa using hR]
   case fin=>
     rintro⟨b1,b2⟩ s' ⟨hb',rfl,vs,ws,ns',ms',hz,hvi,hwi,hlen,hR⟩;simp only at hb';subst hb';have hv:lexLt ns' ms'=decide (items.size<items2.size):=by
       cases hvi with
       | nil=>
         cases hwi with
         | nil=>
           simp only [eo] at hlen;rw[kX];exact(xb4 ∅).symm
         | cons c u hw=>
           simp only [eo,Ψ] at hlen;rw[kY];exact(xb3 ∅).symm
       | cons a t hv=>
         cases hwi with
         | nil=>
           simp only [eo,Ψ] at hlen;rw[kZ];exact(xb4 ∅).symm
         | cons c u hw=>
           rw[qk] at hz;cases hz
     rw[hv] at hR
     wp_walk
     exact#[_,rfl,by simpa [Builtin.Tuple.tupleCompareSizes] using hR]
   case h=>
     exact#[rfl,rfl,items.toList,items2.toList,ns,ms,rfl,hi,hj,∅,h]
end
section
variable {prog:we}{w:wf}{A:wg}{E:vz->wb->Prop}{s:wb}
theorem lt_tupInts{l b:wa}{items items2:Array vz}{ns ms:List Int}(hl:IsTup s.heap l items)(hb:IsTup s.heap b items2)(hi:IntsAre items.toList ns)(hj:IntsAre items2.toList ms)
   (hu:A.units<xm) (h:Q (.bool (lexLt ns ms)) s):wx (xl prog w) A (xc .Lt (.ref l) (.ref b)) Q E s:=by
 obtain⟨⟨cls,dd,data,sl⟩,ho,hc,n,hd⟩:=id hl;obtain⟨⟨cls2,dd2,data2,sl2⟩,Eo,hc2,n2,hd2⟩:=id hb;simp only at hc hd hc2 hd2;subst hc hd hc2 hd2;exact richCompare_meets_room (op:=.Lt) #[_,ho,rfl] #[_,Eo,rfl] PySem.F.slot_tuple_lt PySem.F.entry_tuple_lt (PySem.F.args_tuple_lt_2 _ _) (lC l b items items2 n n2 dd dd2 sl sl2 ns ms hi hj)
   #[ho,Eo,show Value.bool (lexLt ns ms)≠Value.notImplemented/\Q (.bool (lexLt ns ms)) s from #[(λx=>nomatch x),h]] hu
def sIx(n d:Nat):Option Int->Nat
 | none=>d
 | some v=>if v<0 then (v+(n:Int)).toNat else min v.toNat n
theorem sIx_none(n d:Nat):sIx n d none=d:=rfl
theorem sIx_nat(n d k:Nat):sIx n d (some (k:Int))=min k n:=by
 show (if (k:Int)<0 then ((k:Int)+(n:Int)).toNat else min (k:Int).toNat n)=min k n;rw[xb2 ∅,jh]
end
end HT
namespace L2
open PySem PySem.Spec PyProof.Rows
variable{r:V->Option Int->Option Int->Hp->VK->Prop}{n j t':Nat}{i:Int}{ϊ:List (wa×Obj)}{σ:St}{H:Hp}{s:wb}{its its':List vz}{f:Array vz->Array vz}
abbrev TO:=St->Hp->(Option Int->Hp->Prop)->Prop
def PO(X:Cx)(e:Option wk)(t:TO):Prop:=
 ∀(ϊ:List (wa×Obj)) (s:wb) (σ:St) (H:Hp) (Q:Option Int->Hp->Prop),Inv X ϊ σ H s->t σ H Q ->
   wx (xl X.prog X.w) X.A (evalPart e X.env) (λu s'=>∃o H',Inv X ϊ σ H' s'/\IsPart u o/\Q o H') X.xe s
def aC:TO:=λ_ H Q=>Q none H
def zQ(t:TE):TO:=λσ H Q=>t σ H λx H1=>∃i,x = .int i/\Q (some i) H1
theorem To{ns:List Int}:∀{us:List vz},Vals (ns.map V.int) us->IntsAre us ns:=by
 induction ns with
 | nil=>intro us r;rw[ix] at r;cases r;exact .nil
 | cons n ns ih=>
   intro us r;rw[cb] at r;cases r with
   | cons r1 r2=>
     obtain⟨t,e⟩:=r1;subst e;exact .cons n t (ih r2)
section
variable {X:Cx}{e:wk}{te:TE}{lo hi:Option wk}{tl th:TO}{pos p2:Pos}
theorem GU:PO X none aC:=by
 intro ϊ s σ H Q I h;rw[evalPart_none];exact wv #[none,H,I,.none,h]
theorem Cq(h:PE X e te):PO X (some e) (zQ te):=by
 intro ϊ s σ H Q I hw;rw[evalPart_some];refine thn (h ϊ s σ H _ I hw) λu s1 hZ=>?_;obtain⟨x,H1,I1,r1,q1⟩:=hZ;obtain⟨i,rfl,q⟩:=q1;obtain⟨t,rfl⟩:=r1;exact#[some i,H1,I1,.int i t,q]
def SlR(X:Cx)(r:V->Option Int->Option Int->Hp->VK->Prop):Prop:=
 ∀(ϊ:List (wa×Obj)) (s:wb) (σ:St) (H:Hp) (x:V) (v vl vu:vz) (lo hi:Option Int) (sl:wa) (Q:VK),Inv X ϊ σ H s->RelV x v->s.heap.IsSliceOf sl vl vu .none->IsPart vl lo->IsPart vu hi->r x lo hi H Q ->
   ∃T id,typeLookup (.type T) "__getitem__"=pure (some (.builtin id))/\s.TypeIs v T/\wx (xl X.prog X.w) X.A (getItem v (.ref sl)) (EP X ϊ σ Q) X.xe s
def tSl(r:V->Option Int->Option Int->Hp->VK->Prop)(te:TE)(tl th:TO):TE:=λσ H Q=>te σ H λx H1=>tl σ H1 λl H2=>th σ H2 λu H3=>r x l u H3 Q
theorem Dg(hr:SlR X r)(he:PE X e te)(hl:PO X lo tl)(hu:PO X hi th):PE X (.Subscript e (.Slice lo hi none p2) pos) (tSl r te tl th):=by
 intro ϊ s σ H Q I h;refine Subscript_ (thn (he ϊ s σ H _ I h) λv s1 hZ=>?_);obtain⟨x,H1,I1,r1,q1⟩:=hZ;refine wpAny_Slice (thn (hl ϊ s1 σ H1 _ I1 q1) λvl s2 ⟨l,H2,I2,pl,q2⟩=>thn (hu ϊ s2 σ H2 _ I2 q2) λvu s3 hZ=>?_);obtain⟨u,H3,I3,pu,q3⟩:=hZ;rw[evalPart_none];refine wv ?_;have I4:Inv X ϊ σ H3 { s3 with heap:=s3.heap.push { cls:=.type "slice",data:=.fields (ϋ [vl,vu,.none]) } }:=I3.kept (t':=s3.toks) λb ob q=>μ _ q;obtain⟨T,id,hT,ht,hg⟩:=hr ϊ { s3 with heap:=s3.heap.push { cls:=.type "slice",data:=.fields (ϋ [vl,vu,.none]) } } σ H3 x v vl vu l u s3.heap.objs.size Q I4 r1 (Heap.IsSliceOf.new ..) pl pu q3;show wx (xl X.prog X.w) X.A (subscriptTail e (.Slice lo hi none p2) v (.ref s3.heap.objs.size)) (EP X ϊ σ Q) X.xe { s3 with heap:=s3.heap.push { cls:=.type "slice",data:=.fields (ϋ [vl,vu,.none]) } };exact tail_any (ops:=[.ref s3.heap.objs.size,v]) ht hT hg (by with_unfolding_all rfl)
def zn(xs:List V)(lo hi:Option Int):List V:=(xs.drop (HT.sIx xs.length 0 lo)).take (HT.sIx xs.length xs.length hi-HT.sIx xs.length 0 lo)
theorem lD(xs:List V)(lo hi:Option Int):(zn xs lo hi).length<=xs.length:=by
 unfold zn;rw[bx,cg];lia
end
def ixN(n:Nat)(i:Int):Option Nat:=if 0<=i then (if i<n then some i.toNat else none) else if -(n:Int)<=i then some (i+n).toNat else none
def atI{α:Type}(xs:List α)(i:Int):Option α:=(ixN xs.length i).bind λj=>xs[j]?
theorem aD(h:ixN n i=some j):seqIndex? i n=some j/\j<n/\-(n:Int)<=i/\i<n:=by
 unfold ixN at h;by_cases h0:0<=i;rw[xb1 h0] at h;by_cases h1:i<n;rw[xb1 h1] at h;have e:i.toNat=j:=Θ h;exact#[by rw[seqIndex_of h0 h1,e],∅,∅,h1];rw[xb2 h1] at h;cases h;rw[xb2 h0] at h;by_cases h1 : -(n:Int)<=i;rw[xb1 h1] at h;have e:(i+n).toNat=j:=Θ h;exact#[by rw[seqIndex_neg ∅ h1,e],∅,h1,∅];rw[xb2 h1] at h;cases h
theorem aE{α:Type}{xs:List α}{v:α}(h:atI xs i=some v):∃j,seqIndex? i xs.length=some j/\xs[j]?=some v/\j<xs.length/\-(xs.length:Int)<=i/\i<xs.length:=by
 unfold atI at h;cases e:ixN xs.length i with
 | none=>rw[e] at h;cases h
 | some j=>
   rw[e] at h;obtain⟨h1,h2,h3,h4⟩:=aD e;exact#[j,h1,h,h2,h3,h4]
theorem Bs{α:Type}{xs:List α}{v:α}(h:xs[j]?=some v):atI xs (j:Int)=some v:=by
 have hj:j<xs.length:=(γ.mp h).1;have e:ixN xs.length (j:Int)=some j:=by
   unfold ixN;rw[xb1 ∅,xb1 ∅];simp
 unfold atI;rw[e];exact h
theorem lE{α:Type}(xs:List α)(v:α):atI (xs++[v]) (-1)=some v:=by
 have hl:(xs++[v]).length=xs.length+1:=by simp
 have e:ixN (xs++[v]).length (-1)=some xs.length:=by
   unfold ixN;rw[hl,xb2 m!"",xb1 ∅]
   congr 1
   lia
 unfold atI;rw[e];show (xs++[v])[xs.length]?=some v;simp
def lF(b:wk):Prop:=∀o i,subscripted b false o i=operate [o,i] (getItem o i)
def IxR(X:Cx)(r:R2):Prop:=
 ∀(value slice:wk) (ϊ:List (wa×Obj)) (s:wb) (σ:St) (H:Hp) (x y:V) (v u:vz) (Q:VK),Inv X ϊ σ H s->RelV x v->RelV y u->r x y H Q ->
   subscripted slice false v u=operate [v,u] (getItem v u)->wx (xl X.prog X.w) X.A (subscriptTail value slice v u) (EP X ϊ σ Q) X.xe s
def MtR(X:Cx)(id:String)(r:V->List V->Hp->VK->Prop):Prop:=
 ∀(ϊ:List (wa×Obj)) (s:wb) (σ:St) (H:Hp) (x:V) (xs:List V) (v:vz) (us:List vz) (Q:VK),Inv X ϊ σ H s->RelV x v->Vals xs us->r x xs H Q ->
   wx (xl X.prog X.w) X.A (call (.builtin id) (v::us)) (EP X ϊ σ Q) X.xe s
section
variable {X:Cx}{a b:wk}{ta tb:TE}{pos:Pos}
theorem Az{r:R2}(hr:IxR X r)(ha:PE X a ta)(hb:PE X b tb)(hs:lF b):PE X (.Subscript a b pos) (tOp r ta tb):=by
 intro ϊ s σ H Q I h;exact Subscript_ (binT ha hb I h λv u s2 x y H2 I2 rx ry q=>hr a b ϊ s2 σ H2 x y v u Q I2 rx ry q (hs _ _))
def M_(K:δ):R2:=λx y H Q=>∃p xs i v,x = .ref p/\y = .int i/\SqL K H p xs/\atI xs i=some v/\Q v H
def rIxT(K:δ):R2:=λx y H Q=>∃p xs i v,x = .ref p/\y = .int i/\SqT K H p xs/\atI xs i=some v/\Q v H
theorem AQ:IxR X (M_ X.K):=by
 intro value slice ϊ s σ H x y v u Q I rx ry h hs;obtain⟨p,xs,i,z,rfl,rfl,hq,he,q⟩:=h;cases rx;obtain⟨t,rfl⟩:=ry;obtain⟨its,r,pl,hz⟩:=I.list hq;obtain⟨j,h1,h2,h3,h4,h5⟩:=aE he;obtain⟨w,ew,rw'⟩:=r.get h2;have hl:=r.length;have hn:=L8;have fin:EP X ϊ σ Q w s:=#[z,H,I,rw',q]
 by_cases h0:0<=i;have hj:i.toNat=j:=by
   rw[seqIndex_of h0 h5] at h1;exact Θ h1
 exact item_listR pl.isList h0 ∅ (by rw[hj];simpa using ew) fin hs;have hj:(i+(its.toArray.size:Int)).toNat=j:=by
   rw[seqIndex_neg ∅ h4] at h1;rw[ο,<-hl];exact Θ h1
 exact subscriptTail_builtinR (x:=w) pl.isList.typeIs slot_list_getitem.lookup
   (wpAny_getItem_list_neg (Q:=λr s'=>r=w/\EP X ϊ σ Q r s') pl.isList ∅ (by rw[ο] <;> lia) ∅ (by rw[hj];simpa using ew) #[rfl,fin]) hs
theorem By:IxR X (rIxT X.K):=by
 intro value slice ϊ s σ H x y v u Q I rx ry h hs;obtain⟨p,xs,i,z,rfl,rfl,hq,he,q⟩:=h;cases rx;obtain⟨t,rfl⟩:=ry;obtain⟨its,r,pl,hz⟩:=I.tuple hq;obtain⟨j,h1,h2,h3,h4,h5⟩:=aE he;obtain⟨w,ew,rw'⟩:=r.get h2;have hl:=r.length;have hn:=L8;have fin:EP X ϊ σ Q w s:=#[z,H,I,rw',q]
 exact subscriptTail_builtinR (x:=w) pl.typeIs slot_tuple_getitem.lookup
   (getItem_tuple (j:=j) (Q:=λr s'=>r=w/\EP X ϊ σ Q r s') pl ∅ ∅ (by rw[ο,<-hl];exact h1) (by simpa using ew) #[rfl,fin]) hs
theorem lG(its:List vz)(n j:Nat)(u:vz):cn (·.setIfInBounds j u) { cls:=.type "list",data:=.seq its.toArray n }={ cls:=.type "list",data:=.seq (its.set j u).toArray n }:=by
 simp [cn]
theorem Inv.lst{p:wa}{xs:List V}(I:Inv X ϊ σ H s)(h:H p=some (.lst xs)):
   ∃(its:List vz)(n:Nat),Vals xs its/\s.heap.get? p=some { cls:=.type "list",data:=.seq its.toArray n }/\xs.length<=wt:=by
 obtain⟨z,its,n,r,e⟩:=I.hok p _ h;exact#[its,n,r,e,z]
theorem Inv.lstUpd{p:wa}{xs ys:List V}{n':Nat}{f:Obj->Obj}(I:Inv X ϊ σ H s)(h:H p=some (.lst xs))
   (ho:s.heap.get? p=some { cls:=.type "list",data:=.seq its.toArray n }) (hf:f { cls:=.type "list",data:=.seq its.toArray n }={ cls:=.type "list",data:=.seq its'.toArray n' }) (r:Vals ys its') (hz:ys.length<=wt) (t:Nat):
   Inv X ϊ σ (upd H p (.lst ys)) { s with heap:=s.heap.update p f,toks:=t }:=by
 have e:(s.heap.update p f).get? p=some { cls:=.type "list",data:=.seq its'.toArray n' }:=by
   rw[ck f ho (by rw[hf] <;> rfl),hf]
 refine I.write (x:=p) (e:=p) (by rw[h];trivial) (.inl rfl) (λb u hb q=>(ah _ _ (fh hb)).trans q) #[_,e] ?_;exact#[hz,its',n',r,e]
def Tp:V->V->V->Hp->(Hp->Prop)->Prop:=λo i v H Q=>∃p xs k j,o = .ref p/\i = .int k/\H p=some (.lst xs)/\ixN xs.length k=some j/\Q (upd H p (.lst (xs.set j v)))
theorem GW:PSet X Tp:=by
 intro ϊ s σ H o i v ov iv u Q I ro ri rv h;obtain⟨p,xs,k,j,rfl,rfl,hp,hj,q⟩:=h;cases ro;obtain⟨t,rfl⟩:=ri;obtain⟨its,n,r,ho,hz⟩:=I.lst hp;obtain⟨h1,h2,h3,h4⟩:=aD hj;have hl:=r.length;have hn:=L8;have I':Inv X ϊ σ (upd H p (.lst (xs.set j v))) { s with heap:=s.heap.update p (cn (·.setIfInBounds j u)) }:=
   I.lstUpd hp ho (lG its n j u) (r.set rv j) (by rw[ax];exact hz) s.toks
 by_cases h0:0<=k;have hk:k.toNat=j:=by
   rw[seqIndex_of h0 h4] at h1;exact Θ h1
 exact PySem.W.ki_setAt ho h0 ∅ (by rw[ο,<-hl];exact h4) (by rw[hk];exact#[_,I',q]);have hk:(k+(its.toArray.size:Int)).toNat=j:=by
   rw[seqIndex_neg ∅ h3] at h1;rw[ο,<-hl];exact Θ h1
 exact PySem.W.ki_setBack ho ∅ (by rw[ο,<-hl];exact h3) ∅ (by rw[hk];exact#[_,I',q])
theorem lH(lo hi:Option Int)(n:Nat):(sliceBounds lo hi none n).1=((HT.sIx n 0 lo:Nat):Int)/\(sliceBounds lo hi none n).2.1=((HT.sIx n n hi:Nat):Int)/\(sliceBounds lo hi none n).2.2=1:=by
 refine#[?_,?_,rfl];cases lo with
 | none=>simp [sliceBounds,HT.sIx]
 | some i=>
   simp only [sliceBounds,HT.sIx,rh,show (1:Int)>0 by decide,if_true];by_cases h:i<0;simp only [h,if_true] <;> lia
   simp only [h,if_false] <;> lia
 cases hi with
 | none=>simp [sliceBounds,HT.sIx]
 | some i=>
   simp only [sliceBounds,HT.sIx,rh,show (1:Int)>0 by decide,if_true];by_cases h:i<0;simp only [h,if_true] <;> lia
   simp only [h,if_false] <;> lia
theorem lI(its:List vz)(lo hi:Option Int):slicePick its.toArray lo hi none=((its.drop (HT.sIx its.length 0 lo)).take (HT.sIx its.length its.length hi-HT.sIx its.length 0 lo)).toArray:=by
 obtain⟨h1,h2,h3⟩:=lH lo hi its.toArray.size;unfold slicePick;rw[h1,h2,h3];simp only [sliceRange_one,pick_run,ο] <;> rfl
def rSlL(K:δ):V->Option Int->Option Int->Hp->VK->Prop:=λx lo hi H Q=>∃a xs,x = .ref a/\SqL K H a xs/\∀p,H p=none->Q (.ref p) (upd H p (.lst (zn xs lo hi)))
theorem Dh:SlR X (rSlL X.K):=by
 intro ϊ s σ H x v vl vu lo hi sl Q I rx hs pl pu h;obtain⟨a,xs,rfl,hx,q⟩:=h;cases rx;obtain⟨its,r,ht,hz⟩:=I.list hx;have hlen:=r.length;refine#["list",_,slot_list_getitem.lookup,ht.isList.typeIs,?_];refine wpAny_getItem_list_slice ht.isList hs pl pu .none f!"" ?_ (by rw[ο] <;> lia);rw[lI,<-hlen];refine#[.ref s.heap.objs.size,_,I.laid (t':=s.toks) (o:=.lst (zn xs lo hi)) (λb ob q=>μ _ q) (Γ _) ?_,rfl,q _ (I.hok.fresh (Γ _))];exact#[cr (lD xs lo hi) hz,_,0,(r.drop (HT.sIx xs.length 0 lo)).take (HT.sIx xs.length xs.length hi-HT.sIx xs.length 0 lo),ak _ rfl]
def BC:V->Bool
 | .non=>true
 | .bl _=>true
 | .int _=>true
 | .str _=>true
 | _=>false
def eqV:V->V->Bool
 | .non,.non=>true
 | .bl a,.bl b=>a==b
 | .bl a,.int b=>(if a then 1 else 0)==b
 | .int a,.bl b=>a==(if b then 1 else 0)
 | .int a,.int b=>a==b
 | .str a,.str b=>a==b
 | _,_=>false
theorem Tq{A:wg}{y x:V}{u v:vz}(ry:RelV y u)(rx:RelV x v)(fy:BC y=true)(fx:BC x=true):SeqAt.EqAt A s u v (eqV y x):=by
 cases y with
 | non=>
   cases ry;cases x with
   | non=>cases rx;exact jo _
   | bl b=>cases rx;exact uu b
   | int b=>obtain⟨t,rfl⟩:=rx;exact vg b t
   | str b=>obtain⟨t,rfl⟩:=rx;exact vh b t
   | _=>exact xb0 (show false=true from fx) ξ
 | bl a=>
   cases ry;cases x with
   | non=>cases rx;exact uv a
   | bl b=>cases rx;exact uw a b
   | int b=>obtain⟨t,rfl⟩:=rx;exact vi a b t
   | str b=>obtain⟨t,rfl⟩:=rx;exact vj a b t
   | _=>exact xb0 (show false=true from fx) ξ
 | int a=>
   obtain⟨t',rfl⟩:=ry;cases x with
   | non=>cases rx;exact vk a t'
   | bl b=>cases rx;exact vm a t' b
   | int b=>obtain⟨t,rfl⟩:=rx;exact qj a t' b t
   | str b=>obtain⟨t,rfl⟩:=rx;exact qg a t' b t
   | _=>exact xb0 (show false=true from fx) ξ
 | str a=>
   obtain⟨t',rfl⟩:=ry;cases x with
   | non=>cases rx;exact vn a t'
   | bl b=>cases rx;exact vo a t' b
   | int b=>obtain⟨t,rfl⟩:=rx;exact qh a t' b t
   | str b=>obtain⟨t,rfl⟩:=rx;exact vp a t' b t
   | _=>exact xb0 (show false=true from fx) ξ
 | _=>exact xb0 (show false=true from fy) ξ
def eqU(x:V)(u:vz):Bool:=match u with
 | .none=>eqV .non x
 | .bool b=>eqV (.bl b) x
 | .int i _=>eqV (.int i) x
 | .str z _=>eqV (.str z) x
 | _=>false
theorem aF{x y:V}{u:vz}(r:RelV y u)(f:BC y=true):eqU x u=eqV y x:=by
 cases y with
 | non=>cases r;rfl
 | bl b=>cases r;rfl
 | int i=>obtain⟨t,rfl⟩:=r;rfl
 | str z=>obtain⟨t,rfl⟩:=r;rfl
 | _=>exact xb0 (show false=true from f) ξ
theorem Tr{x:V}:∀{xs:List V}{us:List vz},Vals xs us->xs.all BC=true->us.any (eqU x)=xs.any λy=>eqV y x
 | _,_,.nil,_=>rfl
 | y::xs,u::us,.cons r t,f=>by
   rw[sy,dm] at f;rw[gj,gj,aF r f.1,Tr t f.2]
theorem Ts{A:wg}{s:wb}{x:V}{v:vz}(rx:RelV x v)(fx:BC x=true):∀{xs:List V}{us:List vz},Vals xs us->xs.all BC=true->∀u∈us,SeqAt.EqAt A s u v (eqU x u)
 | _,_,.nil,_=>λu hu=>by cases hu
 | y::xs,u::us,.cons r t,f=>λu' hu=>by
   rw[sy,dm] at f;rcases Ξ.mp hu with rfl | hu
   rw[aF r f.1];exact Tq r rx f.1 fx;exact Ts rx fx t f.2 u' hu
def inV(x:V)(xs:List V):Bool:=xs.any λy=>eqV y x
def rIn(K:δ)(neg:Bool):R2:=λx y H Q=>∃p xs,y = .ref p/\(SqL K H p xs\/SqT K H p xs)/\BC x=true/\xs.all BC=true/\Q (.bl (if neg then !inV x xs else inV x xs)) H
theorem Tt:OpR X (xc .In) (rIn X.K false):=by
 intro ϊ s σ H x y v u Q I rx ry h;obtain⟨p,xs,rfl,hq,fx,fs,q⟩:=h;cases ry;rcases hq with hq | hq
 obtain⟨its,r,pl,hz⟩:=I.list hq;refine SeqAt.in_listAt (eqU x) pl.isList (λw hw=>Ts rx fx r fs w (by simpa using hw)) #[.bl _,H,I,rfl,?_];rw[show its.toArray.any (eqU x)=its.any (eqU x) by simp,Tr r fs];exact q;obtain⟨its,r,pl,hz⟩:=I.tuple hq;refine SeqAt.in_tupleAt (eqU x) pl (λw hw=>Ts rx fx r fs w (by simpa using hw)) #[.bl _,H,I,rfl,?_];rw[show its.toArray.any (eqU x)=its.any (eqU x) by simp,Tr r fs];exact q
theorem CG:DN X (.builtin "len") (λxs H Q=>∃p ys,xs=[.ref p]/\(SqL X.K H p ys\/SqT X.K H p ys)/\Q (.int ys.length) H):=by
 intro ϊ s σ H xs us Q I r h;obtain⟨p,ys,rfl,hq,q⟩:=h;obtain⟨u,rfl,rx⟩:=L9 r;cases rx;have hn:=L8;rcases hq with hq | hq
 obtain⟨its,r',pl,hz⟩:=I.list hq;have hlen:=r'.length;exact Calls.call_len_list pl.isList (by simp only [ο] <;> lia) #[.int ys.length,H,I.tok _,#[s.toks+1,by rw[ο,hlen]],q];obtain⟨its,r',pl,hz⟩:=I.tuple hq;have hlen:=r'.length;exact len_tuple pl (by simp only [ο] <;> lia) #[.int ys.length,H,I.tok _,#[s.toks+1,by rw[ο,hlen]],q]
theorem DS:DN X (.type "list") (λxs H Q=>∃p ys,xs=[.ref p]/\(SqL X.K H p ys\/SqT X.K H p ys)/\∀l,H l=none->Q (.ref l) (upd H l (.lst ys))):=by
 intro ϊ s σ H xs us Q I r h;obtain⟨p,ys,rfl,hq,q⟩:=h;obtain⟨u,rfl,rx⟩:=L9 r;cases rx;have fin:∀(its:List vz),Vals ys its->ys.length<=wt->∀(h':xt)(c':Nat),(∀b o',s.heap.get? b=some o'->h'.get? b=some o') ->
     h'.get? s.heap.objs.size=some { cls:=.type "list",dict:=none,data:=.seq its.toArray c',slots:=(ϋ []) }->EP X ϊ σ Q (.ref s.heap.objs.size) { s with heap:=h' }:=λits r' hz h' c' kp e=>
   #[.ref s.heap.objs.size,_,I.laid (t':=s.toks) kp (Γ _) (show Bc X.prog X.w _ h' _ (.lst ys) from #[hz,its,c',r',e]),rfl,q _ (I.hok.fresh (Γ _))]
 rcases hq with hq | hq
 obtain⟨its,r',pl,hz⟩:=I.list hq;have hlen:=r'.length;obtain⟨o,ho,hc,n,hd⟩:=pl.isList;exact call_list_seq p (.inl rfl) ho hc hd (λh' c' kp e=>fin its r' hz h' c' kp e) (by simp only [ο] <;> lia);obtain⟨its,r',pl,hz⟩:=I.tuple hq;have hlen:=r'.length;obtain⟨o,ho,hc,n,hd⟩:=pl;exact call_list_seq p (.inr rfl) ho hc hd (λh' c' kp e=>fin its r' hz h' c' kp e) (by simp only [ο] <;> lia)
def tyV(K:δ)(T:String)(x:V)(H:Hp):Prop:=match x with
 | .str _=>T="str"
 | .int _=>T="int"
 | .ref p=>(T="list"/\∃xs,SqL K H p xs)\/(T="tuple"/\∃o,K.lookup p=some o/\o.cls = .type "tuple"/\o.dict=none) \/
     (T="dict"/\((∃kvs,H p=some (.dK kvs))\/∃kvs,H p=some (.dT kvs)))\/(T="set"/\∃S n,H p=some (.set S n))
 | _=>False
theorem aG{T:String}{x:V}{v:vz}(I:Inv X ϊ σ H s)(r:RelV x v)(ty:tyV X.K T x H):
   s.TypeIs v T/\∀a,v = .ref a->∃ob,s.heap.get? a=some ob/\ob.dict=none:=by
 cases x with
 | str z=>
   obtain⟨t,rfl⟩:=r;cases (show T="str" from ty);exact#[typeIs_str s z t,λ_ e=>nomatch e]
 | int i=>
   obtain⟨t,rfl⟩:=r;cases (show T="int" from ty);exact#[typeIs_int s i t,λ_ e=>nomatch e]
 | ref p=>
   cases r;rcases ty with ⟨rfl,xs,hq⟩ | ⟨rfl,o,hk,hc,hd⟩ | ⟨rfl,hk⟩ | ⟨rfl,S,n,hk⟩
   obtain⟨its,_,pl,_⟩:=I.list hq;refine#[pl.isList.typeIs,λa e=>?_];cases e;obtain⟨o,n,e,c,hd,_⟩:=pl;exact#[o,e,hd];refine#[#[o,I.kIn p o hk,hc],λa e=>?_];cases e;exact#[o,I.kIn _ o hk,hd];have z:∃o,s.heap.get? p=some o/\o.ExactDict:=by
     rcases hk with ⟨kvs,hk⟩ | ⟨kvs,hk⟩
     obtain⟨_,_,_,_,o,_,_,e,ex,_⟩:=I.hok p _ hk;exact#[o,e,ex];obtain⟨_,_,_,_,o,_,_,e,ex,_⟩:=I.hok p _ hk;exact#[o,e,ex]
   obtain⟨o,e,ex⟩:=z;refine#[#[o,e,ex.1],λa e2=>?_];cases e2;exact#[o,e,ex.2.1];obtain⟨o,_,_,_,e,ex,_⟩:=I.hok p _ hk;refine#[#[o,e,ex.1],λa e2=>?_];cases e2;exact#[o,e,ex.2.1]
 | _=>exact de ty
def tBM0(K:δ)(T:String)(r:V->List V->Hp->VK->Prop)(to:TE):TE:=λσ H Q=>to σ H λx H1=>tyV K T x H1/\r x [] H1 Q
def tBM(K:δ)(T:String)(r:V->List V->Hp->VK->Prop)(to:TE)(t:TA):TE:=λσ H Q=>to σ H λx H1=>tyV K T x H1/\t σ H1 λxs H2=>r x xs H2 Q
variable {o e:wk}{es:List wk}{to:TE}{t:TA}{name:Str}{apos cpos:Pos}{T id:String}{r:V->List V->Hp->VK->Prop}
theorem aH(pa:PlainAttrs T)(slot:Slot T name id)(hty:typeOf (.builtin id)=pure (.type "method_descriptor"))(hm:MtR X id r)(ho:PE X o to)
   (hbase:attributeBase o name X.env (xk o X.env)=xk o X.env:=by rfl) (hline:(apos.endLine==cpos.line)=true:=by rfl):PE X (.Call (.Attribute o name apos) [] [] cpos) (tBM0 X.K T r to):=by
 intro ϊ s σ H Q I h;refine wpAny_Call_method0_late hbase hline (thn (ho ϊ s σ H _ I h) λv s1 hZ=>?_);obtain⟨x,H1,I1,r1,ty,q1⟩:=hZ;obtain⟨h1,h2⟩:=aG I1 r1 ty;exact#[T,id,pa,slot,hty,h1,h2,nc rfl (PySem.evalArgs_none (hm ϊ s1 σ H1 x [] v [] Q I1 r1 .nil q1))]
theorem HH(pa:PlainAttrs T)(slot:Slot T name id)(hty:typeOf (.builtin id)=pure (.type "method_descriptor"))(hm:MtR X id r)(ho:PE X o to)(ha:PA X (e::es) t)
   (hbase:attributeBase o name X.env (xk o X.env)=xk o X.env:=by rfl)
   (hfew:((wz cpos (wo (e::es) X.env)).all (λx=>!x.1)&&(backToKw cpos (keywordEach [] X.env)).all (λx=>x.1.isSome)
     && decide ((e::es).length+([]:List Keyword).length+(if ([]:List Keyword).isEmpty then 0 else 1)<30))=true:=by rfl)
   (hline:(apos.endLine==cpos.line)=true:=by rfl) (hs:wo (e::es) X.env=(false,xk e X.env)::wo es X.env:=by rfl) (hplain:(wz cpos (wo es X.env)).any (·.1)=false:=by rfl):
   PE X (.Call (.Attribute o name apos) (e::es) [] cpos) (tBM X.K T r to t):=by
 intro ϊ s σ H Q I h;refine wpAny_Call_method_late hbase hfew hline rfl (thn (ho ϊ s σ H _ I h) λv s1 hZ=>?_);obtain⟨x,H1,I1,r1,ty,q1⟩:=hZ;obtain⟨h1,h2⟩:=aG I1 r1 ty;refine#[T,id,pa,slot,hty,h1,h2,?_];have hA:=ha cpos ϊ s1 σ H1 _ I1 q1;rw[hs] at hA ⊢;refine nc (by show (false||(wz cpos (wo es X.env)).any (·.1))=false;rw[hplain] <;> rfl) (pd ?_);exact thn hA λus s2 ⟨vs,H2,I2,r2,q2⟩=>hm ϊ s2 σ H2 x vs v us Q I2 r1 r2 q2
end
def MtM(X:Cx)(id:String)(r:V->List V->Hp->VK->Prop):Prop:=
 ∀(ϊ:List (wa×Obj)) (s:wb) (σ:St) (H:Hp) (x:V) (xs:List V) (v:vz) (us:List vz) (Q:VK),Inv X ϊ σ H s->RelV x v->Vals xs us->r x xs H Q ->
   wx (xl X.prog X.w) X.A (call (.builtin id) (v::us)) (EP X ϊ σ Q) X.xe s
theorem Vals.one:∀{x:V}{us:List vz},Vals [x] us->∃u,us=[u]/\RelV x u
 | _,_,.cons r .nil=>#[_,rfl,r]
theorem Vals.rep{xs:List V}{us:List vz}(h:Vals xs us):∀k:Nat,Vals (ω k xs).flatten (ω k us).flatten
 | 0=>.nil
 | k+1=>by
   rw[cm,cm,dw,dw];exact Vals.append h (Vals.rep h k)
theorem aI(its:List vz):∀(k:Nat)(acc:List vz),
   qm (λx1 x2=>x1++x2) acc.toArray (ω k its.toArray)=(acc++(ω k its).flatten).toArray
 | 0,acc=>by simp
 | k+1,acc=>by
   have e:acc.toArray++its.toArray=(acc++its).toArray:=by simp
   have e2:(acc++its)++(ω k its).flatten=acc++(ω (k+1) its).flatten:=by
     rw[cm,dw,am]
   rw[<-e2,<-aI its k (acc++its),<-e,cm,ie]
section
variable {X:Cx}{ϊ:List (wa×Obj)}{σ:St}{H:Hp}{s:wb}{l b:wa}{xs ys zs:List V}
theorem Inv.lset(I:Inv X ϊ σ H s)(hH:H l=some (.lst xs))
   (e:s.heap.get? l=some { cls:=.type "list",data:=.seq its.toArray n }) (hf:f its.toArray=its'.toArray) (hv:Vals ys its') (hz:ys.length<=wt):
   Inv X ϊ σ (upd H l (.lst ys)) { s with heap:=s.heap.update l (cn f),toks:=t' }:=by
 have q:=PySem.IsL.update e f;rw[hf] at q;refine I.write (x:=l) (e:=l) (by rw[hH];exact trivial) (.inl rfl) (λb' u hb hu=>(ah s.heap (cn f) (fh hb)).trans hu) #[_,q] ?_;exact#[hz,its',_,hv,q]
theorem Inv.lnew(I:Inv X ϊ σ H s)(hv:Vals ys its)(hz:ys.length<=wt):
   Inv X ϊ σ (upd H s.heap.objs.size (.lst ys)) { s with heap:=s.heap.push { cls:=.type "list",data:=.seq its.toArray },toks:=t' }:=
 I.laid (λ_ _ q=>μ _ q) (Γ _) #[hz,its,0,hv,ak _ rfl]
theorem Inv.fresh(I:Inv X ϊ σ H s):H s.heap.objs.size=none:=I.hok.fresh (Γ _)
theorem Inv.lstM(I:Inv X ϊ σ H s)(hH:H l=some (.lst xs)):xs.length<=wt/\∃(its:List vz)(n:Nat),Vals xs its/\xs.length=its.length/\s.heap.get? l=some { cls:=.type "list",data:=.seq its.toArray n }:=by
 obtain⟨z,its,n,r,e⟩:=I.hok l _ hH;exact#[z,its,n,r,r.length,e]
theorem aJ(h:n<=wt):Builtin.List.listTooLong n=false:=by
 unfold Builtin.List.listTooLong;exact xb4 ∅
end
section
variable {X:Cx}
def Tu:V->List V->Hp->VK->Prop:=λx vs H Q=>∃l xs y,x = .ref l/\vs=[y]/\H l=some (.lst xs)/\xs.length<wt/\Q .non (upd H l (.lst (xs++[y])))
theorem GX:MtM X "list.append" Tu:=by
 intro ϊ s σ H x vs v us Q I rx rv h;obtain⟨l,xs,y,rfl,rfl,hH,hz,q⟩:=h;cases rx;obtain⟨u,rfl,ru⟩:=rv.one;obtain⟨z,its,n,r,hl,e⟩:=I.lstM hH;refine call_meets F.slot_list_append #[_,e,rfl] F.entry_list_append (F.args_list_append_2 _ _) (PySem.list_append l its.toArray n u (by rw[ο];lia)) #[e,?_];refine#[.non,_,I.lset (its':=its++[u]) hH e f!"" (r.append (.cons ru .nil)) ?_,rfl,q];rw[Δ,Ω];lia
def lJ:V->List V->Hp->VK->Prop:=λx vs H Q=>∃l b xs zs,x = .ref l/\vs=[.ref b]/\H l=some (.lst xs)/\H b=some (.lst zs)/\xs.length+zs.length<=wt/\Q .non (upd H l (.lst (xs++zs)))
theorem V_:MtM X "list.extend" lJ:=by
 intro ϊ s σ H x vs v us Q I rx rv h;obtain⟨l,b,xs,zs,rfl,rfl,hH,hB,hz,q⟩:=h;cases rx;obtain⟨u,rfl,ru⟩:=rv.one;cases ru;obtain⟨z,its,n,r,hl,e⟩:=I.lstM hH;obtain⟨z2,its2,n2,r2,hl2,e2⟩:=I.lstM hB;have hsz:its.toArray.size+its2.toArray.size<=wt:=by rw[ο,ο];lia
 have hlong:¬(!its.toArray.isEmpty&&Builtin.List.listTooLong (its.toArray.size+its2.toArray.size))=true:=by
   rw[aJ hsz,li];exact ξ
 refine call_meets F.slot_list_extend #[_,e,rfl] F.entry_list_extend (F.args_list_extend_2 _ _)
   (AutoSeq1.list_extend_list_list_0 l its.toArray n b its2.toArray n2 hlong (by rw[ο];lia) ∅) #[e,e2,?_]
 refine#[.non,_,I.lset (its':=its++its2) hH e f!"" (r.append r2) ?_,rfl,q];rw[Δ];lia
def rCat:R2:=λx y H Q=>∃l b xs zs,x = .ref l/\y = .ref b/\H l=some (.lst xs)/\H b=some (.lst zs)/\xs.length+zs.length<=wt/\∀p,H p=none->Q (.ref p) (upd H p (.lst (xs++zs)))
theorem K3:OpR X (binaryOp .Add) rCat:=by
 intro ϊ s σ H x y v u Q I rx ry h;obtain⟨l,b,xs,zs,rfl,rfl,hH,hB,hz,q⟩:=h;cases rx;cases ry;obtain⟨z,its,n,r,hl,e⟩:=I.lstM hH;obtain⟨z2,its2,n2,r2,hl2,e2⟩:=I.lstM hB;refine PySem.P.add_list e e2 ?_ (by rw[ο,ο];lia);have ea:its.toArray++its2.toArray=(its++its2).toArray:=by simp
 rw[ea];exact#[.ref _,_,I.lnew (t':=s.toks) (r.append r2) (by rw[Δ];lia),rfl,q _ I.fresh]
def rRep:R2:=λx y H Q=>∃l k xs,x = .ref l/\y = .int k/\H l=some (.lst xs)/\-(2^63)<=k/\k<2^63/\xs.length*k.toNat<=wt /\
 ∀p,H p=none->Q (.ref p) (upd H p (.lst (ω k.toNat xs).flatten))
theorem lK{α:Type}(xs:List α)(k:Nat):(ω k xs).flatten.length=k*xs.length:=by
 induction k with
 | zero=>simp
 | succ k ih=>rw[cm,dw,Δ,ih,Nat.succ_mul,Nat.add_comm]
theorem aK:OpR X (binaryOp .Mult) rRep:=by
 intro ϊ s σ H x y v u Q I rx ry h;obtain⟨l,k,xs,rfl,rfl,hH,h1,h2,hz,q⟩:=h;cases rx;obtain⟨t,rfl⟩:=ry;obtain⟨z,its,n,r,hl,e⟩:=I.lstM hH;have hlen:its.toArray.size*k.toNat<=wt:=by rw[ο,<-hl];exact hz
 have hcap:¬its.toArray.size*k.toNat>(2^63-1)/8:=by
   have:(wt:Nat)<=(2^63-1)/8:=by decide
   lia
 have hfit:¬(!Builtin.List.listFitsIndex k)=true:=by
   rw[fitsIndex_both h1 h2];exact ξ
 have hlong:¬Builtin.List.listTooLong (its.toArray.size*k.toNat)=true:=by
   rw[aJ hlen];exact ξ
 have hnew:qm (λx1 x2=>x1++x2) (ϋ []) (ω (if its.toArray.isEmpty=true then 0 else k.toNat) its.toArray)=(ω k.toNat its).flatten.toArray:=by
   have f0:∀m:Nat,qm (λx1 x2=>x1++x2) (ϋ []) (ω m its.toArray)=(ω m its).flatten.toArray:=λm=>by
     have:=aI its m [];rw[dk] at this;exact this
   rw[f0];cases its with
   | nil=>simp
   | cons a r'=>rw[xb2 f!""]
 refine wpAny_binaryOp_repeat_ref (T:="list") (U:="int") m!"" #[_,e,rfl] (λs'=>typeIs_int s' k t) noFill_list_mul F.fills_int_mul F.slot_int_rmul repeat_list F.slot_int_index.lookup
   (call_meets F.slot_int_rmul (typeIs_int s k t) F.entry_int_rmul (F.args_int_rmul_2 _ _) (int___rmul___int_list k t l its.toArray n)
     #[e,rfl,#[_,e,rfl],call_meets F.slot_list_mul #[_,e,rfl] F.entry_list_mul (F.args_list_mul_2 _ _) (AutoListH.list___mul___list_int_3 l its.toArray n k t hfit hcap hlong) #[e,?_]])
 rw[hnew];exact#[.ref _,_,I.lnew (t':=s.toks) (r.rep k.toNat) (by rw[lK,Nat.mul_comm];exact hz),rfl,q _ I.fresh]
end
section
variable {prog:we}{w:wf}{A:wg}{E:vz->wb->Prop}{s:wb}
end
section
variable {X:Cx}
end
end L2
namespace Att
open PySem PySem.W PySem.Calls PyProof.Rows
variable{l:OpenLaw}{n:Nat}{args:List WData}{XP:(Str->Option vz)->xt->Prop}{YP:wf->xt->Prop}
theorem lM{P:xr}{h:xt}:∀(ns:List Int)(vs:List vz),WellAll P h vs (ns.map WData.int)->IntsAre vs ns:=by
 intro ns
 induction ns with
 | nil=>
   intro vs w;rw[ix] at w;cases w;exact .nil
 | cons n ns ih=>
   intro vs w;rw[cb] at w;cases w with
   | cons a b=>
     cases a;exact .cons _ _ (ih _ b)
theorem lN(hn:l.most=some n){P:xr}{h:xt}{vals:List vz}
   (hpre:l.row.toRowW.claim.pre args=true) (hwl:WellAll P h vals args):
   ∃a vs ns,vals=[Value.ref a]/\args=[WData.list (ns.map WData.int)]/\h.get? a=some { cls:=.type "list",data:=.seq vs.toArray }/\IntsAre vs ns/\ns.length<=n:=by
 have hsh:WShape.hasAll [] args [.list .int]=true:=(pre_splitW hpre).1;have hc:l.pre.holds [] { args:=args }=true:=(pre_splitW hpre).2;obtain⟨d,r,rfl,h1,h2⟩:=hasAllW_cons hsh;obtain rfl:=hasAllW_nil h2;obtain⟨xs,rfl,h3⟩:=hasW_list h1;obtain⟨ns,rfl⟩:=items_int h3;have hlen:ns.length<=n:=by
   unfold OpenLaw.pre at hc;have h4:(WTm.not (.lt (.lit (.int (n:Int))) (.len (.arg 0)))).holds [] { args:=[.list (ns.map .int)] }=true:=by
     have h4:=(holds_andW hc).1;rw[hn] at h4;exact h4
   have h5:=condW_of h4 (w_not (w_lt w_lit (w_len_list (w_arg rfl))));rw[Φ] at h5;refine rj λq=>?_;have q':(n:Int)<((ns.length:Nat):Int):=∅
   first
     | (rw[xb3 q'] at h5;exact xb0 h5 m!"")
     | (simp at h5;lia)
 cases hwl with
 | cons w1 w2=>
   cases w2;cases w1 with
   | list ho hall=>exact#[_,_,ns,rfl,rfl,ho,lM ns _ hall,hlen]
theorem lO(l:OpenLaw)(args:List WData):l.row.toRowW.claim.post args (.bool true) args=true:=
 postW_of (r:=l.row.toRowW) (X:=(true==true))
   (show WShape.has [] (.bool true) .bool=true by first | rfl | decide | simp [WShape.has,WShape.arms,WShape.armsAll])
   (show (WTm.eq .res (.lit (.bool true))).value [] { args:=args,res:=some (.bool true),after:=args }=some (.bool (true==true)) from w_eq_bool (w_res rfl) w_lit) rfl
theorem attach_call{q:we}{loose:List Str}{d:DefRec}
   (hn:l.most=some n) (hdf:d.params.defaults=[])
   (call:∀(w:wf)(s₀ s₁:wb)(mg mb:Str->Option vz)(fa:wa)(o:Obj)(pm cd doc:vz)(a:wa)(vs:List vz)(ns:List Int),
     Ground q loose [] XP w s₀ mg mb s₁.heap->YP w s₁.heap ->
     s₁.heap.get? fa=some o->o.data = .func (docDef d.name d.params d.body d.scope pm cd doc)->s₁.heap.CodeRec cd d.name->mg d.name=some (.ref fa) ->
     s₁.heap.get? a=some { cls:=.type "list",data:=.seq vs.toArray }->IntsAre vs ns->ns.length<=n->s₁.gens=(ϋ []) ->
     codeAny (xl l.prog w) callerA (.call (.ref fa) #[[.ref a],[]]) (λr s'=>r = .ok (.ret (.bool true))/\OldK s₁.heap s'.heap/\s'.os=s₁.os/\AllBare s'.gens) s₁):
   WalkO q loose XP YP l.row.toRowW d [] (λf vs=>sk f vs):=by
 intro w s₀ s₁ mg mb G Y fa o pm cd doc dV kV ho hd hcd hD hmg hg args vals as hpre hlay hrd hwl hlo;obtain rfl:dV = .none:=Dflts.none hD hdf;obtain rfl:kV = .none:=Dflts.noKw hD;obtain⟨a,vs,ns,rfl,rfl,hobj,hints,hlen⟩:=lN hn hpre hwl;refine enter_call (codeAny_mono (call w s₀ s₁ mg mb fa o pm cd doc a vs ns G Y ho (fd_plain hd) hcd hmg hobj hints hlen hg) λr s' hq=>?_);obtain⟨rfl,h2,h3,h4⟩:=hq;exact#[.inl #[.bool true,.bool true,[],rfl,λ_=>rfl,.bool true,lO l _,λ_=>#[List.Pairwise.nil,λ_ hm=>(nomatch hm)]],h2,h3,h4]
section
variable {prog:we}{w:wf}{A:wg}{E:vz->wb->Prop}{s:wb}{K:Frag}
end
end Att
namespace L2
open PySem PySem.Spec PyProof.Rows
variable{x:Str}{XP:(Str->Option vz)->xt->Prop}{YP:wf->xt->Prop}{osl:Array (Option vz)}
theorem aL:∀{vs:List vz}{ns:List Int},IntsAre vs ns->Vals (ns.map V.int) vs
 | _,_,.nil=>.nil
 | _,_,.cons n t h=>.cons #[t,rfl] (aL h)
def Only(H:Hp):Prop:=∀b,H b=none\/∃o xs,H b=some (.frz o (.lst xs))
theorem lP{P:we}{w:wf}{K:δ}{mg mb:Str->Option vz}{CX:CXT}{k:Nat}{fa a:wa}{fd:wc}{sp:Sp}{s₁:wb}{vs:List vz}{ns:List Int}
   (KX:K.In s₁.heap) (hns:s₁.heap.Ns xg mg) (hb:s₁.heap.Ns builtinsNs mb) (hbb:∀x:Str,x≠"__name__"->mb x=bootBuiltins x) (hlim:s₁.heap.NoLimit) (hg:s₁.gens=(ϋ []))
   (ha:s₁.heap.get? a=some { cls:=.type "list",data:=.seq vs.toArray }) (hi:IntsAre vs ns) (hl:ns.length<=wt) (hr:Room k callerA)
   (F:∀base:xt,K.In base->base.Ns xg mg->FnOk P w K mg base CX k fa fd [x] sp) (hbind:∀(s:wb)(u:vz),BindsTo s fd #[[u],[]] [(x,u)])
   (hsp:∀H:Hp,Only H->SqL K H a (ns.map V.int)->sp [.ref a] H (λv _=>v = .bl true) λ_ _ _=>False)
   (hCX:∀H e s',CX [] H s₁ (λ_ _ _=>False) e s'->False):
   codeAny (xl P w) callerA (.call (.ref fa) #[[.ref a],[]]) (λr s'=>r = .ok (.ret (.bool true))/\OldK s₁.heap s'.heap/\s'.os=s₁.os/\AllBare s'.gens) s₁:=by
 have rv:=aL hi;have lenV:=hi.length;have core:∀H:Hp,Only H->SqL K H a (ns.map V.int)->HOk P w H s₁.heap->(∀b,H b≠none->b=a)->(H a≠none->K.lookup a=none) ->
     codeAny (xl P w) callerA (.call (.ref fa) #[[.ref a],[]]) (λr s'=>r = .ok (.ret (.bool true))/\OldK s₁.heap s'.heap/\s'.os=s₁.os/\AllBare s'.gens) s₁:=by
   intro H hO hS hok hA hK;have base_of:∀{b:wa}{o:Obj},s₁.heap.get? b=some o->H b=none->(zp s₁.heap H).get? b=some o:=λe n=>jW e n;have noA:∀{b:wa}{o:Obj}{es:Array DictEntry}{ep:Nat},s₁.heap.get? b=some o->o.data = .dict es ep->H b=none:=λ{b o es ep} e d=>by
     cases q:H b with
     | none=>rfl
     | some u=>
       have e':b=a:=hA b (by rw[q];simp);subst e';rw[ha] at e;cases e;have d':Data.seq vs.toArray _=Data.dict es ep:=d;cases d'
   have nsK:∀{b:wa}{m:Str->Option vz},s₁.heap.Ns b m->(zp s₁.heap H).Ns b m:=λ{b m} ⟨o,es,ep,e,d,r⟩=>#[o,es,ep,base_of e (noA e d),d,r]
   have hKb:K.In (zp s₁.heap H):=λb o e=>base_of (KX b o e) (by
     cases q:H b with
     | none=>rfl
     | some u=>
       have e':b=a:=hA b (by rw[q];simp);subst e';rw[hK (by rw[q];simp)] at e;cases e)
   have hM:Mod K mg (zp s₁.heap H):=#[hKb,nsK hns,#[mb,nsK hb,hbb],let ⟨mc,h1,h2⟩:=hlim;#[mc,nsK h1,h2]]
   have e0:Env0 P w K mg (zp s₁.heap H) callerA [] s₁ H:=#[rfl,hM,λb o e=>jX e,qv (jV _ _),trivial,λb hb=>xb0 (show b∈([]:List wa) from hb) f!"",hok,.of_eq hg]
   refine codeAny_mono ((F _ hKb (nsK hns)).run callerA [] s₁ H #[[.ref a],[]] [.ref a] [.ref a] _ _ hr e0 (hbind s₁ (.ref a)) (.cons rfl .nil) (hsp H hO hS)) λr s' h=>?_;cases r with
   | error e=>exact(hCX H e s' h).elim
   | ok fl=>
     cases fl with
     | next=>exact de h
     | brk=>exact de h
     | cont=>exact de h
     | ret u=>
       obtain⟨v,H',os,bare,un,hok',r',q⟩:=h;have q':v = .bl true:=q;subst q';obtain rfl:u=Value.bool true:=r';refine#[rfl,OldK.of_keep λb o e=>?_,os,bare];cases q:H b with
       | none=>exact un.keep b o e q (by intro z;exact xb0 (show b∈([]:List wa) from z) f!"") f!""
       | some u=>
         rcases hO b with z | ⟨ob,xs,z⟩
         rw[q] at z;cases z;have z2:=un.frzs b ob _ z;obtain⟨e1,_⟩:=hok b _ z;obtain⟨e2,_⟩:=hok' b _ z2;rw[e] at e1;cases e1;exact e2
 cases hk:K.lookup a with
 | some o=>
   have e:=KX a o hk;rw[ha] at e;cases e;refine core (λ_=>none) (λ_=>.inl rfl) (.inr #[_,vs.toArray,_,hk,rfl,rfl,rfl,by rw[ο,lenV];exact hl,by simpa using rv]) (λb u z=>by have z':(none:Option HO)=some u:=z;cases z') (λb z=>xb0 rfl z) λz=>xb0 rfl z
 | none=>
   refine core (λb=>if b=a then some (.frz { cls:=.type "list",data:=.seq vs.toArray } (.lst (ns.map V.int))) else none) (λb=>?_) (.inl (.inr #[{ cls:=.type "list",data:=.seq vs.toArray },xb1 rfl])) (λb u z=>?_) (λb z=>?_) λ_=>hk;by_cases hb:b=a;exact .inr #[_,_,xb1 hb];exact .inl (xb2 hb);by_cases hb:b=a;have z':=(xb1 hb).symm.trans z;cases z';subst hb;exact#[ha,by rw[Φ];exact hl,vs,_,rv,ha];have z':=(xb2 hb).symm.trans z;cases z';by_cases hb:b=a;exact hb;exact xb0 (xb2 hb) z
theorem walk_of{l:oh}{n k:Nat}{q:we}{loose:List Str}{d:DefRec}{K:xr->δ}{CX:wf->CXT}{sp:wf->Sp}
   (hn:l.most=some n) (hn2:n<=wt) (hdf:d.params.defaults=[]) (hr:Room k callerA)
   (hY:∀(w:wf)(h:xt),YP w h->(K w.params).In h)
   (F:∀(w:wf)(mg:Str->Option vz)(fa:wa)(h:xt),(K w.params).In h->h.Ns xg mg->mg d.name=some (.ref fa) ->
     ∃fd:wc,(∀(s:wb)(u:vz),BindsTo s fd #[[u],[]] [(x,u)]) /\
       ∀base:xt,(K w.params).In base->base.Ns xg mg->FnOk l.prog w (K w.params) mg base (CX w) k fa fd [x] (sp w))
   (hsp:∀(w:wf)(H:Hp)(a:wa)(ns:List Int),ns.length<=n->Only H->SqL (K w.params) H a (ns.map V.int)->sp w [.ref a] H (λv _=>v = .bl true) λ_ _ _=>False)
   (hCX:∀(w:wf)(H:Hp)(s:wb)(e:vz)(s':wb),CX w [] H s (λ_ _ _=>False) e s'->False):
   tf q loose XP YP l.row.toRowW d [] (λf vs=>sk f vs):=by
 refine Att.attach_call hn hdf λw s₀ s₁ mg mb fa o pm cd doc a vs ns G Y ho hd hcd hmg hobj hints hlen hg=>?_;have KX:=hY w _ Y;obtain⟨fd,hb,hF⟩:=F w mg fa _ KX G.T.g hmg;exact lP KX G.T.g G.T.b G.T.builtins G.T.nolimit hg hobj hints (cr hlen hn2) hr hF hb (λH hO hS=>hsp w H a ns hlen hO hS) λH e s'=>hCX w H s₁ e s'
abbrev CX0:CXT:=λ_ _ _ _ _ _=>False
abbrev E0:XK:=λ_ _ _=>False
structure Fun(K:δ)(x qual:Str)(st:wl)(f:wa)(fd:wc):Prop where
 ex:∃(oc:vz)(od:Option wa)(kV doc pm:vz)(an:Option wa)(cdv ct:vz) (osl:Array (Option vz)),
   fd=fnOf x qual (Bb st) (A3 st) (An st) .none kV doc pm an cdv ct/\K.lookup f=some #[oc,od,.func fd,osl]/\codeIn K cdv qual=true
 kp:keepIn K (.ref f)=true
section
variable {P:we}{w:wf}{K:δ}{mg:Str->Option vz}{base:xt}
theorem Fun.binds{qual:Str}{st:wl}{f:wa}{fd:wc}{ps:List Str}(F:Fun K x qual st f fd)
   (h:∀(kV doc pm:vz)(an:Option wa)(cdv ct:vz)(us:List vz),us.length=ps.length->wq (fnOf x qual (Bb st) (A3 st) (An st) .none kV doc pm an cdv ct) #[us,[]]=pure (ps.zip us)):BL K fd ps []:=by
 obtain⟨oc,od,kV,doc,pm,an,cdv,ct,osl,rfl,lk,hcd⟩:=F.ex;exact .all (h kV doc pm an cdv ct)
theorem A9{qual:Str}{st:wl}{f:wa}{oc:vz}{od an:Option wa}{kV doc pm cdv ct:vz}(l:K.lookup f=some #[oc,od,.func (fnOf x qual (Bb st) (A3 st) (An st) .none kV doc pm an cdv ct),osl])
   (c:codeIn K cdv qual=true) (k:keepIn K (.ref f)=true):Fun K x qual st f (fnOf x qual (Bb st) (A3 st) (An st) .none kV doc pm an cdv ct):=#[#[oc,od,kV,doc,pm,an,cdv,ct,osl,rfl,l,c],k]
end
theorem small1000{n:Nat}(h:n<=1000):n<wt:=jq h m!""
section
variable {X:Cx}
theorem pv(i:Nat){x:Str}{pos:Pos}(hN:X.N[i]?=some x:=by rfl)(hv:Vis X.env.scope x:=by first | exact υ rfl | exact lj (υ rfl) | exact lj (lj rfl))(hd:(x==("__debug__":Str))=false:=by decide)
   (hcd:(x==("__classdict__":Str))=false:=by decide):PE X (.Name x pos) (tVar i):=O_ hN hv hd hcd
end
theorem iteF{A B:Prop}(h:B):if false=true then A else B:=by
 rw[xb2 ξ];exact h
theorem iteT{A B:Prop}(h:A):if true=true then A else B:=by
 rw[xb1 rfl];exact h
def Same(H H':Hp):Prop:=∀b o,H b=some o->H' b=some o
theorem Same.refl(H:Hp):Same H H:=λ_ _ h=>h
theorem Same.trans{H H1 H2:Hp}(a:Same H H1)(b:Same H1 H2):Same H H2:=λc o h=>b c o (a c o h)
theorem Same.free{H H':Hp}(e:Same H H'){l:wa}(h:H' l=Option.none):H l=Option.none:=by
 cases q:H l with
 | none=>rfl
 | some o=>
   rw[e l o q] at h;cases h
theorem Same.seq{K:δ}{H H':Hp}{a:wa}{xs:List V}(e:Same H H')(h:SqL K H a xs):SqL K H' a xs:=by
 rcases h with (h | ⟨o,h⟩) | h
 exact .inl (.inl (e _ _ h));exact .inl (.inr #[o,e _ _ h]);exact .inr h
end L2
namespace Stow
variable{p L a T C C0:wa}{s k n e l:Int}{ns cs:List Int}{x qual:Str}{b fill expr:Bool}{K:δ}{h base h':xt}{mg:Str->Option vz}{st:wl}{f R c:L2.St->Hp->Prop}{od an:Option wa}{osl tsl:Array (Option vz)}{H H':Hp}{o:HO}{env:xu}{outer:List xu}{oe ox oI:Obj}{vs:Array vz}{Q:Unit->wb->Prop}{ex fs:List wa}{cls:vz}{g:Int->Int->V}{t:TA}{os:OsState}{M:xv}{A B:Prop}{E E':vz->wb->Prop}{tk:Tok}{ϊ:List (wa×Obj)}{σ:L2.St}{cpos pos:Pos}{es:List wk}{X:Cx}{s':wb}{i j:Nat}{N u:List Str}{sp:Sp}{te ta to tb:TE}{v:V}{args:List vz}{us ys:List V}{P:Bool->Prop}{r:V->List V->Hp->VK->Prop}{lo hi:Option Int}{pl:xq Bool}{h₀:ExceptHandler}
structure Pc where
 a:Int
 l:Int
 v:Bool
 deriving DecidableEq
variable{ps ds D acc:List Pc}{y z:Pc}
def yQ(l:Int)(v:Bool):Int:=l*2+(if v then 1 else 0)
def Pc.mk'(p:Pc):Int:=yQ p.l p.v
def Am:Int->List Pc->Int->Prop
 | s,[],e=>s=e
 | s,p::r,e=>p.a=s/\1<=p.l/\(p.v=true->3<=p.l)/\Am (s+p.l) r e
theorem Am.le:∀{ps:List Pc}{s e:Int},Am s ps e->s+ps.length<=e
 | [],s,e,h=>by have h:s=e:=h;simp [h]
 | p::r,s,e,h=>by
   obtain⟨_,h1,_,h2⟩:=h;have:=Am.le h2;simp only [Ψ];lia
theorem Am.app:∀{ps qs:List Pc}{s m e:Int},Am s ps m->Am m qs e->Am s (ps++qs) e
 | [],_,s,m,e,h,k=>by have h:s=m:=h;subst h;exact k
 | p::r,qs,s,m,e,h,k=>by
   obtain⟨h0,h1,h2,h3⟩:=h;exact#[h0,h1,h2,Am.app h3 k]
theorem Am.one{p:Pc}(h1:1<=p.l)(h3:p.v=true->3<=p.l):Am p.a [p] (p.a+p.l):=#[rfl,h1,h3,rfl]
theorem Am.snoc{p:Pc}(h:Am s ps p.a)(h1:1<=p.l)(h3:p.v=true->3<=p.l):Am s (ps++[p]) (p.a+p.l):=h.app (.one h1 h3)
theorem Am.mem:∀{ps:List Pc}{s e:Int},Am s ps e->∀p∈ps,s<=p.a/\1<=p.l/\(p.v=true->3<=p.l)/\p.a+p.l<=e
 | [],_,_,_,p,hp=>by cases hp
 | q::r,s,e,h,p,hp=>by
   obtain⟨h0,h1,h2,h3⟩:=h;rcases Ξ.mp hp with rfl | hp
   have:=h3.le;exact#[∅,h1,h2,∅];obtain⟨a,b,c,d⟩:=Am.mem h3 p hp;exact#[∅,b,c,d]
def At(cs:List Int)(ps:List Pc):Prop:=∀p∈ps,cs[p.a.toNat]?=some p.mk'/\cs[(p.a+p.l-1).toNat]?=some p.mk'
theorem At.nil(cs:List Int):At cs []:=λp hp=>by cases hp
theorem EB(l:Int)(v:Bool):yQ l v/2=l:=by unfold yQ;split <;> lia
theorem Mc(l:Int)(v:Bool):decide (yQ l v%2=1)=v:=by
 unfold yQ;cases v;exact xb4 f!"";exact xb3 f!""
def CL(ns:List Int)(k:Int):Bool:=
 if ns.getD k.toNat 0/2<1\/(ns.length:Int)<k+ns.getD k.toNat 0/2 then false else decide (3<=ns.getD k.toNat 0/2)||!decide (ns.getD k.toNat 0%2=1)
def BZ(ns:List Int)(k:Int):Option Int:=
 if CL ns k=true then (if ns.getD (k+ns.getD k.toNat 0/2-1).toNat 0=ns.getD k.toNat 0 then none else some (k+ns.getD k.toNat 0/2-1)) else some k
theorem DT{k:Nat}{x:Int}(h:ns[k]?=some x):ns.getD k 0=x:=by rw[ao,h];rfl
theorem lQ{p:Pc}(h1:1<=p.l)(h3:p.v=true->3<=p.l)(hl:p.a+p.l<=ns.length)(m1:ns[p.a.toNat]?=some p.mk')(m2:ns[(p.a+p.l-1).toNat]?=some p.mk'):BZ ns p.a=none:=by
 have e1:=DT m1;have e2:=DT m2;have e3:ns.getD p.a.toNat 0/2=p.l:=by rw[e1];exact EB _ _
 have hc:CL ns p.a=true:=by
   unfold CL;rw[e3,xb2 ∅,e1];show (decide (3<=p.l)||!decide (yQ p.l p.v%2=1))=true;rw[Mc];cases hv:p.v with
   | false=>simp
   | true=>simp [h3 hv]
 unfold BZ;rw[xb1 hc,e3,e2,e1,xb1 rfl]
theorem aM(ns:List Int)(k:Int):CL ns k=true↔(1<=ns.getD k.toNat 0/2/\k+ns.getD k.toNat 0/2<=ns.length/\(ns.getD k.toNat 0%2=1->3<=ns.getD k.toNat 0/2)):=by
 unfold CL;by_cases h:ns.getD k.toNat 0/2<1\/(ns.length:Int)<k+ns.getD k.toNat 0/2;rw[xb1 h];constructor;intro z;cases z;intro z;lia;rw[xb2 h];simp only [rn,decide_eq_true_eq,jx,decide_eq_false_iff_not];constructor;intro z;refine#[∅,∅,λw=>?_];rcases z with z | z
 exact z;exact xb0 w z;rintro⟨_,_,z⟩;by_cases w:ns.getD k.toNat 0%2=1;exact .inl (z w);exact .inr w
def zw(ns:List Int)(k:Int):Pc:=#[k,ns.getD k.toNat 0/2,decide (ns.getD k.toNat 0%2=1)]
theorem lR(h:BZ ns k=none):CL ns k=true:=by
 unfold BZ at h
 split at h
 assumption;cases h
theorem QM(h:BZ ns k=none):1<=ns.getD k.toNat 0/2/\k+ns.getD k.toNat 0/2<=ns.length/\(ns.getD k.toNat 0%2=1->3<=ns.getD k.toNat 0/2):=(aM ns k).mp (lR h)
theorem ud1(h:CL ns k=false):BZ ns k=some k:=by
 unfold BZ;rw[xb2 (by rw[h];exact ξ)]
theorem lS(h:CL ns k=true)(h2:ns.getD (k+ns.getD k.toNat 0/2-1).toNat 0≠ns.getD k.toNat 0):BZ ns k=some (k+ns.getD k.toNat 0/2-1):=by
 unfold BZ;rw[xb1 h,xb2 h2]
theorem lT(h:CL ns k=true)(h2:ns.getD (k+ns.getD k.toNat 0/2-1).toNat 0=ns.getD k.toNat 0):BZ ns k=none:=by
 unfold BZ;rw[xb1 h,xb1 h2]
def DU(ns:List Int):Nat->Int->List Pc×Option Int
 | 0,_=>([],none)
 | n+1,k=>
   if k<ns.length/\BZ ns k=none then
     (zw ns k::(DU ns n (k+ns.getD k.toNat 0/2)).1,(DU ns n (k+ns.getD k.toNat 0/2)).2)
   else ([],if k<ns.length then BZ ns k else none)
theorem Tv(ns:List Int):∀(n m:Nat)(k:Int),(ns.length-k).toNat<=n->(ns.length-k).toNat<=m->DU ns n k=DU ns m k:=by
 have z:∀(m:Nat)(k:Int),(ns.length-k).toNat<=0->DU ns m k=([],none):=by
   intro m k h;cases m with
   | zero=>rfl
   | succ m=>rw[DU,xb2 ∅,xb2 ∅]
 intro n
 induction n with
 | zero=>intro m k h _;rw[z m k h];rfl
 | succ n ih=>
   intro m k h1 h2;cases m with
   | zero=>rw[z (n+1) k h2];rfl
   | succ m=>
     rw[DU,DU];by_cases h:k<ns.length/\BZ ns k=none;have:=QM h.2;rw[xb1 h,xb1 h,ih m _ ∅ ∅];rw[xb2 h,xb2 h]
def Bt(ns:List Int)(k:Int):List Pc×Option Int:=DU ns (ns.length-k).toNat k
theorem Tw(h:¬k<ns.length):Bt ns k=([],none):=
 (Tv ns _ 0 k (Γ _) ∅).trans rfl
theorem aN(ns:List Int)(k:Int):Bt ns k=DU ns ((ns.length-k).toNat+1) k:=Tv ns _ _ k (Γ _) ∅
theorem Tx{b:Int}(h:k<ns.length)(hb:BZ ns k=some b):Bt ns k=([],some b):=by
 rw[aN,DU,xb2 (λz=>by rw[hb] at z;cases z.2),xb1 h,hb]
theorem Ty(h:k<ns.length)(hb:BZ ns k=none):Bt ns k=(zw ns k::(Bt ns (k+ns.getD k.toNat 0/2)).1,(Bt ns (k+ns.getD k.toNat 0/2)).2):=by
 rw[aN,DU,xb1 #[h,hb]];have:=QM hb;rw[Bt,Tv ns _ (ns.length-k).toNat _ (Γ _) ∅]
def WPre(ns:List Int)(ds:List Pc)(k:Int):Prop:=Bt ns 0=(ds++(Bt ns k).1,(Bt ns k).2)
theorem WPre.nil(ns:List Int):WPre ns [] 0:=by unfold WPre;simp
theorem WPre.step(w:WPre ns ds k)(h:k<ns.length)(hb:BZ ns k=none):WPre ns (ds++[zw ns k]) (k+ns.getD k.toNat 0/2):=by
 unfold WPre at *;rw[w,Ty h hb];simp
theorem WPre.fin(w:WPre ns ds k)(h:¬k<ns.length):Bt ns 0=(ds,none):=by
 unfold WPre at w;rw[w,Tw h];simp
theorem WPre.bad{b:Int}(w:WPre ns ds k)(h:k<ns.length)(hb:BZ ns k=some b):Bt ns 0=(ds,some b):=by
 unfold WPre at w;rw[w,Tx h hb];simp
theorem aO(ns:List Int):∀(n:Nat)(k:Int),0<=k->(ns.length-k).toNat<=n->((Bt ns k).1.length:Int)<=n
 | n,k,h0,hn=>by
   by_cases h:k<ns.length;cases hb:BZ ns k with
   | some b=>rw[Tx h hb];simp
   | none=>
     obtain⟨b1,b2,_⟩:=QM hb;rw[Ty h hb];cases n with
     | zero=>lia
     | succ n=>
       have:=aO ns n (k+ns.getD k.toNat 0/2) ∅ ∅;simp only [Ψ];lia
   rw[Tw h];simp
 termination_by n=>n
theorem zD{p:Pc}(m:cs[p.a.toNat]?=some p.mk'):zw cs p.a=p:=by
 have e:=DT m;unfold zw;rw[e];show (#[p.a,yQ p.l p.v/2,decide (yQ p.l p.v%2=1)]:Pc)=p;rw[EB,Mc]
theorem B0{cs:List Int}:∀{ps:List Pc}{k:Int},Am k ps cs.length->At cs ps->Bt cs k=(ps,none)
 | [],k,h,_=>by
   have h:k=cs.length:=h;exact Tw ∅
 | p::r,k,h,m=>by
   obtain⟨ea,h1,h3,h4⟩:=h;have le:=h4.le;obtain⟨m1,m2⟩:=m p η;have bn:=lQ h1 h3 ∅ m1 m2;rw[ea] at bn;have e2:cs.getD k.toNat 0/2=p.l:=by rw[<-ea,DT m1];exact EB _ _
   have ih:=B0 (cs:=cs) h4 λq hq=>m q (ι _ hq);rw[Ty ∅ bn,e2,ih,<-ea,zD m1]
open PySem L2 PyProof.Rows
structure Def(P:we)(w:wf)(K:δ)(mg:Str->Option vz)(base:xt)(x:Str)(k:Nat)(ps:List Str)(sp:Sp):Prop where
 ex:∃(f:wa)(fd:wc),FnOk P w K mg base CX0 k f fd ps sp/\mg x=some (.ref f)/\keepIn K (.ref f)=true/\BL K fd ps []
structure Src(K:δ)(mg:Str->Option vz)(x:Str)(st:wl):Prop where
 ex:∃(f:wa)(fd:wc),Fun K x x st f fd/\mg x=some (.ref f)
theorem lU{f:wa}{oc kV doc pm cdv ct:vz}(X:K.In h)(G:h.Ns xg mg)
   (a:nsIn K xg x=some (some (.ref f))) (l:K.lookup f=some #[oc,od,.func (fnOf x x (Bb st) (A3 st) (An st) .none kV doc pm an cdv ct),osl])
   (c:codeIn K cdv x=true) (k:keepIn K (.ref f)=true):Src K mg x st:=#[f,_,A9 l c k,mg_of X G a]
section
variable {P:we}{w:wf}{K:δ}{mg:Str->Option vz}{base:xt}
end
section
variable {X:Cx}
theorem K4:DN X (.builtin "isinstance") (λxs H Q=>∃x n t b,xs=[x,.ty n]/\TyOf X.K H x t/\kitOne X.K t (.type n)=some b/\Q (.bl b) H):=by
 intro ϊ s σ H xs us Q I r h;obtain⟨x,n,t,b,rfl,ty,e,q⟩:=h;obtain⟨u,u',rfl,rx,ry⟩:=QI r;cases (show u'=Value.type n from ry);exact kQ I rx ty e λtk=>#[.bl b,H,I.tok tk,rfl,q]
theorem aP{x:V}(h:BC x=true):eqV x x=true:=by
 cases x <;> first | rfl | (simp [eqV];done) | (exact xb0 h ξ)
end
theorem _root_.L2.Same.new(h:H p=none):Same H (upd H p o):=λb u e=>by
 rw[AE (BW e h)];exact e
theorem _root_.L2.Same.put(s:Same H H')(h:H p=none):Same H (upd H' p o):=λb u e=>by
 rw[AE (BW e h)];exact s b u e
theorem small4000{n:Nat}(h:n<=4000):n<wt:=jq h m!""
theorem two1:(2:Int)^(1:Int).toNat=2:=by decide
theorem lV(ns:List Int)(k:Int)(h0:0<=k)(h:k<ns.length):atI (ns.map V.int) k=some (.int (ns.getD k.toNat 0)):=by
 have e:(ns.map V.int)[k.toNat]?=some (.int (ns.getD k.toNat 0)):=by
   rw[bh,ao,ρ ∅];rfl
 have:=Bs e
 rwa [bc h0] at this
theorem lW(n:Int):decide (V.int (Builtin.bitAnd n 1)=V.int 1)=decide (n%2=1):=by
 rw[QG,bitAnd_m1];rfl
section
variable {K:δ}
theorem kit_ii:kitOne K (.type "int") (.type "int")=some true:=by rfl
theorem kit_bb:kitOne K (.type "bool") (.type "bool")=some true:=by rfl
theorem kit_ll:kitOne K (.type "list") (.type "list")=some true:=by rfl
theorem kit_tt:kitOne K (.type "tuple") (.type "tuple")=some true:=by rfl
theorem kit_ib:kitOne K (.type "int") (.type "bool")=some false:=by
 show (if (Value.type "int"==Value.type "bool")=true then some true else PySem.W.kitCls K (.type "int") (.type "bool"))=some false;rw[xb2 m!""];show (if PySem.W.kitMeta "bool"=true then PySem.W.subIn K (.type "int") (.type "bool") else none)=some false;rw[xb1 (by decide +kernel)];show (fastBuiltinMro "int").map (·.contains (Value.type "bool"))=some false;decide +kernel
end
structure Noted(fr:List wa)(e:wa)(oe:Obj)(fl:vz)(h h':xt):Prop where
 keep:∀b o,b≠e->b ∉ fr->h.get? b=some o->h'.get? b=some o
 slot:∀b o,b≠e->h.get? b=some o->∃sl,h'.get? b=some { o with slots:=sl }
 ent:∃(T:wa)(oT:Obj)(ts:Array vz),h.get? T=none/\T≠e/\h'.get? e=some (oe.mapFields (·.setIfInBounds 1 (.ref T)))/\h'.get? T=some oT/\oT.data = .fields ts/\ts[3]?=some fl
section
variable {M:xv}{A:wg}{E:vz->wb->Prop}{s:wb}
theorem aQ{e:wa}{head:vz}{had:Bool}(hfr:A.frames=some (env::outer))(hl:s.heap.FunFrames base (env::outer))(hf:env.frame=some L)
   (he:s.heap.get? e=some oe) (hd:oe.data = .fields vs) (hsz:1<vs.size) (h:∀h',Noted ((env::outer).filterMap (·.frame)) e oe (rawInt L) s.heap h'->Q () { s with heap:=h' }):
   wx M A (do
     let a <-frameOf env
     let pl <-entryPlaceOf L had
     let b <-EntryCells.newEntry head a .none (rawInt L) .none pl
     setField (.ref e) 1 b) Q E s:=by
 have out:e ∉ (env::outer).filterMap (·.frame):=λz=>by
   obtain⟨_,o,q,nf⟩:=hl.mem z;rw[he] at q;cases q;exact nf vs hd
 refine wu (wpAny_frameOf_fun hfr hl hf λhA sA=>?_);refine wu (wpAny_entryPlaceOf λpl isP=>?_);unfold EntryCells.newEntry newFields;refine wu (wpAny_newObj_type ?_ (isP.sizeOk5 _ _ _ _ _));have eA:hA.get? e=some oe:=(sA.2.1 e out).trans he;refine wpAny_setField (μ _ eA) hd hsz (h _ ?_);have apart:hA.objs.size≠e:=my (af eA);have other:∀{ob:Obj} b o,b≠e->hA.get? b=some o->((hA.push ob).update e (jm (·.setIfInBounds 1 (Value.ref hA.objs.size)))).get? b=some o:=λb o nb q=>by
   rw[ah _ _ (λz=>nb z.symm)];exact μ _ q
 refine#[λb o nb nf q=>other b o nb ((sA.2.1 b nf).trans q),λb o nb q=>?_,hA.objs.size,_,_,?_,apart,?_,(ah _ _ (λz=>apart z.symm)).trans (ak _ rfl),rfl,?_];obtain⟨sl,q'⟩:=sA.2.2 b o q;exact#[sl,other b _ nb q'];rw[sA.1];exact ff (Γ _);exact ck _ (μ _ eA) (je (gb hd _))
 first
   | (simp;done)
   | (rcases isP with rfl | ⟨_,_,_,_,_,_,_,rfl⟩ <;> simp)
theorem lX(o:Obj)(f:Array vz->Array vz):(o.mapFields f).dict=o.dict:=by
 obtain⟨c,d,dt,sl⟩:=o;cases dt <;> rfl
end
def Exc(h:xt)(x:wa)(cls:vz)(od:Option wa)(T:wa)(fl:vz):Prop:=
 ∃(oe:Obj)(vs:Array vz)(oT:Obj)(ts:Array vz),T≠x/\h.get? x=some oe/\oe.cls=cls/\oe.dict=od/\oe.data = .fields vs/\vs[1]?=some (.ref T)/\h.get? T=some oT/\oT.data = .fields ts/\ts[3]?=some fl
def Exc0(h:xt)(x:wa)(cls:vz)(od:Option wa):Prop:=∃(oe:Obj)(vs:Array vz),h.get? x=some oe/\oe.cls=cls/\oe.dict=od/\oe.data = .fields vs/\vs[1]?=some .none
structure Upto(fr ex:List wa)(h h':xt):Prop where
 keep:∀b o,b ∉ ex->b ∉ fr->h.get? b=some o->h'.get? b=some o
 slot:∀b o,b ∉ ex->h.get? b=some o->∃sl,h'.get? b=some { o with slots:=sl }
theorem Upto.trans{fr ex':List wa}{h1 h2 h3:xt}(a:Upto fr ex h1 h2)(b:Upto fr ex' h2 h3):Upto fr (ex++ex') h1 h3:=
 #[λc o n1 n2 q=>b.keep c o (λz=>n1 (ε _ z)) n2 (a.keep c o (λz=>n1 (π _ z)) n2 q),λc o n1 q=>by
   obtain⟨sl,q1⟩:=a.slot c o (λz=>n1 (π _ z)) q;obtain⟨sl',q2⟩:=b.slot c _ (λz=>n1 (ε _ z)) q1;exact#[sl',q2]]
theorem Upto.update{fr:List wa}{f:Obj->Obj}:Upto fr [a] h (h.update a f):=
 #[λb o n _ q=>by rw[ah _ _ (λz=>n (by simp [z]))];exact q,λb o n q=>#[o.slots,by rw[ah _ _ (λz=>n (by simp [z]))];exact q]]
section
variable {M:xv}{A:wg}{E:vz->wb->Prop}{s:wb}
theorem Md{fr:List wa}{x:wa}{fl:vz}(ht:Exc s.heap x cls od T fl)
   (h:∀h',Upto fr [T] s.heap h'->Exc h' x cls od T .none->Q () { s with heap:=h' }):wx M A (setFlight (.ref x) none) Q E s:=by
 obtain⟨oe,vs,oT,ts,ne,ex,hc,hdi,hd,h1,eT,dT,h3⟩:=ht;unfold setFlight;refine wu (wpAny_field ex hd h1 ?_);rw[xb1 (show (Value.ref T != Value.none)=true by simp)];have sz:3<ts.size:=(gu.mp h3).1;refine wpAny_setField eT dT sz (h _ .update #[oe,vs,_,_,ne,?_,hc,hdi,hd,h1,ck _ eT (je (gb dT _)),gb dT _,?_]);rw[ah _ _ ne];exact ex;simp [sz]
theorem Noted.exc{fr:List wa}{x:wa}{fl:vz}(n:Noted fr x oe fl h h')(hd:oe.data = .fields vs)(hsz:1<vs.size):∃T,h.get? T=none/\Exc h' x oe.cls oe.dict T fl:=by
 obtain⟨T,oT,ts,nT,ne,ex,eT,dT,h3⟩:=n.ent;exact#[T,nT,_,_,oT,ts,ne,ex,qw _ _,lX _ _,gb hd _,by simp [hsz],eT,dT,h3]
theorem Noted.upto{fr:List wa}{x:wa}{fl:vz}(n:Noted fr x oe fl h h'):Upto fr [x] h h':=
 #[λb o nb nf q=>n.keep b o (λz=>nb (by simp [z])) nf q,λb o nb q=>n.slot b o (λz=>nb (by simp [z])) q]
theorem look0{x:wa}(hfr:A.frames=some (env::outer))(hl:s.heap.FunFrames base (env::outer))(hf:env.frame=some L)(hx:Exc0 s.heap x cls od)
   (h:∀h' T,s.heap.get? T=none->Upto ((env::outer).filterMap (·.frame)) [x] s.heap h'->Exc h' x cls od T (rawInt L)->Q () { s with heap:=h' }):wx M A (noteFrame (.ref x) env) Q E s:=by
 obtain⟨oe,vs,ex,rfl,rfl,hd,h1⟩:=hx;have sz:=(gu.mp h1).1;unfold noteFrame;simp only [hf];refine wu (wpAny_field ex hd h1 ?_);rw[xb2 m!""];refine aQ hfr hl hf ex hd sz λh' n=>?_;obtain⟨T,nT,t⟩:=n.exc hd sz;exact h h' T nT n.upto t
theorem X_{x:wa}(hfr:A.frames=some (env::outer))(hl:s.heap.FunFrames base (env::outer))(hf:env.frame=some L)(hx:Exc s.heap x cls od T .none)
   (h:∀h' T',s.heap.get? T'=none->Upto ((env::outer).filterMap (·.frame)) [T,x] s.heap h'->Exc h' x cls od T' (rawInt L)->Q () { s with heap:=h' }):wx M A (noteFrame (.ref x) env) Q E s:=by
 obtain⟨oe,vs,oT,ts,ne,ex,rfl,rfl,hd,h1,eT,dT,h3⟩:=hx;have sz:=(gu.mp h1).1;have sz3:=(gu.mp h3).1;unfold noteFrame;simp only [hf];refine wu (wpAny_field ex hd h1 ?_);rw[xb1 (show (Value.ref T != Value.none)=true by simp)];refine wu (wpAny_field eT dT h3 ?_);rw[xb2 (show ¬((Value.none==rawInt L)=true) by simp [rawInt])];refine wu (wpAny_setField eT dT sz3 ?_);have u1:Upto ((env::outer).filterMap (·.frame)) [T] s.heap (s.heap.update T (jm (·.setIfInBounds 3 Value.none))):=.update;have hl2:(s.heap.update T (jm (·.setIfInBounds 3 Value.none))).FunFrames base (env::outer):=hl.of_keeps λb o q nf=>by
   have nb:b≠T:=λz=>by
     subst z;rw[eT] at q;cases q;exact nf ts dT
   exact#[o,by rw[ah _ _ (λz=>nb z.symm)];exact q,rfl]
 have ex2:(s.heap.update T (jm (·.setIfInBounds 3 Value.none))).get? x=some oe:=by
   rw[ah _ _ ne];exact ex
 refine aQ (s:={ s with heap:=s.heap.update T (jm (·.setIfInBounds 3 Value.none)) }) hfr hl2 hf ex2 hd sz λh' n=>?_;obtain⟨T',nT,t⟩:=n.exc hd sz;refine h h' T' ?_ (u1.trans n.upto) t;cases q:s.heap.get? T' with
 | none=>rfl
 | some o=>
   by_cases z:T'=T;subst z;rw[ck _ eT (je (gb dT _))] at nT;cases nT;rw[ah _ _ (λy=>z y.symm),q] at nT;cases nT
theorem ua0{x:wa}(hfr:A.frames=some (env::outer))(hl:s.heap.FunFrames base (env::outer))(hf:env.frame=some L)(hx:Exc0 s.heap x cls od)
   (h:∀h' T,s.heap.get? T=none->Upto ((env::outer).filterMap (·.frame)) [x,T] s.heap h'->Exc h' x cls od T .none->Q () { s with heap:=h' }):wx M A (leaving env (.ref x)) Q E s:=by
 unfold leaving;refine wu (look0 hfr hl hf hx λh1 T nT u t=>?_);exact Md (s:={ s with heap:=h1 }) (fr:=(env::outer).filterMap (·.frame)) t λh2 u2 t2=>h h2 T nT (u.trans u2) t2
theorem Z_{x:wa}(hfr:A.frames=some (env::outer))(hl:s.heap.FunFrames base (env::outer))(hf:env.frame=some L)(hx:Exc s.heap x cls od T .none)
   (h:∀h' T',s.heap.get? T'=none->Upto ((env::outer).filterMap (·.frame)) [T,x,T'] s.heap h'->Exc h' x cls od T' .none->Q () { s with heap:=h' }):wx M A (leaving env (.ref x)) Q E s:=by
 unfold leaving;refine wu (X_ hfr hl hf hx λh1 T' nT u t=>?_);exact Md (s:={ s with heap:=h1 }) (fr:=(env::outer).filterMap (·.frame)) t λh2 u2 t2=>h h2 T' nT (u.trans u2) t2
end
open Sem (wp)
section
variable {M:xv}{A:wg}{E:vz->wb->Prop}
variable {nm q nm0 q0:Str}{C N C0 N0:wa}{bs bm bs0 bm0:List vz}{hdct hdct0:Bool}{sn sn0:List Str}{sub sub0:List vz}{ab ab0:Bool}{col col0:Option Bool}{dd dd0:Option wa}{k0 k1 k2 k3 k5 j0 j1 j2 j3 j5:Option vz}{newId newId0:String}
theorem lY{g:Array wn}{d:xj}{t:Nat}{x:wa}{Q:Bool->wb->Prop}
   (hC:h.get? C=some (excClassObj nm q C N bs bm hdct sn sub ab col dd k0 k1 k2 k3 k5 newId)) (hC0:h.get? C0=some (excClassObj nm0 q0 C0 N0 bs0 bm0 hdct0 sn0 sub0 ab0 col0 dd0 j0 j1 j2 j3 j5 newId0))
   (hx:h.get? x=some ox) (hcl:ox.cls = .ref C) (hb0:(Value.ref C0::bm0).contains (.type "BaseException")=true) (hb:(Value.ref C::bm).contains (.ref C0)=b) (k:Q b #[h,g,d,t,os]):
   wx M A (excMatches (.ref x) (.ref C0)) Q E #[h,g,d,t,os]:=by
 have f:=tc_notTuple;unfold excMatches
 repeat (first
   | (with_reducible refine xo hx ?_;rw[hcl])
   | with_reducible refine xo hC0 ?_
   | (with_reducible refine wpAny_isSubtype_exc hC0 ?_;rw[hb0])
   | (with_reducible refine wpAny_isSubtype_exc hC ?_;rw[hb])
   | wp_step)
 all_goals (cases b <;> (wp_walk;exact k))
end
open Sem (wp)
def Lk(M:xv)(h:xt){α:Type}(m:xq α)(v:α):Prop:=∀(A:wg)(E:vz->wb->Prop)(g:Array wn)(d:xj)(t:Nat)(os:OsState)(Q:α->wb->Prop),Q v #[h,g,d,t,os]->wx M A m Q E #[h,g,d,t,os]
theorem Lk.at{α:Type}{m:xq α}{v:α}(l:Lk M h m v){A:wg}{g:Array wn}{d:xj}{t:Nat}{Q:α->wb->Prop}(q:Q v #[h,g,d,t,os]):wx M A m Q E #[h,g,d,t,os]:=l A E g d t os Q q
section
variable {prog:we}{w:wf}{A:wg}{E:vz->wb->Prop}{h:xt}{g:Array wn}{d:xj}{t:Nat}{os:OsState}{a C:wa}{o:Obj}
structure Es(prog:we)(w:wf)(h:xt)(C:wa):Prop where
 ga:Lk (xl prog w) h (typeLookup (.ref C) "__getattribute__") (some (.builtin "BaseException.__getattribute__"))
 gat:Lk (xl prog w) h (typeLookup (.ref C) "__getattr__") none
 cls:Lk (xl prog w) h (typeLookup (.ref C) "__class__") (some (.builtin "object.__class__"))
 obj:Lk (xl prog w) h (isSubtype (.ref C) (.type "object")) true
 exc:Lk (xl prog w) h (isSubtype (.ref C) (.type "BaseException")) true
theorem zK{R:Result->wb->Prop}(L:Es prog w h C)(hx:h.get? a=some o)(hc:o.cls = .ref C)(k:R (.ok (.ret (.ref C))) #[h,g,d,t,os]):
   codeAny (xl prog w) A (.call (.builtin "getset_descriptor.__get__") #[[.builtin "object.__class__",.ref a,.ref C],[]]) R #[h,g,d,t,os]:=by
 have y5:(#[h,g,d,t,os]:wb).TypeIs (.builtin "object.__class__") "getset_descriptor":=F.typeOf_object_class;have y8:Lk (xl prog w) h (isSubtype (.ref C) (.type (".".intercalate ("object.__class__".cutAt '.').dropLast))) true:=by rw[F.owner_object_class];exact L.obj
 refine codeAny_call_builtin F.slot_gs_get.plain F.entry_gs_get (F.slot_gs_get.check _ _ _ _ _ _ _ _ y5 (F.args_gs_get _ _ _) ?_)
 repeat (any_goals (first
   | assumption
   | (with_reducible refine xo hx ?_;rw[hc])
   | with_reducible refine y8.at ?_
   | wp_step))
 refine#[Code.quiet_builtin _ (by decide +kernel),codeAny_builtin F.entry_object_class ?_]
 repeat (any_goals (first
   | assumption
   | (with_reducible refine xo hx ?_;rw[hc])
   | wp_step))
theorem lZ{Q:Fin->wb->Prop}(L:Es prog w h C)(hx:h.get? a=some o)(hc:o.cls = .ref C)(k:Q (.done (.ret (.ref C))) #[h,g,d,t,os]):
   wx (xl prog w) A (Builtin.«object.__getattribute__» #[[.ref a,.str "__class__" tk],[]]) Q E #[h,g,d,t,os]:=by
 have y5:(#[h,g,d,t,os]:wb).TypeIs (.builtin "object.__class__") "getset_descriptor":=F.typeOf_object_class;have f5:=F.typeOf_object_class;have f6:=F.slot_gs_get.lookup;have f7:=F.slot_gs_set.lookup;have l2:=L.cls
 repeat (any_goals (first
   | assumption
   | (with_reducible refine xo hx ?_;rw[hc])
   | with_reducible refine l2.at ?_
   | wp_step))
 refine zK L hx hc ?_
 repeat (any_goals (first | assumption | wp_step))
theorem aR{nv:vz}(L:Es prog w h C)(hx:h.get? a=some o)(hc:o.cls = .ref C)(k:Q () #[h,g,d,t,os]):wx (xl prog w) A (checkBuiltinCall "BaseException.__getattribute__" #[[.ref a,nv],[]]) Q E #[h,g,d,t,os]:=by
 have e1:builtinKind "BaseException.__getattribute__"=some .slot:=by decide +kernel
 have e2:splitId "BaseException.__getattribute__"=some ("BaseException","__getattribute__"):=by decide +kernel
 have ha:=F.args_bexc_ga (.ref a) nv;have l4:=L.exc;simp only [checkBuiltinCall,e1,e2];refine wu ?_;unfold xh
 repeat (first
   | (with_reducible refine xo hx ?_;rw[hc])
   | with_reducible refine l4.at ?_
   | wp_step)
 exact k
theorem mB{R:Result->wb->Prop}(FB:Slot "ValueError" "__getattribute__" "BaseException.__getattribute__")(L:Es prog w h C)(hx:h.get? a=some o)(hc:o.cls = .ref C)(k:R (.ok (.ret (.ref C))) #[h,g,d,t,os]):
   codeAny (xl prog w) A (.call (.builtin "BaseException.__getattribute__") #[[.ref a,.str "__class__" tk],[]]) R #[h,g,d,t,os]:=
 codeAny_call_builtin FB.plain F.entry_bexc_ga (aR L hx hc (lZ L hx hc k))
theorem xc_by{Q:vz->wb->Prop}(FB:Slot "ValueError" "__getattribute__" "BaseException.__getattribute__")(L:Es prog w h C)(hx:h.get? a=some o)(hc:o.cls = .ref C)(k:Q (.ref C) #[h,g,d,t,os]):
   wx (xl prog w) A (getAttrBy (.ref a) (.str "__class__" tk) fill) Q E #[h,g,d,t,os]:=by
 have f3:=FB.bind (.ref a);have x0:(false&&onTheHeap (gk "BaseException.__getattribute__"))=false:=rfl;have x2:(gk "BaseException.__getattribute__"==gk "object.__getattribute__")=false:=by decide +kernel
 have x1:(onTheHeap (Value.ref C)&&gk "BaseException.__getattribute__"==gk "object.__getattribute__")=false:=by rw[x2,li]
 have l1:=L.ga;have l2:=L.gat
 repeat (any_goals (first
   | assumption
   | (with_reducible refine xo hx ?_;rw[hc])
   | with_reducible refine l1.at ?_
   | with_reducible refine l2.at ?_
   | wp_step))
 refine mB FB L hx hc ?_
 repeat (any_goals (first | assumption | wp_step))
theorem mC{Q:Option vz->wb->Prop}(FB:Slot "ValueError" "__getattribute__" "BaseException.__getattribute__")(L:Es prog w h C)(hx:h.get? a=some o)(hc:o.cls = .ref C)(k:Q (some (.ref C)) #[h,g,d,t+1,os]):
   wx (xl prog w) A (getAttr? (.ref a) "__class__") Q E #[h,g,d,t,os]:=by
 unfold getAttr? getAttrBy?
 repeat (any_goals (first | assumption | with_reducible apply xc_by FB L hx hc | wp_step))
end
section
variable {P:we}{w:wf}{H H':Hp}{h h' g:xt}{a:wa}{o:HO}
theorem mD(x:Bc P w H h a o):∃ob,h.get? a=some ob:=by
 cases o with
 | lst xs=>obtain⟨_,_,_,_,e⟩:=x;exact#[_,e]
 | tup xs=>obtain⟨_,_,_,ob,e,_⟩:=x;exact#[_,e]
 | dK kvs=>obtain⟨_,_,_,_,ob,_,_,e,_⟩:=x;exact#[_,e]
 | dT kvs=>obtain⟨_,_,_,_,ob,_,_,e,_⟩:=x;exact#[_,e]
 | set S n=>obtain⟨ob,_,_,_,e,_⟩:=x;exact#[_,e]
 | ins C dx fs=>obtain⟨_,_,_,e,_⟩:=x;exact#[_,e]
 | own y=>obtain⟨_,e⟩:=x;exact#[_,e]
 | xd fs=>obtain⟨_,⟨_,_,_,e,_⟩,_⟩:=x;exact#[_,e]
 | rng lo hi=>obtain⟨_,_,_,e⟩:=x;exact#[_,e]
 | frz ob u=>obtain⟨e,_⟩:=x;exact#[_,e]
 | tbl ps=>exact#[_,(show h.get? a=some _ from x)]
 | met f y=>exact#[_,(show h.get? a=some _ from x)]
 | ext φ=>obtain⟨_,e,_⟩:=x;exact e
theorem GY(x:HOk P w H h)(e:h.get? a=none):H a=none:=by
 cases q:H a with
 | none=>rfl
 | some u=>
   obtain⟨ob,z⟩:=mD (x a u q);rw[e] at z;cases z
theorem Tz{fr:List wa}(x:HOk P w H h)(u:Upto fr ex h h')(hf:∀b∈fr,H b=none)(he:∀b∈ex,H b=none):HOk P w H h':=λa o e=>by
 have out:∀b v,H b=some v->b ∉ ex/\b ∉ fr:=λb v q=>#[(λz=>by rw[he b z] at q;cases q),(λz=>by rw[hf b z] at q;cases q)]
 refine(x a o e).stay (λb ob hb q=>?_) (λ_ q=>q) λ_ _ q=>q;rcases hb with rfl | hb
 exact u.keep b ob (out b _ e).1 (out b _ e).2 q;exact u.keep b ob (out b _ hb).1 (out b _ hb).2 q
theorem TB{fr:List wa}(u:Un fs [] H H' g h)(v:Upto fr ex h h')(hfr:∀b∈fr,b∈fs\/g.get? b=none)(hex:∀b∈ex,g.get? b=none):Un fs [] H H' g h':=by
 have nex:∀b o,g.get? b=some o->b ∉ ex:=λb o q z=>by rw[hex b z] at q;cases q
 refine#[λb o q n hb hx=>?_,λb o q n hb hx=>?_,u.free,λb o q hx=>?_,u.tups,u.frzs,u.tbls];refine v.keep b o (nex b o q) (λz=>?_) (u.keep b o q n hb hx);rcases hfr b z with z | z
 exact hb z;rw[z] at q;cases q;obtain⟨sl,q1⟩:=u.slot b o q n hb hx;obtain⟨sl',q2⟩:=v.slot b _ (nex b o q) q1;exact#[sl',q2];obtain⟨o',q1⟩:=u.there b o q hx;obtain⟨sl,q2⟩:=v.slot b o' (nex b o q) q1;exact#[_,q2]
theorem EC(u:Un fs [] H H' g h)(e:h.get? a=none):g.get? a=none:=by
 cases q:g.get? a with
 | none=>rfl
 | some o=>
   obtain⟨o',z⟩:=u.there a o q f!"";rw[e] at z;cases z
end
def CXe(P:we)(w:wf):CXT:=λouter H s E e s'=>∃(x C T:wa)(od:Option wa)(H':Hp),e = .ref x/\s'.os=s.os/\AllBare s'.gens/\Un (frs outer) [] H H' s.heap s'.heap/\HOk P w H' s'.heap /\
 s.heap.get? x=none/\s.heap.get? T=none/\H' x=none/\H' T=none/\Exc s'.heap x (.ref C) od T .none/\E (.ref C) od H'
section
variable {P:we}{w:wf}{K:δ}{mg:Str->Option vz}{base:xt}{N:List Str}{qual:Str}{scope:wm}{f:wa}{cd:vz}{A:wg}{outer:List xu}{s₀:wb}{H₀:Hp}{EX:XK}
theorem aS{s:wb}{x:wa}(I:Inv (cxOf (CXe P w) P w K mg base N qual scope f cd A outer s₀ H₀ EX) ϊ σ H s)(hx:Exc0 s.heap x (.ref C) od)(nx:s₀.heap.get? x=none)(ux:H x=none)(q:EX (.ref C) od H):
   (cxOf (CXe P w) P w K mg base N qual scope f cd A outer s₀ H₀ EX).xe (.ref x) s:=by
 refine ua0 (base:=base) (outer:=outer) I.ok.frames I.stack rfl hx λh' T nT u t=>?_;have hu:Un (frs outer) [] H₀ H s₀.heap s.heap:=I.base;have uT:H T=none:=GY I.hok nT;refine#[x,C,T,od,H,rfl,I.os,I.bare,TB hu u (λb hb=>?_) (λb hb=>?_),Tz I.hok u I.stkFree (λb hb=>?_),nx,EC hu nT,ux,uT,t,q];rcases Ξ.mp hb with rfl | hb
 exact .inr (ff (Γ _));exact .inl hb;rcases Ξ.mp hb with rfl | hb
 exact nx;have e:b=T:=by simpa using hb
 subst e;exact EC hu nT;rcases Ξ.mp hb with rfl | hb
 exact ux;have e:b=T:=by simpa using hb
 subst e;exact uT
theorem BV:D4 (CXe P w) (cxOf (CXe P w) P w K mg base N qual scope f cd A outer s₀ H₀ EX) EX:=by
 rintro ϊ σ H s e s' I ⟨x,C,T,od,H',rfl,os,bare,un,hok,nx,nT,ux,uT,t,q⟩;have I':Inv (cxOf (CXe P w) P w K mg base N qual scope f cd A outer s₀ H₀ EX) ϊ σ H' s':=by
   obtain⟨hh,gg,dd,tt,oo⟩:=s';obtain rfl:oo=s.os:=os;have z:=I.call (h':=hh) (g':=gg) (d':=dd) (t':=tt) (ch:=[]) un hok bare (λb z=>xb0 z f!"");exact z
 refine Z_ (base:=base) (outer:=outer) I'.ok.frames I'.stack rfl t λh' T' nT' u t'=>?_;have hu:Un (frs outer) [] H₀ H' s₀.heap s'.heap:=I'.base;have hu0:Un (frs outer) [] H₀ H s₀.heap s.heap:=I.base;have uT':H' T'=none:=GY hok nT';have n0:∀b∈[T,x,T'],s₀.heap.get? b=none:=λb hb=>by
   rcases Ξ.mp hb with rfl | hb
   exact EC hu0 nT;rcases Ξ.mp hb with rfl | hb
   exact EC hu0 nx;have e:b=T':=by simpa using hb
   subst e;exact EC hu nT'
 refine#[x,C,T',od,H',rfl,I'.os,I'.bare,TB hu u (λb hb=>?_) n0,Tz hok u I'.stkFree (λb hb=>?_),n0 x f!"",n0 T' f!"",ux,uT',t',q];rcases Ξ.mp hb with rfl | hb
 exact .inr (ff (Γ _));exact .inl hb;rcases Ξ.mp hb with rfl | hb
 exact uT;rcases Ξ.mp hb with rfl | hb
 exact ux;have e:b=T':=by simpa using hb
 subst e;exact uT'
end
theorem excS{p:Prop}{f:Option wa->ClassData->Array (Option vz)->Bool}{o}(q:excIn.match_6 (λ_=>Bool) o f (λ_=>false)=true)(k:∀d c s,o=some #[.type "type",d,.cls c,s]->f d c s=true->p):p:=by
 have F(h:false=true):p:=xb0 h ξ;generalize e:o=x at q;rcases x with _|⟨y,d,a,s⟩;exact F q;cases y with
 | type z =>
   delta excIn.match_6 at q;by_cases g:z="type"
   subst g;cases a with
   | cls c=>exact k d c s e q
   | _=>exact F q
   exact F ((dif_neg g).symm.trans q)
 | _=>exact F q
theorem excO{p:Prop}{f:wa->List vz->Option vz->Option vz->Option vz->Option vz->String->Option vz->Bool}{l r}(q:excIn.match_1 (λ_ _=>Bool) l r f (λ_ _=>false)=true)(k:∀C m a b c d n e,l=.ref C::m->r=[a,b,c,d,some (.builtin n),e]->f C m a b c d n e=true->p):p:=by
 have F(h:false=true):p:=xb0 h ξ;generalize el:l=l' at q;generalize er:r=r' at q;rcases l' with _|⟨v,m⟩;exact F q;cases v with
 | ref C =>
   rcases r' with _|⟨a,_|⟨b,_|⟨c,_|⟨d,_|⟨_|x,y⟩⟩⟩⟩⟩
   all_goals try exact F q
   cases x with
   | builtin n =>
     rcases y with _|⟨e,_|_⟩
     exact F q;exact k _ _ _ _ _ _ _ _ el er q;exact F q
   | _=>exact F q
 | _=>exact F q
theorem aT{K:δ}{h:xt}{C:wa}{bmB:List vz}{newId:String}{p:Prop}(X:K.In h)(q:excIn K C bmB newId=true)(kk:∀bm N nm qn bs hd sn sub ab col dd k0 k1 k2 k3 k5 mN,h.get? C=some (excClassObj nm qn C N bs bm hd sn sub ab col dd k0 k1 k2 k3 k5 newId)->h.Ns N mN->mN "__init__"=none->OwnTail h bmB bm->(∀v,ij K C v=some ((Value.ref C::bm).contains v))->p):p:=by
 refine excS q λd c s lk q1=>excO q1 λC' m a0 a1 a2 a3 n a5 em es q2=>?_;simp only [dm,beq_iff_eq,jx] at q2;obtain⟨⟨⟨⟨⟨e1,e2⟩,e3⟩,tl⟩,okN⟩,noI⟩:=q2;refine kk m c.ns c.name c.qualname c.bases c.hasDict c.slotNames c.subclasses c.abstract c.collection d a0 a1 a2 a3 a5 _ ((X _ _ lk).trans ?_) (.of_isNs (PySem.W.isNs_of_in X okN)) (PySem.W.nsMap_none_of_in X okN noI) (PySem.W.tail_of_in X tl) λv=>?_;subst e1 e2;unfold excClassObj;rw[<-em,<-es,<-e3];unfold ij mf;rw[lk,<-e1];show (if c.mro.isEmpty=true then none else some (c.mro.contains v))=_;rw[em];rfl
structure zr(K:δ)(mg:Str->Option vz)(x:Str)(C:wa):Prop where
 bound:mg x=some (.ref C)
 ex:∃(bmB:List vz)(B newId initId:String),excIn K C bmB newId=true/\ExcBaseFacts B newId initId bmB/\bmB.contains (.type "BaseException")=true
def aU(C:wa)(E:XK)(t:TA):TS:=λ_ σ H=>t σ H λxs H1=>xs.length<=wt/\E (.ref C) none H1
section
variable {P:we}{w:wf}{K:δ}{mg:Str->Option vz}{base:xt}{N:List Str}{qual:Str}{scope:wm}{f:wa}{cd:vz}{A:wg}{outer:List xu}{s₀:wb}{H₀:Hp}{EX:XK}
theorem Cy{np:Pos}{e:wk}(XC:zr K mg x C)(hh:(cxOf (CXe P w) P w K mg base N qual scope f cd A outer s₀ H₀ EX).A.handled=none)
   (hg:Gl (cxOf (CXe P w) P w K mg base N qual scope f cd A outer s₀ H₀ EX) x) (ha:PA (cxOf (CXe P w) P w K mg base N qual scope f cd A outer s₀ H₀ EX) (e::es) t)
   (hdb:(x==("__debug__":Str))=false:=by decide) (he:wo (e::es) (cxOf (CXe P w) P w K mg base N qual scope f cd A outer s₀ H₀ EX).env=(false,xk e (cxOf (CXe P w) P w K mg base N qual scope f cd A outer s₀ H₀ EX).env)::wo es (cxOf (CXe P w) P w K mg base N qual scope f cd A outer s₀ H₀ EX).env:=by rfl)
   (hpl:(wz cpos (wo es (cxOf (CXe P w) P w K mg base N qual scope f cd A outer s₀ H₀ EX).env)).any (·.1)=false:=by rfl):
   PS (cxOf (CXe P w) P w K mg base N qual scope f cd A outer s₀ H₀ EX) (.Raise (some (.Call (.Name x np) (e::es) [] cpos)) none pos) (aU C EX t):=by
 intro ϊ s σ H D I h;obtain⟨bmB,B,newId,initId,q,FB,hB⟩:=XC.ex;refine aT I.mod.kin q λbm NN nm qn bs hd sn sub ab col dd k0 k1 k2 k3 k5 mN hC hN noI tl _=>?_;refine wpAny_Raise_call_subT (C:=C) (nm:=nm) (q:=qn) (N:=NN) (bs:=bs) (bm:=bm) (hdct:=hd) (sn:=sn) (sub:=sub) (ab:=ab) (col:=col) (dd:=dd) (k0:=k0) (k1:=k1) (k2:=k2) (k3:=k3) (k5:=k5) FB (mN:=mN) (tl.hasType hB) hh
   (by rw[he];show (false||(wz cpos (wo es _)).any (·.1))=false;rw[hpl];rfl) noI (Ep I hg XC.bound #[rfl,?_] hdb)
 have hA:=ha cpos ϊ s σ H _ I h;rw[he] at hA ⊢;refine pd (thn hA λus s2 ⟨xs,H2,I2,r2,hz,q2⟩=>#[rfl,by rw[<-r2.length];exact hz,I2.bk _ _ hC,hN.keeps I2.bk,tl.keeps I2.bk,λh' x hm=>?_]);have I3:Inv (cxOf (CXe P w) P w K mg base N qual scope f cd A outer s₀ H₀ EX) ϊ σ H2 { s2 with heap:=h' }:=I2.kept (t':=s2.toks) hm.keeps;obtain⟨tt,ht,_,_⟩:=hm.there;exact aS I3 #[_,_,ht,rfl,rfl,rfl,rfl] (EC (show Un (frs outer) [] H₀ H2 s₀.heap s2.heap from I2.base) hm.new) (GY I2.hok hm.new) q2
end
def yS(x C:wa)(od:Option wa):HO:=.ext λh=>∃oe vs,h.get? x=some oe/\oe.cls = .ref C/\oe.dict=od/\oe.data = .fields vs
abbrev Cx.suite(X:Cx)(x:wa):Cx:={ X with A:=X.A.mark (some (.ref x)),calm:=false,xe:=λ_ _=>False }
theorem mE(ok:X.Ok)(x:wa):(Cx.suite X x).Ok:=
 #[ok.mod,ok.kind,ok.glob,ok.blt,ok.above,ok.inj,ok.has,ok.cab,λz=>(nomatch z),ok.frames,ok.stk,ok.exf,ok.bs,ok.bsz,ok.noex,ok.exfs,ok.funs,ok.frf]
theorem K5{s:wb}(I:Inv X ϊ σ H s)(x:wa):Inv (Cx.suite X x) ϊ σ H s:=#[mE I.ok x,I.os,I.bare,I.base,I.loc,I.cell,I.free,I.freeC,I.pin,I.hok,I.len]
theorem GZ{s:wb}{x:wa}(ok:X.Ok)(I:Inv (Cx.suite X x) ϊ σ H s):Inv X ϊ σ H s:=#[ok,I.os,I.bare,I.base,I.loc,I.cell,I.free,I.freeC,I.pin,I.hok,I.len]
section
variable {X:Cx}
theorem aV{s:wb}{x:wa}{fr:List wa}(I:Inv X ϊ σ H s)(os:s'.os=s.os)(bare:AllBare s'.gens)(un:Un (frs X.stack) [] H H' s.heap s'.heap)(hok:HOk X.prog X.w H' s'.heap)
   (nx:s.heap.get? x=none) (ux:H' x=none) (u:Upto fr ex s'.heap h') (hfr:fr=frs X.stack) (nex:∀b∈ex,s.heap.get? b=none/\H' b=none) (t:Exc h' x (.ref C) od T .none):Inv X ϊ σ (upd H' x (yS x C od)) { s' with heap:=h' }:=by
 subst hfr;have un2:Un (frs X.stack) [] H H' s.heap h':=TB un u (λb hb=>.inl hb) λb hb=>(nex b hb).1;have stk:∀b∈frs X.stack,H' b=none:=λb hb=>by
   obtain⟨_,o,ho,_⟩:=I.stack.mem hb;exact un.free b o ho (I.stkFree b hb) f!""
 have hok2:HOk X.prog X.w H' h':=Tz hok u stk λb hb=>(nex b hb).2;have nex':∀b v,H' b=some v->b≠x:=λb v e z=>by rw[z,ux] at e;cases e
 have un3:Un (frs X.stack) [] H (upd H' x (yS x C od)) s.heap h':=by
   refine#[un2.keep,un2.slot,λb o q n hx=>?_,un2.there,λb xs q=>?_,λb o v q=>?_,λb ps q=>?_];rw[AE (λz=>by rw[z,nx] at q;cases q)];exact un2.free b o q n hx;rw[AE (nex' b _ (un2.tups b xs q))];exact un2.tups b xs q;rw[AE (nex' b _ (un2.frzs b o v q))];exact un2.frzs b o v q;obtain⟨more,z⟩:=un2.tbls b ps q;exact#[more,by rw[AE (nex' b _ z)];exact z]
 obtain⟨oe,vs,oT,ts,ne,ee,hc,hd,hf,_⟩:=t;have hok3:HOk X.prog X.w (upd H' x (yS x C od)) h':=λb v e=>by
   by_cases z:b=x;subst z;rw[xb5] at e;cases e;exact#[#[oe,vs,ee,hc,hd,hf],#[oe,ee],λh1 h2 ⟨o1,v1,q1,q2,q3,q4⟩ k=>#[o1,v1,k o1 q1,q2,q3,q4]];rw[AE z] at e;exact(hok2 b v e).stay (λ_ _ _ q=>q) (λc q=>by rw[AE (nex' c _ q)];exact q) λc xs q=>by rw[AE (nex' c _ q)];exact q
 obtain⟨hh,gg,dd,tt,oo⟩:=s';obtain rfl:oo=s.os:=os;have z:=I.call (h':=h') (g':=gg) (d':=dd) (t':=tt) (ch:=[]) un3 hok3 bare (λb z=>xb0 z f!"");exact z
end
section
variable {X:Cx}
theorem QN{A:wg}{s:wb}{n:Str}(I:Inv X ϊ σ H s)(hN:X.N.Nodup)(hi:X.N[i]?=some n)
   (hk:X.env.kindOf n=some .local) (k:∀s',Inv X ϊ (σ.set i none) H s'->Q () s'):wx M A (do bindName X.env n .none;unbindBehindTheSuite X.env n pos) Q E s:=by
 obtain⟨m,hn,hl⟩:=id I.loc;have iσ:i<σ.length:=by rw[I.len];exact(γ.mp hi).1
 refine wpAny_nameGoes_keeps hk hn (by rw[I.ok.kind];rfl) λh' v hn' hs=>k _ ?_;have far:∀b o,X.s₀.heap.get? b=some o->h'.get? b=s.heap.get? b:=λb o e=>hs.2 b (bi (ba (af e) I.ok.above));refine#[I.ok,I.os,I.bare,#[λb o e z hb hx=>(far b o e).trans (I.base.keep b o e z hb hx),λb o e z hb hx=>?_,I.base.free,λb o e hx=>?_,I.base.tups,I.base.frzs,I.base.tbls],#[_,hn',λj y w' e1 e2 e3=>?_],λy c e=>?_,I.free,I.freeC,λp hp=>?_,λb ob e=>?_,by rw[ax];exact I.len];obtain⟨sl,q⟩:=I.base.slot b o e z hb hx;exact#[sl,(far b o e).trans q];obtain⟨o',q⟩:=I.base.there b o e hx;exact#[o',(far b o e).trans q];have ji:j≠i:=λz=>by
   subst z;rw[ai iσ] at e2;cases e2
 rw[ag (fh ji)] at e2;obtain⟨u',r',q⟩:=hl j y w' e1 e2 e3;refine#[u',r',?_];rcases q with ⟨kk,e⟩ | ⟨kk,c,e,z⟩
 have yn:y≠n:=λe=>ji (Ti hN e1 (e▸hi));exact .inl #[kk,by simp [yn,e]];exact .inr #[kk,c,e,z.sameBut hs (I.cne y c e)];obtain⟨w',z⟩:=I.cell y c e;exact#[w',z.sameBut hs (I.cne y c e)];obtain⟨e,z,ne,nf,d⟩:=I.pin p hp;exact#[(hs.2 p.1 ne).trans e,z,ne,nf,d];refine(I.hok b ob e).stay (λc w' hc q=>(hs.2 c ?_).trans q) (λ_ q=>q) λ_ _ q=>q;rintro rfl;rcases hc with hc | hc
 rw[<-hc,I.free] at e;cases e;rw[I.free] at hc;cases hc
def ECls(K:δ)(C:wa)(bm:List vz):Prop:=∃(nm qn:Str)(N:wa)(bs:List vz)(hd:Bool)(sn:List Str)(sub:List vz)(ab:Bool)(col:Option Bool)(dd:Option wa)(k0 k1 k2 k3 k5:Option vz)(newId:String),
 K.lookup C=some (excClassObj nm qn C N bs bm hd sn sub ab col dd k0 k1 k2 k3 k5 newId)
variable {k:Nat}{f C0:wa}{fd:wc}{ps:List Str}{sp:Sp}{fx cx:Str}{p cpos epos np hpos pos:Pos}{e:wk}{es:List wk}{ta:TA}{b0:wl}{suite:List wl}{ts:wa->TS}
theorem aW{s:wb}{EX:XK}{y:vz}{W:wb->Prop}(I:Inv X ϊ σ H s)(hst:X.stack=X.env::X.outer/\X.env.frame=some X.env.locals)(hq:CXe X.prog X.w X.stack H s EX y s')
   (k:∀(x C:wa)(od:Option wa)(T:wa)(h2:xt)(H2:Hp),y = .ref x->EX (.ref C) od H2->Exc h2 x (.ref C) od T .none->Inv X ϊ σ (upd H2 x (yS x C od)) { s' with heap:=h2 } ->
     (∀h3,Upto (frs X.stack) [T] h2 h3->Exc h3 x (.ref C) od T .none->H2 x=none/\Inv X ϊ σ (upd H2 x (yS x C od)) { s' with heap:=h3 })->W { s' with heap:=h2 })  :
   wx (xl X.prog X.w) X.A (noteFrame y X.env) (λ_ s2=>wx (xl X.prog X.w) X.A (setFlight y none) (λ_ s3=>W s3) E' s2) E' s':=by
 obtain⟨x,C,T,od,H',rfl,os,bare,un,hok,nx,nT,ux,uT,t,q⟩:=hq;have I':Inv X ϊ σ H' s':=by
   obtain⟨hh,gg,dd,tt,oo⟩:=s';obtain rfl:oo=s.os:=os;have z:=I.call (h':=hh) (g':=gg) (d':=dd) (t':=tt) (ch:=[]) un hok bare (λb z=>xb0 z f!"");exact z
 have efr:(X.env::X.outer).filterMap (·.frame)=frs X.stack:=by rw[hst.1];rfl
 refine X_ (base:=X.base) (outer:=X.outer) (by rw[<-hst.1];exact I'.ok.frames) (by rw[<-hst.1];exact I'.stack) hst.2 t λh1 T' nT' u1 t1=>?_;rw[efr] at u1;refine Md (s:={ s' with heap:=h1 }) (fr:=frs X.stack) t1 λh2 u2 t2=>?_;have new:∀b∈[T,x]++[T']++[T'],s.heap.get? b=none/\H' b=none:=λb hb=>by
   simp only [mj,dk,Ξ,List.not_mem_nil,or_false] at hb;rcases hb with rfl | rfl | rfl | rfl
   exact#[nT,uT];exact#[nx,ux];exact#[EC un nT',GY hok nT'];exact#[EC un nT',GY hok nT']
 refine k x C od T' h2 H' rfl q t2 (aV I os bare un hok nx ux (u1.trans u2) rfl (λb hb=>new b (π _ hb)) t2) λh3 u3 t3=>#[ux,aV I os bare un hok nx ux ((u1.trans u2).trans u3) rfl new t3]
theorem mF{D:Ends}{x:wa}{fl:Flow}(ok:X.Ok)(h:SP (Cx.suite X x) ϊ D fl s'):SP X ϊ D fl s':=by
 cases fl with
 | next=>obtain⟨σ',H',I,q⟩:=h;exact#[σ',H',GZ ok I,q]
 | brk=>obtain⟨σ',H',I,q⟩:=h;exact#[σ',H',GZ ok I,q]
 | cont=>obtain⟨σ',H',I,q⟩:=h;exact#[σ',H',GZ ok I,q]
 | ret u=>obtain⟨v,σ',H',I,r,q⟩:=h;exact#[v,σ',H',GZ ok I,r,q]
end
structure yE(P:we)(w:wf)(K:δ)(mg:Str->Option vz)(base:xt)(x:Str)(k:Nat)(ps:List Str)(sp:Sp):Prop where
 ex:∃(f:wa)(fd:wc),FnOk P w K mg base (CXe P w) k f fd ps sp/\mg x=some (.ref f)/\keepIn K (.ref f)=true/\BL K fd ps []
section
variable {P:we}{w:wf}{K:δ}{mg:Str->Option vz}{base:xt}
theorem Ba{f:wa}{fd:wc}{ps:List Str}{k:Nat}(F:Fun K x qual st f fd)(S:yD N ps (An st))
   (hbody:∀(cdv:vz)(A:wg)(outer:List xu)(s:wb)(H:Hp)(vs:List V)(Q:VK)(E:XK),Room k (A.deeper (envOfC qual (An st) s.heap.objs.size f cdv))->sp vs H Q E ->
     ∃t,PSs (cxOf (CXe P w) P w K mg base N qual (An st) f cdv A outer s H E) (A3 st) t/\t { nx:=λ_ H'=>Q .non H',rt:=Q } (start N vs) H)(len:∀vs H Q E,sp vs H Q E->vs.length=ps.length:=by intro vs H Q E h;revert h;walk_at "l"):FnOk P w K mg base (CXe P w) (k+1) f fd ps sp:=by
 obtain⟨oc,od,kV,doc,pm,an,cdv,ct,osl,rfl,lk,hcd⟩:=F.ex;exact uc4 lk hcd S len λA outer s H vs Q E hr hsp=>hbody cdv A outer s H vs Q E hr hsp
theorem Src.okx{ps:List Str}{k:Nat}(S:Src K mg x st)(sc:yD N ps (An st))
   (hb:∀(kV doc pm:vz)(an:Option wa)(cdv ct:vz)(us:List vz),us.length=ps.length->wq (fnOf x x (Bb st) (A3 st) (An st) .none kV doc pm an cdv ct) #[us,[]]=pure (ps.zip us))
   (hbody:∀(f:wa)(cdv:vz)(A:wg)(outer:List xu)(s:wb)(H:Hp)(vs:List V)(Q:VK)(E:XK),Room k (A.deeper (envOfC x (An st) s.heap.objs.size f cdv))->sp vs H Q E ->
     ∃t,PSs (cxOf (CXe P w) P w K mg base N x (An st) f cdv A outer s H E) (A3 st) t/\t { nx:=λ_ H'=>Q .non H',rt:=Q } (start N vs) H)(len:∀vs H Q E,sp vs H Q E->vs.length=ps.length:=by intro vs H Q E h;revert h;walk_at "l"):∎ x (k+1) ps sp:=by
 obtain⟨f,fd,F,hm⟩:=S.ex;exact#[f,fd,Ba F sc (hbody f) len,hm,F.kp,F.binds hb]
end
section
variable {X:Cx}
theorem AX:D4 (CXe X.prog X.w) X E0:=by
 rintro ϊ σ H s e s' I ⟨x,C,T,od,H',_,_,_,_,_,_,_,_,_,_,q⟩;exact q.elim
theorem Ar{k:Nat}{ps:List Str}{p:Pos}{e:wk}(D:yE X.prog X.w X.K X.mg X.base x j ps sp)(hr:Room k X.A)(hg:Gl X x)(ha:PA X (e::es) t)(hk:j<=k:=by decide)
   (hdb:(x==("__debug__":Str))=false:=by decide) (he:wo (e::es) X.env=(false,xk e X.env)::wo es X.env:=by rfl) (hpl:(wz pos (wo es X.env)).any (·.1)=false:=by rfl):
   PE X (.Call (.Name x p) (e::es) [] pos) (Ma sp [] E0 t):=by
 obtain⟨f,fd,F,hm,kp,b⟩:=D.ex;exact Z6 F (hr.mono hk) hg hm kp b .nil AX ha hdb he hpl
variable {j k:Nat}{C0:wa}{ps:List Str}{sp:Sp}{fx cx:Str}{p cpos epos np hpos pos:Pos}{e:wk}{es:List wk}{ta:TA}{b0:wl}{suite:List wl}{ts:wa->TS}
end
section
variable{X:Cx}{pos:Pos}
theorem k_(i:Nat){e:wk}{pos':Pos}{v}(S:yD X.N u v)(he:PE X e te)(hi:X.N[i]?=some x:=by rfl)(hx:Loc X.env.scope x:=by exact υ rfl)(hs:swapsWith e (some (.Name x pos')) pos.line X.env=pure false:=by rfl)(hf:X.fn x=true\/X.env.scope.names.lookup x=some .local:=by first | exact .inl rfl | exact .inr rfl | assumption):PS X (.Assign [.Name x pos'] e pos) (zJ te (HB i)):=Au S.nd hi hx he hs hf
theorem ld(i:Nat){v}(S:yD X.N u v)(hi:X.N[i]?=some x:=by rfl)(hx:Loc X.env.scope x:=by exact υ rfl)(hf:X.fn x=true\/X.env.scope.names.lookup x=some .local:=by first | exact .inl rfl | exact .inr rfl | assumption):PG X (.Name x pos) (HB i):=AF S.nd hi hx hf
theorem l_{k:Nat}{ps:List Str}{p:Pos}{e:wk}(D:yE X.prog X.w X.K X.mg X.base x j ps sp)(hr:Room k X.A)(ha:PA X (e::es) t)(hg:Gl X x:=by rfl)(hk:j<=k:=by decide)(hdb:(x==("__debug__":Str))=false:=by decide) (he:wo (e::es) X.env=(false,xk e X.env)::wo es X.env:=by rfl) (hpl:(wz pos (wo es X.env)).any (·.1)=false:=by rfl):PE X (.Call (.Name x p) (e::es) [] pos) (Ma sp [] E0 t):=Ar D hr hg ha hk hdb he hpl
abbrev mt{X x pos}:=@pv X 1 x pos
abbrev m_{X x pos}:=@pv X 0 x pos
abbrev n_{X x pos}:=@pv X 2 x pos
abbrev o_{X x pos}:=@pv X 3 x pos
abbrev p_{X x pos}:=@pv X 4 x pos
abbrev q_{X x pos}:=@pv X 5 x pos
abbrev r_{X x pos}:=@pv X 7 x pos
abbrev s_{X x pos}:=@pv X 8 x pos
abbrev t_{X x pos}:=@pv X 6 x pos
end
theorem Lk.of{α:Type}{m:xq α}{v:α}(l:me M h m v):Lk M h m v:=λA E g d t os Q q=>l A Q E #[h,g,d,t,os] (λ_ _ e=>e) q
structure XK0(K:δ)(C:wa):Prop where
 ga:bp K (.ref C) "__getattribute__"=some (some (.builtin "BaseException.__getattribute__"))
 gat:bp K (.ref C) "__getattr__"=some none
 cls:bp K (.ref C) "__class__"=some (some (.builtin "object.__class__"))
 obj:ij K C (.type "object")=some true
 exc:ij K C (.type "BaseException")=some true
theorem XK0.lk{prog:we}{w:wf}(x:XK0 K C)(KX:K.In h):Es prog w h C:=
 #[.of (ig KX x.ga),.of (ig KX x.gat),.of (ig KX x.cls),.of (pr KX x.obj),.of (pr KX x.exc)]
theorem mG{x:wa}(FB:Slot "ValueError" "__getattribute__" "BaseException.__getattribute__")(Z:XK0 K C):PySem.W.KitX K (.ref x) (.ref C) (λh=>∃ox,h.get? x=some ox/\ox.cls = .ref C) where
 ty:=λM h KX ⟨ox,e,hc⟩ A Q E s k q=>by
   unfold typeOf;refine wu (wpAny_loadPart (k _ _ e) ?_);rw[hc];exact wv q
 it:=λM h KX _ A Q E s k q=>by
   obtain⟨cd,hcd,_⟩:=mn.mp Z.obj;unfold mf at hcd
   split at hcd
   rename_i lk;unfold isType loadHead;exact wu (wpAny_loadPart (k _ _ (KX _ _ lk)) (wv q));cases hcd
 ne:=λh tp dd its n sl KX htp=>by
   obtain⟨cd,hcd,_⟩:=mn.mp Z.obj;refine Bool.eq_false_iff.mpr λq=>?_;have e:C=tp:=Value.ref.inj (beq_iff_eq.mp q);subst e;unfold mf at hcd
   split at hcd
   rename_i lk;have z:=(KX _ _ lk).symm.trans htp;cases z;cases hcd
 ca:=λ{_ _ _ _ _ s} KX ⟨ox,e,hc⟩ k=>by
   obtain⟨h,g,d,t,os⟩:=s;exact mC FB (Z.lk KX) e hc k
def uc9:V->vz
 | .ty n=>.type n
 | .ref a=>.ref a
 | _=>.none
section
variable {X:Cx}
theorem TC(FB:Slot "ValueError" "__getattribute__" "BaseException.__getattribute__"):DN X (.builtin "isinstance") (λxs H Q=>∃x C od v b,xs=[.ref x,v]/\H x=some (yS x C od)/\XK0 X.K C/\uc9 v≠.none/\kitOne X.K (.ref C) (uc9 v)=some b/\Q (.bl b) H):=by
 intro ϊ s σ H xs us Q I r h;obtain⟨x,C,od,v,b,rfl,hx,Z,nv,e,q⟩:=h;obtain⟨u,u',rfl,rx,ry⟩:=QI r;cases (show u=Value.ref x from rx);have ev:u'=uc9 v:=by
   cases v with
   | ty n=>exact ry
   | ref a=>exact ry
   | _=>exact xb0 rfl nv
 subst ev;obtain⟨⟨oe,vs,ee,hc,_⟩,_⟩:=I.hok x _ hx;exact kia_one (mG FB Z) I.kIn #[oe,ee,hc] e (λz=>nomatch z) λtk=>#[.bl b,H,I.tok tk,rfl,q]
end
open PySem.W in
theorem mH(self:vz):refuseLoop self "__setattr__" [.type "ValueError",.type "Exception",.type "BaseException",.type "object"]=pure ():=by kernel_rfl
def QO:List vz->Bool
 | .ref _::r=>QO r
 | l=>l==[.type "ValueError",.type "Exception",.type "BaseException",.type "object"]
open PySem.W in
theorem aX(self:vz):∀{l:List vz},QO l=true->refuseLoop self "__setattr__" l=pure ()
 | .ref c::r,e=>by rw[refuseLoop_ref];exact aX self e
 | [],e=>by cases e
 | .none::r,e=>by cases e
 | .type n::r,e=>by
   have e':(Value.type n::r)=[.type "ValueError",.type "Exception",.type "BaseException",.type "object"]:=beq_iff_eq.mp e;rw[e'];exact mH self
 | .ellipsis::r,e=>by cases e
 | .notImplemented::r,e=>by cases e
 | .bool b::r,e=>by cases e
 | .int i t::r,e=>by cases e
 | .float i t::r,e=>by cases e
 | .str i t::r,e=>by cases e
 | .bytes i t::r,e=>by cases e
 | .builtin i::r,e=>by cases e
section
variable {prog:we}{w:wf}{A:wg}{K:δ}{x C:wa}{s:wb}
open PySem.W in
theorem mI{name:Str}{v:vz}{cd:ClassData}(X:K.In s.heap)(hx:s.heap.get? x=some ox)(hcl:ox.cls = .ref C)(hdi:ox.dict=none)(hda:ox.data = .fields vs)
   (hs:findIn K (.ref C) "__setattr__"=some (some (.builtin "object.__setattr__"))) (hc:clsIn K C=some cd) (ho:QO cd.mro=true) (hm:mroIn K C (.type "object")=some true) (hd:cd.hasDict=true) (ht:findIn K (.ref C) name=some none)
   (h:∀h' dx,s.heap.get? dx=none->dx≠x->h'.get? x=some { ox with dict:=some dx }->h'.Ns1 dx (λy=>if y=name then some v else none)->(∀b o,b≠x->s.heap.get? b=some o->h'.get? b=some o)->Q () { s with heap:=h',toks:=s.toks+2 }):
   wx (xl prog w) A (setAttr (.ref x) name v) Q E s:=by
 have I:InstAt s.heap x ox C none:=#[hx,hcl,by unfold notCls;rw[hda],by rw[hdi];trivial]
 refine set_plain X I hs ?_;have SF:=PySem.F.store_object;have sub:Looks (xl prog w) s.heap (xh (.ref x) (.type "object")) true:=I.type.andThen (looks_mroIn X hm);refine codeAny_call_builtin SF.slot.plain SF.entry (@check_slot (xl prog w) _ _ { s with toks:=s.toks+1 } "object.__setattr__" "object" "__setattr__" (.ref x) [.str name s.toks,v] [] _ SF.kind SF.split sub (SF.args (.ref x) (.str name s.toks) v) ?_);have mro:Looks (xl prog w) s.heap (mroOf (.ref C)) cd.mro:=(looks_clsIn X hc).andThen .now;rw[osa_eq,refuse_eq];refine wu (wu (Looks.here (s:={ s with toks:=s.toks+1 }) I.type (wu (Looks.here (s:={ s with toks:=s.toks+1 }) mro ?_))));rw[aX _ ho];refine wv (wu (Looks.here (s:={ s with toks:=s.toks+1 }) I.type (wu (Looks.here (s:={ s with toks:=s.toks+1 }) (looks_findIn X ht) (wu (wv ?_))))));show wx _ _ (Builtin.ObjectAttr.storeInOwnDict (.ref x) (.ref C) _ name v _) _ _ _;unfold Builtin.ObjectAttr.storeInOwnDict;obtain⟨c0,d0,dt0,sl0⟩:=ox;dsimp only at hcl hdi hda;subst hcl hdi hda;refine wu (wv (wu (wu (wpAny_loadPart hx (wu (Looks.here (s:={ s with toks:=s.toks+1 }) (looks_clsIn X hc) ?_))))));rw[hd];show wx (xl prog w) A.in1 (do
   let d <-alloc { cls:=Value.type "dict",data:=Data.dict (ϋ []) }
   update x λo=>{ o with dict:=some d }
   dictMade (.ref C) x d) _ _ _
 refine wu (wpAny_alloc ?_);refine wu (wpAny_update (μ _ hx) ?_);refine wv (a:=some s.heap.objs.size) (wu (wv (wu ?_)));have ne:s.heap.objs.size≠x:=my (af hx);have n0:((s.heap.push { cls:=.type "dict",data:=.dict (ϋ []) }).update x λo=>{ o with dict:=some s.heap.objs.size }).Ns1 s.heap.objs.size (λ_=>none):=by
   have e1:(s.heap.push { cls:=.type "dict",data:=.dict (ϋ []) }).get? s.heap.objs.size=some { cls:=.type "dict",data:=.dict (ϋ []) }:=ak s.heap rfl;have e3:(s.heap.push { cls:=.type "dict",data:=.dict (ϋ []) }).Ns s.heap.objs.size (λ_=>none):=#[_,(ϋ []),_,e1,rfl,(λe he=>xb0 he f!""),λ_=>rfl]
   exact(vw.of_empty e3).at λo q=>by rw[ah _ _ (λz=>ne z.symm)];exact q
 refine wpAny_nsSet1 n0 λh' hn2 hs2=>?_;obtain⟨oD,esD,epD,hoD,hdD,hcD⟩:=hn2.count (km.cons name v (ns:=[]) (λy hy=>xb0 rfl hy));refine wu (wpAny_lookBehind hoD (by rw[hdD];exact pastItsLine_dict (cr hcD (by show 1<=wt+1;exact Nat.le_add_left 1 _))) ?_);refine wv (h _ s.heap.objs.size (ff (Γ _)) ne ?_ hn2 λb o nb q=>?_);rw[hs2.2 x (λz=>ne z.symm)];exact ck _ (μ _ hx) rfl;rw[hs2.2 b (bi (af q))];show ((s.heap.push _).update x _).get? b=some o;rw[ah _ _ (λz=>nb z.symm)];exact μ _ q
end
open Sem (wp)
section
variable {prog:we}{w:wf}{A:wg}{E:vz->wb->Prop}{h:xt}{g:Array wn}{d:xj}{t:Nat}{os:OsState}{a C:wa}{o:Obj}{name:Str}{v:vz}
theorem mJ{Q:Fin->wb->Prop}(hx:h.get? a=some o)(hc:o.cls = .ref C)(F:Lk (xl prog w) h (Builtin.ObjectAttr.find (.ref a) (.ref C) name) (.value v))(k:Q (.done (.ret v)) #[h,g,d,t,os]):
   wx (xl prog w) A (Builtin.«object.__getattribute__» #[[.ref a,.str name tk],[]]) Q E #[h,g,d,t,os]:=by
 unfold Builtin.«object.__getattribute__»
 repeat (any_goals (first
   | assumption
   | (with_reducible refine xo hx ?_;rw[hc])
   | with_reducible refine F.at ?_
   | wp_step))
theorem zz{R:Result->wb->Prop}(FB:Slot "ValueError" "__getattribute__" "BaseException.__getattribute__")(L:Es prog w h C)(hx:h.get? a=some o)(hc:o.cls = .ref C)(F:Lk (xl prog w) h (Builtin.ObjectAttr.find (.ref a) (.ref C) name) (.value v))(k:R (.ok (.ret v)) #[h,g,d,t,os]):
   codeAny (xl prog w) A (.call (.builtin "BaseException.__getattribute__") #[[.ref a,.str name tk],[]]) R #[h,g,d,t,os]:=
 codeAny_call_builtin FB.plain PySem.F.entry_bexc_ga (aR L hx hc (mJ hx hc F k))
theorem xf_by{Q:vz->wb->Prop}(FB:Slot "ValueError" "__getattribute__" "BaseException.__getattribute__")(L:Es prog w h C)(hx:h.get? a=some o)(hc:o.cls = .ref C)(F:Lk (xl prog w) h (Builtin.ObjectAttr.find (.ref a) (.ref C) name) (.value v))
   (hh:handedOut v=pure v) (k:Q v #[h,g,d,t,os]):wx (xl prog w) A (getAttrBy (.ref a) (.str name tk) fill expr) Q E #[h,g,d,t,os]:=by
 have f3:=FB.bind (.ref a);have x0:(expr&&onTheHeap (gk "BaseException.__getattribute__"))=false:=by cases expr <;> rfl
 have x2:(gk "BaseException.__getattribute__"==gk "object.__getattribute__")=false:=by decide +kernel
 have x1:(onTheHeap (Value.ref C)&&gk "BaseException.__getattribute__"==gk "object.__getattribute__")=false:=by rw[x2,li]
 have l1:=L.ga;have l2:=L.gat
 repeat (any_goals (first
   | assumption
   | (with_reducible refine xo hx ?_;rw[hc])
   | with_reducible refine l1.at ?_
   | with_reducible refine l2.at ?_
   | wp_step))
 refine zz FB L hx hc F ?_
 repeat (any_goals (first | assumption | (rw[hh];with_reducible refine wv ?_) | wp_step))
theorem zA{Q:vz->wb->Prop}(FB:Slot "ValueError" "__getattribute__" "BaseException.__getattribute__")(L:Es prog w h C)(hx:h.get? a=some o)(hc:o.cls = .ref C)(F:Lk (xl prog w) h (Builtin.ObjectAttr.find (.ref a) (.ref C) name) (.value v))
   (hh:handedOut v=pure v) (k:Q v #[h,g,d,t+1,os]):wx (xl prog w) A (getAttr (.ref a) name expr) Q E #[h,g,d,t,os]:=by
 unfold getAttr
 repeat (any_goals (first | assumption | with_reducible apply xf_by FB L hx hc F hh | wp_step))
end
structure ud3(K:δ)(C:wa)(f:Str):Prop where
 sa:bp K (.ref C) "__setattr__"=some (some (.builtin "object.__setattr__"))
 cd:∃cd,mf K C=some cd/\QO cd.mro=true/\cd.hasDict=true
 ob:ij K C (.type "object")=some true
 no:bp K (.ref C) f=some none
def yU(x C:wa)(od:Option wa):HO:=.ext λh=>∃tt,h.get? x=some { cls:=.ref C,dict:=od,data:=.fields (ϋ [.ref tt,.none,.none,.none,.bool false,.none]) }
def sFldX(K:δ)(ta tv:TE)(f:Str):TS:=λD σ H=>tv σ H λy H1=>ta σ H1 λx H2=>∃a C,x = .ref a/\H2 a=some (yU a C none)/\ud3 K C f/\∀dx,H2 dx=none->D.nx σ (upd (upd H2 dx (.xd [(f,y)])) a (yU a C (some dx)))
def zT(K:δ)(ta:TE)(f:Str):TE:=λσ H Q=>ta σ H λx H1=>∃a C dx fs v,x = .ref a/\H1 a=some (yS a C (some dx))/\H1 dx=some (.xd fs)/\XK0 K C/\ud3 K C f/\fs.lookup f=some v/\Q v H1
section
variable {X:Cx}{o e value:wk}{f:Str}{pos pos':Pos}{ta tv:TE}
theorem mK(ha:PE X o ta)(hv:PE X value tv)(hs:swapsWith value (some (.Attribute o f pos')) pos.line X.env=pure false:=by rfl):PS X (.Assign [.Attribute o f pos'] value pos) (sFldX X.K ta tv f):=by
 intro ϊ s σ H D I h;refine plainObj_wpAny_Assign_Attribute (thn (hv ϊ s σ H _ I h) λu s1 ⟨y,H1,I1,ry,q⟩=>thn (ha ϊ s1 σ H1 _ I1 q) λov s2 hZ=>?_) hs;obtain⟨x,H2,I2,rx,a,C,ex,ea,Z,q2⟩:=hZ;subst ex;obtain rfl:ov=Value.ref a:=rx;obtain⟨⟨tt,ee⟩,_⟩:=I2.hok a _ ea;obtain⟨cd,hcd,ht,hdi⟩:=Z.cd;refine mI I2.kIn ee rfl rfl rfl Z.sa hcd ht Z.ob hdi Z.no λh' dx nd ne e' n' kp=>?_;have ud:H2 dx=none:=GY I2.hok nd;have nda:a≠dx:=λz=>ne z.symm;refine#[σ,_,?_,q2 dx ud];have un:Un X.fs [] H2 (upd (upd H2 dx (.xd [(f,y)])) a (yU a C (some dx))) s2.heap h':=by
   refine#[λb ob qb n _ _=>kp b ob (λz=>by rw[z,ea] at n;cases n) qb,λb ob qb n _ _=>#[ob.slots,kp b ob (λz=>by rw[z,ea] at n;cases n) qb],λb ob qb n _=>?_,λb ob qb _=>?_,λb xs qb=>?_,λb ob v' qb=>?_,λb ps qb=>?_];rw[AE (λz=>by rw[z,ea] at n;cases n),AE (λz=>by rw[z,nd] at qb;cases qb)];exact n;by_cases z:b=a;subst z;exact#[_,e'];exact#[ob,kp b ob z qb];rw[AE (λz=>by rw[z,ea] at qb;cases qb),AE (BW qb ud)];exact qb;rw[AE (λz=>by rw[z,ea] at qb;cases qb),AE (BW qb ud)];exact qb;exact#[(ϋ []),by rw[AE (λz=>by rw[z,ea] at qb;cases qb),AE (BW qb ud),qb];simp]
 have hok:HOk X.prog X.w (upd (upd H2 dx (.xd [(f,y)])) a (yU a C (some dx))) h':=λb v' qb=>by
   by_cases z:b=a;subst z;rw[xb5] at qb;cases qb;exact#[#[tt,e'],#[_,e'],λh1 h2 ⟨t1,q1⟩ k=>#[t1,k _ q1]];rw[AE z] at qb;by_cases z2:b=dx;subst z2;rw[xb5] at qb;cases qb;refine#[_,n',λg=>?_];show RelO (iw g [(f,y)]) (if g=f then some u else none);by_cases zg:g=f;subst zg;rw[xb1 rfl,jf];exact ry;rw[xb2 zg,kf,show (g==f)=false from beq_false_of_ne zg]
   trivial
   rw[AE z2] at qb;refine(I2.hok b v' qb).stay (λc w' hcw q=>kp c w' (λy'=>?_) q) (λc q=>?_) λc xs q=>?_;subst y';rcases hcw with r | r
   exact z r.symm;rw[ea] at r;cases r;rw[AE (λz=>by rw[z,ea] at q;cases q),AE (BW q ud)];exact q;rw[AE (λz=>by rw[z,ea] at q;cases q),AE (BW q ud)];exact q
 exact I2.un un hok
theorem mL(FB:Slot "ValueError" "__getattribute__" "BaseException.__getattribute__")(he:PE X e ta)(hb:attributeBase e f X.env (xk e X.env)=xk e X.env:=by rfl):PE X (.Attribute e f pos) (zT X.K ta f):=by
 intro ϊ s σ H Q I h;refine Z5 hb (thn (he ϊ s σ H _ I h) λu s1 hZ=>?_);obtain⟨x,H1,I1,rx,a,C,dx,fs,v,ex,ea,ed,Z,ZS,l,q⟩:=hZ;subst ex;obtain rfl:u=Value.ref a:=rx;obtain⟨⟨oe,vs,ee,hc,hd,hf⟩,_⟩:=I1.hok a _ ea;obtain⟨mA,ns,hm⟩:=I1.hok dx _ ed;obtain⟨od,hod,hl⟩:=Z1 ns;obtain⟨cd,hcd,ht,hdi⟩:=ZS.cd;have rv:=hm f;rw[l] at rv;obtain⟨u',eu,ru⟩:=RelO.some_of rv;have J:sj s1.heap a oe C (some od):=#[ee,hc,by unfold PySem.W.notCls;rw[hf],by rw[hd];exact hod]
 have hh:hasDictIn X.K C=true:=by
   unfold hasDictIn;rw[hcd];exact hdi
 have fo:=findObj_own (od:=od) (v:=u') hh ZS.no rfl (by rw[hl,eu]);obtain⟨hp,g,d,t,os⟩:=s1;exact zA FB (Z.lk I1.kIn) ee hc (.of (PySem.W.looks_find I1.kIn J fo)) (PySem.W.handedOut_of (Z4 ru)) #[v,H1,I1.tok _,ru,q]
end
open Sem (wp)
section
variable {prog:we}{w:wf}{A:wg}{E:vz->wb->Prop}{h:xt}{g:Array wn}{d:xj}{t:Nat}{os:OsState}
variable {nm q:Str}{C N:wa}{bs bm bmB:List vz}{hdct:Bool}{sn:List Str}{sub:List vz}{ab:Bool}{col:Option Bool}{dd:Option wa}{k0 k1 k2 k3 k5:Option vz}{B newId initId:String}
theorem mM(FB:ExcBaseFacts B newId initId bmB)(TL:OwnTail h bmB bm){fI:wa}{Q:Fin->wb->Prop}(hC:h.get? C=some (excClassObj nm q C N bs bm hdct sn sub ab col dd k0 k1 k2 k3 k5 newId))
   (LI:me (xl prog w) h (typeLookup (.ref C) "__init__") (some (.ref fI))) (hfI:h.get? fI=some oI) (hfc:oI.cls = .type "function")
   (k:∀h' e,sq h h' e (.ref C) args->wx (xl prog w) A (call (.ref fI) (.ref e::args)) (λr s'=>r = .none/\Q (.done (.ret (.ref e))) s') E #[h',g,d,t,os]) (hz:args.length<=wt):
   wx (xl prog w) A (Builtin.«type.__call__» #[.ref C::args,[]]) Q E #[h,g,d,t,os]:=by
 repeat (first
   | with_reducible refine xo hC ?_
   | with_reducible refine wpAny_madeBy_exc hC ?_
   | wp_step)
 refine codeAny_call_builtin_code (Code.quiet_builtin _ FB.quiet) (wpAny_check_new_subT FB TL hC (codeAny_exc_new_subT FB TL hC ?_ hz));show wx _ _ _ _ _ _;have kp:∀b o,h.get? b=some o->((h.push { cls:=.type "tuple",data:=.seq args.toArray }).push { cls:=.ref C,data:=.fields (ϋ [.ref h.objs.size,.none,.none,.none,.bool false,.none]) }).get? b=some o:=
   λb o z=>μ _ (μ _ z)
 have gC:=kp _ _ hC;have gE:((h.push { cls:=.type "tuple",data:=.seq args.toArray }).push { cls:=.ref C,data:=.fields (ϋ [.ref h.objs.size,.none,.none,.none,.bool false,.none]) }).get? (h.objs.size+1)
     = some { cls:=.ref C,data:=.fields (ϋ [.ref h.objs.size,.none,.none,.none,.bool false,.none]) }:=by heap_get
 have cC:(Value.ref C::bm).contains (.ref C)=true:=by simp
 unfold xh
 repeat (first
   | with_reducible refine xo gE ?_
   | (with_reducible refine wpAny_isSubtype_exc gC ?_;rw[cC])
   | wp_step)
 show wx _ _ (typeLookup (.ref C) _) _ _ _;refine LI _ _ _ _ kp ?_;refine wpAny_holding (wu ?_);unfold bindSpecial;refine wu (wpAny_typeOf (T:="function") #[_,kp _ _ hfI,hfc] ?_);rw[xb1 m!""];refine wv (wu (ww (k _ (h.objs.size+1) #[kp,ff (jr _),h.objs.size,gE,ff (Γ _),?_]) (λr s' hr=>?_) λ_ _ z=>z));exact μ _ (Heap.get?_push_at rfl rfl)
 . obtain⟨rfl,z⟩:=hr
   wp_walk
   exact z
theorem mO(FB:ExcBaseFacts B newId initId bmB)(TL:OwnTail h bmB bm){fI:wa}{Q:vz->wb->Prop}(hC:h.get? C=some (excClassObj nm q C N bs bm hdct sn sub ab col dd k0 k1 k2 k3 k5 newId))
   (LI:me (xl prog w) h (typeLookup (.ref C) "__init__") (some (.ref fI))) (hfI:h.get? fI=some oI) (hfc:oI.cls = .type "function")
   (k:∀h' e,sq h h' e (.ref C) args->wx (xl prog w) (A.under (.builtin "type.__call__" #[.ref C::args,[]])) (call (.ref fI) (.ref e::args)) (λr s'=>r = .none/\Q (.ref e) s') E #[h',g,d,t,os]) (hz:args.length<=wt):
   wx (xl prog w) A (call (.ref C) args) Q E #[h,g,d,t,os]:=by
 have y1:=tc_lookup;have y2:=tc_bind (.ref C);have y3:(#[h,g,d,t,os]:wb).TypeIs (.ref C) "type":=#[_,hC,rfl]
 refine wpAny_call (codeAny_of_tree ?_);show wx _ _ (callAny (.ref C) _) _ _ _
 repeat (any_goals (first
   | assumption
   | with_reducible refine xo hC ?_
   | wp_step))
 refine#[rfl,codeAny_call_builtin_at (Code.quiet_builtin _ (by decide +kernel)) entry_typeCall (wpAny_check_type_call_sub hC (mM FB TL hC LI hfI hfc (λh' e hm=>?_) hz))];exact k h' e hm
theorem mP{s:wb}{x:xq vz}{Q:Flow->wb->Prop}(hbase:bm.contains (.type "BaseException")=true)(hh:A.handled=none)
   (k:wx M A x (λv s1=>∃e od tt,v = .ref e/\s1.heap.get? C=some (excClassObj nm q C N bs bm hdct sn sub ab col dd k0 k1 k2 k3 k5 newId)/\s1.heap.get? e=some { cls:=.ref C,dict:=od,data:=.fields (ϋ [.ref tt,.none,.none,.none,.bool false,.none]) }/\E (.ref e) s1) E s):
   wx M A (raiseStmt env (some x) none) Q E s:=by
 have cB:(Value.ref C::bm).contains (.type "BaseException")=true:=by rw[qo,hbase,ue]
 unfold raiseStmt;refine wu (ww k (λv s1 k1=>?_) λ_ _ z=>z);obtain⟨e,od,tt,rfl,hC,he,z⟩:=k1;obtain⟨hp,gg,d1,tk,os1⟩:=s1
 repeat (first
   | with_reducible refine xo he ?_
   | with_reducible refine xo hC ?_
   | (with_reducible refine wpAny_isSubtype_exc hC ?_;rw[cB])
   | wp_step)
 exact wpAny_raiseNew_none hh z
end
structure ud4(K:δ)(mg:Str->Option vz)(x:Str)(C C0 fI:wa):Prop where
 bound:mg x=some (.ref C)
 lk:∃(nm qn:Str)(N:wa)(bs:List vz)(hd:Bool)(sn:List Str)(sub:List vz)(ab:Bool)(col:Option Bool)(dd:Option wa)(k0 k1 k2 k3 k5:Option vz),
   K.lookup C=some (excClassObj nm qn C N bs (.ref C0::[.type "ValueError",.type "Exception",.type "BaseException",.type "object"]) hd sn sub ab col dd k0 k1 k2 k3 k5 "ValueError.__new__")
 base:excIn K C0 [.type "ValueError",.type "Exception",.type "BaseException",.type "object"] "ValueError.__new__"=true
 ini:bp K (.ref C) "__init__"=some (some (.ref fI))
 keep:keepIn K (.ref C)=true
 fn:∃(c:vz)(dd:Option wa)(da:Data) (sl:Array (Option vz)),K.lookup fI=some #[c,dd,da,sl]/\c = .type "function"
def del(H:Hp)(x:wa):Hp:=λb=>if b=x then none else H b
theorem QP{x:wa}:del H x x=none:=by unfold del;rw[xb1 rfl]
theorem G3{x b:wa}(h:b≠x):del H x b=H b:=by unfold del;rw[xb2 h]
theorem mQ{s:wb}{x:wa}{φ:xt->Prop}(I:Inv X ϊ σ H s)(e:H x=some (.ext φ)):Inv X ϊ σ (del H x) s:=by
 have nx:∀b v,H b=some v->v≠.ext φ->b≠x:=λb v q n z=>by
   subst z;rw[e] at q;exact n (Θ q).symm
 have un:Un X.fs [] H (del H x) s.heap s.heap:=by
   refine#[λb o q _ _ _=>q,λb o q _ _ _=>#[o.slots,q],λb o q n _=>?_,λb o q _=>#[o,q],λb xs q=>?_,λb o v q=>?_,λb ps q=>#[(ϋ []),?_]];by_cases z:b=x;rw[z];exact QP;rw[G3 z];exact n;rw[G3 (nx b _ q (by intro z;cases z))];exact q;rw[G3 (nx b _ q (by intro z;cases z))];exact q;rw[G3 (nx b _ q (by intro z;cases z)),q];simp
 have hok:HOk X.prog X.w (del H x) s.heap:=λb v q=>by
   by_cases z:b=x;rw[z,QP] at q;cases q;rw[G3 z] at q;refine(I.hok b v q).stay (λ_ _ _ z=>z) (λc q'=>?_) λc xs q'=>?_;rw[G3 (nx c _ q' (by intro z;cases z))];exact q';rw[G3 (nx c _ q' (by intro z;cases z))];exact q'
 exact I.un (h':=s.heap) (t':=s.toks) un hok
theorem zF{s:wb}{x tt:wa}(I:Inv X ϊ σ H s)(nx:s.heap.get? x=none)(kp:∀b o,s.heap.get? b=some o->h'.get? b=some o)
   (e:h'.get? x=some { cls:=.ref C,data:=.fields (ϋ [.ref tt,.none,.none,.none,.bool false,.none]) }):Inv X ϊ σ (upd H x (yU x C none)) { s with heap:=h' }:=by
 have ux:H x=none:=GY I.hok nx;have un:Un X.fs [] H (upd H x (yU x C none)) s.heap h':=by
   refine#[λb o q _ _ _=>kp b o q,λb o q _ _ _=>#[o.slots,kp b o q],λb o q n _=>?_,λb o q _=>#[o,kp b o q],λb xs q=>?_,λb o v q=>?_,λb ps q=>#[(ϋ []),?_]];rw[AE (λz=>by rw[z,nx] at q;cases q)];exact n;rw[AE (BW q ux)];exact q;rw[AE (BW q ux)];exact q;rw[AE (BW q ux),q];simp
 have hok:HOk X.prog X.w (upd H x (yU x C none)) h':=λb v q=>by
   by_cases z:b=x;subst z;rw[xb5] at q;cases q;exact#[#[tt,e],#[_,e],λh1 h2 ⟨t1,q1⟩ k=>#[t1,k _ q1]];rw[AE z] at q;refine(I.hok b v q).stay (λc w' _ q'=>kp c w' q') (λc q'=>?_) λc xs q'=>?_;rw[AE (BW q' ux)];exact q';rw[AE (BW q' ux)];exact q'
 exact I.un (t':=s.toks) un hok
theorem mR{fI:wa}{fd:wc}{ps:List Str}{s:wb}{Q:VK}{us:List vz}{vs:List V}(XI:ud4 X.K X.mg x C C0 fI)(F:FnOk X.prog X.w X.K X.mg X.base (CXe X.prog X.w) j fI fd ps sp)
   (hr:Room (j+1) X.A) (hb:BL X.K fd ps []) (I:Inv X ϊ σ H s) (r:Vals vs us) (hz:vs.length<=1000) (h:∀y,H y=none->sp (.ref y::vs) (upd H y (yU y C none)) (λv H2=>v = .non/\Q (.ref y) H2) E0):
   wx (xl X.prog X.w) X.A (call (.ref C) us) (λu s'=>EP X ϊ σ Q u s'/\∃y,u = .ref y/\s.heap.get? y=none) X.xe s:=by
 obtain⟨nm,qn,NN,bs,hd,sn,sub,ab,col,dd,k0,k1,k2,k3,k5,lkC⟩:=XI.lk;refine aT I.kIn XI.base λbm N0 nm0 qn0 bs0 hd0 sn0 sub0 ab0 col0 dd0 j0 j1 j2 j3 j5 mN0 hC0 hN0 noI tl _=>?_;have FB:=gv;have TL:OwnTail s.heap [.type "ValueError",.type "Exception",.type "BaseException",.type "object"] (.ref C0::[.type "ValueError",.type "Exception",.type "BaseException",.type "object"]):=.own hC0 hN0 noI .base;obtain⟨cI,dI,daI,slI,lkI,ecI⟩:=XI.fn;have gC:=I.kIn _ _ lkC;have gI:=I.kIn _ _ lkI;have LI:=ig (M:=xl X.prog X.w) I.kIn XI.ini;obtain⟨hp,gg,d1,tk,os1⟩:=s;refine mO FB TL gC LI gI ecI (λh' y hm=>?_) (by rw[<-r.length];exact gh (small1000 hz));obtain⟨tt,ey,_,_⟩:=hm.there;have I2:=zF I hm.new hm.keeps ey;have uy:H y=none:=GY I.hok hm.new;have hq:=h y uy;have r2:Vals (V.ref y::vs) (Value.ref y::us):=.cons rfl r;have hl:((Value.ref y::us)++[]).length=ps.length:=by
   rw[aq,<-F.len _ _ _ _ hq];exact r2.length.symm
 have bd:=hb _ (Value.ref y::us) I2.kIn hl;rw[aq] at bd;refine wpAny_call (codeAny_mono (F.run _ X.stack _ _ #[Value.ref y::us,[]] (Value.ref y::us) _ _ E0 (hr.make C us []) (I2.env0.make C us []) bd r2 hq) λrs s' hq'=>?_);cases rs with
 | error e=>obtain⟨_,_,_,_,_,_,_,_,_,_,_,_,_,_,_,z⟩:=hq';exact z.elim
 | ok fl=>
   cases fl with
   | ret u=>
     obtain⟨v,H',I3,rv,ev,q3⟩:=I2.after hq';subst ev;exact#[rv,#[V.ref y,H',I3,rfl,q3],y,rfl,hm.new]
   | next=>exact de hq'
   | brk=>exact de hq'
   | cont=>exact de hq'
def TD(C:wa)(sp:Sp)(E:XK)(t:TA):TS:=λ_ σ H=>t σ H λvs H1=>vs.length<=1000/\∀y,H1 y=none->sp (.ref y::vs) (upd H1 y (yU y C none)) (λv H2=>v = .non/\∃z,V.ref y=V.ref z/\∃od,H2 z=some (yU z C od)/\E (.ref C) od (del H2 z)) E0
section
variable {P:we}{w:wf}{K:δ}{mg:Str->Option vz}{base:xt}{N:List Str}{qual:Str}{scope:wm}{f:wa}{cd:vz}{A:wg}{outer:List xu}{s₀:wb}{H₀:Hp}{EX:XK}
theorem mS{fI:wa}{fd:wc}{ps:List Str}{k:Nat}{np:Pos}{e:wk}(XI:ud4 K mg x C C0 fI)(F:FnOk P w K mg base (CXe P w) j fI fd ps sp)(hb:BL K fd ps [])
   (hr:Room k (cxOf (CXe P w) P w K mg base N qual scope f cd A outer s₀ H₀ EX).A)
   (hg:Gl (cxOf (CXe P w) P w K mg base N qual scope f cd A outer s₀ H₀ EX) x) (ha:PA (cxOf (CXe P w) P w K mg base N qual scope f cd A outer s₀ H₀ EX) (e::es) t) (hj:j+1<=k:=by decide)
   (hdb:(x==("__debug__":Str))=false:=by decide) (he:wo (e::es) (cxOf (CXe P w) P w K mg base N qual scope f cd A outer s₀ H₀ EX).env=(false,xk e (cxOf (CXe P w) P w K mg base N qual scope f cd A outer s₀ H₀ EX).env)::wo es (cxOf (CXe P w) P w K mg base N qual scope f cd A outer s₀ H₀ EX).env:=by rfl)
   (hpl:(wz cpos (wo es (cxOf (CXe P w) P w K mg base N qual scope f cd A outer s₀ H₀ EX).env)).any (·.1)=false:=by rfl):
   PS (cxOf (CXe P w) P w K mg base N qual scope f cd A outer s₀ H₀ EX) (.Raise (some (.Call (.Name x np) (e::es) [] cpos)) none pos) (TD C sp EX t):=by
 intro ϊ s σ H D I h;obtain⟨nm,qn,NN,bs,hd,sn,sub,ab,col,dd,k0,k1,k2,k3,k5,lkC⟩:=id XI.lk;have hB:(Value.ref C0::[.type "ValueError",.type "Exception",.type "BaseException",.type "object"]:List vz).contains (.type "BaseException")=true:=by
   rw[qo,gv.hasBase,ue]
 rw[arm_exec_Raise];refine wu (wpAny_standAt (mP (C:=C) (nm:=nm) (q:=qn) (N:=NN) (bs:=bs) (bm:=.ref C0::[.type "ValueError",.type "Exception",.type "BaseException",.type "object"]) (hdct:=hd) (sn:=sn) (sub:=sub) (ab:=ab) (col:=col) (dd:=dd) (k0:=k0) (k1:=k1) (k2:=k2) (k3:=k3) (k5:=k5) (newId:="ValueError.__new__") hB hr.hd ?_));refine wu (ww ?_ (λv s1 hv=>wu (wpAny_standAt (wv hv))) (λ_ _ z=>z));refine wpAny_Call_Name_kw (Ep I hg XI.bound ?_ hdb);refine callWith_K (h₀:=base) I.ok.mod.kin XI.keep (thn (ha cpos ϊ s σ H _ I h) λus s1 ⟨vs,H1,I1,r,hz,q⟩=>#[I1.kIn,?_]) he hpl;refine thn (mR XI F (hr.mono hj) hb I1 r hz (Q:=λu H2=>∃z,u = .ref z/\∃od,H2 z=some (yU z C od)/\EX (.ref C) od (del H2 z)) (λy hy=>q y hy)) λu s2 hZ=>?_;obtain⟨⟨v,H2,I2,rv,y,ev,od,ey,qe⟩,y',eu,ny⟩:=hZ;subst ev;obtain rfl:u=Value.ref y:=rv;cases eu;obtain⟨⟨tt,g1⟩,_⟩:=I2.hok y _ ey;refine#[y,od,tt,rfl,I2.kIn _ _ lkC,g1,?_];exact aS (mQ I2 ey) #[_,_,g1,rfl,rfl,rfl,rfl] (EC (show Un (frs outer) [] H₀ H1 s₀.heap s1.heap from I1.base) ny) QP qe
end
structure DefI(P:we)(w:wf)(K:δ)(mg:Str->Option vz)(base:xt)(x:Str)(C C0:wa)(j:Nat)(ps:List Str)(sp:Sp):Prop where
 ex:∃(fI:wa)(fd:wc),ud4 K mg x C C0 fI/\FnOk P w K mg base (CXe P w) j fI fd ps sp/\BL K fd ps []
abbrev xI(C:wa)(f:Str)(y:wa)(v:V)(H:Hp)(Q:VK):Prop:=∀dx,H dx=none->Q .non (upd (upd H dx (.xd [(f,v)])) y (yU y C (some dx)))
def TF(C:wa)(f:Str):Sp:=λvs H Q _=>∃(y:wa)(v:V),vs=[.ref y,v]/\H y=some (yU y C none)/\xI C f y v H Q
section
variable {P:we}{w:wf}{K:δ}{mg:Str->Option vz}{base:xt}{N:List Str}{qual:Str}{scope:wm}{f:wa}{cd:vz}{A:wg}{outer:List xu}{s₀:wb}{H₀:Hp}{EX:XK}
theorem mT{ps:List Str}{k:Nat}{np:Pos}{e:wk}(D:DefI P w K mg base x C C0 j ps sp)
   (hr:Room k (cxOf (CXe P w) P w K mg base N qual scope f cd A outer s₀ H₀ EX).A)
   (hg:Gl (cxOf (CXe P w) P w K mg base N qual scope f cd A outer s₀ H₀ EX) x) (ha:PA (cxOf (CXe P w) P w K mg base N qual scope f cd A outer s₀ H₀ EX) (e::es) t) (hj:j+1<=k:=by decide)
   (hdb:(x==("__debug__":Str))=false:=by decide) (he:wo (e::es) (cxOf (CXe P w) P w K mg base N qual scope f cd A outer s₀ H₀ EX).env=(false,xk e (cxOf (CXe P w) P w K mg base N qual scope f cd A outer s₀ H₀ EX).env)::wo es (cxOf (CXe P w) P w K mg base N qual scope f cd A outer s₀ H₀ EX).env:=by rfl)
   (hpl:(wz cpos (wo es (cxOf (CXe P w) P w K mg base N qual scope f cd A outer s₀ H₀ EX).env)).any (·.1)=false:=by rfl):
   PS (cxOf (CXe P w) P w K mg base N qual scope f cd A outer s₀ H₀ EX) (.Raise (some (.Call (.Name x np) (e::es) [] cpos)) none pos) (TD C sp EX t):=by
 obtain⟨fI,fd,XI,F,hb⟩:=D.ex;exact mS XI F hb hr hg ha hj hdb he hpl
theorem Bu{k:Nat}{ps:List Str}{p:Pos}{e:wk}(D:∎ x j ps sp)(hr:Room k (cxOf (CXe P w) P w K mg base N qual scope f cd A outer s₀ H₀ EX).A)
   (hg:Gl (cxOf (CXe P w) P w K mg base N qual scope f cd A outer s₀ H₀ EX) x) (ha:PA (cxOf (CXe P w) P w K mg base N qual scope f cd A outer s₀ H₀ EX) (e::es) t) (hk:j<=k:=by decide)
   (hdb:(x==("__debug__":Str))=false:=by decide) (he:wo (e::es) (cxOf (CXe P w) P w K mg base N qual scope f cd A outer s₀ H₀ EX).env=(false,xk e (cxOf (CXe P w) P w K mg base N qual scope f cd A outer s₀ H₀ EX).env)::wo es (cxOf (CXe P w) P w K mg base N qual scope f cd A outer s₀ H₀ EX).env:=by rfl)
   (hpl:(wz pos (wo es (cxOf (CXe P w) P w K mg base N qual scope f cd A outer s₀ H₀ EX).env)).any (·.1)=false:=by rfl):
   PE (cxOf (CXe P w) P w K mg base N qual scope f cd A outer s₀ H₀ EX) (.Call (.Name x p) (e::es) [] pos) (Ma sp [] EX t):=by
 obtain⟨f',fd,F,hm,kp,b⟩:=D.ex;exact Z6 F (hr.mono hk) hg hm kp b .nil BV ha hdb he hpl
end
section
variable {K:δ}{σ:L2.St}{H:Hp}{D:Ends}
theorem r_raise{E:XK}(h:t σ H λxs H1=>xs.length<=wt/\E (.ref C) none H1):aU C E t D σ H:=h
theorem r_raiseI{E:XK}(h:t σ H λvs H1=>vs.length<=1000/\∀y,H1 y=none->sp (.ref y::vs) (upd H1 y (yU y C none)) (λv H2=>v = .non/\∃z,V.ref y=V.ref z/\∃od,H2 z=some (yU z C od)/\E (.ref C) od (del H2 z)) E0):
   TD C sp E t D σ H:=h
theorem J_{f:Str}{E:XK}(q:∀dx,H dx=none->E (.ref C) (some dx) (upd H dx (.xd [(f,v)]))):
   [v].length<=1000/\∀y,H y=none->TF C f (.ref y::[v]) (upd H y (yU y C none)) (λv H2=>v = .non/\∃z,V.ref y=V.ref z/\∃od,H2 z=some (yU z C od)/\E (.ref C) od (del H2 z)) E0:=by
 refine#[by show 1<=1000;decide,λy hy=>#[y,v,rfl,xb5,λdx hd=>#[rfl,y,rfl,some dx,xb5,?_]]];have ne:dx≠y:=λz=>by rw[z,xb5] at hd;cases hd
 have hd':H dx=none:=by rw[AE ne] at hd;exact hd
 have e:del (upd (upd (upd H y (yU y C none)) dx (.xd [(f,v)])) y (yU y C (some dx))) y=upd H dx (.xd [(f,v)]):=by
   funext b
   by_cases hb:b=y;subst hb;rw[QP,AE (fh ne)];exact hy.symm;rw[G3 hb,AE hb];by_cases hbd:b=dx;subst hbd;rw[xb5,xb5];rw[AE hbd,AE hb,AE hbd]
 rw[e];exact q dx hd'
theorem r_fldX{f:Str}{Q:VK}(h:ta σ H λx H1=>∃a C dx fs v,x = .ref a/\H1 a=some (yS a C (some dx))/\H1 dx=some (.xd fs)/\XK0 K C/\ud3 K C f/\fs.lookup f=some v/\Q v H1):zT K ta f σ H Q:=h
theorem r_isiX{x C':wa}(h:H x=some (yS x C od))(z:XK0 K C)(e:kitOne K (.ref C) (.ref C')=some b)(q:P b):
   ∃x' C0 od' v b',[V.ref x,V.ref C']=[V.ref x',v]/\H x'=some (yS x' C0 od')/\XK0 K C0/\uc9 v≠.none/\kitOne K (.ref C0) (uc9 v)=some b'/\P b':=#[x,C,od,.ref C',b,rfl,h,z,(λz=>nomatch z),e,q]
end
section
variable {X:Cx}{x:Str}{C:wa}{p pos:Pos}{e:wk}{es:List wk}{t:TA}
end
section
variable {K:δ}{σ:L2.St}{H:Hp}{Q:VK}
end
section
variable {X:Cx}
def PTs(X:Cx)(ifs:List wk)(t:TT):Prop:=∀(ϊ:List (wa×Obj)) (s:wb) (σ:L2.St) (H:Hp) (Q:Bool->Hp->Prop),Inv X ϊ σ H s->t σ H Q ->
 wx (xl X.prog X.w) X.A (forIn ifs true λc r=>if r=true then do let ok <-isTrue c X.env (xk c X.env);pure (ForInStep.yield ok) else pure (ForInStep.yield r)) (TP X ϊ σ Q) X.xe s
theorem K6:PTs X [] (λ_ H Q=>Q true H):=λϊ s σ H Q I q=>wpAny_tests_nil #[H,I,q]
theorem HI{c:wk}{t:TT}(h:PT X c t):PTs X [c] t:=λϊ s σ H Q I q=>wpAny_tests_one (h ϊ s σ H Q I q)
end
theorem TJ(hu:X.A.units+64<xm):OpR X (xc .NotEq) (λx y H Q=>∃(a b:wa)(ns ms:List Int),x = .ref a/\y = .ref b/\SqL X.K H a (ns.map V.int)/\SqL X.K H b (ms.map V.int)/\Q (.bl (!decide (ns=ms))) H):=by
 intro ϊ s σ H x y v u Q I rx ry h;obtain⟨a,b,ns,ms,rfl,rfl,ha,hb,q⟩:=h;cases rx;cases ry;obtain⟨its,r1,p1,_⟩:=I.list ha;obtain⟨its2,r2,p2,_⟩:=I.list hb;exact PySem.W.ke_ne_ints p1.isList p2.isList (To r1) (To r2) hu #[.bl _,H,I,rfl,q]
section
variable {K:δ}{σ:L2.St}{H:Hp}{Q:VK}{D:Ends}
theorem r_next(h:D.nx σ H):Tj D σ H:=h
theorem r_seq{t u:TS}(h:t { D with nx:=u D } σ H):zB t u D σ H:=h
theorem r_nx{r:VK}{b:L2.St->Hp->Prop}(h:f σ H):Ends.nx #[f,r,b,c] σ H:=h
theorem r_rt{r:VK}{b:L2.St->Hp->Prop}(h:r v H):Ends.rt #[f,r,b,c] v H:=h
theorem r_drop(h:te σ H λ_ H1=>D.nx σ H1):zU te D σ H:=h
theorem r_ret(h:te σ H D.rt):tRet te D σ H:=h
theorem r_ifS{c:TT}{t u:TS}(h:c σ H λb H1=>if b=true then t D σ H1 else u D σ H1):zI c t u D σ H:=h
theorem r_asg{g:TG}(h:te σ H λx H1=>g x σ H1 D.nx):zJ te g D σ H:=h
theorem r_gname(h:R (σ.set i (some v)) H):HB i v σ H R:=h
theorem r_gsub{ti:TE}{t:ue4}(h:to σ H λo H1=>ti σ H1 λi H2=>t o i v H2 λH3=>R σ H3):gSub to ti t v σ H R:=h
theorem r_var(e:σ[i]?=some (some v))(h:Q v H):tVar i σ H Q:=#[v,e,h]
theorem r_c(h:Q v H):tC v σ H Q:=h
theorem r_op{r:R2}(h:ta σ H λx H1=>tb σ H1 λy H2=>r x y H2 Q):tOp r ta tb σ H Q:=h
theorem r_un{r:V->Hp->VK->Prop}(h:ta σ H λx H1=>r x H1 Q):tUn r ta σ H Q:=h
theorem r_rI0{i j:Int}(h:Q (g i j) H):rI0 g (.int i) (.int j) H Q:=#[i,j,rfl,rfl,h]
theorem r_rI{C:Int->Int->Prop}{i j:Int}(c:C i j)(h:Q (g i j) H):rI C g (.int i) (.int j) H Q:=#[i,j,rfl,rfl,c,h]
theorem r_rU{g:Int->V}{i:Int}(h:Q (g i) H):rU g (.int i) H Q:=#[i,rfl,h]
theorem decV{i j:Int}:decide (V.int i=V.int j)=decide (i=j):=by rw[QG];exact Bool.beq_eq_decide_eq i j
theorem r_eqI{i j:Int}(h:Q (.bl (decide (i=j))) H):rEq (.int i) (.int j) H Q:=#[rfl,by rw[decV];exact h]
theorem r_neI{i j:Int}(h:Q (.bl (!decide (i=j))) H):rNe (.int i) (.int j) H Q:=#[rfl,by rw[decV];exact h]
theorem r_isN{P:Prop}(h:P):V.non=V.non/\P:=#[rfl,h]
theorem r_bl(h:P b):∃k,V.bl b=V.bl k/\P k:=#[b,rfl,h]
theorem r_int{i:Int}{P:Int->Prop}(h:P i):∃k,V.int i=V.int k/\P k:=#[i,rfl,h]
theorem r_test{t:TE}{R:Bool->Hp->Prop}(h:t σ H λx H'=>∃k,x = .bl k/\R k H'):Tm t σ H R:=h
theorem r_tB{t:TE}{R:Bool->Hp->Prop}(h:t σ H λx H'=>∃k,x = .bl k/\R k H'):tB t σ H R:=h
theorem r_and{t u:TT}{R:Bool->Hp->Prop}(h:t σ H λc H1=>if c=true then u σ H1 R else R false H1):tAnd t u σ H R:=h
theorem r_or{t u:TT}{R:Bool->Hp->Prop}(h:t σ H λc H1=>if c=true then R true H1 else u σ H1 R):tOr t u σ H R:=h
theorem r_not{t:TT}{R:Bool->Hp->Prop}(h:t σ H λc H1=>R (!c) H1):tNot t σ H R:=h
theorem r_andV(h:ta σ H λx H1=>∃c,x = .bl c/\if c=true then tb σ H1 Q else Q (.bl false) H1):QD ta tb σ H Q:=h
theorem r_orV(h:ta σ H λx H1=>∃c,x = .bl c/\if c=true then Q (.bl true) H1 else tb σ H1 Q):ue0 ta tb σ H Q:=h
theorem r_notV(h:ta σ H λx H1=>∃c,x = .bl c/\Q (.bl (!c)) H1):zR ta σ H Q:=h
theorem r_cons{tr:TA}{R:List V->Hp->Prop}(h:ta σ H λx H1=>tr σ H1 λxs H2=>R (x::xs) H2):zX ta tr σ H R:=h
theorem r_nil{R:List V->Hp->Prop}(h:R [] H):ue1 σ H R:=h
theorem r_tup(h:t σ H λxs H1=>xs.length<=wt/\∀p,H1 p=none->Q (.ref p) (upd H1 p (.tup xs))):tTup t σ H Q:=h
theorem r_lst(h:t σ H λxs H1=>xs.length<=wt/\∀p,H1 p=none->Q (.ref p) (upd H1 p (.lst xs))):tLst t σ H Q:=h
theorem r_call{E:XK}(h:t σ H λvs H1=>sp vs H1 Q E):Ma sp [] E t σ H Q:=by
 have e:(λ(vs:List V) H1=>sp (vs++[]) H1 Q E)=λvs H1=>sp vs H1 Q E:=by funext vs H1;rw[aq]
 show t σ H λvs H1=>sp (vs++[]) H1 Q E;rw[e];exact h
theorem r_cb{r:List V->Hp->VK->Prop}(h:t σ H λvs H1=>r vs H1 Q):tCB r t σ H Q:=h
theorem r_sl{r:V->Option Int->Option Int->Hp->VK->Prop}{tl th:TO}(h:te σ H λx H1=>tl σ H1 λl H2=>th σ H2 λu H3=>r x l u H3 Q):tSl r te tl th σ H Q:=h
theorem r_nopart{R:Option Int->Hp->Prop}(h:R none H):aC σ H R:=h
theorem r_part{t:TE}{R:Option Int->Hp->Prop}(h:t σ H λx H1=>∃i,x = .int i/\R (some i) H1):zQ t σ H R:=h
theorem r_bm{T:String}(h:to σ H λx H1=>tyV K T x H1/\t σ H1 λxs H2=>r x xs H2 Q):tBM K T r to t σ H Q:=h
theorem r_bm0{T:String}(h:to σ H λx H1=>tyV K T x H1/\r x [] H1 Q):tBM0 K T r to σ H Q:=h
theorem r_tyL{xs:List V}{P:Prop}(h:H p=some (.lst xs))(q:P):tyV K "list" (.ref p) H/\P:=#[.inl #[rfl,xs,SqL.of h],q]
theorem r_append{l:wa}{xs:List V}{y:V}(h:H l=some (.lst xs))(hz:xs.length<wt)(q:Q .non (upd H l (.lst (xs++[y])))):Tu (.ref l) [y] H Q:=#[l,xs,y,rfl,rfl,h,hz,q]
theorem r_appendI{l:wa}{y:Int}(h:H l=some (.lst (ns.map V.int)))(hz:ns.length<wt)(q:Q .non (upd H l (.lst ((ns++[y]).map V.int)))):Tu (.ref l) [.int y] H Q:=by
 rw[ay] at q;exact#[l,_,.int y,rfl,rfl,h,by rw[Φ];exact hz,q]
theorem r_cat{l b:wa}{xs zs:List V}(h:H l=some (.lst xs))(h2:H b=some (.lst zs))(hz:xs.length+zs.length<=wt)(q:∀p,H p=none->Q (.ref p) (upd H p (.lst (xs++zs)))):rCat (.ref l) (.ref b) H Q:=#[l,b,xs,zs,rfl,rfl,h,h2,hz,q]
theorem Bh{xs:List V}{i:Int}(h:SqL K H p xs)(e:atI xs i=some v)(q:Q v H):M_ K (.ref p) (.int i) H Q:=#[p,xs,i,v,rfl,rfl,h,e,q]
theorem r_ixT{xs:List V}{i:Int}(h:H p=some (.tup xs))(e:atI xs i=some v)(q:Q v H):rIxT K (.ref p) (.int i) H Q:=#[p,xs,i,v,rfl,rfl,SqT.of h,e,q]
theorem r_ixI(h:SqL K H p (ns.map V.int))(h0:0<=k)(h1:k<ns.length)(q:Q (.int (ns.getD k.toNat 0)) H):M_ K (.ref p) (.int k) H Q:=#[p,_,k,_,rfl,rfl,h,lV ns k h0 h1,q]
theorem ub0{n:Nat}(h0:0<=k)(h:k<n):ixN n k=some k.toNat:=by
 unfold ixN;rw[xb1 h0,xb1 h]
theorem r_setI{x:Int}{R:Hp->Prop}(h:H p=some (.lst (ns.map V.int)))(h0:0<=k)(h1:k<ns.length)(q:R (upd H p (.lst ((ns.set k.toNat x).map V.int)))):Tp (.ref p) (.int k) (.int x) H R:=by
 refine#[p,_,k,k.toNat,rfl,rfl,h,ub0 h0 (by rw[Φ];exact h1),?_];rw[List.map_set] at q;exact q
theorem r_sll{xs:List V}(h:SqL K H a xs)(q:∀p,H p=none->Q (.ref p) (upd H p (.lst (zn xs lo hi)))):rSlL K (.ref a) lo hi H Q:=#[a,xs,rfl,h,q]
theorem r_lenI{P:List V->Prop}(h:SqL K H p (ns.map V.int))(q:P (ns.map V.int)):∃p' ys,[V.ref p]=[V.ref p']/\(SqL K H p' ys\/SqT K H p' ys)/\P ys:=#[p,_,rfl,.inl h,q]
theorem r_lenL{xs:List V}{P:List V->Prop}(h:H p=some (.lst xs))(q:P xs):∃p' ys,[V.ref p]=[V.ref p']/\(SqL K H p' ys\/SqT K H p' ys)/\P ys:=#[p,_,rfl,.inl (SqL.of h),q]
theorem r_lenT{xs:List V}{P:List V->Prop}(h:H p=some (.tup xs))(q:P xs):∃p' ys,[V.ref p]=[V.ref p']/\(SqL K H p' ys\/SqT K H p' ys)/\P ys:=#[p,_,rfl,.inr (SqT.of h),q]
theorem r_isi{x:V}{n:String}{t:vz}(ty:TyOf K H x t)(e:kitOne K t (.type n)=some b)(q:P b):∃x' n' t' b',[x,V.ty n]=[x',V.ty n']/\TyOf K H x' t'/\kitOne K t' (.type n')=some b'/\P b':=#[x,n,t,b,rfl,ty,e,q]
theorem r_max{i j:Int}{P:Int->Int->Prop}(q:P i j):∃i' j',[V.int i,V.int j]=[V.int i',V.int j']/\P i' j':=#[i,j,rfl,q]
theorem r_new{xs:List V}{P:Prop}(h:xs.length<=1000)(q:P):xs.length<=wt/\P:=#[gh (small1000 h),q]
theorem r_truB(q:P b):∃k,ud7 K (.bl b) H k/\P k:=#[b,rfl,q]
theorem r_truL{xs:List V}(h:SqL K H p xs)(q:P (!xs.isEmpty)):∃k,ud7 K (.ref p) H k/\P k:=#[_,.inl #[xs,h,rfl],q]
theorem r_for{wi:TI}{g:TG}{tb:TS}(h:wi σ H λJ H1=>∃W:Nat->Nat->L2.St->Hp->Prop,(∃m,W 0 m σ H1)/\∀i m σ H,W i m σ H ->
   (J.stop i H/\D.nx σ H)\/(J.go i H/\∃N:L2.St->Hp->Prop,(∀σ' H',N σ' H'->∃m',m'<m/\W (i+1) m' σ' H')/\∀x H',J.yld i H x H'->g x σ H' λσ2 H2=>tb { D with nx:=N,ct:=N,bk:=D.nx } σ2 H2)):tFor wi g tb D σ H:=h
theorem r_iL{tl:TE}{R:It->Hp->Prop}(h:tl σ H λx H1=>∃a,x = .ref a/\(∃xs,SqL K H1 a xs)/\R (Itl K a) H1):ub4 K tl σ H R:=h
theorem CH{t u:TS}{M:L2.St->Hp->Prop}(hM:∀σ' H',M σ' H'->u D σ' H')(h:∀nx:L2.St->Hp->Prop,(∀σ' H',M σ' H'->nx σ' H')->t { D with nx:=nx } σ H):zB t u D σ H:=h (u D) hM
theorem Cj9{t u:TS}{M:L2.St->Hp->Prop}(h:∀nx:L2.St->Hp->Prop,(∀σ' H',M σ' H'->nx σ' H')->t { D with nx:=nx } σ H)(hM:∀σ' H',M σ' H'->u D σ' H'):zB t u D σ H:=h (u D) hM
theorem r_isIf{c:TT}{t u v:TS}(h:zB (zI c t u) v D σ H):zB (zI c t u) v D σ H:=h
end
theorem r_ifN(h:if b=true then B else A):if (!b)=true then A else B:=by cases b <;> exact h
theorem AW{c:Prop}[Decidable c](h1:c->A)(h2:¬c->B):if decide c=true then A else B:=by
 by_cases h:c;rw[xb3 h];exact iteT (h1 h);rw[xb4 h];exact iteF (h2 h)
theorem r_ifdT{c:Prop}[Decidable c](h:c)(h1:A):if decide c=true then A else B:=AW (λ_=>h1) λz=>xb0 h z
theorem r_ifdF{c:Prop}[Decidable c](h:¬c)(h1:B):if decide c=true then A else B:=AW (λz=>xb0 z h) λ_=>h1
theorem CM(h1:b=true->A)(h2:b=false->B):if b=true then A else B:=by
 cases b with
 | true=>exact iteT (h1 rfl)
 | false=>exact iteF (h2 rfl)
theorem look_put{d:wa}{v:HO}(hp:H p=none)(h:H d=some v):upd H p o d=some v:=(AE (BW h hp)).trans h
theorem look_ne{d:wa}{v:HO}(hp:d≠p)(h:H d=some v):upd H p o d=some v:=(AE hp).trans h
theorem look_tup{d:wa}{xs:List V}(hp:H p=some (.lst ys))(h:H d=some (.tup xs)):upd H p o d=some (.tup xs):=look_ne (λz=>by rw[z,hp] at h;cases h) h
abbrev TX:=L2.St->Hp->VK->XK->Prop
def PX(X:Cx)(e:wk)(t:TX):Prop:=∀(ϊ:List (wa×Obj)) (s:wb) (σ:L2.St) (H:Hp) (QV:VK) (EX:XK) (Qp W:vz->wb->Prop),Inv X ϊ σ H s->t σ H QV EX->(∀u s',EP X ϊ σ QV u s'->Qp u s') ->
 (∀H1 s1 y s',Inv X ϊ σ H1 s1->CXe X.prog X.w X.stack H1 s1 EX y s'->W y s')->wx (xl X.prog X.w) X.A (xk e X.env) Qp W s
def xMeth(C:wa)(m:Str)(sp:Sp)(dvs:List V)(to:TE)(ta:TA):TX:=λσ H QV EX=>to σ H λx H1=>∃a dx fs,x = .ref a/\H1 a=some (.ins C dx fs)/\fs.lookup m=none/\ta σ H1 λvs H2=>sp (x::(vs++dvs)) H2 QV EX
section
variable {X:Cx}{k:Nat}{f C:wa}{fd:wc}{ps:List Str}{sp:Sp}{dvs:List V}{ds:List vz}{fx m:Str}{p pos apos:Pos}{e o:wk}{es:List wk}{to:TE}{ta:TA}
theorem TK{s:wb}{us:List vz}{vs:List V}{QV:VK}{EX:XK}{Qp W:vz->wb->Prop}(F:FnOk X.prog X.w X.K X.mg X.base (CXe X.prog X.w) k f fd ps sp)(hr:Room k X.A)(hb:BL X.K fd ps ds)(hd:Vals dvs ds)
   (I:Inv X ϊ σ H s) (r:Vals vs us) (h:sp (vs++dvs) H QV EX) (hv:∀u s',EP X ϊ σ QV u s'->Qp u s') (hx:∀y s',CXe X.prog X.w X.stack H s EX y s'->W y s'):wx (xl X.prog X.w) X.A (call (.ref f) us) Qp W s:=by
 have r2:Vals (vs++dvs) (us++ds):=r.append hd;have hl:(us++ds).length=ps.length:=by rw[<-r2.length];exact F.len _ _ _ _ h
 refine wpAny_call (codeAny_mono (F.run X.A X.stack s H #[us,[]] (us++ds) (vs++dvs) QV EX hr I.env0 (hb s us I.kIn hl) r2 h) λr s' hq=>?_);cases r with
 | error y=>exact hx y s' hq
 | ok fl=>
   cases fl with
   | ret u=>exact hv u s' (I.after hq)
   | next=>exact de hq
   | brk=>exact de hq
   | cont=>exact de hq
theorem px_meth(ho:PE X.nox o to)(c:Cls X.K C)(hm:yI X.K C m f)(F:FnOk X.prog X.w X.K X.mg X.base (CXe X.prog X.w) k f fd ps sp)(hr:Room k X.A)(hb:BL X.K fd ps ds)(hd:Vals dvs ds)(ha:PA X.nox (e::es) ta)
   (hst:wo (e::es) X.env=(false,xk e X.env)::wo es X.env:=by rfl) (hpl:(wz pos (wo es X.env)).any (·.1)=false:=by rfl)
   (ht:xk (.Call (.Attribute o m apos) (e::es) [] pos) X.env=(do
     let ov <-xk o X.env
     standAt apos.atName
     let (f,first) <-holding [ov] (getMethod ov m pl)
     xi pos f first (wz pos (wo (e::es) X.env)) (backToKw pos (keywordEach [] X.env))):=by rfl):
   PX X (.Call (.Attribute o m apos) (e::es) [] pos) (xMeth C m sp dvs to ta):=by
 intro ϊ s σ H QV EX Qp W I h hv hx;refine methodCall_KW (pl:=pl) (ww (ho ϊ s σ H _ (I.wish _) h) (λu s1 hZ=>?_) (λ_ _ z=>z.elim)) ht;obtain⟨x,H1,I1',rx,a,dx,fs,ex,ea,l,q⟩:=hZ;have I1:=I1'.unwish;subst ex;obtain rfl:u=Value.ref a:=rx;refine K2 I1 ea c hm l ?_;refine callWith_K (first:=[.ref a]) (h₀:=X.base) I.ok.mod.kin hm.kp (ww (ha pos ϊ s1 σ H1 _ (I1.wish _) q) (λus s2 hZ=>?_) (λ_ _ z=>z.elim)) hst hpl;obtain⟨vs,H2,I2',r,q2⟩:=hZ;have I2:=I2'.unwish;exact#[I2.kIn,TK (us:=.ref a::us) (vs:=.ref a::vs) F hr hb hd I2 (.cons rfl r) q2 hv λy s' hq=>hx H2 s2 y s' I2 hq]
end
def zu(K:δ)(C C0:wa)(b:Bool):Prop:=∃(bm bm0:List vz),ECls K C bm/\ECls K C0 bm0/\(Value.ref C0::bm0).contains (.type "BaseException")=true/\(Value.ref C::bm).contains (.ref C0)=b
theorem QQ{A:wg}{x:wa}{s:wb}{Q:Bool->wb->Prop}(F:zu K C C0 b)(KX:K.In s.heap)(hx:s.heap.get? x=some ox)(hc:ox.cls = .ref C)(k:Q b s):
   wx M A (excMatches (.ref x) (.ref C0)) Q E s:=by
 obtain⟨bm,bm0,⟨nm,qn,N,bs,hd,sn,sub,ab,col,dd,k0,k1,k2,k3,k5,newId,lk⟩,⟨nm',qn',N',bs',hd',sn',sub',ab',col',dd',j0,j1,j2,j3,j5,new',lk0⟩,hb,hm⟩:=F;have hC:=KX _ _ lk;have hC0:=KX _ _ lk0;obtain⟨hh,g,d,t,os⟩:=s;exact lY hC hC0 hx hc hb hm k
abbrev TH:=wa->wa->TS
def PH(X:Cx)(hs:List ExceptHandler)(th:TH):Prop:=∀(ϊ:List (wa×Obj)) (s:wb) (σ:L2.St) (H:Hp) (D:Ends) (x C T:wa) (od:Option wa),X.Ok->Inv X ϊ σ H s->Exc s.heap x (.ref C) od T .none ->
 (∀h3,Upto (frs X.stack) [T] s.heap h3->Exc h3 x (.ref C) od T .none->Inv X ϊ σ H { s with heap:=h3 })->th x C D σ H->wx (xl X.prog X.w) X.A (handleBy (.ref x) X.env hs) (SP X ϊ D) X.xe s
section
variable {X:Cx}{C0:wa}{cx:Str}{np hpos pos epos:Pos}{b0:wl}{suite:List wl}{ts:wa->TS}{hs:List ExceptHandler}{th:TH}{e:wk}{t:TX}
theorem TM:PH X [] (λ_ _ _ _ _=>False):=λ_ _ _ _ _ _ _ _ _ _ _ _ _ h=>h.elim
theorem mU(hgc:Gl X cx)(hc0:X.mg cx=some (.ref C0))(hss:∀x,PSs (Cx.suite X x) (b0::suite) (ts x))(hr:PH X hs th)(hdc:(cx==("__debug__":Str))=false:=by decide):
   PH X (.ExceptHandler (some (.Name cx np)) none (b0::suite) hpos::hs) (λx C D σ H=>(zu X.K C C0 true/\ts x D σ H)\/(zu X.K C C0 false/\th x C D σ H)):=by
 intro ϊ s σ H D x C T od ok J t2 again h;obtain⟨oe,vs,oT,tts,ne,ee,hcl,_⟩:=id t2;rcases h with ⟨fit,q⟩ | ⟨fit,q⟩
 refine wpAny_handleBy_cons (codeAny_handlers_test (Ep (X:=Cx.suite X x) (K5 J x) hgc hc0 (QQ fit J.kIn ee hcl ?_) hdc)) (by intro z;cases z);refine codeAny_handlers_suite ?_;refine Md (fr:=frs X.stack) t2 λh3 u3 t3=>?_;exact ww (hss x ϊ _ σ _ D (K5 (again h3 u3 t3) x) q) (λfl s4 q4=>mF ok q4) (λ_ _ z=>z.elim);refine wpAny_handleBy_cons (codeAny_handlers_test (Ep (X:=Cx.suite X x) (K5 J x) hgc hc0 (QQ fit J.kIn ee hcl ?_) hdc)) (by intro z;cases z);exact hr ϊ s σ H D x C T od ok J t2 again q
theorem aY{n:Str}(hgc:Gl X cx)(hc0:X.mg cx=some (.ref C0))(hN:X.N.Nodup)(hi:X.N[i]?=some n)(hln:X.env.kindOf n=some .local)(hss:∀x,PSs (Cx.suite X x) (b0::suite) (ts x))(hr:PH X hs th)(hdc:(cx==("__debug__":Str))=false:=by decide):
   PH X (.ExceptHandler (some (.Name cx np)) (some n) (b0::suite) hpos::hs)
     (λx C D σ H=>(zu X.K C C0 true/\ts x { D with nx:=λσ' H'=>D.nx (σ'.set i none) H',bk:=λσ' H'=>D.bk (σ'.set i none) H',ct:=λσ' H'=>D.ct (σ'.set i none) H' } (σ.set i (some (.ref x))) H)\/(zu X.K C C0 false/\th x C D σ H)):=by
 intro ϊ s σ H D x C T od ok J t2 again h;obtain⟨oe,vs,oT,tts,ne,ee,hcl,_⟩:=id t2;rcases h with ⟨fit,q⟩ | ⟨fit,q⟩
 . refine wpAny_handleBy_cons (codeAny_handlers_test (Ep (X:=Cx.suite X x) (K5 J x) hgc hc0 (QQ fit J.kIn ee hcl ?_) hdc)) (by intro z;cases z);refine codeAny_handlers_suite_as ?_;refine Md (fr:=frs X.stack) t2 λh3 u3 t3=>?_;refine QB (X:=Cx.suite X x) (K5 (again h3 u3 t3) x) hN hi (.inl hln) (v:=.ref x) rfl (λs4 J4=>?_) (.inr hln);refine ww (hss x ϊ s4 _ _ _ J4 q) (λfl s5 q5=>?_) (λ_ _ z=>z.elim);cases fl with
   | next=>obtain⟨σ',H',I5,q⟩:=q5;exact QN (GZ ok I5) hN hi hln λs6 I6=>#[_,_,I6,q]
   | brk=>obtain⟨σ',H',I5,q⟩:=q5;exact QN (GZ ok I5) hN hi hln λs6 I6=>#[_,_,I6,q]
   | cont=>obtain⟨σ',H',I5,q⟩:=q5;exact QN (GZ ok I5) hN hi hln λs6 I6=>#[_,_,I6,q]
   | ret u=>obtain⟨v,σ',H',I5,r,q⟩:=q5;exact QN (GZ ok I5) hN hi hln λs6 I6=>#[v,_,_,I6,r,q]
 refine wpAny_handleBy_cons (codeAny_handlers_test (Ep (X:=Cx.suite X x) (K5 J x) hgc hc0 (QQ fit J.kIn ee hcl ?_) hdc)) (by intro z;cases z);exact hr ϊ s σ H D x C T od ok J t2 again q
theorem Upto.refl(fr ex:List wa)(h:xt):Upto fr ex h h:=#[λ_ _ _ _ q=>q,λb o _ q=>#[o.slots,q]]
def zP(t:TX)(th:TH):TS:=λD σ H=>t σ H (λ_ H2=>D.nx σ H2) λc od H2=>∃C,c = .ref C/\∀x,H2 x=none->th x C D σ (upd H2 x (yS x C od))
theorem aZ(he:PX X e t)(hst:X.stack=X.env::X.outer/\X.env.frame=some X.env.locals)(hh:PH X (h₀::hs) th)(hsw:swapsWith e none epos.line X.env=pure false:=by rfl):
   PS X (.Try [.Expr e epos] (h₀::hs) [] [] pos) (zP t th):=by
 intro ϊ s σ H D I h;refine wpAny_Try_except (wpAny_execs_cons (wpAny_Expr_any (he ϊ s σ H _ _ _ _ I h (λu s' ⟨v,H2,I2,_,q2⟩=>xp (xp #[σ,H2,I2,q2])) (λH1 s1 y s' I1 hq=>?_)) I.quiet hsw));refine aW I1 hst hq λx C od T h2 H2 ex ⟨C',ec,q⟩ t2 J2 again=>?_;subst ex;cases ec;exact hh ϊ _ σ _ D x C T od I.ok J2 t2 (λh3 u3 t3=>(again h3 u3 t3).2) (q x (again h2 (Upto.refl _ _ _) t2).1)
end
section
variable {K:δ}{σ:L2.St}{H:Hp}{D:Ends}
theorem r_tryE{t:TX}{th:TH}(h:t σ H (λ_ H2=>D.nx σ H2) λc od H2=>∃C,c = .ref C/\∀x,H2 x=none->th x C D σ (upd H2 x (yS x C od))):zP t th D σ H:=h
end
structure FunD(K:δ)(x qual:Str)(st:wl)(dV:vz)(f:wa)(fd:wc):Prop where
 ex:∃(oc:vz)(od:Option wa)(kV doc pm:vz)(an:Option wa)(cdv ct:vz) (osl:Array (Option vz)),
   fd=fnOf x qual (Bb st) (A3 st) (An st) dV kV doc pm an cdv ct/\K.lookup f=some #[oc,od,.func fd,osl]/\codeIn K cdv qual=true
 kp:keepIn K (.ref f)=true
theorem G4{f:wa}{oc:vz}{dV kV doc pm cdv ct:vz}(l:K.lookup f=some #[oc,od,.func (fnOf x qual (Bb st) (A3 st) (An st) dV kV doc pm an cdv ct),osl])
   (c:codeIn K cdv qual=true) (k:keepIn K (.ref f)=true):FunD K x qual st dV f (fnOf x qual (Bb st) (A3 st) (An st) dV kV doc pm an cdv ct):=#[#[oc,od,kV,doc,pm,an,cdv,ct,osl,rfl,l,c],k]
section
variable {P:we}{w:wf}{K:δ}{mg:Str->Option vz}{base:xt}
theorem G5{dV:vz}{f:wa}{fd:wc}{ps:List Str}{k:Nat}(F:FunD K x qual st dV f fd)(S:yD N ps (An st))(len:∀vs H Q E,sp vs H Q E->vs.length=ps.length)
   (hbody:∀(cdv:vz)(A:wg)(outer:List xu)(s:wb)(H:Hp)(vs:List V)(Q:VK)(E:XK),Room k (A.deeper (envOfC qual (An st) s.heap.objs.size f cdv))->sp vs H Q E ->
     ∃t,PSs (cxOf (CXe P w) P w K mg base N qual (An st) f cdv A outer s H E) (A3 st) t/\t { nx:=λ_ H'=>Q .non H',rt:=Q } (start N vs) H):FnOk P w K mg base (CXe P w) (k+1) f fd ps sp:=by
 obtain⟨oc,od,kV,doc,pm,an,cdv,ct,osl,rfl,lk,hcd⟩:=F.ex;exact uc4 lk hcd S len λA outer s H vs Q E hr hsp=>hbody cdv A outer s H vs Q E hr hsp
theorem FunD.bindsD{f:wa}{fd:wc}{ps:List Str}{ds:List vz}{tc:vz}{td:Option wa}{tn:Nat}(F:FunD K x qual st (.ref T) f fd)
   (lt:K.lookup T=some #[tc,td,.seq ds.toArray tn,tsl])
   (h:∀(kV doc pm:vz)(an:Option wa)(cdv ct:vz)(us:List vz),(us++ds).length=ps.length->∃k:Option (Array vz)->xq (List (Str×vz)),
     wq (fnOf x qual (Bb st) (A3 st) (An st) (.ref T) kV doc pm an cdv ct) #[us,[]]=xa (.ref T) >>= k/\k (some ds.toArray)=pure (ps.zip (us++ds))):BL K fd ps ds:=by
 obtain⟨oc,od,kV,doc,pm,an,cdv,ct,osl,rfl,lk,hcd⟩:=F.ex;intro s us X hl;obtain⟨k,h1,h2⟩:=h kV doc pm an cdv ct us hl;exact .of_defaults rfl (X _ _ lt) rfl h1 h2
end
structure Methx(P:we)(w:wf)(K:δ)(mg:Str->Option vz)(base:xt)(C:wa)(m:Str)(j:Nat)(ps:List Str)(dvs:List V)(sp:Sp):Prop where
 ex:∃(f:wa)(fd:wc)(ds:List vz),FnOk P w K mg base (CXe P w) j f fd ps sp/\yI K C m f/\BL K fd ps ds/\Vals dvs ds
 cl:Cls K C
structure yM(P:we)(w:wf)(K:δ)(mg:Str->Option vz)(base:xt)(x:Str)(C:wa)(j:Nat)(ps:List Str)(dvs:List V)(sp:Sp):Prop where
 ex:∃(f:wa)(fd:wc)(ds:List vz),FnOk P w K mg base (CXe P w) j f fd ps sp/\Mk K C f/\BL K fd ps ds/\Vals dvs ds
 bound:mg x=some (.ref C)
structure ClsM(K:δ)(C:wa)(m:Str)(f:wa):Prop where
 sp:specialIn K (.ref C) "__getattribute__"=some (some (.builtin "type.__getattribute__"))
 rd:readsIn K C (.type "type")=true
 fc:findCls K (.ref C) (.type "type") m=some (.val (.ref f))
 kp:keepIn K (.ref f)=true
structure zj(P:we)(w:wf)(K:δ)(mg:Str->Option vz)(base:xt)(x:Str)(m:Str)(j:Nat)(ps:List Str)(sp:Sp):Prop where
 ex:∃(C f:wa)(fd:wc),FnOk P w K mg base (CXe P w) j f fd ps sp/\ClsM K C m f/\BL K fd ps []/\mg x=some (.ref C)
section
variable {X:Cx}{j k:Nat}{C:wa}{ps:List Str}{sp:Sp}{dvs:List V}{x m:Str}{p pos apos:Pos}{e o:wk}{es:List wk}{to:TE}{t:TA}{EX:XK}
theorem HJ(D:yM X.prog X.w X.K X.mg X.base x C j ps dvs sp)(hp:D4 (CXe X.prog X.w) X EX)(hr:Room k X.A)(hg:Gl X x)(ha:PA X (e::es) t)(hk:j+1<=k:=by decide)
   (hdb:(x==("__debug__":Str))=false:=by decide) (he:wo (e::es) X.env=(false,xk e X.env)::wo es X.env:=by rfl) (hpl:(wz pos (wo es X.env)).any (·.1)=false:=by rfl):PE X (.Call (.Name x p) (e::es) [] pos) (QL C sp dvs EX t):=by
 obtain⟨f,fd,ds,F,M,hb,hd⟩:=D.ex;exact zC M F (hr.mono hk) hg D.bound hb hd hp ha hdb he hpl
theorem TN{p':Pos}(D:zj X.prog X.w X.K X.mg X.base x m j ps sp)(hp:D4 (CXe X.prog X.w) X EX)(hr:Room k X.A)(hg:Gl X x)(ha:PA X (e::es) t)(hk:j<=k:=by decide)(hdb:(x==("__debug__":Str))=false:=by decide)
   (hst:wo (e::es) X.env=(false,xk e X.env)::wo es X.env:=by rfl) (hpl:(wz pos (wo es X.env)).any (·.1)=false:=by rfl)
   (ht:xk (.Call (.Attribute (.Name x p') m apos) (e::es) [] pos) X.env=(do
     let ov <-xk (.Name x p') X.env
     standAt apos.atName
     let (f,first) <-holding [ov] (getMethod ov m pl)
     xi pos f first (wz pos (wo (e::es) X.env)) (backToKw pos (keywordEach [] X.env))):=by rfl):PE X (.Call (.Attribute (.Name x p') m apos) (e::es) [] pos) (Ma sp [] EX t):=by
 obtain⟨C,f,fd,F,M,hb,hm⟩:=D.ex;intro ϊ s σ H Q I h;refine methodCall_KW (pl:=pl) (Ep I hg hm ?_ hdb) ht;refine PySem.W.method_cls I.kIn M.sp (PySem.W.cls_value I.kIn M.rd M.fc rfl ?_);have I':=I.tok (s.toks+1);refine callWith_K (h₀:=X.base) I.ok.mod.kin M.kp (thn (ha pos ϊ _ σ H _ I' h) λus s1 ⟨vs,H1,I1,r,q⟩=>#[I1.kIn,?_]) hst hpl;exact Mb F (hr.mono hk) hb .nil hp I1 r q
end
section
variable {K:δ}{σ:L2.St}{H:Hp}{Q:VK}{D:Ends}
theorem r_fld{f:Str}(h:ta σ H λx H1=>∃a C dx fs v,x = .ref a/\H1 a=some (.ins C dx fs)/\Cls K C/\B1 K C f/\fs.lookup f=some v/\Q v H1):tFld K ta f σ H Q:=h
theorem r_at{dx:wa}{fs:List (Str×V)}{f:Str}{P:V->Prop}(h:H a=some (.ins C dx fs))(c:Cls K C)(n:B1 K C f)(l:fs.lookup f=some v)(q:P v):
   ∃a' C' dx' fs' v',V.ref a=V.ref a'/\H a'=some (.ins C' dx' fs')/\Cls K C'/\B1 K C' f/\fs'.lookup f=some v'/\P v':=#[a,C,dx,fs,v,rfl,h,c,n,l,q]
theorem r_sfld{f:Str}{tv:TE}(h:tv σ H λy H1=>ta σ H1 λx H2=>∃a C dx fs,x = .ref a/\H2 a=some (.ins C dx fs)/\Cls K C/\B1 K C f/\fs.length<1000/\D.nx σ (upd H2 a (.ins C dx (yT f y fs)))):sFld K ta tv f D σ H:=h
end
section
variable {X:Cx}
end
section
variable {a x:Option V}{v:V}{l r:L2.St}{k:Nat}{n:Str}{ns:List Str}{vs:List V}
theorem set0_c:(a::l).set 0 x=x::l:=rfl
theorem mV:L2.start (n::ns) (v::vs)=some v::L2.start ns vs:=by
 unfold L2.start;rw[Ψ,Ψ,Nat.add_sub_add_right];rfl
theorem set0_0:(L2.start (n::ns) []).set 0 x=x::L2.start ns []:=rfl
theorem setS_c(h:l.set k x=r):(a::l).set (k+1) x=a::r:=h▸rfl
theorem setS_1(h:(L2.start ns vs).set k x=r):(L2.start (n::ns) (v::vs)).set (k+1) x=some v::r:=by
 rw[mV,<-h];rfl
theorem r_gnameN{σ':L2.St}(e:σ.set i (some v)=σ')(h:R σ' H):HB i v σ H R:=by
 subst e;exact h
end
def yR(ns:List Int)(l u:Option Int):List Int:=(ns.drop (HT.sIx ns.length 0 l)).take (HT.sIx ns.length ns.length u-HT.sIx ns.length 0 l)
theorem mW(ns:List Int)(l u:Option Int):zn (ns.map V.int) l u=(yR ns l u).map V.int:=by
 unfold zn yR;rw[List.map_take,List.map_drop,Φ]
theorem TQ(ns:List Int)(l u:Option Int):(yR ns l u).length<=ns.length:=by
 unfold yR;rw[bx,cg];lia
section
variable {K:δ}{σ:L2.St}{H:Hp}{D:Ends}{Q:VK}
theorem r_sllG(h:SqL K H a (ns.map V.int))(q:∀p H',H p=none->Same H H'->H' p=some (.lst ((yR ns lo hi).map V.int))->Q (.ref p) H'):rSlL K (.ref a) lo hi H Q:=
 #[a,_,rfl,h,λp hp=>by rw[mW];exact q p _ hp (Same.new hp) xb5]
theorem r_catG{l b:wa}{xs zs:List Int}(h:H l=some (.lst (xs.map V.int)))(h2:H b=some (.lst (zs.map V.int)))(hz:xs.length+zs.length<=4000)(q:∀p H',H p=none->Same H H'->H' p=some (.lst ((xs++zs).map V.int))->Q (.ref p) H'):rCat (.ref l) (.ref b) H Q:=
 #[l,b,_,_,rfl,rfl,h,h2,by rw[Φ,Φ];exact gh (small4000 hz),λp hp=>by rw[<-ay];exact q p _ hp (Same.new hp) xb5]
theorem TR(ns:List Int)(l u:Nat):(yR ns (some l) (some u)).length<=u-l:=by
 unfold yR;rw[bx];have e1:=HT.sIx_nat ns.length ns.length u;have e2:=HT.sIx_nat ns.length 0 l;rw[e1,e2,cg];lia
theorem r_isSeq{t u:TS}(h:zB t u D σ H):zB t u D σ H:=h
theorem r_isAnd(h:QD ta tb σ H Q):QD ta tb σ H Q:=h
theorem r_isOr(h:ue0 ta tb σ H Q):ue0 ta tb σ H Q:=h
end
section
variable {K:δ}{σ:L2.St}{H:Hp}{Q:VK}
theorem r_gtup{xs:List V}{n:Nat}{t:TGs}(h:H a=some (.tup xs))(hl:xs.length=n)(q:t xs σ H R):gTup K n t (.ref a) σ H R:=#[a,xs,rfl,SqT.of h,hl,q]
theorem r_gcons{r:List V}{t:TG}{u:TGs}(h:t v σ H λσ' H'=>u r σ' H' R):uc0 t u (v::r) σ H R:=#[v,r,rfl,h]
theorem r_gnil(h:R σ H):gNil [] σ H R:=#[rfl,h]
theorem K7{xs:List V}(h:SqL K H p (xs++[v]))(q:Q v H):M_ K (.ref p) (.int (-1)) H Q:=Bh h (lE xs v) q
theorem mX{xs:List V}{w:V}{R:Hp->Prop}(h:H p=some (.lst (xs++[v])))(q:R (upd H p (.lst (xs++[w])))):Tp (.ref p) (.int (-1)) w H R:=by
 refine#[p,_,-1,xs.length,rfl,rfl,h,?_,?_];unfold ixN;rw[xb2 m!"",Δ,Ω,xb1 ∅]
 congr 1
 lia;rw[oj _ _ (Γ _),gp];exact q
end
def fpl(a b:Int):Int:=a+(b-1-a%b)
def fp(a n L b:Int):Option Int:=if fpl a b+L<=a+n then some (fpl a b) else none
theorem uc3{a b:Int}(hb:1<=b):a<=fpl a b:=by
 unfold fpl;have:=bg a (show 0<b by lia);lia
theorem mY{a b:Int}(hb:1<=b):(fpl a b+1)%b=0:=by
 unfold fpl;have e:=ol a b;have:a+(b-1-a%b)+1=b*(a/b+1):=by rw[dy,uz];lia
 rw[this];exact ll _ _
def AJ(H:Hp)(us:List V)(ps:List Pc):Prop:=us.length=ps.length/\∀(i:Nat)(p:Pc),ps[i]?=some p->∃a,us[i]?=some (.ref a)/\H a=some (.tup [.int p.a,.int p.l,.bl p.v])
theorem AJ.nil:AJ H [] []:=#[rfl,λi p h=>by simp at h]
theorem AJ.mono(h:AJ H us ps)(k:∀b xs,H b=some (.tup xs)->H' b=some (.tup xs)):AJ H' us ps:=
 #[h.1,λi p e=>let ⟨a,h1,h2⟩:=h.2 i p e;#[a,h1,k _ _ h2]]
theorem AJ.same(h:AJ H us ps)(k:Same H H'):AJ H' us ps:=h.mono λb xs e=>k b _ e
theorem AJ.snoc{p:Pc}(h:AJ H us ps)(ha:H a=some (.tup [.int p.a,.int p.l,.bl p.v])):AJ H (us++[.ref a]) (ps++[p]):=by
 refine#[by simp [h.1],λi q e=>?_];have hl:=h.1;by_cases hi:i<ps.length;rw[ψ hi] at e;obtain⟨b,h1,h2⟩:=h.2 i q e;exact#[b,by rw[ψ ∅];exact h1,h2];have hlt:i<(ps++[p]).length:=(γ.mp e).1;have hi2:i=ps.length:=by simp at hlt;lia
 subst hi2;rw[θ (Γ _)] at e;have e':p=q:=by simpa using e
 subst e';exact#[a,by rw[<-hl,θ (Γ _)];simp,ha]
theorem DV(hp:H p=none\/∃xs,H p=some (.lst xs)):∀b xs,H b=some (.tup xs)->upd H p o b=some (.tup xs):=λb xs e=>by
 have hne:b≠p:=λz=>by
   subst z;rcases hp with h | ⟨ys,h⟩
   rw[h] at e;cases e;rw[h] at e;cases e
 rw[AE hne];exact e
theorem AJ.push{t:wa}(h:AJ H us ps)(hp:H p=some (.lst us))(ht:H t=none):
   upd (upd H t (.tup [.int z.a,.int z.l,.bl z.v])) p (.lst (us++[.ref t])) p=some (.lst (us++[.ref t])) /\
   AJ (upd (upd H t (.tup [.int z.a,.int z.l,.bl z.v])) p (.lst (us++[.ref t]))) (us++[.ref t]) (ps++[z]):=by
 have hpt:p≠t:=BW hp ht;have hp2:upd H t (.tup [.int z.a,.int z.l,.bl z.v]) p=some (.lst us):=by rw[AE hpt];exact hp
 refine#[xb5,?_];refine AJ.snoc ?_ ?_;exact(h.mono (DV (.inl ht))).mono (DV (.inr #[_,hp2]));exact DV (.inr #[_,hp2]) _ _ xb5
def Cr(H:Hp)(us:List V)(xs:List (List V)):Prop:=us.length=xs.length/\∀(i:Nat)(x:List V),xs[i]?=some x->∃a,us[i]?=some (.ref a)/\H a=some (.tup x)
theorem Cr.nil:Cr H [] []:=#[rfl,λi p h=>by simp at h]
theorem Cr.mono{xs:List (List V)}(h:Cr H us xs)(k:∀b ys,H b=some (.tup ys)->H' b=some (.tup ys)):Cr H' us xs:=
 #[h.1,λi p e=>let ⟨a,h1,h2⟩:=h.2 i p e;#[a,h1,k _ _ h2]]
theorem Cr.push{xs:List (List V)}{t:wa}{z:List V}(h:Cr H us xs)(hp:H p=some (.lst us))(ht:H t=none):
   Cr (upd (upd H t (.tup z)) p (.lst (us++[.ref t]))) (us++[.ref t]) (xs++[z]):=by
 have hpt:p≠t:=BW hp ht;have hp2:upd H t (.tup z) p=some (.lst us):=by rw[AE hpt];exact hp
 have h2:=(h.mono (DV (o:=.tup z) (.inl ht))).mono (DV (o:=.lst (us++[.ref t])) (.inr #[_,hp2]));have hz:upd (upd H t (.tup z)) p (.lst (us++[.ref t])) t=some (.tup z):=DV (.inr #[_,hp2]) _ _ xb5;refine#[by simp [h.1],λi q e=>?_];have hl:=h.1;by_cases hi:i<xs.length;rw[ψ hi] at e;obtain⟨b,h1,h3⟩:=h2.2 i q e;exact#[b,by rw[ψ ∅];exact h1,h3];have hlt:i<(xs++[z]).length:=(γ.mp e).1;have hi2:i=xs.length:=by simp at hlt;lia
 subst hi2;rw[θ (Γ _)] at e;have e':z=q:=by simpa using e
 subst e';exact#[t,by rw[<-hl,θ (Γ _)];simp,hz]
@[reducible] def ue2:Option Int->V
 | none=>.non
 | some b=>.int b
def TU:Sp:=λvs H Q _=>∃n:Int,vs=[.int n]/\Q (.int (n/2)) H
def TV:Sp:=λvs H Q _=>∃n:Int,vs=[.int n]/\Q (.bl (decide (n%2=1))) H
def TW(K:δ):Sp:=λvs H Q _=>∃(a:wa)(ns:List Int)(k:Int),vs=[.ref a,.int k]/\SqL K H a (ns.map V.int)/\0<=k/\k<ns.length/\Q (.bl (CL ns k)) H
def TY(K:δ):Sp:=λvs H Q _=>∃(a:wa)(ns:List Int)(k:Int),vs=[.ref a,.int k]/\SqL K H a (ns.map V.int)/\0<=k/\k<ns.length/\Q (ue2 (BZ ns k)) H
abbrev xJ(K:δ)(C:wa)(a:wa)(ns:List Int)(H:Hp)(Q:VK)(E:XK):Prop:=(∀b,(Bt ns 0).2=some b->∀(dx:wa)(H':Hp),Same H H'->H' dx=some (.xd [("cell",.int b)])->E (.ref C) (some dx) H') /\ ((Bt ns 0).2=none->∀(p:wa)(us:List V)(H':Hp),H p=none->Same H H'->H' p=some (.lst us)->AJ H' us (Bt ns 0).1->Q (.ref p) H')
def bA(K:δ)(C:wa):Sp:=λvs H Q E=>∃(a:wa)(ns:List Int),vs=[.ref a]/\SqL K H a (ns.map V.int)/\ns.length<=4000/\xJ K C a ns H Q E
def TZ(K:δ):Sp:=λvs H Q _=>∃(a:wa)(ns:List Int)(k:Int),vs=[.ref a,.int k]/\SqL K H a (ns.map V.int)/\0<=k/\Q (.int (ns.getD k.toNat 0)) H
def T0:Sp:=λvs H Q _=>∃n:Int,vs=[.int n]/\Q (.bl true) H
def QR(K:δ):Sp:=λvs H Q _=>∃(a:wa)(ns:List Int),vs=[.ref a]/\SqL K H a (ns.map V.int)/\ns.length<=63/\∀H',Q (.bl true) H'
section
variable {K:δ}{H:Hp}{Q:VK}{E:XK}
theorem i_long(q:Q (.int (n/2)) H):TU [.int n] H Q E:=#[n,rfl,q]
theorem i_live(q:Q (.bl (decide (n%2=1))) H):TV [.int n] H Q E:=#[n,rfl,q]
theorem i_can(h:SqL K H a (ns.map V.int))(h0:0<=k)(h1:k<ns.length)(q:Q (.bl (CL ns k)) H):TW K [.ref a,.int k] H Q E:=#[a,ns,k,rfl,h,h0,h1,q]
theorem i_bad(h:SqL K H a (ns.map V.int))(h0:0<=k)(h1:k<ns.length)(q:Q (ue2 (BZ ns k)) H):TY K [.ref a,.int k] H Q E:=#[a,ns,k,rfl,h,h0,h1,q]
theorem i_cell(h:SqL K H a (ns.map V.int))(h0:0<=k)(q:Q (.int (ns.getD k.toNat 0)) H):TZ K [.ref a,.int k] H Q E:=#[a,ns,k,rfl,h,h0,q]
theorem i_whole(q:Q (.bl true) H):T0 [.int n] H Q E:=#[n,rfl,q]
theorem mZ(n:Int):decide (Builtin.bitAnd n 1=1)=decide (n%2=1):=by rw[<-lW,decV]
end
def AS(cs:List Int)(k l:Int)(v:Bool):List Int:=(cs.set k.toNat (l*2+if v then 1 else 0)).set (k+l-1).toNat (l*2+if v then 1 else 0)
theorem B3(cs:List Int)(k l:Int)(v:Bool):(AS cs k l v).length=cs.length:=by
 unfold AS;rw[ax,ax]
theorem Di{v:Bool}(h0:0<=k)(h1:1<=l)(h:(j:Int)<k\/k+l<=j):(AS cs k l v)[j]?=cs[j]?:=by
 unfold AS;rw[ag ∅,ag ∅]
theorem bB{v:Bool}(h0:0<=k)(h1:1<=l)(h:k+l<=cs.length):(AS cs k l v)[k.toNat]?=some (yQ l v):=by
 unfold AS yQ;by_cases e:(k+l-1).toNat=k.toNat;rw[e,ai (by rw[ax];lia)];rw[ag e,ai ∅]
theorem bC{v:Bool}(h0:0<=k)(h1:1<=l)(h:k+l<=cs.length):(AS cs k l v)[(k+l-1).toNat]?=some (yQ l v):=by
 unfold AS yQ;rw[ai (by rw[ax];lia)]
def Cs(ds:List Pc)(k:Int):Prop:=∀p∈ds,0<=p.a/\1<=p.l/\p.a+p.l<=k
def Et(rs:List Pc)(e:Int):Prop:=∀p∈rs,e<=p.a/\1<=p.l
theorem Am.endBy(h:Am s ds e)(h0:0<=s):Cs ds e:=λp hp=>by
 obtain⟨h1,h2,_,h3⟩:=h.mem p hp;lia
theorem Am.fromOn(h:Am s ds e):Et ds s:=λp hp=>by
 obtain⟨h1,h2,_,_⟩:=h.mem p hp;lia
theorem Cs.mono{k':Int}(h:Cs ds k)(e:k<=k'):Cs ds k':=λp hp=>by have:=h p hp;lia
theorem Cs.app{es:List Pc}(h:Cs ds k)(g:Cs es k):Cs (ds++es) k:=λp hp=>(ν.mp hp).elim (h p) (g p)
theorem At.sub{qs:List Pc}(m:At cs ps)(h:∀p∈qs,p∈ps):At cs qs:=λp hp=>m p (h p hp)
theorem At.lay{rs:List Pc}{v:Bool}(h0:0<=k)(h1:1<=l)(hl:k+l<=cs.length)(hd:Cs ds k)(hr:Et rs (k+l))(m:At cs (ds++rs)):
   At (AS cs k l v) (ds++#[k,l,v]::rs):=by
 intro p hp;rcases ν.mp hp with h | h
 obtain⟨a0,a1,a2⟩:=hd p h;obtain⟨m1,m2⟩:=m p (π _ h);exact#[by rw[Di h0 h1 ∅];exact m1,by rw[Di h0 h1 ∅];exact m2];rcases Ξ.mp h with h | h
 subst h;exact#[bB h0 h1 hl,bC h0 h1 hl];obtain⟨a0,a1⟩:=hr p h;obtain⟨m1,m2⟩:=m p (ε _ h);exact#[by rw[Di h0 h1 ∅];exact m1,by rw[Di h0 h1 ∅];exact m2]
def lfI(cs:List Int)(b e:Int):List Int:=if b=e then cs else AS cs b (e-b) false
def fr(b e:Int):List Pc:=if b=e then [] else [#[b,e-b,false]]
theorem Dj(cs:List Int)(b e:Int):(lfI cs b e).length=cs.length:=by
 unfold lfI
 split
 rfl;exact B3 _ _ _ _
theorem QS{b:Int}(h0:0<=b)(h1:b<=e)(h:(j:Int)<b\/e<=j):(lfI cs b e)[j]?=cs[j]?:=by
 unfold lfI
 split
 rfl;exact Di h0 ∅ ∅
theorem HK{b:Int}(h:b<=e):Am b (fr b e) e:=by
 unfold fr
 split
 assumption;exact#[rfl,(by show 1<=e-b;lia),(λz=>by cases z),(by show b+(e-b)=e;lia)]
theorem At.layF{rs:List Pc}{b:Int}(h0:0<=b)(h1:b<=e)(hl:e<=cs.length)(hd:Cs ds b)(hr:Et rs e)(m:At cs (ds++rs)):At (lfI cs b e) (ds++(fr b e++rs)):=by
 unfold lfI fr
 split
 exact m;exact At.lay h0 ∅ ∅ hd (by rw[show b+(e-b)=e by lia];exact hr) m
def zd(cs:List Int)(a l s L:Int):List Int:=lfI (AS (lfI cs a s) s L true) (s+L) (a+l)
theorem QT(cs:List Int)(a l s L:Int):(zd cs a l s L).length=cs.length:=by
 unfold zd;rw[Dj,B3,Dj]
def zq(ds rs:List Pc)(a l s L:Int):List Pc:=ds++(fr a s++(#[s,L,true]::(fr (s+L) (a+l)++rs)))
theorem bD{rs:List Pc}{L:Int}(h0:0<=z.a)(hL:1<=L)(h1:z.a<=s)(h2:s+L<=z.a+z.l)(hl:z.a+z.l<=cs.length)(hd:Cs ds z.a)(hr:Et rs (z.a+z.l))(m:At cs (ds++z::rs)):
   At (zd cs z.a z.l s L) (zq ds rs z.a z.l s L):=by
 have m0:At cs (ds++rs):=m.sub λp hp=>by
   rcases ν.mp hp with h | h
   exact π _ h;exact ε _ (ι _ h)
 have m1:=At.layF h0 h1 ∅ hd (λp hp=>by have:=hr p hp;lia) m0;have d1:Cs (ds++fr z.a s) s:=(hd.mono h1).app ((HK h1).endBy h0);have m2:At (AS (lfI cs z.a s) s L true) ((ds++fr z.a s)++#[s,L,true]::rs):=
   At.lay ∅ hL (by rw[Dj];lia) d1 (λp hp=>by have:=hr p hp;lia) (by rw[am];exact m1)
 have d2:Cs ((ds++fr z.a s)++[#[s,L,true]]) (s+L):=(d1.mono ∅).app λp hp=>by
   have:p=#[s,L,true]:=by simpa using hp
   subst this;exact#[by show 0<=s;lia,hL,ar _]
 have m3:=At.layF (cs:=AS (lfI cs z.a s) s L true) (b:=s+L) (e:=z.a+z.l) ∅ h2 (by rw[B3,Dj];lia) d2 hr (by rw[am];exact m2);unfold zd zq;simpa only [am,oq,mj,dk] using m3
theorem nA{rs:List Pc}{a L:Int}(hL:3<=L)(h1:a<=s)(h2:s+L<=a+l)(hd:Am 0 ds a)(hr:Am (a+l) rs n):Am 0 (zq ds rs a l s L) n:=
 hd.app ((HK h1).app #[rfl,(by show 1<=L;lia),(λ_=>hL),(HK h2).app hr])
theorem nB{a L:Int}(h0:0<=a)(hL:1<=L)(h1:a<=s)(h2:s+L<=a+l)(h:(j:Int)<a\/a+l<=j):(zd cs a l s L)[j]?=cs[j]?:=by
 unfold zd;rw[QS ∅ h2 ∅,Di ∅ hL ∅,QS h0 h1 ∅]
theorem CW:∀{ps:List Pc}{s e:Int}{i:Nat}{z:Pc},Am s ps e->ps[i]?=some z->∃ds rs,ps=ds++z::rs/\ds.length=i/\Am s ds z.a/\Am (z.a+z.l) rs e
 | [],s,e,i,z,_,h=>by simp at h
 | p::r,s,e,0,z,c,h=>by
   have e1:p=z:=by simpa using h
   subst e1;obtain⟨h0,h1,h2,h3⟩:=c;exact#[[],r,rfl,rfl,h0.symm,by rw[h0];exact h3]
 | p::r,s,e,i+1,z,c,h=>by
   obtain⟨h0,h1,h2,h3⟩:=c;obtain⟨ds,rs,e1,e2,c1,c2⟩:=CW h3 (show r[i]?=some z by simpa using h);exact#[p::ds,rs,by rw[e1];rfl,by rw[Ψ,e2],#[h0,h1,h2,c1],c2]
theorem ED(c:Am s ps e)(h:ps[i]?=some z)(h':ps[i+1]?=some y):y.a=z.a+z.l:=by
 obtain⟨ds,rs,rfl,rfl,_,c2⟩:=CW c h;rw[θ ∅] at h';rw[show ds.length+1-ds.length=1 by lia] at h';cases rs with
 | nil=>simp at h'
 | cons p r=>
   have:p=y:=by simpa using h'
   subst this;exact c2.1
theorem nE(c:Am s ps e)(h:ps[i]?=some z)(h':ps.length=i+1):z.a+z.l=e:=by
 obtain⟨ds,rs,rfl,rfl,_,c2⟩:=CW c h;rw[Δ,Ψ] at h';have:rs=[]:=fg.mp ∅;subst this;exact c2
theorem nF(c:Am s ps e)(h:ps[0]?=some z):z.a=s:=by
 cases ps with
 | nil=>simp at h
 | cons p r=>
   have:p=z:=by simpa using h
   subst this;exact c.1
theorem T3(c:Am s ps e)(h:ps[i]?=some z):s+i<=z.a:=by
 obtain⟨ds,rs,rfl,rfl,c1,_⟩:=CW c h;exact c1.le
theorem nG:∀{b e:Int},Am b ps e->∀(i j:Nat)(y z:Pc),ps[i]?=some y->ps[j]?=some z->y.a=z.a->y=z:=by
 induction ps with
 | nil=>intro b e _ i j y z hi;simp at hi
 | cons p r ih=>
   intro b e h i j y z hi hj ha;obtain⟨e1,h1,h3,c⟩:=h;have up:∀(i:Nat)(y:Pc),r[i]?=some y->y.a>p.a:=λi y hy=>by
     have:=(c.mem y (ζ hy)).1;lia
   cases i with
   | zero=>
     cases j with
     | zero=>simp at hi hj;rw[<-hi,<-hj]
     | succ j=>
       have e2:p=y:=by simpa using hi
       have:=up j z (by simpa using hj);subst e2;lia
   | succ i=>
     cases j with
     | zero=>
       have e2:p=z:=by simpa using hj
       have:=up i y (by simpa using hi);subst e2;lia
     | succ j=>exact ih c i j y z (by simpa using hi) (by simpa using hj) ha
def yP(ps:List Pc)(i:Nat)(z:Pc):Int:=match i with
 | 0=>z.a
 | j+1=>match ps[j]? with
   | some y=>if y.v=true then z.a else y.a
   | none=>z.a
def yH(ps:List Pc)(i:Nat)(z:Pc):Int:=match ps[i+1]? with
 | some y=>if y.v=true then z.a+z.l else y.a+y.l
 | none=>z.a+z.l
theorem nJ(c:Am s ps e)(m:At cs ps)(h:ps[j]?=some y)(h':ps[j+1]?=some z):cs.getD (z.a-1).toNat 0=y.mk':=by
 have e:=ED c h h';obtain⟨_,m2⟩:=m y (ζ h);rw[ao,show z.a-1=y.a+y.l-1 by lia,m2];rfl
theorem nK(c:Am s ps e)(m:At cs ps)(h:ps[j]?=some y)(h':ps[j+1]?=some z):cs.getD (y.a+y.l).toNat 0=z.mk':=by
 have e:=ED c h h';obtain⟨m1,_⟩:=m z (ζ h');rw[ao,<-e,m1];rfl
set_option tactic.hygienic true in
theorem bE(c:Am s ps e)(h:ps[i]?=some z):s<=yP ps i z/\yP ps i z<=z.a:=by
 have hz:=T3 c h;unfold yP
 split
 lia;rename_i j
 split
 rename_i y hy;have hy':=T3 c hy;have e1:=ED c hy h;have:=c.mem y (ζ hy)
 split <;> lia
 lia
set_option tactic.hygienic true in
theorem T4(c:Am s ps e)(h:ps[i]?=some z):z.a+z.l<=yH ps i z/\yH ps i z<=e:=by
 have hz:=c.mem z (ζ h);unfold yH
 split
 rename_i y hy;have e1:=ED c h hy;have:=c.mem y (ζ hy)
 split <;> lia
 lia
theorem nL{a b:Int}(hb:1<=b): -(a+1)%b=b-1-a%b:=by
 have e:=ol a b;have h0:=br a (show b≠0 by lia);have h1:=bg a (show 0<b by lia);have eq : -(a+1)=(b-1-a%b)+b*(-(a/b)-1):=by
   rw[va,Int.mul_neg];lia
 rw[eq,lq,qx ∅ ∅]
theorem CY(c:Am s ps e)(hy:y∈ps)(hz:z∈ps)(h:y.a=z.a):y=z:=by
 obtain⟨i,hi⟩:=aj hy;obtain⟨j,hj⟩:=aj hz;exact nG c i j y z hi hj h
theorem QU(h:ps[j]?=some y)(hv:y.v=true):yP ps (j+1) z=z.a:=by
 unfold yP;simp only [h];exact xb1 hv
theorem QW(h:ps[j]?=some y)(hv:y.v=false):yP ps (j+1) z=y.a:=by
 unfold yP;simp only [h];exact xb2 (by rw[hv];exact ξ)
theorem QX(h:ps[j+1]?=some y)(hv:y.v=true):yH ps j z=z.a+z.l:=by
 unfold yH;rw[h];exact xb1 hv
theorem QY(h:ps[j+1]?=some y)(hv:y.v=false):yH ps j z=y.a+y.l:=by
 unfold yH;rw[h];exact xb2 (by rw[hv];exact ξ)
theorem T5(h:ps[j+1]?=none):yH ps j z=z.a+z.l:=by
 unfold yH;rw[h]
theorem K8(c:Am s ps e)(hi:ps[i]?=some y)(hj:ps[j]?=some z)(h:y.a=z.a):i=j:=by
 rcases jy i j with g | g | g
 exfalso;obtain⟨ds,rs,e1,e2,c1,c2⟩:=CW c hi;subst e1 e2;rw[θ ∅] at hj;cases k:j-ds.length with
 | zero=>lia
 | succ n=>
   rw[k] at hj;have hm:z∈rs:=ζ (show rs[n]?=some z from hj);have:=(c2.mem z hm).1;have:=(c.mem y (ε _ η)).2.1;lia
 exact g;exfalso;obtain⟨ds,rs,e1,e2,c1,c2⟩:=CW c hj;subst e1 e2;rw[θ ∅] at hi;cases k:i-ds.length with
 | zero=>lia
 | succ n=>
   rw[k] at hi;have hm:y∈rs:=ζ (show rs[n]?=some y from hi);have:=(c2.mem y hm).1;have:=(c.mem z (ε _ η)).2.1;lia
def BD(acc:List Pc)(z:Pc):List Pc:=match acc.getLast? with
 | some y=>if z.v=false/\y.v=false then acc.dropLast++[#[y.a,y.l+z.l,false]] else acc++[z]
 | none=>acc++[z]
def BE(ps:List Pc):List Pc:=ps.foldl BD []
theorem nM(z:Pc):BD [] z=[z]:=rfl
theorem G6(h:z.v=true):BD acc z=acc++[z]:=by
 unfold BD
 split
 rw[xb2 (by rw[h];simp)];rfl
theorem G7(h:y.v=true):BD (D++[y]) z=D++[y]++[z]:=by
 unfold BD;rw[jj];simp only;rw[xb2 (by rw[h];simp)]
theorem HL(h:y.v=false)(hz:z.v=false):BD (D++[y]) z=D++[#[y.a,y.l+z.l,false]]:=by
 unfold BD;rw[jj];simp only;rw[xb1 #[hz,h],pe]
theorem QZ(h:ps[i]?=some z):BE (ps.take (i+1))=BD (BE (ps.take i)) z:=by
 unfold BE;rw[bj,h,jz];rfl
theorem D5(l:List Pc):l=[]\/∃D y,l=D++[y]:=by
 rcases ot l with h | ⟨D,y,h⟩
 exact .inl h;exact .inr #[D,y,by rw[h,List.concat_eq_append]]
theorem Am.unsnoc(c:Am s (D++[y]) e):Am s D y.a/\1<=y.l/\(y.v=true->3<=y.l)/\y.a+y.l=e:=by
 obtain⟨ds,rs,e1,e2,c1,c2⟩:=CW (i:=D.length) (z:=y) c (by rw[θ (Γ _),gp];rfl);have hl:=congrArg lz e1;rw[Δ,Δ,Ω,Ψ] at hl;have er:rs=[]:=fg.mp ∅;subst er;have:=(rq e1 ∅).1;subst this;obtain⟨h1,h2,h3,_⟩:=c.mem y (ε _ η);exact#[c1,h2,h3,c2]
theorem nN(c:Am s acc z.a)(h1:1<=z.l)(h3:z.v=true->3<=z.l):Am s (BD acc z) (z.a+z.l):=by
 rcases D5 acc with h | ⟨D,y,h⟩
 subst h;exact Am.snoc c h1 h3;subst h;cases hy:y.v with
 | true=>rw[G7 hy];exact Am.snoc c h1 h3
 | false=>
   cases hz:z.v with
   | true=>rw[G6 hz];exact Am.snoc c h1 h3
   | false=>
     rw[HL hy hz];obtain⟨c1,y1,_,y2⟩:=c.unsnoc;have:=Am.snoc (p:=#[y.a,y.l+z.l,false]) c1 (by show 1<=y.l+z.l;lia) (λw=>by cases w)
     rwa [show (#[y.a,y.l+z.l,false]:Pc).a+(#[y.a,y.l+z.l,false]:Pc).l=z.a+z.l by show y.a+(y.l+z.l)=z.a+z.l;lia] at this
theorem bG:∀{ps acc:List Pc}{s m e:Int},Am s acc m->Am m ps e->Am s (ps.foldl BD acc) e
 | [],acc,s,m,e,c,d=>by have d:m=e:=d;subst d;exact c
 | p::r,acc,s,m,e,c,d=>by
   obtain⟨h0,h1,h2,h3⟩:=d;show Am s (r.foldl BD (BD acc p)) e;refine bG (m:=p.a+p.l) (nN (by rw[h0];exact c) h1 h2) (by rw[h0];exact h3)
theorem bH(c:Am s ps e):Am s (BE ps) e:=bG (acc:=[]) rfl c
def CZ(cs:List Int)(ps:List Pc):List Int:=ps.foldl (λc z=>AS c z.a z.l z.v) cs
theorem nO(cs:List Int)(ds:List Pc)(z:Pc):CZ cs (ds++[z])=AS (CZ cs ds) z.a z.l z.v:=by
 unfold CZ;rw[jz];rfl
theorem nP(h:ps[i]?=some z):CZ cs (ps.take (i+1))=AS (CZ cs (ps.take i)) z.a z.l z.v:=by
 rw[bj,h];exact nO _ _ _
theorem T6:∀(ps:List Pc)(cs:List Int),(CZ cs ps).length=cs.length
 | [],cs=>rfl
 | p::r,cs=>by
   show (CZ (AS cs p.a p.l p.v) r).length=cs.length;rw[T6 r,B3]
theorem bI:∀{rs ds:List Pc}{cs:List Int}{m:Int},Am 0 ds m->Am m rs cs.length->At cs ds->At (CZ cs rs) (ds++rs)
 | [],ds,cs,m,_,_,k=>by rw[aq];exact k
 | p::r,ds,cs,m,c,d,k=>by
   obtain⟨e0,h1,h2,h3⟩:=d;have l0:=c.le;have l1:=h3.le;have:=bI (rs:=r) (ds:=ds++[p]) (cs:=AS cs p.a p.l p.v) (m:=p.a+p.l) (Am.snoc (by rw[e0];exact c) h1 h2) (by rw[B3,e0];exact h3)
     (At.lay (rs:=[]) ∅ h1 ∅ (by rw[e0];exact c.endBy (ar 0)) (λp hp=>by cases hp) (by rw[aq];exact k))
   rw[am,oq] at this;exact this
theorem bJ(ps:List Pc):∀i,i<=ps.length->(BE (ps.take i)).length<=i
 | 0,_=>by simp [BE]
 | i+1,h=>by
   have ih:=bJ ps i ∅;have e:ps[i]?=some ps[i]:=by simp [show i<ps.length by lia]
   rw[QZ e];generalize BE (ps.take i)=acc at ih;generalize ps[i]=z;rcases D5 acc with e | ⟨D,w,e⟩
   subst e;simp [nM];subst e;rw[Δ,Ω] at ih;cases hw:w.v with
   | true=>rw[G7 hw];simp;lia
   | false=>
     cases hz:z.v with
     | true=>rw[G6 hz];simp;lia
     | false=>rw[HL hw hz];simp;lia
def AK(ps:List Pc):Prop:=∀j y z,ps[j]?=some y->ps[j+1]?=some z->y.v=true\/z.v=true
theorem AK.snoc{w:Pc}(h:AK (D++[w]))(hv:w.v=true\/z.v=true):AK (D++[w]++[z]):=by
 intro j y x hy hx;have hl:j+1<(D++[w]++[z]).length:=(γ.mp hx).1;rw[Δ,Ω] at hl;rw[ψ ∅] at hy;by_cases e:j+1<(D++[w]).length;rw[ψ e] at hx;exact h j y x hy hx;rw[Δ,Ω] at e hl;rw[θ (by rw[Δ,Ω];lia),show j+1-(D++[w]).length=0 by rw[Δ,Ω];lia] at hx;rw[show j=D.length by lia,θ (Γ _),gp] at hy;have e1:w=y:=by simpa using hy
 have e2:z=x:=by simpa using hx
 rw[<-e1,<-e2];exact hv
theorem AK.last{w u:Pc}(h:AK (D++[w]))(hv:u.v=w.v):AK (D++[u]):=by
 intro j y x hy hx;have hl:j+1<(D++[u]).length:=(γ.mp hx).1;rw[Δ,Ω] at hl;rw[ψ ∅] at hy;by_cases e:j+1<D.length;rw[ψ e] at hx;exact h j y x (by rw[ψ ∅];exact hy) (by rw[ψ e];exact hx);rw[θ ∅,show j+1-D.length=0 by lia] at hx;have e2:u=x:=by simpa using hx
 have:=h j y w (by rw[ψ ∅];exact hy) (by rw[θ ∅,show j+1-D.length=0 by lia];rfl);rw[<-e2,hv];exact this
theorem nQ(h:AK acc):AK (BD acc z):=by
 rcases D5 acc with e | ⟨D,w,e⟩
 subst e;intro j y x _ hx;have:j+1<[z].length:=(γ.mp hx).1;simp at this;subst e;cases hw:w.v with
 | true=>rw[G7 hw];exact h.snoc (.inl hw)
 | false=>
   cases hz:z.v with
   | true=>rw[G6 hz];exact h.snoc (.inr hz)
   | false=>rw[HL hw hz];exact h.last hw.symm
theorem bK:∀(ps acc:List Pc),AK acc->AK (ps.foldl BD acc)
 | [],_,h=>h
 | p::r,acc,h=>bK r (BD acc p) (nQ h)
theorem nR(ps:List Pc):AK (BE ps):=bK ps [] λj y x hy _=>by simp at hy
theorem bL{ps:List Pc}(h:AK ps):∀i,i<=ps.length->BE (ps.take i)=ps.take i
 | 0,_=>rfl
 | 1,hi=>by
   have e:ps[0]?=some ps[0]:=by simp
   rw[QZ e,bj,e];rfl
 | i+2,hi=>by
   have ey:ps[i]?=some ps[i]:=by simp [show i<ps.length by lia]
   have ez:ps[i+1]?=some ps[i+1]:=by simp [show i+1<ps.length by lia]
   have ih:=bL h (i+1) ∅;rw[QZ ez,ih];have hv:=h i _ _ ey ez;have e1:ps.take (i+1)=ps.take i++[ps[i]]:=by rw[bj,ey];rfl
   have e2:ps.take (i+2)=ps.take (i+1)++[ps[i+1]]:=by rw[bj,ez];rfl
   rw[e2,e1];rcases hv with hv | hv
   exact G7 hv;exact G6 hv
theorem bM(z:Pc):AK [z]:=λj y x _ hx=>by
 have:j+1<[z].length:=(γ.mp hx).1;simp at this
theorem AJ.unsnoc(h:AJ H us (ps++[y])):∃ui t,us=ui++[.ref t]/\AJ H ui ps/\H t=some (.tup [.int y.a,.int y.l,.bl y.v]):=by
 have hl:=h.1;rw[Δ,Ω] at hl;obtain⟨t,e1,e2⟩:=h.2 ps.length y (by rw[θ (Γ _),gp];rfl);have hd:us=us.take ps.length++[.ref t]:=by
   have:=ou ps.length us;have e3:us.drop ps.length=[.ref t]:=by
     apply qy;intro i;rw[lr];cases i with
     | zero=>exact e1
     | succ i=>rw[dz ∅];rfl
   rw[e3] at this;exact this.symm
 refine#[us.take ps.length,t,hd,#[by rw[bx];lia,λi p e=>?_],e2];have hi:i<ps.length:=(γ.mp e).1;obtain⟨a,h1,h2⟩:=h.2 i p (by rw[ψ hi];exact e);exact#[a,by rw[ik hi];exact h1,h2]
theorem AJ.relast{ui:List V}{t t0:wa}(h:AJ H ui ps)(hp:H p=some (.lst (ui++[.ref t0])))(ht:H t=none):
   AJ (upd (upd H t (.tup [.int z.a,.int z.l,.bl z.v])) p (.lst (ui++[.ref t]))) (ui++[.ref t]) (ps++[z]):=by
 have hpt:p≠t:=BW hp ht;have hp2:upd H t (.tup [.int z.a,.int z.l,.bl z.v]) p=some (.lst (ui++[.ref t0])):=by rw[AE hpt];exact hp
 refine AJ.snoc ?_ ?_;exact(h.mono (DV (.inl ht))).mono (DV (.inr #[_,hp2]));exact DV (.inr #[_,hp2]) _ _ xb5
section
variable {X:Cx}
end
def zG(xs ys:List V):Bool:=(cq (min xs.length ys.length)).all (λj=>eqV (xs.getD j .non) (ys.getD j .non))&&xs.length==ys.length
section
variable {X:Cx}{ϊ:List (wa×Obj)}{σ:L2.St}{H:Hp}{s:wb}{A:wg}
theorem bO{b:wa}{xs:List V}(I:Inv X ϊ σ H s)(ha:SqT X.K H a xs)(hb:SqT X.K H b ys)(hf:xs.all BC=true)(hg:ys.all BC=true):
   ∃its its2:List vz,s.heap.IsTuple a its.toArray/\s.heap.IsTuple b its2.toArray/\its.length=xs.length/\its2.length=ys.length /\
     ∀j (h1:j<its.toArray.size) (h2:j<its2.toArray.size),SeqAt.EqAt A s its.toArray[j] its2.toArray[j] (eqV (xs.getD j .non) (ys.getD j .non)):=by
 obtain⟨its,r1,p1,_⟩:=I.tuple ha;obtain⟨its2,r2,p2,_⟩:=I.tuple hb;have l1:=r1.length;have l2:=r2.length;refine#[its,its2,p1,p2,l1.symm,l2.symm,λj h1 h2=>?_];rw[ο] at h1 h2;have hj:j<xs.length:=∅;have hk:j<ys.length:=∅;obtain⟨u1,e1,q1⟩:=r1.get (i:=j) (x:=xs[j]) (by simp [hj]);obtain⟨u2,e2,q2⟩:=r2.get (i:=j) (x:=ys[j]) (by simp [hk]);obtain⟨g1,f1⟩:=γ.mp e1;obtain⟨g2,f2⟩:=γ.mp e2;have fl:BC xs[j]=true:=iq.mp hf _ (bz hj);have gl:BC ys[j]=true:=iq.mp hg _ (bz hk);have z:=Tq (A:=A) (s:=s) q1 q2 fl gl;rw[<-f1,<-f2] at z;have ex:xs.getD j .non=xs[j]:=by simp [hj]
 have ey:ys.getD j .non=ys[j]:=by simp [hk]
 rw[ex,ey];simpa using z
theorem bP{b:wa}{xs:List V}(hu:A.units<xm)(I:Inv X ϊ σ H s)(ha:SqT X.K H a xs)(hb:SqT X.K H b ys)(hf:xs.all BC=true)(hg:ys.all BC=true):SeqAt.RcAt A s (.ref a) (.ref b) (zG xs ys):=by
 obtain⟨its,its2,p1,p2,l1,l2,he⟩:=bO (A:=A.in1) I ha hb hf hg;have key:=vq p1 p2 hu he;simp only [ο,l1,l2] at key;exact key
theorem nS{b:wa}{xs:List V}(hu:A.units<xm)(I:Inv X ϊ σ H s)(ha:SqT X.K H a xs)(hb:SqT X.K H b ys)(hf:xs.all BC=true)(hg:ys.all BC=true):SeqAt.RcNeAt A s (.ref a) (.ref b) (!zG xs ys):=by
 obtain⟨its,its2,p1,p2,l1,l2,he⟩:=bO (A:=A.in1) I ha hb hf hg;have key:=SeqAt.RcNeAt.tuples p1 p2 hu he;simp only [ο,l1,l2] at key;exact key
theorem Me{xs:List V}(hf:xs.all BC=true):zG xs xs=true:=by
 unfold zG;rw[dm];refine#[iq.mpr λj hj=>?_,f!""];have hj:j<xs.length:=by simpa using hj
 have ex:xs.getD j .non=xs[j]:=by simp [hj]
 rw[ex];exact aP (iq.mp hf _ (bz hj))
theorem T7{b:wa}{xs:List V}(hu:A.units<xm)(I:Inv X ϊ σ H s)(ha:SqT X.K H a xs)(hb:SqT X.K H b xs)(hf:xs.all BC=true):SeqAt.EqAt A s (.ref a) (.ref b) true:=by
 by_cases e:a=b;subst e;exact jo _;refine lu e ?_;have:=bP hu I ha hb hf hf
 rwa [Me hf] at this
end
section
variable {X:Cx}
theorem bQ(hu:X.A.units<xm):OpR X (xc .NotEq) (λx y H Q=>∃a b xs ys,x = .ref a/\y = .ref b/\SqT X.K H a xs/\SqT X.K H b ys/\xs.all BC=true/\ys.all BC=true/\Q (.bl (!zG xs ys)) H):=by
 intro ϊ s σ H x y v u Q I rx ry h;obtain⟨a,b,xs,ys,rfl,rfl,ha,hb,hf,hg,q⟩:=h;cases rx;cases ry;exact nS hu I ha hb hf hg _ _ _ _ #[.bl _,H,I,rfl,q]
theorem bR(hu:X.A.units+64<xm):OpR X (xc .NotEq) (λx y H Q=>∃a b us ws ps,x = .ref a/\y = .ref b/\H a=some (.lst us)/\H b=some (.lst ws)/\AJ H us ps/\AJ H ws ps/\Q (.bl false) H):=by
 intro ϊ s σ H x y v u Q I rx ry h;obtain⟨a,b,us,ws,ps,rfl,rfl,ha,hb,pu,pw,q⟩:=h;cases rx;cases ry;obtain⟨its,r1,p1,_⟩:=I.list (SqL.of ha);obtain⟨its2,r2,p2,_⟩:=I.list (SqL.of hb);have l1:=r1.length;have l2:=r2.length;have m1:=pu.1;have m2:=pw.1;have key:SeqAt.RcNeAt X.A s (.ref a) (.ref b) (!((cq its.toArray.size).all (λ_=>true))):=by
   refine SeqAt.RcNeAt.lists p1.isList p2.isList (by rw[ο,ο];lia) ∅ λj h1 h2=>?_;rw[ο] at h1 h2;have hj:j<ps.length:=∅;obtain⟨t1,e1,f1⟩:=pu.2 j ps[j] (by simp [hj]);obtain⟨t2,e2,f2⟩:=pw.2 j ps[j] (by simp [hj]);obtain⟨u1,g1,q1⟩:=r1.get e1;obtain⟨u2,g2,q2⟩:=r2.get e2;cases q1;cases q2;obtain⟨_,k1⟩:=γ.mp g1;obtain⟨_,k2⟩:=γ.mp g2;have z:=T7 (A:=X.A.in1) (by show X.A.units+1<xm;lia) I (SqT.of f1) (SqT.of f2) rfl;rw[<-k1,<-k2] at z;simpa using z
 have e:(!((cq its.toArray.size).all (λ_=>true)))=false:=by simp
 rw[e] at key;exact key _ _ _ _ #[.bl false,H,I,rfl,q]
end
end Stow
namespace L2
open PySem PySem.Spec PyProof.Rows
variable{o:Option V}{u:vz}{y:V}{P:we}{w:wf}{k:List Key}{H H':Hp}{kvs:List (List Key×V)}{b a:wa}{Q E:vz->wb->Prop}{vs:List (Key×vz)}{ϊ:List (wa×Obj)}
section
variable {κ:Type}[DecidableEq κ]
def zb(kvs:List (κ×V))(k:κ):Option V:=(kvs.find? λkv=>decide (kv.1=k)).map (·.2)
def zc(kvs:List (κ×V))(k:κ)(v:V):List (κ×V):=
 if (kvs.any λkv=>decide (kv.1=k))=true then kvs.map (λkv=>if kv.1=k then (kv.1,v) else kv) else kvs++[(k,v)]
theorem T8{p:κ×V}{r:List (κ×V)}{k:κ}(e:p.1=k):zb (p::r) k=some p.2:=by simp [zb,ja,e]
theorem T9{p:κ×V}{r:List (κ×V)}{k:κ}(e:¬p.1=k):zb (p::r) k=zb r k:=by simp [zb,ja,e]
theorem bT(k:κ):∀kvs:List (κ×V),(kvs.any λkv=>decide (kv.1=k))=(zb kvs k).isSome
 | []=>rfl
 | p::r=>by
   rw[gj];by_cases e:p.1=k;simp only [T8 e,xb3 e,uf,Option.isSome_some];rw[T9 e,xb4 e,qf];exact bT k r
theorem Q0(kvs:List (κ×V))(k:κ)(v:V):(zc kvs k v).length<=kvs.length+1:=by
 unfold zc
 split
 rw[Φ];lia;rw[Δ,Ψ,eo];lia
theorem RelO.isSome_eq{u:Option vz}(r:RelO o u):o.isSome=u.isSome:=by
 cases o with
 | none=>cases u with
   | none=>rfl
   | some _=>exact(show False from r).elim
 | some _=>cases u with
   | none=>exact(show False from r).elim
   | some _=>rfl
theorem KV.val{kvs:List (κ×V)}{vs:List (κ×vz)}(r:KV kvs vs)(k:κ):RelO (zb kvs k) (valueAt vs k):=by
 unfold KV at r
 induction r with
 | nil=>exact bu
 | @cons p q ps qs h t ih=>
   obtain⟨h1,h2⟩:=h;by_cases e:p.1=k;have e':q.1=k:=h1.symm.trans e;have b:valueAt (q::qs) k=some q.2:=by simp [valueAt,ja,e']
   rw[T8 e,b];exact h2;have e':¬q.1=k:=λz=>e (h1.trans z);have b:valueAt (q::qs) k=valueAt qs k:=by simp [valueAt,ja,e']
   rw[T9 e,b];exact ih
theorem KV.any{kvs:List (κ×V)}{vs:List (κ×vz)}(r:KV kvs vs)(k:κ):(kvs.any λkv=>decide (kv.1=k))=vs.any λkv=>decide (kv.1=k):=by
 unfold KV at r
 induction r with
 | nil=>rfl
 | cons h t ih=>rw[gj,gj,ih,h.1]
theorem KV.repl{kvs:List (κ×V)}{vs:List (κ×vz)}(r:KV kvs vs)(k:κ)(ry:RelV y u):
   KV (kvs.map λkv=>if kv.1=k then (kv.1,y) else kv) (vs.map λkv=>if kv.1=k then (kv.1,u) else kv):=by
 unfold KV at r ⊢
 induction r with
 | nil=>exact .nil
 | @cons p q ps qs h t ih=>
   rw[cb,cb];refine .cons ?_ ih;obtain⟨h1,h2⟩:=h;by_cases e:p.1=k;rw[xb1 e,xb1 (h1.symm.trans e)];exact#[h1,ry];rw[xb2 e,xb2 (λz=>e (h1.trans z))];exact#[h1,h2]
theorem KV.put{kvs:List (κ×V)}{vs:List (κ×vz)}(r:KV kvs vs)(k:κ)(ry:RelV y u):KV (zc kvs k y) (stored vs k u):=by
 unfold zc stored;rw[r.any k];by_cases e:(vs.any λkv=>decide (kv.1=k))=true;rw[xb1 e,xb1 e];exact r.repl k ry;rw[xb2 e,xb2 e];exact Paired.snoc r #[rfl,ry]
theorem KV.length{kvs:List (κ×V)}{vs:List (κ×vz)}(r:KV kvs vs):kvs.length=vs.length:=Paired.length r
end
theorem Ua{k:Key}(r:RelV (kV k) u):(Cm P w).is k u=true:=by
 cases k with
 | inl i=>obtain⟨t,e⟩:=(show ∃t,u=Value.int i t from r);subst e;exact jT P w i t
 | inr x=>obtain⟨t,e⟩:=(show ∃t,u=Value.str x t from r);subst e;exact jU P w x t
theorem bU{P:we}{w:wf}:∀{ks:List Key}{us:List vz},Vals (ks.map kV) us->ItemsAre (Cm P w) ks us
 | [],_,r=>by rw[ix] at r;cases r;exact .nil
 | k::ks,_,r=>by
   rw[cb] at r;cases r with
   | cons h t=>exact .cons (Ua h) (bU t)
abbrev KT(H:Hp):List (List Key×V)->List (List Key×wa×vz)->Prop:=Paired λp q=>p.1=q.1/\H q.2.1=some (.tup (p.1.map kV))/\RelV p.2 q.2.2
theorem KT.val{xs:List (List Key×wa×vz)}(r:KT H kvs xs)(k:List Key):RelO (zb kvs k) ((atKey xs k).map (·.2)):=by
 induction r with
 | nil=>exact bu
 | @cons p q ps qs h t ih=>
   obtain⟨h1,_,h2⟩:=h;by_cases e:p.1=k;have e':q.1=k:=h1.symm.trans e;have b:atKey (q::qs) k=some q.2:=by simp [atKey,ja,e']
   rw[T8 e,b];exact h2;have e':¬q.1=k:=λz=>e (h1.trans z);have b:atKey (q::qs) k=atKey qs k:=by simp [atKey,ja,e']
   rw[T9 e,b];exact ih
theorem KT.repl{xs:List (List Key×wa×vz)}(r:KT H kvs xs)(k:List Key)(ry:RelV y u):
   KT H (kvs.map λkv=>if kv.1=k then (kv.1,y) else kv) (xs.map (putAt k u)):=by
 induction r with
 | nil=>exact .nil
 | @cons p q ps qs h t ih=>
   rw[cb,cb];refine .cons ?_ ih;obtain⟨h1,h2,h3⟩:=h;unfold putAt;by_cases e:p.1=k;rw[xb1 e,xb1 (h1.symm.trans e)];exact#[h1,h2,ry];rw[xb2 e,xb2 (λz=>e (h1.trans z))];exact#[h1,h2,h3]
theorem KT.put{xs:List (List Key×wa×vz)}(r:KT H kvs xs)(k:List Key)(hb:H b=some (.tup (k.map kV)))(ry:RelV y u):
   KT H (zc kvs k y) (storedH xs k b u):=by
 have e:(kvs.any λkv=>decide (kv.1=k))=(atKey xs k).isSome:=by
   rw[bT,(r.val k).isSome_eq,Option.isSome_map]
 unfold zc storedH;rw[e];by_cases q:(atKey xs k).isSome=true;rw[xb1 q,xb1 q];exact r.repl k ry;rw[xb2 q,xb2 q];exact Paired.snoc r #[rfl,hb,ry]
theorem KT.keeps{xs:List (List Key×wa×vz)}(r:KT H kvs xs)(ht:∀b ys,H b=some (.tup ys)->H' b=some (.tup ys)):KT H' kvs xs:=
 Paired.mapP r λ_ _ z=>#[z.1,ht _ _ z.2.1,z.2.2]
section
variable {P:we}{w:wf}{H:Hp}{h:xt}{a:wa}
theorem I_{u:HO}(ok:HOk P w H h)(e:Rd H a u):Bc P w H h a u:=e.ok ok
theorem Ub{kvs:List (Key×V)}(ok:HOk P w H h)(e:Rd H a (.dK kvs)):kvs.length<=wt/\(a==sysModules)=false/\∃vs,KV kvs vs/\h.DictOf (Cm P w) a vs:=
 show Bc P w H h a (.dK kvs) from I_ ok e
theorem dk_of{kvs:List (Key×V)}(ok:HOk P w H h)(e:H a=some (.dK kvs)):kvs.length<=wt/\(a==sysModules)=false/\∃vs,KV kvs vs/\h.DictOf (Cm P w) a vs:=Ub ok (.inl e)
theorem Uc{ks:List Key}(ok:HOk P w H h)(e:H a=some (.tup (ks.map kV))):(tupleKind (Cm P w)).is h ks a:=by
 obtain⟨_,its,r,o,h1,h2,n,h3⟩:=(show Bc P w H h a (.tup (ks.map kV)) from ok a _ e)
 exact#[o,its.toArray,n,h1,h2,h3,by simpa using bU r]
theorem Ud(ok:HOk P w H h)(e:Rd H a (.dT kvs)):kvs.length<=wt/\(a==sysModules)=false /\
   ∃xs,KT H kvs xs/\h.DictOfH (tupleKind (Cm P w)) a xs:=by
 obtain⟨z,y,xs,r,o,es,ep,h1,h2,h3,h4,h5⟩:=(show Bc P w H h a (.dT kvs) from I_ ok e)
 refine#[z,y,xs,r,o,es,ep,h1,h2,h3,h4,λx hx=>?_,h5];have all:∀{l:List (List Key×V)} {m:List (List Key×wa×vz)},KT H l m->∀x∈m,(tupleKind (Cm P w)).is h x.1 x.2.1:=by
   intro l m q
   induction q with
   | nil=>intro x hx;exact nomatch hx
   | @cons p q ps qs hq t ih=>
     intro x hx;rcases Ξ.mp hx with e | hx
     subst e;exact Uc ok (by rw[<-hq.1];exact hq.2.1);exact ih x hx
 exact all r x hx
theorem dt_of(ok:HOk P w H h)(e:H a=some (.dT kvs)):kvs.length<=wt/\(a==sysModules)=false /\
   ∃xs,KT H kvs xs/\h.DictOfH (tupleKind (Cm P w)) a xs:=Ud ok (.inl e)
end
def DGet(H:Hp)(a:wa)(y:V)(r:Option V):Prop:=
 (∃kvs k,Rd H a (.dK kvs)/\y=kV k/\r=zb kvs k)\/∃kvs k b,Rd H a (.dT kvs)/\y = .ref b/\H b=some (.tup (k.map kV))/\r=zb kvs k
def DPut(H:Hp)(a:wa)(y v:V)(H':Hp):Prop:=
 (∃kvs k,H a=some (.dK kvs)/\y=kV k/\kvs.length<wt/\H'=upd H a (.dK (zc kvs k v))) \/
 ∃kvs k b,H a=some (.dT kvs)/\y = .ref b/\H b=some (.tup (k.map kV))/\kvs.length<wt/\H'=upd H a (.dT (zc kvs k v))
theorem DGet.t(e:H a=some (.dT kvs))(eb:H b=some (.tup (k.map kV))):DGet H a (.ref b) (zb kvs k):=.inr #[kvs,k,b,.inl e,rfl,eb,rfl]
theorem DPut.t{v:V}(e:H a=some (.dT kvs))(eb:H b=some (.tup (k.map kV)))(hl:kvs.length<wt):
   DPut H a (.ref b) v (upd H a (.dT (zc kvs k v))):=.inr #[kvs,k,b,e,rfl,eb,hl,rfl]
section
variable {X:Cx}{ϊ:List (wa×Obj)}{σ:St}{H:Hp}{s:wb}{a:wa}{y v:V}{u r:vz}{o:Option V}{A:wg}{E:vz->wb->Prop}
theorem Inv.big(I:Inv X ϊ σ H s):sysModules<s.heap.objs.size:=by
 have h:xg<s.heap.objs.size:=(I.mod.glob.keeps I.bk).lt;exact Nat.lt_trans m!"" h
theorem nU(hu:A.units+1<xm)(I:Inv X ϊ σ H s)(g:DGet H a y (some v))(ry:RelV y u)(h:∀w' s',Inv X ϊ σ H s'->RelV v w'->Q w' s'):
   wx (xl X.prog X.w) A (getItem (.ref a) u) Q E s:=by
 rcases g with ⟨kvs,k,e,ey,l⟩ | ⟨kvs,k,b,e,ey,eb,l⟩
 subst ey;obtain⟨z,hd,vs,rel,dd⟩:=Ub I.hok e;obtain⟨w',hw,rw'⟩:=RelO.some_of (v:=v) (o:=valueAt vs k) (by rw[l];exact rel.val k);exact wpAny_getItem_of (Ua ry) dd.mapOf hw (h w' _ (I.tok _) rw');subst ey;cases (show u=Value.ref b from ry);obtain⟨z,hd,xs,rel,dd⟩:=Ud I.hok e;obtain⟨w',hw,rw'⟩:=RelO.some_of (v:=v) (o:=(atKey xs k).map (·.2)) (by rw[l];exact rel.val k);obtain⟨p,hp,hp2⟩:=cj.mp hw;refine wpAny_getItem_heap (tupleKind_room_in1 hu) (Uc I.hok eb) dd hp ?_;rw[hp2];exact h w' _ (I.tok _) rw'
theorem bV{h':xt}{t':Nat}{ob:HO}(I:Inv X ϊ σ H s)(mu:Mut (H a))(hs:df a s.heap h')(he:∃q,h'.get? a=some q)(new:Bc X.prog X.w (upd H a ob) h' a ob):
   Inv X ϊ σ (upd H a ob) { s with heap:=h',toks:=t' }:=
 I.write (x:=a) (e:=a) mu (.inl rfl) (λb q hb z=>(hs.2 b hb).trans z) he new
theorem uc5{h':xt}{kvs:List (Key×V)}(z:kvs.length<=wt)(hd:(a==sysModules)=false)(rel:KV kvs vs)(dd:h'.DictOf (Cm P w) a vs):
   Bc P w H' h' a (.dK kvs):=#[z,hd,vs,rel,dd]
theorem nV{Q:Unit->wb->Prop}(hu:A.units+1<xm)(I:Inv X ϊ σ H s)(g:DPut H a y v H')(ry:RelV y u)(rv:RelV v r)(h:∀s',Inv X ϊ σ H' s'->Q () s'):
   wx (xl X.prog X.w) A (setItem (.ref a) u r) Q E s:=by
 rcases g with ⟨kvs,k,e,ey,l,eH⟩ | ⟨kvs,k,b,e,ey,eb,l,eH⟩
 subst ey eH;obtain⟨z,hd,vs,rel,dd⟩:=dk_of I.hok e;have hz:vs.length<=wt:=by rw[<-rel.length];exact z
 have hl:(zc kvs k v).length<=wt:=by have:=Q0 kvs k v;lia
 refine wpAny_setItem_pairs (hsz:=hz) (Ua ry) dd λh' dd' hs=>h _ ?_;have he:∃q,h'.get? a=some q:=let ⟨q,_,_,hq,_⟩:=dd';#[q,hq];exact bV I (by rw[e];exact bu) hs he (uc5 hl hd (rel.put k rv) dd');subst ey eH;cases (show u=Value.ref b from ry);obtain⟨z,hd,xs,rel,dd⟩:=dt_of I.hok e;have hz:xs.length<=wt:=by rw[<-Paired.length rel];exact z
 have hl:(zc kvs k v).length<=wt:=by have:=Q0 kvs k v;lia
 refine wpAny_setItem_heap (hsz:=hz) (tupleKind_room_in1 hu) (Uc I.hok eb) dd λh' dd' hs=>h _ ?_;obtain⟨q,es,ep,hq,h2,h3,h4,_,h5⟩:=dd';refine bV I (by rw[e];exact bu) hs #[q,hq] #[hl,hd,_,(rel.put k eb rv).keeps λc ys ec=>?_,q,es,ep,hq,h2,h3,h4,h5];rw[AE (ne_of ec e (λz=>nomatch z))];exact ec
end
section
variable {X:Cx}{ϊ:List (wa×Obj)}{σ:St}{H:Hp}{s:wb}{a:wa}{kvs:List (Key×V)}{k:Key}{u:vz}{A:wg}{E:vz->wb->Prop}
end
def NoSl(i:wk):Prop:=∀ov iv,subscripted i false ov iv=operate [ov,iv] (getItem ov iv)
theorem nW{prog:we}{A:wg}{s:wb}{env:xu}{value slice:wk}{pos:Pos}{T id:String}
   (hl:typeLookup (.type T) "__getitem__"=pure (some (.builtin id))) (hs:NoSl slice)
   (h:wx (xl prog w) A (xk value env) (λo s₁=>wx (xl prog w) A (xk slice env) (λi s₂=>s₂.TypeIs o T/\wx (xl prog w) A (getItem o i) Q E s₂) E s₁) E s):
   wx (xl prog w) A (xk (.Subscript value slice pos) env) Q E s:=by
 refine Subscript_ (ww h (λo s₁ h₁=>ww h₁ (λi s₂ h₂=>?_) λ_ _ x=>x) λ_ _ x=>x);obtain⟨hT,h₂⟩:=h₂;unfold subscriptTail;refine wu ?_;rw[getitemInPython_of_ne hT.not_modules];refine wu (wpAny_specialOf hT hl ?_);have fin:wx (xl prog w) A (subscripted slice false o i) (λr s₃=>wx (xl prog w) A (letTemporaryGo value o r >>= λ_=>pure r) Q E s₃) E s₂:=by
   rw[hs o i];exact wpAny_operating (ww h₂ (λr s₃ h₃=>wu (wpAny_letTemporaryGo (wv h₃))) λ_ _ x=>x)
 first
   | exact wv (wu fin)
   | exact wu (wv (wu fin))
   | exact wu fin
theorem nX{X:Cx}{σ:St}{s:wb}(I:Inv X ϊ σ H s)(g:DGet H a y o):s.TypeIs (.ref a) "dict":=by
 rcases g with ⟨kvs,k,e,_,_⟩ | ⟨kvs,k,b,e,_,_,_⟩
 obtain⟨_,_,vs,_,dd⟩:=Ub I.hok e;exact dd.typeIs;obtain⟨_,_,xs,_,dd⟩:=Ud I.hok e;exact dd.typeIs
def zW(td ty:TE):TE:=λσ H Q=>td σ H λx H1=>ty σ H1 λy H2=>∃a v,x = .ref a/\DGet H2 a y (some v)/\Q v H2
def H_(td ty tv:TE):TS:=λD σ H=>tv σ H λv H1=>td σ H1 λx H2=>ty σ H2 λy H3=>∃a H4,x = .ref a/\DPut H3 a y v H4/\D.nx σ H4
section
variable {X:Cx}{o i e value:wk}{pos pos' tpos:Pos}{td ty tv:TE}
theorem Q2(hu:X.A.units+1<xm)(ho:PE X o td)(hi:PE X i ty)(hs:NoSl i):PE X (.Subscript o i pos) (zW td ty):=by
 intro ϊ s σ H Q I h;refine nW PySem.F.slot_dict_getitem.lookup hs (thn (ho ϊ s σ H _ I h) λu s1 ⟨x,H1,I1,rx,q1⟩=>thn (hi ϊ s1 σ H1 _ I1 q1) λiv s2 hZ=>?_);obtain⟨y,H2,I2,ry,a,v,ex,g,q2⟩:=hZ;subst ex;obtain rfl:u=Value.ref a:=rx;exact#[nX I2 g,nU hu I2 g ry λw' s3 I3 rw'=>#[v,H2,I3,rw',q2]]
theorem Ue(hu:X.A.units+1<xm)(ho:PE X o td)(hi:PE X i ty)(hv:PE X value tv)(hs:swapsWith value (some (.Subscript o i pos')) pos.line X.env=pure false):
   PS X (.Assign [.Subscript o i pos'] value pos) (H_ td ty tv):=by
 intro ϊ s σ H D I h;refine wpAny_Assign_Subscript (thn (hv ϊ s σ H _ I h) λr s1 ⟨v,H1,I1,rv,q1⟩=>thn (ho ϊ s1 σ H1 _ I1 q1) λu s2 ⟨x,H2,I2,rx,q2⟩=>thn (hi ϊ s2 σ H2 _ I2 q2) λiv s3 hZ=>?_) hs;obtain⟨y,H3,I3,ry,a,H4,ex,g,q3⟩:=hZ;subst ex;obtain rfl:u=Value.ref a:=rx;exact nV hu I3 g ry rv λs4 I4=>#[σ,H4,I4,q3]
end
theorem nY(h:xt)(hb:sysModules<h.objs.size):Bc P w H (h.push { cls:=.type "dict",data:=.dict (ϋ []) }) h.objs.size (.dT []):=
 #[dv _,beq_eq_false_iff_ne.mpr (fh (bi hb)),[],.nil,_,(ϋ []),0,ak _ rfl,#[rfl,rfl,rfl],rfl,rfl,sr]
def zV:TE:=λ_ H Q=>∀p,H p=none->Q (.ref p) (upd H p (.dT []))
section
variable {X:Cx}{pos:Pos}
theorem Uf:PE X (.Dict [] [] pos) zV:=λϊ s σ H Q I h=>
 wpAny_Dict_empty #[.ref s.heap.objs.size,_,I.laid (a:=s.heap.objs.size) (o:=.dT []) (t':=s.toks) (λ_ _ q=>μ _ q) (Γ _) (nY s.heap I.big),rfl,h _ (I.hok.fresh (Γ _))]
end
structure M1(X:Cx)(o:wk)(m:Str)(apos:Pos)(e:wk)(cpos:Pos):Prop where
 base:attributeBase o m X.env (xk o X.env)=xk o X.env
 few:((wz cpos (wo [e] X.env)).all (λx=>!x.1)&&(backToKw cpos (keywordEach [] X.env)).all (λx=>x.1.isSome)
   && decide (([e]:List wk).length+([]:List Keyword).length+(if ([]:List Keyword).isEmpty then 0 else 1)<30))=true
 line:(apos.endLine==cpos.line)=true
 trees:wz cpos (wo [e] X.env)=[(false,xk e X.env)]
structure M2(X:Cx)(o:wk)(m:Str)(apos:Pos)(e f:wk)(cpos:Pos):Prop where
 base:attributeBase o m X.env (xk o X.env)=xk o X.env
 few:((wz cpos (wo [e,f] X.env)).all (λx=>!x.1)&&(backToKw cpos (keywordEach [] X.env)).all (λx=>x.1.isSome)
   && decide (([e,f]:List wk).length+([]:List Keyword).length+(if ([]:List Keyword).isEmpty then 0 else 1)<30))=true
 line:(apos.endLine==cpos.line)=true
 trees:wz cpos (wo [e,f] X.env)=[(false,xk e X.env),(false,xk f X.env)]
section
variable {X:Cx}{ϊ:List (wa×Obj)}{σ:St}{H:Hp}{s:wb}{a:wa}{y d:V}{u r:vz}{o:Option V}{A:wg}{E:vz->wb->Prop}
end
section
variable {X:Cx}{o e f:wk}{apos cpos:Pos}{td ty tx:TE}
end
section
variable {X:Cx}{ϊ:List (wa×Obj)}{σ:St}{H:Hp}{s:wb}{a:wa}{kvs:List (Key×V)}{A:wg}{E:vz->wb->Prop}
end
section
variable {X:Cx}{ϊ:List (wa×Obj)}{σ:St}{H:Hp}{s:wb}{a:wa}{y:V}{u:vz}{A:wg}{E:vz->wb->Prop}
end
section
variable {X:Cx}
end
section
variable {κ:Type}[DecidableEq κ]
end
end L2
namespace Stow
open PySem L2 PyProof.Rows
variable{elt iter tg:wk}{cs ns row ls:List Int}{scope:wm}{env:xu}{ϊ:List (wa×Obj)}{σ:L2.St}{H H':Hp}{cl:List (Str×wa)}{C x dx T d:wa}{N i k' m j B M q m' q' ep:Nat}{pos py:Pos}{ifs:List wk}{is:List Nat}{g:TG}{tt:TT}{te tl:TE}{Q E:vz->wb->Prop}{RR:vz->wa->Result->wb->Prop}{wi:TI}{y z:Pc}{K:δ}{es:Array DictEntry}{k a c e A L r:Int}{Pv:wa->Nat->List V->Hp->Prop}{D ds Y ds' rs':List Pc}{R:wa->wa->wa->List (Str×V)->Prop}{sp:Sp}{o:Obj}{P:vv->wb->Prop}{w:wf}{mg:Str->Option vz}{dvs:List V}{st:wl}{td:Option wa}{tsl osl:Array (Option vz)}{h₀:ExceptHandler}{v v0:Bool}{b:List Bool}{p:Array Nat}{tb:TS}{X:Cx}{pl:xq Bool}{h:xt}{its:List vz}{kvs:List (List Key×V)}
def CShl(i j:Int):Prop:=0<=j/\j<=1000/\i.natAbs<2^220
section
variable {X:Cx}
theorem Ug:OpR X (binaryOp .LShift) (rI CShl λi j=>.int (i*2^j.toNat)):=opI λi j _ _ _ _ _ hc q=>
 lshift_int hc.1 (by
   obtain⟨h0,h1,h2⟩:=hc;have:=ua h2;lia) q
end
theorem nZ(n:Int):Builtin.bitOr (n*2) 1=n*2+1:=by
 rw[ug];have e:Builtin.bitAnd (n*2) 1=(n*2)%2:=by rw[bitAnd_m1]
 rw[e];lia
section
variable {prog:we}{w:wf}{A:wg}{R:Result->wb->Prop}{s:wb}
theorem oA{tgt src:wk}{cs:List wk}{sc:wm}{ps:Pos}{itv accv:vz}{ev:xu}(J:Nat->wb->Prop)
   (step:∀k t,J k t->wx (xl prog w) A (pyNext itv) (λr t1=>match r with
     | none=>R (.ok .next) t1
     | some x=>wx (xl prog w) A (letOwnedTupleGo tgt itv x) (λ_ t2=>wx (xl prog w) A (assign tgt ev x) (λ_ t3=>
         wx (xl prog w) A (forIn cs true λc r=>if r=true then do let ok <-isTrue c ev (xk c ev);pure (ForInStep.yield ok) else pure (ForInStep.yield r)) (λgood t4=>
           if good=true then wx (xl prog w) A (xk elt ev) (λy t5=>wx (xl prog w) A (call (.builtin "list.append") [accv,y]) (λ_ t6=>∃j,j<k/\J j t6) (notedBy (xl prog w) A ev λe t'=>R (.error e) t') t5) (notedBy (xl prog w) A ev λe t'=>R (.error e) t') t4
           else ∃j,j<k/\J j t4) (notedBy (xl prog w) A ev λe t'=>R (.error e) t') t3) (notedBy (xl prog w) A ev λe t'=>R (.error e) t') t2) (notedBy (xl prog w) A ev λe t'=>R (.error e) t') t1) (notedBy (xl prog w) A ev λe t'=>R (.error e) t') t)
   (k0:Nat) (j0:J k0 s):codeAny (xl prog w) A (.compLoop (.ListComp elt [#[tgt,src,cs,0]] sc ps) 0 itv accv ev) R s:=by
 refine codeAny_loop rfl J (λk t hJ=>?_) k0 j0;show wx _ A ((compTurn (.ListComp elt [#[tgt,src,cs,0]] sc ps) 0 itv accv ev).onRaise (λx=>do noteFrame x ev;theTreesLotGoes x)) _ _ t;refine wpAny_noted ?_;rw[compTurn_list];refine wu (wpAny_standAt (wu (ww (step k t hJ) (λr t1 g1=>?_) λ_ _ z=>z)));cases r with
 | none=>exact wv g1
 | some x=>
   refine wu (ww g1 (λ_ t2 g2=>?_) λ_ _ z=>z);refine wu (ww g2 (λ_ t3 g3=>?_) λ_ _ z=>z);refine wu (ww g3 (λgood t4 g4=>?_) λ_ _ z=>z);cases good with
   | false=>exact wv #[rfl,g4]
   | true=>exact wu (wu (ww g4 (λy t5 g5=>wu (ww g5 (λ_ t6 g6=>wv (wv #[rfl,g6])) λ_ _ z=>z)) λ_ _ z=>z))
end
theorem Uh{env:xu}:∀(names:List (Str×NameKind)) (acc:List (Str×wa)),(∀y∈names,y.2 = .free->∃c,env.cells.lookup y.1=some c)->(∀x c,acc.lookup x=some c->env.cells.lookup x=some c) ->
   ∃cl,(forIn names acc λx r=>(do let (name,kind):=x;if (kind==NameKind.free)=true then do let c <-cellOf env name;pure (ForInStep.yield ((name,c)::r)) else pure (ForInStep.yield r)):xq (List (Str×wa)))=pure cl /\
     (∀x c,cl.lookup x=some c->env.cells.lookup x=some c)/\(∀y∈names,y.2 = .free->∃c,cl.lookup y.1=some c)/\(∀x c,acc.lookup x=some c->∃c',cl.lookup x=some c')
 | [],acc,_,ha=>#[acc,f!"",ha,λy hy=>by simp at hy,λx c e=>#[c,e]]
 | (n,k)::r,acc,h,ha=>by
   by_cases hk:k = .free;obtain⟨c,hc⟩:=h (n,k) η hk;obtain⟨cl,e1,e2,e3,e4⟩:=Uh r ((n,c)::acc) (λy hy=>h y (ι _ hy)) (λx d e=>by
     by_cases hx:x=n;subst hx;rw[jf] at e;cases e;exact hc;rw[kf,show (x==n)=false by simpa using hx] at e;exact ha x d e)
   refine#[cl,?_,e2,λy hy hf=>?_,λx d e=>?_];rw[rz];subst hk;have ec:cellOf env n=pure c:=by unfold cellOf;rw[hc]
   simp only [beq_self_eq_true,if_true,ec,pure_bind];exact e1;rcases Ξ.mp hy with z | z
   subst z;exact e4 n c (by rw[jf]);exact e3 y z hf;by_cases hx:x=n;subst hx;exact e4 x c (by rw[jf]);exact e4 x d (by rw[kf,show (x==n)=false by simpa using hx];exact e);obtain⟨cl,e1,e2,e3,e4⟩:=Uh r acc (λy hy=>h y (ι _ hy)) ha;refine#[cl,?_,e2,λy hy hf=>?_,e4];rw[rz];have:(k==NameKind.free)=false:=by simpa using hk
   simp only [this,fe,if_false,pure_bind];exact e1;rcases Ξ.mp hy with z | z
   subst z;exact xb0 hf hk;exact e3 y z hf
theorem bW(h:∀y∈scope.names,y.2 = .free->∃c,env.cells.lookup y.1=some c):
   ∃cl,closureFor scope env=pure cl/\(∀x c,cl.lookup x=some c->env.cells.lookup x=some c)/\(∀y∈scope.names,y.2 = .free->∃c,cl.lookup y.1=some c):=by
 obtain⟨cl,e1,e2,e3,_⟩:=Uh scope.names [] h (λx c e=>by simp at e);refine#[cl,?_,e2,e3];unfold closureFor;simp only [bind_pure] at *;exact e1
section
variable {X:Cx}
abbrev Cx.blockG(X:Cx)(scope:wm)(cl:List (Str×wa))(C:wa)(N:List Str)(s₀:wb)(H₀:Hp)(ex:List wa):Cx:=
 { X with N:=N,s₀:=s₀,H₀:=H₀,env:=compEnvC scope cl C X.env,outer:=X.stack,stack:=X.stack,ex:=ex,fn:=λ_=>false,pn:=[],xe:=λ_ _=>False }
theorem oB{s:wb}{N:List Str}{fp:List wa}(I:Inv X ϊ σ H s)(hk:scope.kind = .function)(hC:s.heap.objs.size<=C)
   (hcl:∀x c,cl.lookup x=some c->X.env.cells.lookup x=some c) (hhas:∀y,(relabel scope X.env).names.lookup y=some .cell\/(relabel scope X.env).names.lookup y=some .free->∃c,cl.lookup y=some c)
   (ho:∀b∈fp,∃o,s.heap.get? b=some o/\∀v,o.data≠.cell v) (hf:∀b∈fp,zo X ϊ H b):
   (Cx.blockG X scope cl C N s H fp).Ok where
 mod:=I.ok.mod
 kind:=hk
 glob:=I.ok.glob
 blt:=I.ok.blt
 above:=hC
 inj:=λx y c e1 e2=>I.ok.inj x y c (hcl x c e1) (hcl y c e2)
 has:=λy e=>hhas y e
 cab:=λ_ _ e=>nomatch e
 hd:=I.ok.hd
 frames:=I.ok.frames
 stk:=.inl rfl
 exf:=λb hb=>#[λz=>by
   obtain⟨o,e,_⟩:=ho b hb;have:=ba (af e) hC;rw[z] at this;exact cv _ this,λx c e=>(hf b hb).2.2.2.2.1 x c (hcl x c e)]
 bs:=I.bs
 bsz:=cr I.ok.bsz I.sz
 noex:=λb o e hb=>by
   rcases(hf b hb).2.2.2.1 with z | z
   exact I.ok.noex b o e z;exact xb0 (ba (af (I.ok.bs b o e).1) z) (cv _)
 exfs:=λb hb z=>by
   rcases Ξ.mp (I.stkSub b z) with e | e
   exact(hf b hb).2.1 e;exact(hf b hb).2.2.1 e
 funs:=I.stack
 frf:=I.stkFree
def Q3(n:Nat)(fs:L2.St)(J:It)(g:TG)(tt:TT)(te:TE)(Q:VK)(H1:Hp):Prop:=∀D,H1 D=none->∃W:Nat->Nat->List V->Hp->Prop,(∃m,W 0 m [] (upd H1 D (.lst [])))/\∀i m ys H2,W i m ys H2 ->
 (J.stop i H2/\Q (.ref D) H2)\/(J.go i H2/\∀x H3,J.yld i H2 x H3->∀τ:L2.St,τ.length=n->g x (τ++fs) H3 λσ1 H4=>(∃τ':L2.St,τ'.length=n/\σ1=τ'++fs)/\tt σ1 H4 λb H5=>
   if b=true then te σ1 H5 λy H6=>H6 D=some (.lst ys)/\ys.length<wt/\∃m',m'<m/\W (i+1) m' (ys++[y]) (upd H6 D (.lst (ys++[y]))) else ∃m',m'<m/\W (i+1) m' ys H5)
def Mf(n:Nat)(is:List Nat)(wi:TI)(g:TG)(tt:TT)(te:TE):TE:=λσ H Q=>wi σ H λJ H1=>Q3 n (is.map λk=>σ.getD k none) J g tt te Q H1
def EE(X:Cx)(scope:wm)(F:List Str)(is:List Nat):Prop:=F.length=is.length/\∀(j:Nat)(y:Str)(k:Nat),F[j]?=some y->is[j]?=some k->X.N[k]?=some y/\X.env.kindOf y=some .cell/\(relabel scope X.env).names.lookup y=some .cell
theorem bX{O F:List Str}{s2:wb}{H2:Hp}{it:wa}{fp:List wa}{tn:Nat->xt->Prop}{J:It}{Q:VK}
   (hc:X.calm=true) (hkind:scope.kind = .function) (hcell:∀y∈scope.names,y.2≠.cell)
   (hcl:∀x c,cl.lookup x=some c->X.env.cells.lookup x=some c) (hhas:∀y,(relabel scope X.env).names.lookup y=some .cell\/(relabel scope X.env).names.lookup y=some .free->∃c,cl.lookup y=some c) (hF:EE X scope F is)
   (hG:∀cl C s₀ H₀ ex,PG (Cx.blockG X scope cl C (O++F) s₀ H₀ ex) tg g) (hT:∀cl C s₀ H₀ ex,PTs (Cx.blockG X scope cl C (O++F) s₀ H₀ ex) ifs tt) (hE:∀cl C s₀ H₀ ex,PE (Cx.blockG X scope cl C (O++F) s₀ H₀ ex) elt te)
   (I2:Inv X ϊ σ H2 s2) (T:ud6 X.prog X.w X.K tg J fp it tn) (st2:tn 0 s2.heap) (f2:∀b∈fp,zo X ϊ H2 b)
   (h:Q3 O.length (is.map λk=>σ.getD k none) J g tt te Q H2)
   (hRR:∀D C H' s',Inv X ϊ σ H' s'->zo X ϊ H' C->(∃m,s'.heap.Ns C m)->Q (.ref D) H'->RR (.ref D) C (.ok .next) s'):
   wx (xl X.prog X.w) X.A (newList []) (λacc s₃=>wx (xl X.prog X.w) X.A (newFunctionEnv scope X.env.globals cl [] X.env.qual none .none (some X.env)) (λcenv s₄=>
     codeAny (xl X.prog X.w) X.A (.compStart (.ListComp elt [#[tg,iter,ifs,0]] scope pos) 0 (.ref it) acc { cenv with scope:=relabel scope X.env }) (RR acc cenv.locals) s₄) X.xe s₃) X.xe s2:=by
 refine wpAny_newObj_type (wpAny_newFunctionEnv hcell (by intro y hy;simp at hy) (λh₁ hns₁ hsb₁=>?_) hkind);dsimp only at hns₁ hsb₁ ⊢;generalize hG0:s2.heap.push { cls:=.type "list",dict:=none,data:=.seq ([]:List vz).toArray }=G at hns₁ hsb₁ ⊢;have hCs:G.objs.size=s2.heap.objs.size+1:=by rw[<-hG0,jw]
 have hDC:s2.heap.objs.size≠G.objs.size:=by rw[hCs];exact bi (ip _)
 have hCle:s2.heap.objs.size<=G.objs.size:=by rw[hCs];exact jr _
 have old:∀b o,s2.heap.get? b=some o->h₁.get? b=some o:=λb o e=>hsb₁.extBut b o (by rw[hCs];exact bi (ma (af e))) (μ _ (hG0▸μ _ e));have eD:h₁.get? s2.heap.objs.size=some { cls:=.type "list",dict:=none,data:=.seq ([]:List vz).toArray }:=hsb₁.extBut _ _ hDC (μ _ (hG0▸ak _ rfl));have nD:H2 s2.heap.objs.size=none:=I2.hok.fresh (Γ _);have nC:H2 G.objs.size=none:=I2.hok.fresh hCle;obtain⟨W,⟨m0,w0⟩,turn⟩:=h s2.heap.objs.size nD;generalize efs:(is.map λk=>σ.getD k none)=fs at turn;have fre:∀b∈fp,upd H2 s2.heap.objs.size (.lst []) b=none:=λb hb=>by
   obtain⟨o,e,_⟩:=T.obj _ _ st2 b hb;rw[AE (bi (af e))];exact(f2 b hb).1
 have loop:∀s4:wb,s4={ s2 with heap:=h₁,toks:=s2.toks+([]:List (Str×vz)).length } ->
     codeAny (xl X.prog X.w) X.A (.compLoop (.ListComp elt [#[tg,iter,ifs,0]] scope pos) 0 (.ref it) (.ref s2.heap.objs.size) (compEnvC scope cl G.objs.size X.env)) (RR (.ref s2.heap.objs.size) G.objs.size) s4:=by
   rintro s4 rfl;have ok:=oB (N:=O++F) I2 hkind hCle hcl hhas (T.obj _ _ st2) f2;have IB:Inv (Cx.blockG X scope cl G.objs.size (O++F) s2 H2 fp) [] (ω O.length none++fs) (upd H2 s2.heap.objs.size (.lst [])) { s2 with heap:=h₁,toks:=s2.toks+([]:List (Str×vz)).length }:=by
     refine#[ok,rfl,I2.bare,Un.laid old (Γ _) nD,#[_,hns₁,λi y v e1 e2 _=>?_],(λx c e=>?_),?_,(λx c e=>?_),(λp hp=>nomatch hp),I2.hok.laid old (Γ _) #[dv _,[],0,.nil,eD],?_];have e1:(O++F)[i]?=some y:=e1;by_cases hi:i<O.length;rw[ψ (by rw[ae];exact hi),cf,xb1 hi] at e2;cases e2;rw[θ ∅] at e1;rw[θ (by rw[ae];lia),ae,<-efs,bh] at e2;obtain⟨k,ek,ev⟩:=cj.mp e2;obtain⟨g1,g2,g3⟩:=hF.2 _ _ _ e1 ek;have es:σ[k]?=some (some v):=by
       rw[ao] at ev;cases q:σ[k]? with
       | none=>rw[q] at ev;cases ev
       | some z=>rw[q] at ev;exact congrArg some ev
     obtain⟨m,hm,hl⟩:=I2.loc;obtain⟨u,ru,lk⟩:=hl k y v g1 es (.inr (.inl g2));refine#[u,ru,.inr #[.inl g3,?_]];rcases lk with ⟨z,_⟩ | ⟨_,c,c1,o,c2,c3⟩
     rw[g2] at z;cases z;obtain⟨c',e'⟩:=hhas y (.inl g3);have:=hcl y c' e';rw[c1] at this;cases this;exact#[c,e',o,old c o c2,c3];obtain⟨v,o,c2,c3⟩:=I2.cell x c (hcl x c e);exact#[v,o,old c o c2,c3];show upd H2 s2.heap.objs.size (.lst []) G.objs.size=none;rw[AE (fh hDC)];exact nC;obtain⟨v,o,c2,c3⟩:=I2.cell x c (hcl x c e);show upd H2 s2.heap.objs.size (.lst []) c=none;rw[AE (bi (af c2))];exact I2.freeC x c (hcl x c e);show (ω O.length none++fs).length=(O++F).length;rw[Δ,Δ,ae,<-efs,Φ,hF.1]
   have stat:∀{H':Hp},(∀b∈fp,H' b=none)->∀b∈fp,zo (Cx.blockG X scope cl G.objs.size (O++F) s2 H2 fp) [] H' b:=λhn b hb=>
     #[hn b hb,(ok.exf b hb).1,ok.exfs b hb,.inl hb,(ok.exf b hb).2,(λp hp=>nomatch hp)]
   refine oA (λn s'=>∃i ys τ H',Inv (Cx.blockG X scope cl G.objs.size (O++F) s2 H2 fp) [] (τ++fs) H' s'/\τ.length=O.length/\tn i s'.heap/\(∀b∈fp,H' b=none)/\W i n ys H') ?_ m0
     #[0,[],_,_,IB,ae,T.keep _ _ _ st2 λb _ o e=>old b o e,fre,w0]
   rintro n s3 ⟨i,ys,τ,H3,I3,hτ,st3,fr3,w3⟩;rcases turn i n ys H3 w3 with ⟨stop,q⟩ | ⟨go,step⟩
   . refine ww (T.done (Cx.blockG X scope cl G.objs.size (O++F) s2 H2 fp) rfl rfl rfl hc i [] s3 (τ++fs) H3 (λ_ _=>False) I3 (stat fr3) st3 stop) (λr s4 hZ=>?_) (λ_ _ z=>z.elim);obtain⟨hr,I4⟩:=hZ;subst hr;obtain⟨m,hn,_⟩:=I4.loc;refine hRR _ G.objs.size H3 s4 (I2.call' (ch:=fp) I4.os I4.base I4.hok I4.bare λb hb=>?_) (I2.fpOk hCle I4.free) #[m,hn] q;obtain⟨g0,g1,g2,g3,g4,g5⟩:=f2 b hb;exact#[g3,g1,g4,g5]
   refine ww (T.item (Cx.blockG X scope cl G.objs.size (O++F) s2 H2 fp) rfl rfl rfl hc i [] s3 (τ++fs) H3 (λ_ _=>False) I3 (stat fr3) st3 go) (λr s4 hZ=>?_) (λ_ _ z=>z.elim);obtain⟨u,hr,h4⟩:=hZ;subst hr;refine ww h4 (λ_ s5 hZ=>?_) (λ_ _ z=>z.elim);obtain⟨v,H5,I5,r5,y5,st5,fr5⟩:=hZ;have I5':=I5.pinned (stat fr5) (T.obj _ _ st5);refine ww (hG _ _ _ _ _ _ s5 (τ++fs) H5 v u _ I5' r5 (step v H5 y5 τ hτ)) (λ_ s6 hZ=>?_) (λ_ _ z=>z.elim);obtain⟨σ6,H6,I6,⟨τ',hτ',e6⟩,q6⟩:=hZ;subst e6;have again:∀{s7:wb}{H7:Hp}{ys':List V}{m':Nat},Inv (Cx.blockG X scope cl G.objs.size (O++F) s2 H2 fp) ([]++L7 fp s5.heap) (τ'++fs) H7 s7->m'<n->W (i+1) m' ys' H7 ->
       ∃m,m<n/\∃i ys τ H',Inv (Cx.blockG X scope cl G.objs.size (O++F) s2 H2 fp) [] (τ++fs) H' s7/\τ.length=O.length/\tn i s7.heap/\(∀b∈fp,H' b=none)/\W i m ys H':=λ{s7 H7 ys' m'} I7 hm w7=>by
     refine#[m',hm,i+1,ys',τ',H7,I7.unpinned,hτ',T.keep _ _ _ st5 λb hb o e=>(I7.pin (b,o) (ε _ (ε _ (QF hb e)))).1,λb hb=>?_,w7];obtain⟨o,e,_⟩:=T.obj _ _ st5 b hb;exact(I7.pin (b,o) (ε _ (ε _ (QF hb e)))).2.1
   refine ww (hT _ _ _ _ _ _ s6 (τ'++fs) H6 _ I6 q6) (λb s7 hZ=>?_) (λ_ _ z=>z.elim);obtain⟨H7,I7,q7⟩:=hZ;cases b with
   | false=>
     obtain⟨m',hm,w7⟩:=q7;exact again I7 hm w7
   | true=>
     rw[xb1 rfl];refine ww (hE _ _ _ _ _ _ s7 (τ'++fs) H7 _ I7 q7) (λy' s8 hZ=>?_) (λ_ _ z=>z.elim);obtain⟨y,H8,I8,ry,hD,hz,m',hm,w8⟩:=hZ;refine ww (GX (X:=Cx.blockG X scope cl G.objs.size (O++F) s2 H2 fp) _ s8 (τ'++fs) H8 (.ref s2.heap.objs.size) [y] (.ref s2.heap.objs.size) [y'] (λ_ H9=>H9=upd H8 s2.heap.objs.size (.lst (ys++[y]))) I8 rfl (.cons ry .nil) #[s2.heap.objs.size,ys,y,rfl,rfl,hD,hz,rfl]) (λ_ s9 hZ=>?_) (λ_ _ z=>z.elim);obtain⟨_,H9,I9,_,e9⟩:=hZ;subst e9;exact again I9 hm w8
 exact codeAny_compStart_list (loop _ rfl) (T.self _ 0 _ _ _ (T.keep _ _ _ st2 λb _ o e=>old b o e) (loop _ rfl))
theorem HM(O F:List Str)(is:List Nat)(hc:X.calm=true)(hi:PI X tg iter wi)
   (hG:∀cl C s₀ H₀ ex,PG (Cx.blockG X scope cl C (O++F) s₀ H₀ ex) tg g) (hT:∀cl C s₀ H₀ ex,PTs (Cx.blockG X scope cl C (O++F) s₀ H₀ ex) ifs tt) (hE:∀cl C s₀ H₀ ex,PE (Cx.blockG X scope cl C (O++F) s₀ H₀ ex) elt te)
   (hF:EE X scope F is) (hfc:∀y∈scope.names,y.2 = .free->X.env.kindOf y.1=some .cell) (hrl:∀y,(relabel scope X.env).names.lookup y=some .cell\/(relabel scope X.env).names.lookup y=some .free->∃z∈scope.names,z.1=y/\z.2 = .free)
   (hkind:scope.kind = .function:=by rfl) (hcell:∀y∈scope.names,y.2≠.cell:=by decide +kernel)
   (hnames:∀y∈scope.names,y.2 = .local->scope.names.lookup y.1=some .local:=by decide +kernel) (hs:∀y,foldedSetIterable iter X.env y=pure y:=by intro _;rfl):
   PE X (.ListComp elt [#[tg,iter,ifs,0]] scope pos) (Mf O.length is wi g tt te):=by
 intro ϊ s σ H Q I h;rw[eval_ListComp];obtain⟨cl,hcf,hcl,hca⟩:=bW (scope:=scope) (env:=X.env) λy hy hf=>I.ok.has y.1 (.inl (hfc y hy hf));refine wpAny_comprehension_free (use:=none) (cl:=cl) rfl hs hcf hkind hnames (ww (hi ϊ s σ H _ I h) (λv s1 h1=>ww h1 (λitv s2 h2=>?_) λ_ _ e=>e) λ_ _ e=>e);obtain⟨it,fp,tn,J,H2,e,I2,T,st2,f2,R2⟩:=h2;subst e;refine bX (O:=O) (F:=F) (is:=is) (Q:=Q) (RR:=λacc C=>compPost (xl X.prog X.w) X.A X.xe none (EP X ϊ σ Q) acc C) hc hkind hcell hcl (λy hy=>?_) hF hG hT hE I2 T st2 f2 R2 ?_;obtain⟨z,hz,e1,e2⟩:=hrl y hy;subst e1;exact hca z hz e2;rintro D C H' s' I' f' ⟨m,hn⟩ q;obtain⟨f0,f1,f2',f3,f4,f5⟩:=f';refine#[m,hn,λh' sb=>#[.ref D,H',I'.turned (t':=s'.toks) (λb o hb e=>(sb.2 b hb).trans e) f0 f1 f3 f4 f5,rfl,q]]
theorem Mg{y:Str}{spos:Pos}(O F:List Str)(is:List Nat)(hN:X.N.Nodup)(hi0:X.N[i]?=some y)(hy:Loc X.env.scope y)(hc:X.calm=true)(hi:PI X tg iter wi)
   (hG:∀cl C s₀ H₀ ex,PG (Cx.blockG X scope cl C (O++F) s₀ H₀ ex) tg g) (hT:∀cl C s₀ H₀ ex,PTs (Cx.blockG X scope cl C (O++F) s₀ H₀ ex) ifs tt) (hE:∀cl C s₀ H₀ ex,PE (Cx.blockG X scope cl C (O++F) s₀ H₀ ex) elt te)
   (hF:EE X scope F is) (hfc:∀y∈scope.names,y.2 = .free->X.env.kindOf y.1=some .cell) (hrl:∀y,(relabel scope X.env).names.lookup y=some .cell\/(relabel scope X.env).names.lookup y=some .free->∃z∈scope.names,z.1=y/\z.2 = .free)
   (hsw:swapsWith (.ListComp elt [#[tg,iter,ifs,0]] scope pos) (some (.Name y py)) spos.line X.env=pure true:=by rfl)
   (hkind:scope.kind = .function:=by rfl) (hcell:∀y∈scope.names,y.2≠.cell:=by decide +kernel)
   (hnames:∀y∈scope.names,y.2 = .local->scope.names.lookup y.1=some .local:=by decide +kernel) (hs:∀y,foldedSetIterable iter X.env y=pure y:=by intro _;rfl)
   (hf:X.fn y=true\/X.env.scope.names.lookup y=some .local:=by first | exact .inl rfl | exact .inr rfl | assumption):
   PS X (.Assign [.Name y py] (.ListComp elt [#[tg,iter,ifs,0]] scope pos) spos) (zJ (Mf O.length is wi g tt te) (HB i)):=by
 intro ϊ s σ H D I h;rw[exec_Assign_Name_used _ _ _ _ hsw];obtain⟨cl,hcf,hcl,hca⟩:=bW (scope:=scope) (env:=X.env) λy hy hf=>I.ok.has y.1 (.inl (hfc y hy hf));refine wu (wpAny_standAt (wu ?_));show wx _ X.A (do let _ <-comprehension (.ListComp elt [#[tg,iter,ifs,0]] scope pos) scope X.env _ (newList []) false (xk iter X.env) (some (assign (.Name y py) X.env))) _ _ s;refine wu (ww (wpAny_comprehension_free (use:=some (assign (.Name y py) X.env)) (cl:=cl) (Q:=λ_ s'=>SP X ϊ D .next s') rfl hs hcf hkind hnames
   (ww (hi ϊ s σ H _ I h) (λv s1 h1=>ww h1 (λitv s2 h2=>?_) λ_ _ e=>e) λ_ _ e=>e)) (λ_ s' hq=>wv (wv hq)) λ_ _ e=>e)
 obtain⟨it,fp,tn,J,H2,e,I2,T,st2,f2,R2⟩:=h2;subst e;refine bX (O:=O) (F:=F) (is:=is) (Q:=λv H1=>HB i v σ H1 D.nx) (RR:=λacc C=>compPost (xl X.prog X.w) X.A X.xe (some (assign (.Name y py) X.env)) (λ_ s'=>SP X ϊ D .next s') acc C) hc hkind hcell hcl (λy hy=>?_) hF hG hT hE I2 T st2 f2 R2 ?_;obtain⟨z,hz,e1,e2⟩:=hrl y hy;subst e1;exact hca z hz e2;rintro D' C H' s' I' f' ⟨m,hn⟩ q;obtain⟨f0,f1,f2',f3,f4,f5⟩:=f';show wx _ X.A (assign (.Name y py) X.env (.ref D')) _ _ _;refine wpAny_assign_Name (ZR I' hN hi0 hy (v:=.ref D') rfl (λs'' I'' hZ=>?_) hf);obtain⟨a,sb,ha⟩:=hZ;have ne:C≠a:=by
   rcases ha with e | e
   rw[e];exact f1;exact λz=>f4 _ _ e z.symm
 exact#[m,hn.sameBut sb ne,λh' sb'=>#[_,H',I''.turned (t':=s''.toks) (λb o hb e=>(sb'.2 b hb).trans e) f0 f1 f3 f4 f5,q]]
theorem Ui(hK:X.K=K):IxR X (rIxT K):=hK▸By
theorem Uj(hK:X.K=K):IxR X (M_ K):=hK▸AQ
theorem EF{es:List wk}{k:Nat}{t:TGs}{n:Nat}(hK:X.K=K)(hc:X.calm=true)(h:PGs X es t)
   (hn:(assignEach es X.env).length=n:=by rfl) (hst:(assignEach es X.env).findIdx? (·.1)=none:=by rfl):PG X (.Tuple es k pos) (gTup K n t):=hK▸De hc h hn hst
theorem Q4{a:wk}{ta:TE}(hK:X.K=K)(ha:PE X a ta)(he:∀whole,isTrue a X.env whole=(do let v <-whole;standAt a.pos;holding [v] (truthy v))):PT X a (λσ H Q=>ta σ H λx H'=>∃k,ud7 K x H' k/\Q k H'):=by
 subst hK;exact Dc ha he
theorem DW{y:Str}(hcell:∀z∈scope.names,z.2≠.cell)(h:(relabel scope env).names.lookup y=some .cell\/(relabel scope env).names.lookup y=some .free):∃z∈scope.names,z.1=y/\z.2 = .free:=by
 have key:∀(l:List (Str×NameKind)) (k:NameKind),l.lookup y=some k->(y,k)∈l:=by
   intro l k
   induction l with
   | nil=>intro e;cases e
   | cons p r ih=>
     intro e;obtain⟨n,k'⟩:=p;rw[kf] at e;cases hb:y==n with
     | true=>
       rw[hb] at e;cases e;rw[eq_of_beq hb];exact η
     | false=>rw[hb] at e;exact ι _ (ih e)
 have fin:∀k,(relabel scope env).names.lookup y=some k->k = .cell\/k = .free->∃z∈scope.names,z.1=y/\z.2 = .free:=λk e hk=>by
   obtain⟨z,hz,ez⟩:=ce.mp (key _ _ e);obtain⟨n,k0⟩:=z;dsimp only at ez
   split at ez
   rename_i hc;simp only [dm,beq_iff_eq] at hc;cases ez;exact#[(y,k0),hz,rfl,hc.1.1];cases ez;rcases hk with rfl | rfl
   exact xb0 rfl (hcell _ hz);exact#[_,hz,rfl,rfl]
 rcases h with h | h
 exact fin _ h (.inl rfl);exact fin _ h (.inr rfl)
theorem Uk:EE X scope [] []:=#[rfl,λj y k e=>by simp at e]
theorem HN{y:Str}{k:Nat}(h1:X.N[k]?=some y)(h2:X.env.kindOf y=some .cell)(h3:(relabel scope X.env).names.lookup y=some .cell):EE X scope [y] [k]:=#[rfl,λj z i e1 e2=>by
 cases j with
 | zero=>
   have g1:y=z:=by simpa using e1
   have g2:k=i:=by simpa using e2
   subst g1 g2;exact#[h1,h2,h3]
 | succ j=>simp at e1]
theorem oC{y y':Str}{k:Nat}(h1:X.N[k]?=some y)(h1':X.N[k']?=some y')(h2:X.env.kindOf y=some .cell)(h2':X.env.kindOf y'=some .cell)(h3:(relabel scope X.env).names.lookup y=some .cell)(h3':(relabel scope X.env).names.lookup y'=some .cell):
   EE X scope [y,y'] [k,k']:=#[rfl,λj z i e1 e2=>by
 match j with
 | 0=>
   have g1:y=z:=by simpa using e1
   have g2:k=i:=by simpa using e2
   subst g1 g2;exact#[h1,h2,h3]
 | 1=>
   have g1:y'=z:=by simpa using e1
   have g2:k'=i:=by simpa using e2
   subst g1 g2;exact#[h1',h2',h3']
 | j+2=>simp at e1]
theorem HP{n:Str}(h:∀y∈scope.names,y.2 = .free->y.1=n)(k:X.env.kindOf n=some .cell):∀y∈scope.names,y.2 = .free->X.env.kindOf y.1=some .cell:=λy hy hf=>by rw[h y hy hf];exact k
theorem oE{n m:Str}(h:∀y∈scope.names,y.2 = .free->y.1=n\/y.1=m)(k:X.env.kindOf n=some .cell)(k':X.env.kindOf m=some .cell):∀y∈scope.names,y.2 = .free->X.env.kindOf y.1=some .cell:=λy hy hf=>by
 rcases h y hy hf with e | e
 rw[e];exact k;rw[e];exact k'
theorem bY(O:List Str)(hc:X.calm=true)(hi:PI X tg iter wi)
   (hG:∀cl C s₀ H₀ ex,PG (Cx.blockG X scope cl C (O++[]) s₀ H₀ ex) tg g) (hT:∀cl C s₀ H₀ ex,PTs (Cx.blockG X scope cl C (O++[]) s₀ H₀ ex) ifs tt) (hE:∀cl C s₀ H₀ ex,PE (Cx.blockG X scope cl C (O++[]) s₀ H₀ ex) elt te)
   (hfree:∀y∈scope.names,y.2≠.free:=by decide +kernel) (hkind:scope.kind = .function:=by rfl) (hcell:∀y∈scope.names,y.2≠.cell:=by decide +kernel)
   (hnames:∀y∈scope.names,y.2 = .local->scope.names.lookup y.1=some .local:=by decide +kernel) (hs:∀y,foldedSetIterable iter X.env y=pure y:=by intro _;rfl):
   PE X (.ListComp elt [#[tg,iter,ifs,0]] scope pos) (Mf O.length [] wi g tt te):=
 HM O [] [] hc hi hG hT hE Uk (λy hy hf=>xb0 hf (hfree y hy)) (λy h=>DW hcell h) hkind hcell hnames hs
theorem oF{y:Str}{spos:Pos}(O:List Str)(hN:X.N.Nodup)(hi0:X.N[i]?=some y)(hy:Loc X.env.scope y)(hc:X.calm=true)(hi:PI X tg iter wi)
   (hG:∀cl C s₀ H₀ ex,PG (Cx.blockG X scope cl C (O++[]) s₀ H₀ ex) tg g) (hT:∀cl C s₀ H₀ ex,PTs (Cx.blockG X scope cl C (O++[]) s₀ H₀ ex) ifs tt) (hE:∀cl C s₀ H₀ ex,PE (Cx.blockG X scope cl C (O++[]) s₀ H₀ ex) elt te)
   (hsw:swapsWith (.ListComp elt [#[tg,iter,ifs,0]] scope pos) (some (.Name y py)) spos.line X.env=pure true:=by rfl)
   (hfree:∀y∈scope.names,y.2≠.free:=by decide +kernel) (hkind:scope.kind = .function:=by rfl) (hcell:∀y∈scope.names,y.2≠.cell:=by decide +kernel)
   (hnames:∀y∈scope.names,y.2 = .local->scope.names.lookup y.1=some .local:=by decide +kernel) (hs:∀y,foldedSetIterable iter X.env y=pure y:=by intro _;rfl)
   (hf:X.fn y=true\/X.env.scope.names.lookup y=some .local:=by first | exact .inl rfl | exact .inr rfl | assumption):
   PS X (.Assign [.Name y py] (.ListComp elt [#[tg,iter,ifs,0]] scope pos) spos) (zJ (Mf O.length [] wi g tt te) (HB i)):=
 Mg O [] [] hN hi0 hy hc hi hG hT hE Uk (λy hy hf=>xb0 hf (hfree y hy)) (λy h=>DW hcell h) hsw hkind hcell hnames hs hf
end
section
variable {K:δ}{σ:L2.St}{H:Hp}{Q:VK}
theorem r_compG{n:Nat}(h:wi σ H λJ H1=>Q3 n (is.map λk=>σ.getD k none) J g tt te Q H1):Mf n is wi g tt te σ H Q:=h
def Nx(n:Nat)(Pv:wa->Nat->List V->Hp->Prop)(D:wa)(i:Nat)(ys:List V)(H2:Hp):Prop:=∃m',m'<n-i/\m'=n-(i+1)/\i+1<=n/\Pv D (i+1) ys H2
theorem Co{n:Nat}{D:wa}{ys:List V}{H2:Hp}(hi:i<n)(p:Pv D (i+1) ys H2):Nx n Pv D i ys H2:=#[_,∅,rfl,hi,p]
theorem DX{a:wa}{xs:List V}{n:Nat}{fs:L2.St}(Pv:wa->Nat->List V->Hp->Prop)(h0:∀D,H D=none->Pv D 0 [] (upd H D (.lst [])))
   (hl:∀D i ys H2,i<=xs.length->Pv D i ys H2->SqL K H2 a xs)
   (hs:∀D i x ys H2,H D=none->xs[i]?=some x->Pv D i ys H2->∀τ:L2.St,τ.length=n->g x (τ++fs) H2 λσ1 H4=>(∃τ':L2.St,τ'.length=n/\σ1=τ'++fs)/\tt σ1 H4 λb H5=>
     if b=true then te σ1 H5 λy H6=>H6 D=some (.lst ys)/\ys.length<wt/\Nx xs.length Pv D i (ys++[y]) (upd H6 D (.lst (ys++[y]))) else Nx xs.length Pv D i ys H5)
   (hd:∀D ys H2,H D=none->Pv D xs.length ys H2->Q (.ref D) H2):Q3 n fs (Itl K a) g tt te Q H:=by
 intro D hD;refine#[λi m ys H2=>m=xs.length-i/\i<=xs.length/\Pv D i ys H2,#[_,rfl,dv _,h0 D hD],?_];rintro i m ys H2 ⟨rfl,hi,p⟩;have q:=hl D i ys H2 hi p;by_cases hlt:i<xs.length;refine .inr #[#[xs,xs[i],q,by simp [hlt]],λx H3 y τ hτ=>?_];obtain⟨e,y⟩:=y;subst e;have ex:=y xs q;exact hs D i x ys _ hD ex p τ hτ;have e:i=xs.length:=∅;subst e;exact .inl #[#[xs,q,Γ _],hd D ys H2 hD p]
end
section
variable {prog:we}{w:wf}{A:wg}{R:Result->wb->Prop}{I:wa}{fp wr:List wa}{n:Nat}{P:Nat->vz->Prop}{St:Nat->xt->Prop}
def Ul(prog:we)(w:wf)(A:wg)(Kp:xt->Prop)(P:Nat->vz->Prop)(bt:Nat->Nat->Bool):Prop:=
 ∀i j x y (t:wb) (Q:vz->wb->Prop) (E:vz->wb->Prop),Kp t.heap->P i x->P j y->Q (.bool (bt i j)) t->wx (xl prog w) A (richCompare .Lt x y) Q E t
theorem oG(W:Walks prog w A.in1 I fp wr n P St)(bt:Nat->Nat->Bool)(Kp:xt->Prop)(cmp:Ul prog w A.in1 Kp P bt)(S:wa)(sf:S ∉ fp)
   (kpk:∀h h',Kp h->(∀b o,b ∉ wr->b≠S->h.get? b=some o->h'.get? b=some o)->Kp h'):
   ∀(k j:Nat)(t:wb)(vb:vz)(c:Nat),n-(j+1)=k->j+1<=n->St (j+1) t.heap->Kp t.heap->P (argBest bt j) vb ->
   t.heap.get? S=some { cls:=.type "list",dict:=none,data:=.seq (ϋ [vb,vb]) c,slots:=(ϋ []) } ->
   (∀v h' tk,P (argBest bt (n-1)) v->(∀b o,b ∉ wr->b≠S->t.heap.get? b=some o->h'.get? b=some o)->R (.ok (.ret v)) { t with heap:=h',toks:=tk }) ->
   codeAny (xl prog w) A (.builtin "min.loop" #[[.ref I,.none,.ref S],[]]) R t:=by
 have sw:S ∉ wr:=λh=>sf (W.sub _ h);have nm:(toString "min"++toString ".loop":String)="min.loop":=by decide
 intro k
 induction k with
 | zero=>
   intro j t vb c hk hj st kp pb hS fin;have en:j+1=n:=∅;refine codeAny_builtin F.entry_min_loop ?_;rw[Around.under_plainId F.plain_min_loop _];show wx _ A.in1 (xa (.ref S) >>= _) _ _ t;refine wu (wpAny_seqItems hS rfl ?_);show wx _ A.in1 (tryCatch (pyNext (.ref I)) _ >>= _) _ _ t;refine wu (wpAny_tryCatch (W.done t _ _ (en▸st) λh' tk kk=>?_));have hS1:=kk S _ sw hS;show wx _ A.in1 (updateSeq S (λ_=>(ϋ [])) >>= _) _ _ _;refine wu ?_;refine wpAny_updateSeq hS1 rfl (wu (wpAny_letGo (wv ?_)));exact fin vb _ tk (by rw[<-en];exact pb) λb o bw bS e=>(ah _ _ (fh bS)).trans (kk b o bw e)
 | succ k ih=>
   intro j t vb c hk hj st kp pb hS fin;have lt:j+1<n:=∅;refine codeAny_builtin F.entry_min_loop ?_;rw[Around.under_plainId F.plain_min_loop _];show wx _ A.in1 (xa (.ref S) >>= _) _ _ t;refine wu (wpAny_seqItems hS rfl ?_);show wx _ A.in1 (tryCatch (pyNext (.ref I)) _ >>= _) _ _ t;refine wu (wpAny_tryCatch (W.item (j+1) t _ _ lt st λv h' tk pv st1 kk=>?_));have hS1:=kk S _ sw hS;have kp1:Kp h':=kpk _ _ kp λb o bw _ e=>kk b o bw e;show wx _ A.in1 (tryCatch (holding [v,v] (richCompare .Lt v vb >>= _)) _ >>= _) _ _ _;refine wu (wpAny_tryCatch (wpAny_holding (wu (cmp (j+1) (argBest bt j) v vb _ _ _ kp1 pv pb ?_))));refine wu (wpAny_holding (xn ?_));refine wu (wpAny_letGo (wv ?_));cases hb:bt (j+1) (argBest bt j) with
   | true=>
     simp only [if_true];refine wu ?_;refine wpAny_updateSeq hS1 rfl (wu (wpAny_letGo ?_));rw[nm];refine wv #[plainId_quiet F.plain_min_loop _,ih (j+1) _ v _ ∅ lt (W.frame _ _ _ st1 λb bf o e=>?_) (kpk _ _ kp1 λb o _ bS e=>(ah _ _ (fh bS)).trans e) (by simp only [argBest,hb,if_true];exact pv) (ck _ hS1 rfl)
       λv' h2 tk2 pv2 kk2=>?_]
     exact(ah _ _ (λz:S=b=>sf (by rw[z];exact bf))).trans e;exact fin v' h2 tk2 pv2 λb o bw bS e=>kk2 b o bw bS ((ah _ _ (fh bS)).trans (kk b o bw e))
   | false=>
     simp only [fe,if_false];refine wu (wpAny_letGo ?_);rw[nm];refine wv #[plainId_quiet F.plain_min_loop _,ih (j+1) _ vb c ∅ lt st1 kp1 (by simp only [argBest,hb,fe,if_false];exact pb) hS1 λv' h2 tk2 pv2 kk2=>?_];exact fin v' h2 tk2 pv2 λb o bw bS e=>kk2 b o bw bS (kk b o bw e)
theorem oH(W:Walks prog w A.in1 I fp wr n P St)(bt:Nat->Nat->Bool)(Kp:xt->Prop)(cmp:Ul prog w A.in1 Kp P bt)(S:wa)(sf:S ∉ fp)
   (kpk:∀h h',Kp h->(∀b o,b ∉ wr->b≠S->h.get? b=some o->h'.get? b=some o)->Kp h') (hn:0<n) {t:wb} {c:Nat} (st:St 0 t.heap) (kp:Kp t.heap)
   (hS:t.heap.get? S=some { cls:=.type "list",dict:=none,data:=.seq (ϋ []) c,slots:=(ϋ []) })
   (fin:∀v h' tk,P (argBest bt (n-1)) v->(∀b o,b ∉ wr->b≠S->t.heap.get? b=some o->h'.get? b=some o)->R (.ok (.ret v)) { t with heap:=h',toks:=tk }):
   codeAny (xl prog w) A (.builtin "min.loop" #[[.ref I,.none,.ref S],[]]) R t:=by
 have sw:S ∉ wr:=λh=>sf (W.sub _ h);have nm:(toString "min"++toString ".loop":String)="min.loop":=by decide
 refine codeAny_builtin F.entry_min_loop ?_;rw[Around.under_plainId F.plain_min_loop _];show wx _ A.in1 (xa (.ref S) >>= _) _ _ t;refine wu (wpAny_seqItems hS rfl ?_);show wx _ A.in1 (tryCatch (pyNext (.ref I)) _ >>= _) _ _ t;refine wu (wpAny_tryCatch (W.item 0 t _ _ hn st λv h' tk pv st1 kk=>?_));have hS1:=kk S _ sw hS;have kp1:Kp h':=kpk _ _ kp λb o bw _ e=>kk b o bw e;show wx _ A.in1 (updateSeq S (λ_=>(ϋ [v,v])) >>= _) _ _ _;refine wu ?_;refine wpAny_updateSeq hS1 rfl ?_;rw[nm];refine wv #[plainId_quiet F.plain_min_loop _,oG W bt Kp cmp S sf kpk _ 0 _ v _ rfl hn (W.frame _ _ _ st1 λb bf o e=>?_) (kpk _ _ kp1 λb o _ bS e=>(ah _ _ (fh bS)).trans e) pv (ck _ hS1 rfl) λv' h2 tk2 pv2 kk2=>?_];exact(ah _ _ (λz:S=b=>sf (by rw[z];exact bf))).trans e;exact fin v' h2 tk2 pv2 λb o bw bS e=>kk2 b o bw bS ((ah _ _ (fh bS)).trans (kk b o bw e))
end
section
variable {prog:we}{w:wf}{A:wg}{E:vz->wb->Prop}{s:wb}
theorem oJ{x:vz}
   (h:wx (xl prog w) A.in1 (pyIter x) (λitv t=>∃I fp wr n P St bt Kp,itv = .ref I/\Walks prog w A.in1 I fp wr n P St/\St 0 t.heap/\Kp t.heap/\(∀b∈fp,b<t.heap.objs.size)/\0<n/\Ul prog w A.in1 Kp P bt /\
     (∀h h',Kp h->(∀b o,b ∉ wr->b≠t.heap.objs.size->h.get? b=some o->h'.get? b=some o)->Kp h') /\
     ∀v h' tk,P (argBest bt (n-1)) v->(∀b o,b ∉ wr->t.heap.get? b=some o->h'.get? b=some o)->Q v { t with heap:=h',toks:=tk }) E s):
   wx (xl prog w) A (call (.builtin "min") [x]) Q E s:=by
 have nm:(toString "min"++toString ".loop":String)="min.loop":=by decide
 refine call_function_tree F.kind_min F.plain_min F.entry_min (F.args_min1 _) ?_;show wx _ A.in1 (Builtin.Builtins.bindParams "min" ["key","default"] 0 #[[],[]] >>= _) _ _ s;refine wu (wpAny_of_eq (show Builtin.Builtins.bindParams "min" ["key","default"] 0 #[[],[]]=pure [none,none] from rfl) ?_);refine wu (wv ?_);refine wu (ww h (λitv t ht=>?_) λ_ _ e=>e);obtain⟨I,fp,wr,n,P,St,bt,Kp,rfl,W,st,kp,hfp,hn,cmp,kpk,hQ⟩:=ht;refine wu (wpAny_newObj_type ?_);have sf:t.heap.objs.size ∉ fp:=λhm=>cv _ (hfp _ hm);rw[nm];refine wv #[plainId_quiet F.plain_min_loop _,oH W bt Kp cmp t.heap.objs.size sf kpk hn (W.frame _ _ _ st λb _ o e=>μ _ e) (kpk _ _ kp λb o _ _ e=>μ _ e) (ak _ rfl) λv h' tk pv kk=>?_];exact hQ v h' tk pv λb o bw e=>kk b o bw (bi (af e)) (μ _ e)
end
def B4(xs:List (List Int)):Nat->Nat
 | 0=>0
 | k+1=>if HT.lexLt (xs.getD (k+1) []) (xs.getD (B4 xs k) []) then k+1 else B4 xs k
theorem bZ(xs:List (List Int)):∀k,argBest (λi j=>HT.lexLt (xs.getD i []) (xs.getD j [])) k=B4 xs k
 | 0=>rfl
 | k+1=>by
   unfold argBest B4;rw[bZ xs k]
theorem K9(xs:List (List Int)):∀k,B4 xs k<=k
 | 0=>Γ 0
 | k+1=>by
   unfold B4;have:=K9 xs k
   split <;> lia
section
variable {X:Cx}
theorem cA(hc:X.calm=true)(hu:X.A.units+64<xm):DN X (.builtin "min") (λvs H Q=>∃p us,∃xs:List (List Int),vs=[.ref p]/\H p=some (.lst us)/\Cr H us (xs.map λx=>x.map V.int)/\0<xs.length /\
   ∀t,us[B4 xs (xs.length-1)]?=some (.ref t)->H t=some (.tup ((xs.getD (B4 xs (xs.length-1)) []).map V.int))->Q (.ref t) H):=by
 intro ϊ s σ H vs us' Q I r h;obtain⟨p,us,xs,rfl,hp,ta,hn,q⟩:=h;obtain⟨u,rfl,rx⟩:∃u,us'=[u]/\RelV (.ref p) u:=by
   cases r with
   | cons a b=>cases b;exact#[_,rfl,a]
 cases rx;obtain⟨its,r1,p1,_⟩:=I.list (SqL.of hp);have l1:=r1.length;have l2:=ta.1;rw[Φ] at l2;have tups:∀i,i<xs.length->∃t its2,its[i]?=some (.ref t)/\us[i]?=some (.ref t)/\H t=some (.tup ((xs.getD i []).map V.int))/\s.heap.IsTuple t (fb its2)/\IntsAre its2 (xs.getD i []):=λi hi=>by
   obtain⟨t,e1,e2⟩:=ta.2 i ((xs[i]).map V.int) (by simp [hi]);obtain⟨u1,g1,q1⟩:=r1.get e1;cases q1;obtain⟨its2,r2,p2,_⟩:=I.tuple (SqT.of e2);have ex:xs.getD i []=xs[i]:=by simp [hi]
   rw[ex];exact#[t,its2,g1,e1,e2,p2,To r2]
 have lt:p<s.heap.objs.size:=by obtain⟨_,e,_⟩:=p1.isList;exact af e
 refine oJ (wpAny_pyIter_list p1.isList ?_);refine#[s.heap.objs.size,[s.heap.objs.size,p],[s.heap.objs.size],its.toArray.size,λi v=>its.toArray[i]?=some v,_,λi j=>HT.lexLt (xs.getD i []) (xs.getD j []),λ(hh:xt)=>∀(i:Nat)(t:wa)(its2:List vz),its[i]?=some (Value.ref t)->s.heap.IsTuple t (fb its2)->hh.IsTuple t (fb its2),rfl,Walks.list (A:=X.A.in1) (I.ok.hd hc) _ p (bi lt) its.toArray,
   #[#[_,ak _ rfl,rfl,rfl],p1.isList.push _],?_,?_,?_,?_,?_,?_]
 intro i t its2 _ ht;exact ht.push _;intro b hb;show b<(s.heap.push _).objs.size;rw[jw];rcases Ξ.mp hb with z | z
 rw[z];exact ip _;have:b=p:=by simpa using z
 rw[this];exact ma lt;rw[ο];lia;intro i j x y t Q' E' kp pi pj hq;rw[kb] at pi pj;have hi:i<xs.length:=by have:=(γ.mp pi).1;lia
 have hj:j<xs.length:=by have:=(γ.mp pj).1;lia
 obtain⟨t1,s1,a1,_,_,b1,c1⟩:=tups i hi;obtain⟨t2,s2,a2,_,_,b2,c2⟩:=tups j hj;rw[a1] at pi;rw[a2] at pj;cases pi;cases pj;exact HT.lt_tupInts (kp i t1 s1 a1 b1) (kp j t2 s2 a2 b2) c1 c2 (by show X.A.units+1<xm;lia) hq;intro h h' kp kk i t its2 g ht;have e0:=kp i t its2 g ht;obtain⟨o,e,hcl,hd⟩:=ht;obtain⟨o',e',r'⟩:=e0;have lt':=af e;refine#[o',kk t o' (λz=>?_) (bi ?_) e',r'];have z':t=s.heap.objs.size:=by simpa using z
 rw[z'] at lt';exact cv _ lt';show t<(s.heap.push _).objs.size;rw[jw];exact ma lt';intro v h' tk pv kk;rw[ο,<-l1,l2,bZ,kb] at pv;have hm:B4 xs (xs.length-1)<xs.length:=by have:=K9 xs (xs.length-1);lia
 obtain⟨t,its2,a1,a2,a3,_,_⟩:=tups _ hm;rw[a1] at pv;cases pv;refine#[.ref t,H,?_,rfl,q t a2 a3];refine I.kept (t':=tk) λb o e=>kk b o (λz=>?_) (μ _ e);have:=af e;have z':b=s.heap.objs.size:=by simpa using z
 rw[z'] at this;exact cv _ this
end
structure InsK(K:δ)(C:wa):Prop where
 cl:Cls K C
 ha:bp K (.ref C) "__class__"=some (some (.builtin "object.__class__"))
 hn:specialIn K (.builtin "object.__class__") "__get__"=some (some (.builtin "getset_descriptor.__get__"))
 htk:takesIn K (.builtin "object.__class__")=some true
 hm:ij K C (.type "object")=some true
section
variable {X:Cx}
end
section
variable {K:δ}{σ:L2.St}{H:Hp}{Q:VK}{D:Ends}
theorem r_sat{a:wa}{fs:List (Str×V)}{f:Str}(h:H a=some (.ins C dx fs))(c:Cls K C)(n:B1 K C f)(l:fs.length<1000)(q:R a C dx fs):
   ∃a' C' dx' fs',V.ref a=V.ref a'/\H a'=some (.ins C' dx' fs')/\Cls K C'/\B1 K C' f/\fs'.length<1000/\R a' C' dx' fs':=#[a,C,dx,fs,rfl,h,c,n,l,q]
theorem r_make{E:XK}{t:TA}(h:t σ H λvs H1=>∀x dx,H1 x=none->H1 dx=none->dx≠x->sp (.ref x::vs) (upd (upd H1 dx (.own x)) x (.ins C dx [])) (λv H2=>v = .non/\Q (.ref x) H2) E):QL C sp [] E t σ H Q:=by
 unfold QL;simp only [aq];exact h
end
section
variable {X:Cx}
theorem Um(hu:X.A.units+64<xm):OpR X (xc .Eq) (λx y H Q=>∃a b us ws ps,x = .ref a/\y = .ref b/\H a=some (.lst us)/\H b=some (.lst ws)/\AJ H us ps/\AJ H ws ps/\Q (.bl true) H):=by
 intro ϊ s σ H x y v u Q I rx ry h;obtain⟨a,b,us,ws,ps,rfl,rfl,ha,hb,pu,pw,q⟩:=h;cases rx;cases ry;obtain⟨its,r1,p1,_⟩:=I.list (SqL.of ha);obtain⟨its2,r2,p2,_⟩:=I.list (SqL.of hb);have l1:=r1.length;have l2:=r2.length;have m1:=pu.1;have m2:=pw.1;have key:SeqAt.RcAt X.A s (.ref a) (.ref b) ((cq its.toArray.size).all (λ_=>true)):=by
   refine mq p1.isList p2.isList (by rw[ο,ο];lia) ∅ λj h1 h2=>?_;rw[ο] at h1 h2;have hj:j<ps.length:=∅;obtain⟨t1,e1,f1⟩:=pu.2 j ps[j] (by simp [hj]);obtain⟨t2,e2,f2⟩:=pw.2 j ps[j] (by simp [hj]);obtain⟨u1,g1,q1⟩:=r1.get e1;obtain⟨u2,g2,q2⟩:=r2.get e2;cases q1;cases q2;obtain⟨_,k1⟩:=γ.mp g1;obtain⟨_,k2⟩:=γ.mp g2;have z:=T7 (A:=X.A.in1) (by show X.A.units+1<xm;lia) I (SqT.of f1) (SqT.of f2) rfl;rw[<-k1,<-k2] at z;simpa using z
 have e:((cq its.toArray.size).all (λ_=>true))=true:=by simp
 rw[e] at key;exact key _ _ _ _ #[.bl true,H,I,rfl,q]
end
def Aw(x:wa)(H H':Hp):Prop:=∀b o,b≠x->H b=some o->H' b=some o
theorem Aw.refl:Aw x H H:=λ_ _ _ h=>h
theorem Aw.of(s:Same H H'):Aw x H H':=λb o _ h=>s b o h
theorem Aw.trans{H'':Hp}(s:Aw x H H')(t:Aw x H' H''):Aw x H H'':=λb o n h=>t b o n (s b o n h)
theorem Aw.put{o:HO}(s:Aw x H H'):Aw x H (upd H' x o):=λb o' n h=>look_ne n (s b o' n h)
theorem Uo(i:Nat):1<=(2:Int)^i:=by
 have:=Int.pow_pos (n:=2) (m:=i) m!"";lia
def C8(k:Nat)(c:Int):Prop:=c<=2^k/\∀i,i<k->(2:Int)^i<c
theorem Eu(h:i<=j):(2:Int)^i<=2^j:=by
 obtain⟨d,rfl⟩:=Nat.exists_eq_add_of_le h;rw[vc];have:=Uo d;have:=au this (show 0<=(2:Int)^i by have:=Uo i;lia);lia
theorem cD(h:(2:Int)^i<2^j):i<j:=by
 rcases kq i j with h1 | h1
 exact h1;have:=Eu h1;lia
theorem C8.uniq{k:Nat}(h:C8 k c)(h':C8 k' c):k=k':=by
 rcases jy k k' with g | g | g
 have:=h'.2 k g;have:=h.1;lia;exact g;have:=h.2 k' g;have:=h'.1;lia
theorem cE{c:Nat}(h:1<=c):C8 (c.log2+1) ((c:Int)+1):=by
 have h1:=Nat.lt_log2_self (n:=c);have h2:=Nat.log2_self_le (n:=c) ∅;refine#[?_,λi hi=>?_];have:((c+1:Nat):Int)<=((2^(c.log2+1):Nat):Int):=uh.mpr h1;rw[sd] at this
 push_cast at this
 exact this;have:(2:Int)^i<=2^c.log2:=Eu ∅;have h3:((2^c.log2:Nat):Int)<=(c:Int):=uh.mpr h2;rw[sd] at h3
 push_cast at h3
 lia
structure MethD(P:we)(w:wf)(K:δ)(mg:Str->Option vz)(base:xt)(C:wa)(m:Str)(j:Nat)(ps:List Str)(dvs:List V)(sp:Sp):Prop where
 all:Methx P w K mg base C m j ps [] sp
 less:Methx P w K mg base C m j ps dvs sp
theorem MethD.made{P:we}{base:xt}{m:Str}{ps:List Str}{f:wa}{fd:wc}{ds:List vz}
   (F:FnOk P w K mg base (CXe P w) j f fd ps sp) (M:yI K C m f) (b:BL K fd ps []) (b':BL K fd ps ds) (v:Vals dvs ds) (c:Cls K C):MethD P w K mg base C m j ps dvs sp:=
 #[#[#[f,fd,[],F,M,b,.nil],c],#[#[f,fd,ds,F,M,b',v],c]]
theorem FunD.bindsA{x qual:Str}{f:wa}{fd:wc}{ps:List Str}{ds:List vz}{tc:vz}{tn:Nat}(F:FunD K x qual st (.ref T) f fd)
   (lt:K.lookup T=some #[tc,td,.seq ds.toArray tn,tsl])
   (h:∀(kV doc pm:vz)(an:Option wa)(cdv ct:vz)(us:List vz),us.length=ps.length->∃k:Option (Array vz)->xq (List (Str×vz)),
     wq (fnOf x qual (Bb st) (A3 st) (An st) (.ref T) kV doc pm an cdv ct) #[us,[]]=xa (.ref T) >>= k/\k (some ds.toArray)=pure (ps.zip us)):BL K fd ps []:=by
 obtain⟨oc,od,kV,doc,pm,an,cdv,ct,osl,rfl,lk,hcd⟩:=F.ex;intro s us X hl;rw[aq] at hl ⊢;obtain⟨k,h1,h2⟩:=h kV doc pm an cdv ct us hl;exact .of_defaults rfl (X _ _ lt) rfl h1 h2
abbrev TXS:=Ends->XK->L2.St->Hp->Prop
def PXS(X:Cx)(ss:List wl)(t:TXS):Prop:=∀(ϊ:List (wa×Obj)) (s:wb) (σ:L2.St) (H:Hp) (D:Ends) (EX:XK) (Qp:Flow->wb->Prop) (W:vz->wb->Prop),Inv X ϊ σ H s->t D EX σ H->(∀f s',SP X ϊ D f s'->Qp f s') ->
 (∀H1 s1 y s',Inv X ϊ σ H1 s1->CXe X.prog X.w X.stack H1 s1 EX y s'->W y s')->wx (xl X.prog X.w) X.A (execs ss X.env) Qp W s
def xSet(i:Nat)(t:TX):TXS:=λD EX σ H=>t σ H (λv H2=>D.nx (σ.set i (some v)) H2) EX
def xIf(c:TT)(t u:TXS):TXS:=λD EX σ H=>c σ H λb H1=>if b=true then t D EX σ H1 else u D EX σ H1
def zO(t:TXS)(th:TH):TS:=λD σ H=>t D (λc od H2=>∃C,c = .ref C/\∀x,H2 x=none->th x C D σ (upd H2 x (yS x C od))) σ H
section
variable {X:Cx}{e c:wk}{t:TX}{tc:TT}{ta tb ts:TXS}{a b ss:List wl}{pos epos:Pos}{hs:List ExceptHandler}{th:TH}
theorem Mh{y:Str}(hN:X.N.Nodup)(hi:X.N[i]?=some y)(hy:Loc X.env.scope y)(he:PX X e t)(hsw:swapsWith e (some (.Name y py)) epos.line X.env=pure false:=by rfl)
   (hf:X.fn y=true\/X.env.scope.names.lookup y=some .local:=by first | exact .inl rfl | exact .inr rfl | assumption):PXS X [.Assign [.Name y py] e epos] (xSet i t):=by
 intro ϊ s σ H D EX Qp W I h hv hx;exact wpAny_execs_cons (wpAny_Assign_Name (he ϊ s σ H _ _ _ _ I h (λu s' ⟨v,H2,I2,r2,q2⟩=>QB I2 hN hi hy r2 (λs3 I3=>xp (hv .next s3 #[_,H2,I3,q2])) hf) hx) hsw)
theorem Q5(hc:PT X.nox c tc)(ha:PXS X a ta)(hb:PXS X b tb):PXS X [.If c a b pos] (xIf tc ta tb):=by
 intro ϊ s σ H D EX Qp W I h hv hx;refine wpAny_execs_cons (wpAny_If (ww (hc ϊ s σ H _ (I.wish _) h) (λd s1 hZ=>?_) (λ_ _ z=>z.elim)));obtain⟨H1,I1',q1⟩:=hZ;have I1:=I1'.unwish;have hv':∀f s',SP X ϊ D f s'->(match f with | .next=>wx (xl X.prog X.w) X.A (execs [] X.env) Qp W s' | f=>Qp f s'):=λf s' z=>by
   cases f with
   | next=>exact xp (hv .next s' z)
   | brk=>exact hv .brk s' z
   | cont=>exact hv .cont s' z
   | ret u=>exact hv (.ret u) s' z
 cases d with
 | true=>exact ha ϊ s1 σ H1 D EX _ W I1 q1 hv' hx
 | false=>exact hb ϊ s1 σ H1 D EX _ W I1 q1 hv' hx
theorem oK(he:PXS X ss ts)(hst:X.stack=X.env::X.outer/\X.env.frame=some X.env.locals)(hh:PH X (h₀::hs) th):PS X (.Try ss (h₀::hs) [] [] pos) (zO ts th):=by
 intro ϊ s σ H D I h;refine wpAny_Try_except (he ϊ s σ H D _ _ _ I h (λf s' z=>?_) (λH1 s1 y s' I1 hq=>?_))
 . cases f with
   | next=>exact xp z
   | brk=>exact z
   | cont=>exact z
   | ret u=>exact z
 refine aW I1 hst hq λx C od T h2 H2 ex ⟨C',ec,q⟩ t2 J2 again=>?_;subst ex;cases ec;exact hh ϊ _ σ _ D x C T od I.ok J2 t2 (λh3 u3 t3=>(again h3 u3 t3).2) (q x (again h2 (Upto.refl _ _ _) t2).1)
end
section
variable {K:δ}{σ:L2.St}{H:Hp}{Q:VK}{D:Ends}{EX:XK}
theorem r_tryS{t:TXS}{th:TH}(h:t D (λc od H2=>∃C,c = .ref C/\∀x,H2 x=none->th x C D σ (upd H2 x (yS x C od))) σ H):zO t th D σ H:=h
theorem r_xSet{t:TX}(h:t σ H (λv H2=>D.nx (σ.set i (some v)) H2) EX):xSet i t D EX σ H:=h
theorem r_xIf{c:TT}{t u:TXS}(h:c σ H λb H1=>if b=true then t D EX σ H1 else u D EX σ H1):xIf c t u D EX σ H:=h
end
def DY(s:Int)(j m:Nat):List Pc:=(vd j m).map λi:Nat=>#[s*(i:Int),s,false]
theorem cG(s:Int)(j m:Nat):DY s j (m+1)=#[s*(j:Int),s,false]::DY s (j+1) m:=by
 unfold DY;rw[rk,cb]
theorem oM(s:Int)(j m:Nat):DY s j (m+1)=DY s j m++[#[s*((j+m:Nat):Int),s,false]]:=by
 unfold DY;rw[List.range'_concat,ay,Nat.one_mul];rfl
theorem Q6{s:Int}(hs:1<=s):∀(m j:Nat),Am (s*(j:Int)) (DY s j m) (s*((j+m:Nat):Int))
 | 0,j=>rfl
 | m+1,j=>by
   rw[cG];refine#[rfl,hs,(λz=>by cases z),?_];have h:=Q6 hs m (j+1);rw[show j+1+m=j+(m+1) by lia] at h;show Am (s*(j:Int)+s) _ _;rw[show s*(j:Int)+s=s*((j+1:Nat):Int) by rw[ci,dy];lia];exact h
theorem At.app{ds:List Int}{ps qs:List Pc}(h0:Cs ps cs.length)(m:At cs ps)(h1:Et qs 0)(k:At ds qs):
   At (cs++ds) (ps++qs.map λq=>#[q.a+cs.length,q.l,q.v]):=by
 intro p hp;rcases ν.mp hp with h | h
 obtain⟨a0,a1,a2⟩:=h0 p h;obtain⟨m1,m2⟩:=m p h;exact#[by rw[ψ ∅];exact m1,by rw[ψ ∅];exact m2];obtain⟨q,hq,rfl⟩:=ce.mp h;obtain⟨b0,b1⟩:=h1 q hq;obtain⟨m1,m2⟩:=k q hq;constructor;show (cs++ds)[(q.a+cs.length).toNat]?=some (yQ q.l q.v);rw[θ ∅,show (q.a+cs.length).toNat-cs.length=q.a.toNat by lia];exact m1;show (cs++ds)[(q.a+cs.length+q.l-1).toNat]?=some (yQ q.l q.v);rw[θ ∅,show (q.a+cs.length+q.l-1).toNat-cs.length=(q.a+q.l-1).toNat by lia];exact m2
theorem Q7{one:List Int}{s:Int}(hs:1<=s)(hl:(one.length:Int)=s)(m1:At one [#[0,s,false]]):∀(m:Nat),At ((ω m one).flatten) (DY s 0 m)/\(((ω m one).flatten).length:Int)=s*(m:Int)
 | 0=>#[At.nil _,f!""]
 | m+1=>by
   obtain⟨h1,h2⟩:=Q7 hs hl m1 m;have e:(ω (m+1) one).flatten=(ω m one).flatten++one:=by
     rw[kh,px];simp
   rw[e];constructor;rw[oM];have ch:=(Q6 hs m 0).endBy (show (0:Int)<=s*((0:Nat):Int) by simp);rw[ng] at ch;have:=At.app (ps:=DY s 0 m) (qs:=[#[0,s,false]]) (by rw[h2];exact ch) h1 (λp hp=>by
     have:p=#[0,s,false]:=by simpa using hp
     subst this;exact#[ar _,hs]) m1
   rw[h2] at this;simpa using this;rw[Δ,ci,h2,hl,ci,dy];lia
section
variable {X:Cx}
theorem oN{y y' y'':Str}{k k'':Nat}(h1:X.N[k]?=some y)(h1':X.N[k']?=some y')(h1'':X.N[k'']?=some y'')(h2:X.env.kindOf y=some .cell)(h2':X.env.kindOf y'=some .cell)(h2'':X.env.kindOf y''=some .cell)
   (h3:(relabel scope X.env).names.lookup y=some .cell) (h3':(relabel scope X.env).names.lookup y'=some .cell) (h3'':(relabel scope X.env).names.lookup y''=some .cell):EE X scope [y,y',y''] [k,k',k'']:=#[rfl,λj z i e1 e2=>by
 match j with
 | 0=>
   have g1:y=z:=by simpa using e1
   have g2:k=i:=by simpa using e2
   subst g1 g2;exact#[h1,h2,h3]
 | 1=>
   have g1:y'=z:=by simpa using e1
   have g2:k'=i:=by simpa using e2
   subst g1 g2;exact#[h1',h2',h3']
 | 2=>
   have g1:y''=z:=by simpa using e1
   have g2:k''=i:=by simpa using e2
   subst g1 g2;exact#[h1'',h2'',h3'']
 | j+3=>simp at e1]
theorem oO{n m o:Str}(h:∀y∈scope.names,y.2 = .free->y.1=n\/y.1=m\/y.1=o)(k:X.env.kindOf n=some .cell)(k':X.env.kindOf m=some .cell)(k'':X.env.kindOf o=some .cell):∀y∈scope.names,y.2 = .free->X.env.kindOf y.1=some .cell:=λy hy hf=>by
 rcases h y hy hf with e | e | e
 rw[e];exact k;rw[e];exact k';rw[e];exact k''
end
def Its(lo c:Int)(n:Nat):It:=#[λi _=>i<n,λi H x H'=>H'=H/\x = .int (lo+i*c),λi _=>n<=i]
theorem oP{P:we}(it:wa)(lo c:Int)(n:Nat):ud6 P w K tg (Its lo c n) [it] it (λi h=>IsRangeIter h it (lo+(i:Nat)*c) ((n:Int)-(i:Nat)) c) where
 mem:=by simp
 obj:=λi h st b hb=>by
   have e:b=it:=by simpa using hb
   subst e;exact#[_,st,λv z=>by
     have z':Data.fields _=Data.cell v:=z;cases z']
 keep:=λi h h' st k=>k it f!"" _ st
 item:=by
   intro X hP hw hK hc i ϊ s σ H E I hf st hg;subst hP hw hK;obtain⟨f0,f1,f2,f3,f4,f5⟩:=hf it f!"";have W:=Walks.range (prog:=X.prog) (w:=X.w) (I.ok.hd hc) it lo c n;refine W.item i s _ _ hg st λv h' tk hv st' kk=>?_;obtain⟨t,rfl⟩:=hv;have I1:Inv X ϊ σ H { s with heap:=h',toks:=tk }:=I.turned (λb o hb e=>kk b o (by simpa using hb) e) f0 f1 f3 f4 f5;exact#[_,rfl,Tk (s:={ s with heap:=h',toks:=tk }) (n:="range_iterator") st' rfl rfl m!"" #[.int (lo+i*c),H,I1,#[t,rfl],#[rfl,rfl],st',λb hb=>(hf b hb).1]]
 done:=by
   intro X hP hw hK hc i ϊ s σ H E I hf st hg;subst hP hw hK;obtain⟨f0,f1,f2,f3,f4,f5⟩:=hf it f!"";exact wpAny_pyNext_range_end (I.ok.hd hc) st (by have:n<=i:=hg;lia) λh' eb=>#[rfl,I.turned (t':=s.toks) (λb o hb e=>eb b o hb e) f0 f1 f3 f4 f5]
 self:=λ_ _ _ _ _ st h=>wpAny_pyIter_rangeiter st h
section
variable {X:Cx}{tg:wk}
theorem oQ{i j:Int}(h0:0<=i)(hj:0<=j)(hj':j<=4000)(hc:1<=c):0<=aw i j c/\aw i j c<=4000/\(i<j->i+(aw i j c-1)*c<j):=by
 unfold aw;rw[xb1 ∅]
 split
 rename_i h;have h1:0<=(j-i-1)/c:=oi ∅ ∅;have h2:(j-i-1)/c*c<=j-i-1:=Int.ediv_mul_le _ ∅;have h3:(j-i-1)/c<=(j-i-1)/c*c:=by
   have:=au hc h1;lia
 refine#[∅,∅,λ_=>?_];rw[show (j-i-1)/c+1-1=(j-i-1)/c by lia];lia;rename_i h;exact#[∅,∅,λz=>xb0 z h]
def ub3(ta:TA):TI:=λσ H R=>ta σ H λvs H1=>∃i j c:Int,vs=[.int i,.int j,.int c]/\(0<=i/\i<=4000/\0<=j/\j<=4000/\1<=c/\c<=4000)/\R (Its i c (aw i j c).toNat) H1
theorem oR{s:wb}{R:It->Hp->Prop}{lo hi:Int}{t u v:Tok}{tk:Nat}(I:Inv X ϊ σ H s)(h1:0<=lo)(h2:lo<=4000)(h3:0<=hi)(h4:hi<=4000)(h5:1<=c)(h6:c<=4000)
   (q:R (Its lo c (aw lo hi c).toNat) H):wx (xl X.prog X.w) X.A (pyIter (.ref s.heap.objs.size)) (PIE X ϊ σ tg R) E { s with heap:=s.heap.push { cls:=.type "range",data:=.fields (ϋ [.int lo t,.int hi u,.int c v]) },toks:=tk }:=by
 obtain⟨b1,b2,b3⟩:=oQ h1 h3 h4 h5;have sm:pz lo hi c=true:=by
   unfold pz;simp only [sg,dm,rn,decide_eq_true_eq,beq_iff_eq];generalize aw lo hi c=n at b1 b2 b3;rw[xb1 (show c>0 by lia)];simp only [dm,decide_eq_true_eq];lia
 refine wpAny_pyIter_range (IsRange.new ..) sm ?_;have I1:Inv X ϊ σ H { s with heap:=s.heap.push { cls:=.type "range",data:=.fields (ϋ [.int lo t,.int hi u,.int c v]) },toks:=tk }:=I.kept λb o e=>μ _ e;refine#[(s.heap.push { cls:=.type "range",data:=.fields (ϋ [.int lo t,.int hi u,.int c v]) }).objs.size,[(s.heap.push { cls:=.type "range",data:=.fields (ϋ [.int lo t,.int hi u,.int c v]) }).objs.size],_,_,H,rfl,
   I1.kept (t':=tk) λb o e=>μ _ e,oP _ lo c (aw lo hi c).toNat,?_,λb hb=>?_,q]
 have e1:lo+((0:Nat):Int)*c=lo:=by simp
 have e2:(((aw lo hi c).toNat:Nat):Int)-((0:Nat):Int)=aw lo hi c:=∅;show IsRangeIter _ _ (lo+((0:Nat):Int)*c) ((((aw lo hi c).toNat:Nat):Int)-((0:Nat):Int)) c;rw[e1,e2];exact ak _ rfl;have e:b=(s.heap.push { cls:=.type "range",data:=.fields (ϋ [.int lo t,.int hi u,.int c v]) }).objs.size:=by simpa using hb
 subst e;exact I1.fpOk (Γ _) (I1.hok.fresh (Γ _))
theorem oS{a b c:wk}{ta:TA}{p:Pos}(hg:Gl X "range")(hm:X.mg "range"=none)(ha:PA X [a,b,c] ta)(hs:wo [a,b,c] X.env=[(false,xk a X.env),(false,xk b X.env),(false,xk c X.env)]:=by rfl)
   (hs2:wo [b,c] X.env=[(false,xk b X.env),(false,xk c X.env)]:=by rfl):PI X tg (.Call (.Name "range" p) [a,b,c] [] pos) (ub3 ta):=by
 intro ϊ s σ H R I h;refine Call_ (QC I hg hm ub (ko (thn (ha pos ϊ s σ H _ I h) λus s1 hZ=>?_) (by rw[hs,hs2]) (by rw[hs2];rfl)));obtain⟨vs,H1,I1,r1,q1⟩:=hZ;obtain⟨i,j,c,e,⟨q1,q2,q3,q4,q5,q6⟩,q⟩:=q1;subst e;cases r1 with
 | cons r rr=>
   cases rr with
   | cons r' rr=>
     cases rr with
     | cons r'' rr=>
       cases rr;obtain⟨t,rfl⟩:=r;obtain⟨t',rfl⟩:=r';obtain⟨t'',rfl⟩:=r'';exact call_range_3 ∅ (oR I1 q1 q2 q3 q4 q5 q6 q) (υ (mz ∅))
theorem oU(hc:X.calm=true):DN X (.builtin "any") (λvs H Q=>∃p,∃bs:List Bool,vs=[.ref p]/\H p=some (.lst (bs.map V.bl))/\Q (.bl (bs.any id)) H):=by
 intro ϊ s σ H vs us' Q I r h;obtain⟨p,bs,rfl,hp,q⟩:=h;obtain⟨u,rfl,rx⟩:∃u,us'=[u]/\RelV (.ref p) u:=by
   cases r with
   | cons a b=>cases b;exact#[_,rfl,a]
 cases rx;obtain⟨its,r1,p1,_⟩:=I.list (SqL.of hp);have l1:=r1.length;rw[Φ] at l1;have lt:p<s.heap.objs.size:=by obtain⟨_,e,_⟩:=p1.isList;exact af e
 refine call_any_walk (wpAny_pyIter_list p1.isList ?_);refine#[s.heap.objs.size,[s.heap.objs.size,p],[s.heap.objs.size],its.toArray.size,λi v=>its.toArray[i]?=some v,_,λi=>bs.getD i false,rfl,Walks.list (A:=X.A.in1) (I.ok.hd hc) _ p (bi lt) its.toArray,
   #[#[_,ak _ rfl,rfl,rfl],p1.isList.push _],?_,?_]
 intro i v s' Q' E' hv hq;rw[kb] at hv;have hi:i<bs.length:=by have:=(γ.mp hv).1;lia
 obtain⟨u1,g1,q1⟩:=r1.get (i:=i) (x:=V.bl bs[i]) (by simp [hi]);cases q1;rw[hv] at g1;cases g1;have e:bs.getD i false=bs[i]:=by simp [hi]
 have hq2:Q' (bs.getD i false) s':=hq;rw[e] at hq2;exact wv hq2;intro h' tk kk;have e:(cq its.toArray.size).any (λi=>bs.getD i false)=bs.any id:=by
   rw[ο,<-l1,dj,cw,cw];constructor;rintro⟨i,hi,h⟩;have hi':=jv.mp hi;exact#[bs[i],bz hi',by simpa [hi'] using h];rintro⟨b,hb,h⟩;obtain⟨i,hi,rfl⟩:=ii.mp hb;exact#[i,jv.mpr hi,by simpa [hi] using h]
 rw[e];refine#[.bl _,H,?_,rfl,q];refine I.kept (t':=tk) λb o e=>kk b o (λz=>?_) (μ _ e);have:=af e;have z':b=s.heap.objs.size:=by simpa using z
 rw[z'] at this;exact cv _ this
end
theorem oV{lo:Int}{n:Nat}{D:Ends}(Pv:Nat->L2.St->Hp->Prop)(h0:Pv 0 σ H)
   (hs:∀i σ H,i<n->Pv i σ H->g (.int (lo+i*c)) σ H λσ2 H2=>tb { D with nx:=Pv (i+1),ct:=Pv (i+1),bk:=D.nx } σ2 H2) (hd:∀σ H,Pv n σ H->D.nx σ H):
   ∃W:Nat->Nat->L2.St->Hp->Prop,(∃m,W 0 m σ H)/\∀i m σ H,W i m σ H ->
     ((Its lo c n).stop i H/\D.nx σ H)\/((Its lo c n).go i H/\∃N:L2.St->Hp->Prop,(∀σ' H',N σ' H'->∃m',m'<m/\W (i+1) m' σ' H')/\∀x H',(Its lo c n).yld i H x H'->g x σ H' λσ2 H2=>tb { D with nx:=N,ct:=N,bk:=D.nx } σ2 H2):=by
 refine#[λi m σ H=>m=n-i/\i<=n/\Pv i σ H,#[n,f!"",dv _,h0],?_];rintro i m σ H ⟨rfl,hi,p⟩;by_cases hlt:i<n;refine .inr #[hlt,Pv (i+1),λσ' H' p'=>#[n-(i+1),∅,rfl,hlt,p'],λx H' y=>?_];obtain⟨e,y⟩:=y;subst e y;exact hs i σ _ hlt p;have e:i=n:=∅;subst e;exact .inl #[Γ _,hd σ H p]
theorem r_iR3{ta:TA}{R:It->Hp->Prop}(h:ta σ H λvs H1=>∃i j c:Int,vs=[.int i,.int j,.int c]/\(0<=i/\i<=4000/\0<=j/\j<=4000/\1<=c/\c<=4000)/\R (Its i c (aw i j c).toNat) H1):ub3 ta σ H R:=h
def yF(ns:List Int):Int:=ns.foldl (·+·) 0
section
variable {prog:we}{w:wf}{A:wg}{R:Result->wb->Prop}{I:wa}{fp wr:List wa}{n:Nat}{P:Nat->vz->Prop}{St:Nat->xt->Prop}{kw:List (Str×vz)}
end
section
variable {prog:we}{w:wf}{A:wg}{E:vz->wb->Prop}{s:wb}
end
section
variable {X:Cx}
end
section
variable {K:δ}{σ:L2.St}{H:Hp}{Q:VK}
theorem La{us:List V}{ps:List Pc}(h:AJ H us ps){v:V}(hv:us[i]?=some v):∃t z,v = .ref t/\ps[i]?=some z/\H t=some (.tup [.int z.a,.int z.l,.bl z.v]):=by
 have hi:i<ps.length:=by rw[<-h.1];exact(γ.mp hv).1
 obtain⟨t,e1,e2⟩:=h.2 i ps[i] (by simp [hi]);exact#[t,ps[i],Θ (hv.symm.trans e1),by simp [hi],e2]
end
theorem Aw.new{t:wa}{o:HO}(s:Aw x H H')(ht:H' t=none):Aw x H (upd H' t o):=λb o' n h=>look_put ht (s b o' n h)
theorem oW(xs:List V)(j:Nat)(h:j<=xs.length):zn xs none (some (j:Int))=xs.take j:=by
 unfold zn;have e1:=HT.sIx_nat xs.length xs.length j;rw[e1,HT.sIx_none,Nat.min_eq_left h];rfl
theorem AK.app{X:List Pc}(hX:AK X)(hY:AK Y)(hj:∀x y,X.getLast?=some x->Y[0]?=some y->x.v=true\/y.v=true):AK (X++Y):=λj y z h1 h2=>by
 by_cases e1:j+1<X.length;rw[ψ ∅] at h1;rw[ψ e1] at h2;exact hX j y z h1 h2;by_cases e2:j+1=X.length;rw[ψ ∅] at h1;rw[θ ∅,show j+1-X.length=0 by lia] at h2;refine hj y z ?_ h2;rw[lx,show X.length-1=j by lia];exact h1;rw[θ ∅] at h1 h2;rw[show j+1-X.length=(j-X.length)+1 by lia] at h2;exact hY _ y z h1 h2
theorem AK.left{X:List Pc}(h:AK (X++Y)):AK X:=λj y z h1 h2=>by
 have l1:=(γ.mp h1).1;have l2:=(γ.mp h2).1;exact h j y z (by rw[ψ l1];exact h1) (by rw[ψ l2];exact h2)
theorem AK.right{X:List Pc}(h:AK (X++Y)):AK Y:=λj y z h1 h2=>h (X.length+j) y z (by rw[θ ∅,show X.length+j-X.length=j by lia];exact h1) (by rw[θ ∅,show X.length+j+1-X.length=j+1 by lia];exact h2)
theorem AK.mid{X:List Pc}{x:Pc}(h:AK (X++Y))(hx:X.getLast?=some x)(hy:Y[0]?=some y):x.v=true\/y.v=true:=by
 rw[lx] at hx;have l1:=(γ.mp hx).1;refine h (X.length-1) x y (by rw[ψ l1];exact hx) ?_;rw[θ ∅,show X.length-1+1-X.length=0 by lia];exact hy
theorem Mi(z:Pc):AK [z]:=λj y x h1 h2=>by
 have:=(γ.mp h2).1;simp at this
theorem oX:AK []:=λj y x h1 h2=>by simp at h1
theorem Q8:∀(R X:List Pc),AK (X++R)->R.foldl BD X=X++R
 | [],X,_=>by simp
 | w::R,X,h=>by
   rw[ie];have e:BD X w=X++[w]:=by
     rcases D5 X with e0 | ⟨D,y,e0⟩
     subst e0;rfl;subst e0;have:=h.mid (x:=y) (y:=w) f!"" f!"";rcases this with hv | hv
     exact G7 hv;exact G6 hv
   rw[e,Q8 R (X++[w]) (by rw[am];exact h),am];rfl
def Dk(ds:List Pc):List Pc:=match ds.getLast? with
 | some y=>if y.v=true then ds else ds.dropLast
 | none=>ds
def CO:List Pc->List Pc
 | []=>[]
 | w::R=>if w.v=true then w::R else R
theorem Mj{w:Pc}{R:List Pc}(h:w.v=true):CO (w::R)=w::R:=by show (if w.v=true then w::R else R)=_;rw[xb1 h]
theorem Ml{w:Pc}{R:List Pc}(h:w.v=false):CO (w::R)=R:=by show (if w.v=true then w::R else R)=_;rw[h,xb2 ξ]
theorem Mm(h:y.v=true):Dk (D++[y])=D++[y]:=by unfold Dk;rw[jj];simp only;rw[xb1 h]
theorem Mn(h:y.v=false):Dk (D++[y])=D:=by unfold Dk;rw[jj];simp only;rw[h,xb2 ξ,pe]
theorem oY{rs:List Pc}{s:Int}(c:Am s (ds++z::rs) e):Am s (Dk ds) (yP (ds++z::rs) ds.length z)/\yP (ds++z::rs) ds.length z<=z.a/\s<=yP (ds++z::rs) ds.length z:=by
 obtain⟨mm,c1,⟨ea,h1,h3,c2⟩⟩:∃mm,Am s ds mm/\Am mm (z::rs) e:=by
   have key:∀{A B:List Pc}{s e:Int},Am s (A++B) e->∃m,Am s A m/\Am m B e:=by
     intro A
     induction A with
     | nil=>intro B s e c;exact#[s,rfl,c]
     | cons y r ih=>
       rintro B s e ⟨g1,g2,g3,g4⟩;obtain⟨m,k1,k2⟩:=ih g4;exact#[m,#[g1,g2,g3,k1],k2]
   exact key c
 rw[<-ea] at c1;have hl:=c1.le;rcases D5 ds with e0 | ⟨D,y,e0⟩
 subst e0;exact#[c1,ar _,by show s<=z.a;rw[eo] at hl;lia];subst e0;obtain⟨k1,k2,k3,k4⟩:=c1.unsnoc;have hy:(D++[y]++z::rs)[D.length]?=some y:=by rw[am,θ (Γ _),gp];rfl
 rw[Δ,Ω];have kl:=k1.le;cases hv:y.v with
 | true=>rw[QU hy hv,Mm hv];exact#[c1,ar _,∅]
 | false=>rw[QW hy hv,Mn hv];exact#[k1,∅,∅]
theorem Up{rs:List Pc}{s:Int}(c:Am s (ds++z::rs) e):Am (yH (ds++z::rs) ds.length z) (CO rs) e/\z.a+z.l<=yH (ds++z::rs) ds.length z/\yH (ds++z::rs) ds.length z<=e:=by
 have key:∀{A B:List Pc}{s e:Int},Am s (A++B) e->∃m,Am s A m/\Am m B e:=by
   intro A
   induction A with
   | nil=>intro B s e c;exact#[s,rfl,c]
   | cons y r ih=>
     rintro B s e ⟨g1,g2,g3,g4⟩;obtain⟨m,k1,k2⟩:=ih g4;exact#[m,#[g1,g2,g3,k1],k2]
 obtain⟨mm,c1,⟨ea,h1,h3,c2⟩⟩:=key c;rw[<-ea] at c2;cases rs with
 | nil=>
   have hn:(ds++[z])[ds.length+1]?=none:=dz f!"";have c2:z.a+z.l=e:=c2;rw[T5 hn];exact#[c2,ar _,∅]
 | cons w R=>
   have hw:(ds++z::w::R)[ds.length+1]?=some w:=by rw[θ ∅,show ds.length+1-ds.length=1 by lia];rfl
   have hl:=c2.le;rw[Ψ] at hl;cases hv:w.v with
   | true=>
     rw[QX hw hv,Mj hv];exact#[c2,ar _,∅]
   | false=>
     rw[QY hw hv,Ml hv];obtain⟨g1,g2,g3,g4⟩:=c2;have hl2:=g4.le;refine#[?_,∅,∅];rw[g1];exact g4
theorem oZ{p:Pc}(h:p∈Dk ds):p∈ds:=by
 rcases D5 ds with e0 | ⟨D,y,e0⟩
 subst e0;exact h;subst e0;cases hv:y.v with
 | true=>rw[Mm hv] at h;exact h
 | false=>rw[Mn hv] at h;exact ν.mpr (.inl h)
theorem cH{rs:List Pc}{p:Pc}(h:p∈CO rs):p∈rs:=by
 cases rs with
 | nil=>cases h
 | cons w R=>
   cases hv:w.v with
   | true=>rw[Mj hv] at h;exact h
   | false=>rw[Ml hv] at h;exact ι _ h
def zx(ps:List Pc)(k:Int):List Pc:=ps.map λp=>(#[p.a,p.l,p.v&&!decide (p.a=k)]:Pc)
theorem cJ{rs:List Pc}{s:Int}(c:Am s (ds++z::rs) e):zx (ds++z::rs) z.a=ds++#[z.a,z.l,false]::rs:=by
 have hid:∀p∈ds++rs,(#[p.a,p.l,p.v&&!decide (p.a=z.a)]:Pc)=p:=λp hp=>by
   have hne:p.a≠z.a:=λh=>by
     have hp2:p∈ds++z::rs:=by
       rcases ν.mp hp with g | g
       exact ν.mpr (.inl g);exact ν.mpr (.inr (ι _ g))
     obtain⟨i,hi⟩:=aj hp2;have hz:(ds++z::rs)[ds.length]?=some z:=by rw[θ (Γ _),gp];rfl
     have:=K8 c hi hz h;subst this;rcases ν.mp hp with g | g
     obtain⟨j,hj⟩:=aj g;have hjl:=(γ.mp hj).1;have:=K8 c (show (ds++z::rs)[j]?=some p by rw[ψ hjl];exact hj) hz h;lia;obtain⟨j,hj⟩:=aj g;have:=K8 c (show (ds++z::rs)[ds.length+1+j]?=some p by rw[θ ∅,show ds.length+1+j-ds.length=j+1 by lia,mw];exact hj) hz h;lia
   rw[xb4 hne];simp
 unfold zx;rw[ay,cb];have e1:ds.map (λp=>(#[p.a,p.l,p.v&&!decide (p.a=z.a)]:Pc))=ds:=by
   have:ds.map (λp=>(#[p.a,p.l,p.v&&!decide (p.a=z.a)]:Pc))=ds.map id:=qc λp hp=>hid p (ν.mpr (.inl hp));rw[this,ve]
 have e2:rs.map (λp=>(#[p.a,p.l,p.v&&!decide (p.a=z.a)]:Pc))=rs:=by
   have:rs.map (λp=>(#[p.a,p.l,p.v&&!decide (p.a=z.a)]:Pc))=rs.map id:=qc λp hp=>hid p (ν.mpr (.inr hp));rw[this,ve]
 rw[e1,e2];simp
theorem cK{w:List Pc}(h:AK w):AK (CO w)/\∀y,(CO w)[0]?=some y->y.v=true:=by
 cases w with
 | nil=>exact#[h,λy hy=>by simp [CO] at hy]
 | cons z R=>
   cases hv:z.v with
   | true=>
     rw[Mj hv];refine#[h,λy hy=>?_];have ey:y=z:=by simpa using hy.symm
     rw[ey];exact hv
   | false=>
     rw[Ml hv];refine#[AK.right (X:=[z]) h,λy hy=>?_];have:=AK.mid (X:=[z]) (Y:=R) (x:=z) (y:=y) h rfl hy;exact this.resolve_left (by rw[hv];exact ξ)
theorem pA{rs:List Pc}(c:Am 0 (ds++z::rs) cs.length)(m:At cs (ds++z::rs))(na:AK (ds++z::rs))(hv:z.v=true):
   Am 0 (BE (zx (ds++z::rs) z.a)) cs.length/\AK (BE (zx (ds++z::rs) z.a))/\At (lfI cs (yP (ds++z::rs) ds.length z) (yH (ds++z::rs) ds.length z)) (BE (zx (ds++z::rs) z.a)):=by
 obtain⟨b1,b2,b3⟩:=oY c;obtain⟨e1,e2,e3⟩:=Up c;have zl:1<=z.l:=(c.mem z f!"").2.1;have hj:BE (zx (ds++z::rs) z.a)=Dk ds++(fr (yP (ds++z::rs) ds.length z) (yH (ds++z::rs) ds.length z)++CO rs):=by
   rw[cJ c];unfold fr;rw[xb2 ∅];have hds:AK ds:=na.left;have hrs:AK rs:=AK.right (X:=ds++[z]) (by rw[am];exact na);obtain⟨hR1,hR2⟩:=cK hrs;unfold BE;rw[jz,ie];have h0:ds.foldl BD []=ds:=by
     have:=Q8 ds [] (by simpa using hds);simpa using this
   rw[h0];have h1:∃l1,BD ds #[z.a,z.l,false]=Dk ds++[#[yP (ds++z::rs) ds.length z,l1,false]]/\yP (ds++z::rs) ds.length z+l1=z.a+z.l:=by
     rcases D5 ds with e0 | ⟨D,y,e0⟩
     subst e0;exact#[z.l,rfl,rfl];subst e0;have hy:(D++[y]++z::rs)[D.length]?=some y:=by rw[am,θ (Γ _),gp];rfl
     have hn:=ED c hy (show (D++[y]++z::rs)[D.length+1]?=some z by rw[θ f!"",show D.length+1-(D++[y]).length=0 by simp];rfl);rw[Δ,Ω];cases hvy:y.v with
     | true=>exact#[z.l,by rw[QU hy hvy,Mm hvy];exact G7 hvy,by rw[QU hy hvy]]
     | false=>exact#[y.l+z.l,by rw[QW hy hvy,Mn hvy];exact HL hvy rfl,by rw[QW hy hvy];lia]
   obtain⟨l1,h1,h1'⟩:=h1;rw[h1];have hfl:∀x y,(Dk ds).getLast?=some x->[(#[yP (ds++z::rs) ds.length z,yH (ds++z::rs) ds.length z-yP (ds++z::rs) ds.length z,false]:Pc)][0]?=some y->x.v=true\/y.v=true:=λx y hx hy=>by
     left;rcases D5 ds with e0 | ⟨D,w,e0⟩
     subst e0;simp [Dk] at hx;subst e0;cases hvy:w.v with
     | true=>
       rw[Mm hvy] at hx;have ex:x=w:=by simpa using hx.symm
       rw[ex];exact hvy
     | false=>
       rw[Mn hvy] at hx;have h2:AK (D++[w]):=hds;exact(h2.mid hx s!"").resolve_right (by rw[hvy];exact ξ)
   have hflN:AK (Dk ds):=by
     rcases D5 ds with e0 | ⟨D,w,e0⟩
     subst e0;exact hds;subst e0;cases hvy:w.v with
     | true=>rw[Mm hvy];exact hds
     | false=>rw[Mn hvy];exact hds.left
   have hall:AK ((Dk ds++[(#[yP (ds++z::rs) ds.length z,yH (ds++z::rs) ds.length z-yP (ds++z::rs) ds.length z,false]:Pc)])++CO rs):=
     AK.app (hflN.app (Mi _) hfl) hR1 λx y hx hy=>.inr (hR2 y hy)
   cases rs with
   | nil=>
     have hn:(ds++[z])[ds.length+1]?=none:=dz f!"";rw[T5 hn] at *;have el:l1=z.a+z.l-yP (ds++[z]) ds.length z:=∅;rw[el];simp [CO]
   | cons w R=>
     have hw:(ds++z::w::R)[ds.length+1]?=some w:=by rw[θ ∅,show ds.length+1-ds.length=1 by lia];rfl
     have hnx:=ED c (show (ds++z::w::R)[ds.length]?=some z by rw[θ (Γ _),gp];rfl) hw;cases hvw:w.v with
     | true=>
       rw[QX hw hvw] at *;have el:l1=z.a+z.l-yP (ds++z::w::R) ds.length z:=∅;rw[el];have eR:CO (w::R)=w::R:=Mj hvw;rw[eR] at hall ⊢;rw[Q8 (w::R) _ hall,am]
     | false=>
       rw[QY hw hvw] at *;have eR:CO (w::R)=R:=Ml hvw;rw[eR] at hall ⊢;rw[ie,HL rfl hvw];have el:l1+w.l=w.a+w.l-yP (ds++z::w::R) ds.length z:=∅;show qm BD (Dk ds++[#[yP (ds++z::w::R) ds.length z,l1+w.l,false]]) R=_;rw[el,Q8 R _ hall,am]
 refine#[bH ?_,nR _,?_];rw[cJ c];obtain⟨i1,i2⟩:=(show Am 0 (Dk ds) _/\True from #[b1,trivial])
 have key:∀(A:List Pc)(s:Int),Am s (A++z::rs) cs.length->Am s (A++#[z.a,z.l,false]::rs) cs.length:=by
   intro A
   induction A with
   | nil=>rintro s ⟨g1,g2,g3,g4⟩;exact#[g1,g2,(λh=>by cases h),g4]
   | cons y r ih=>rintro s ⟨g1,g2,g3,g4⟩;exact#[g1,g2,g3,ih _ g4]
 exact key ds 0 c;rw[hj];refine At.layF b3 ∅ e3 (b1.endBy (ar _)) e1.fromOn (m.sub λp hp=>?_);rcases ν.mp hp with g | g
 exact ν.mpr (.inl (oZ g));exact ν.mpr (.inr (ι _ (cH g)))
def rg1(k L e:Int)(p:Pc):List Pc:=(if p.a<k\/e<=p.a then [p] else [])++(if p.a=k then [#[k,L,true]] else [])++(if p.a=k/\k+L<e then [#[k+L,e-k-L,false]] else [])
def yN(ps:List Pc)(k L e:Int):List Pc:=(ps.map (rg1 k L e)).flatten
theorem Q9(A B:List Pc)(k L e:Int):yN (A++B) k L e=yN A k L e++yN B k L e:=by unfold yN;rw[ay,px]
theorem Uq{A:List Pc}(h:∀p∈A,p.a≠k/\(p.a<k\/e<=p.a)):yN A k L e=A:=by
 induction A with
 | nil=>rfl
 | cons p r ih=>
   have h1:=h p η;have e1:rg1 k L e p=[p]:=by
     unfold rg1;rw[xb1 h1.2,xb2 h1.1,xb2 (λz=>h1.1 z.1)];rfl
   rw[show p::r=[p]++r from rfl,Q9,ih λq hq=>h q (ι _ hq)]
   congr 1
   unfold yN;simp [e1]
theorem Lb:∀{A B:List Pc}{s e:Int},Am s (A++B) e->∃m,Am s A m/\Am m B e
 | [],B,s,e,c=>#[s,rfl,c]
 | z::r,B,s,e,c=>by
   obtain⟨h1,h2,h3,h4⟩:=c;obtain⟨m,g1,g2⟩:=Lb h4;exact#[m,#[h1,h2,h3,g1],g2]
theorem pC{rs:List Pc}{n:Int}(c:Am 0 (ds++z::rs) n)(na:AK (ds++z::rs))(hL:z.a+L<=yH (ds++z::rs) ds.length z):
   yN (ds++z::rs) z.a L (yH (ds++z::rs) ds.length z)=(ds++[#[z.a,L,true]])++(fr (z.a+L) (yH (ds++z::rs) ds.length z)++CO rs):=by
 obtain⟨e1,e2,e3⟩:=Up c;obtain⟨mm,c1,⟨ea,h1,h3,c2⟩⟩:=Lb c;rw[<-ea] at c1 c2;have hz:rg1 z.a L (yH (ds++z::rs) ds.length z) z=[#[z.a,L,true]]++fr (z.a+L) (yH (ds++z::rs) ds.length z):=by
   unfold rg1 fr;rw[xb2 ∅,xb1 rfl,dk]
   congr 1
   by_cases he:z.a+L=yH (ds++z::rs) ds.length z;rw[xb1 he,xb2 ∅];rw[xb2 he,xb1 #[rfl,∅],show yH (ds++z::rs) ds.length z-z.a-L=yH (ds++z::rs) ds.length z-(z.a+L) by lia]
 have hr:yN rs z.a L (yH (ds++z::rs) ds.length z)=CO rs:=by
   cases rs with
   | nil=>rfl
   | cons w R=>
     have hw:(ds++z::w::R)[ds.length+1]?=some w:=by rw[θ ∅,show ds.length+1-ds.length=1 by lia];rfl
     cases hv:w.v with
     | true=>
       rw[Mj hv];refine Uq λp hp=>?_;have:=c2.mem p hp;rw[QX hw hv];exact#[∅,.inr ∅]
     | false=>
       rw[Ml hv] at e1 ⊢;obtain⟨g1,g2,g3,g4⟩:=c2;have hf:=QY (z:=z) hw hv;rw[show w::R=[w]++R from rfl,Q9];have e0:yN [w] z.a L (yH (ds++z::w::R) ds.length z)=[]:=by
         unfold yN rg1;rw[cb,ix,dw,rl,xb2 ∅,xb2 ∅,xb2 ∅];rfl
       have e0':yN [w] z.a L (yH (ds++z::([w]++R)) ds.length z)=[]:=e0;rw[e0',dk];refine Uq λp hp=>?_;have hm:=e1.mem p hp;show p.a≠z.a/\(p.a<z.a\/yH (ds++z::w::R) ds.length z<=p.a)
       exact#[∅,.inr ∅]
 rw[Q9,Uq (A:=ds) (λp hp=>by have:=c1.mem p hp;exact#[∅,.inl ∅]),show z::rs=[z]++rs from rfl,Q9];have e9:yN [z] z.a L (yH (ds++([z]++rs)) ds.length z)=[#[z.a,L,true]]++fr (z.a+L) (yH (ds++z::rs) ds.length z):=by
   unfold yN;rw[cb,ix,dw,rl,aq];exact hz
 have e8:yN rs z.a L (yH (ds++([z]++rs)) ds.length z)=CO rs:=hr;rw[e9,e8];simp
theorem pD{rs:List Pc}(c:Am 0 (ds++z::rs) cs.length)(m:At cs (ds++z::rs))(na:AK (ds++z::rs))(hL3:3<=L)(hL:z.a+L<=yH (ds++z::rs) ds.length z):
   Am 0 (yN (ds++z::rs) z.a L (yH (ds++z::rs) ds.length z)) cs.length/\AK (yN (ds++z::rs) z.a L (yH (ds++z::rs) ds.length z)) /\
   At (lfI (AS cs z.a L true) (z.a+L) (yH (ds++z::rs) ds.length z)) (yN (ds++z::rs) z.a L (yH (ds++z::rs) ds.length z)):=by
 obtain⟨e1,e2,e3⟩:=Up c;obtain⟨mm,c1,⟨ea,h1,h3,c2⟩⟩:=Lb c;rw[<-ea] at c1 c2;have hl1:=c1.le;have hrs:AK rs:=AK.right (X:=ds++[z]) (by rw[am];exact na);obtain⟨hR1,hR2⟩:=cK hrs;rw[pC c na hL];have cz:Am 0 (ds++[#[z.a,L,true]]) (z.a+L):=Am.snoc (p:=#[z.a,L,true]) c1 (show 1<=L by lia) (λ_=>hL3);refine#[cz.app ((HK hL).app e1),?_,?_];have n1:AK (ds++[#[z.a,L,true]]):=by
   refine na.left.app (Mi _) λx y _ hy=>.inr ?_;have ey:y=#[z.a,L,true]:=by simpa using hy.symm
   rw[ey]
 have n2:AK (fr (z.a+L) (yH (ds++z::rs) ds.length z)++CO rs):=by
   unfold fr
   split
   exact hR1;exact(Mi _).app hR1 λx y _ hy=>.inr (hR2 y hy)
 refine n1.app n2 λx y hx _=>.inl ?_;have:x=#[z.a,L,true]:=by simpa using hx.symm
 rw[this];have ml:At (AS cs z.a L true) (ds++#[z.a,L,true]::CO rs):=At.lay ∅ ∅ ∅ (c1.endBy (ar _)) (λp hp=>by have:=e1.fromOn p hp;lia) (m.sub λp hp=>by
   rcases ν.mp hp with g | g
   exact ν.mpr (.inl g);exact ν.mpr (.inr (ι _ (cH g))))
 exact At.layF ∅ hL (by rw[B3];exact e3) (cz.endBy (ar _)) e1.fromOn (by rw[am];exact ml)
theorem HQ{ps:List Pc}{s p:Int}(c:Am s ps e)(hy:y∈ps)(hz:z∈ps)(h1:y.a<=p)(h2:p<y.a+y.l)(h3:z.a<=p)(h4:p<z.a+z.l):y=z:=by
 obtain⟨i,hi⟩:=aj hy;obtain⟨j,hj⟩:=aj hz;rcases jy i j with g | g | g
 exfalso;obtain⟨ds,rs,e1,e2,c1,c2⟩:=CW c hj;subst e1 e2;rw[ψ ∅] at hi;have:=(c1.mem y (ζ hi)).2.2.2;lia;subst g;exact Θ (hi.symm.trans hj);exfalso;obtain⟨ds,rs,e1,e2,c1,c2⟩:=CW c hi;subst e1 e2;rw[ψ ∅] at hj;have:=(c1.mem z (ζ hj)).2.2.2;lia
theorem pE{rs:List Pc}{s:Int}(na:AK (ds++z::rs))(hv:z.v=false):AK (zq ds rs z.a z.l s L):=by
 have hd:AK ds:=na.left;have hr:AK rs:=AK.right (X:=[z]) na.right;have lastd:∀x,ds.getLast?=some x->x.v=true:=λx hx=>by
   rcases na.mid hx (y:=z) rfl with h | h
   exact h;rw[hv] at h;cases h
 have firstr:∀y,rs[0]?=some y->y.v=true:=λy hy=>by
   rcases(na.right).mid (X:=[z]) (Y:=rs) (x:=z) rfl hy with h | h
   rw[hv] at h;cases h;exact h
 have hf:∀b e,AK (fr b e):=λb e=>by
   unfold fr
   split
   exact oX;exact Mi _
 have frl:∀b e x,(fr b e).getLast?=some x->x.v=false:=λb e x hx=>by
   unfold fr at hx
   split at hx
   simp at hx;have:(#[b,e-b,false]:Pc)=x:=by simpa using hx
   rw[<-this]
 unfold zq;refine hd.app ((hf _ _).app (AK.app (X:=[#[s,L,true]]) (Mi _) ((hf _ _).app hr λx y hx hy=>.inr (firstr y hy)) λx y hx hy=>.inl ?_) λx y hx hy=>.inr ?_) λx y hx hy=>.inl (lastd x hx);have:(#[s,L,true]:Pc)=x:=by simpa using hx
 rw[<-this];have:(#[s,L,true]:Pc)=y:=by simpa using hy
 rw[<-this]
def zf(cs:List Int)(s g c:Nat):List Int:=cs.take g++(cs.drop s).take c++cs.drop (g+c)
theorem pF{s g c:Nat}(h1:s+c<=cs.length)(h2:g+c<=cs.length):(zf cs s g c).length=cs.length:=by
 unfold zf;simp;lia
theorem cL{s g c:Nat}(h1:s+c<=cs.length)(h2:g+c<=cs.length)(h:j<g\/g+c<=j):(zf cs s g c)[j]?=cs[j]?:=by
 unfold zf;have l1:(cs.take g).length=g:=by rw[bx];lia
 have l2:((cs.drop s).take c).length=c:=by rw[bx,cg];lia
 rcases h with h | h
 rw[am,ψ ∅,qp,xb1 h];rw[θ (by rw[Δ];lia),Δ,l1,l2,lr,show g+c+(j-(g+c))=j by lia]
theorem pG{ps:List Pc}{s c n:Nat}(hc:Am 0 ps n)(hn:cs.length=n)(m:At cs ps)(hz:z∈ps)(hv:z.v=true)(h1:s+c<=n)(h2:(c:Int)<=z.l-2):At (zf cs s (z.a+1).toNat c) ps:=λp hp=>by
 obtain⟨z0,z1,z3,z4⟩:=hc.mem z hz;have z3:=z3 hv;obtain⟨p0,p1,p3,p4⟩:=hc.mem p hp;obtain⟨m1,m2⟩:=m p hp;have h2':(z.a+1).toNat+c<=cs.length:=∅;have out:∀j:Int,0<=j->(j<=z.a\/z.a+z.l-1<=j)->(zf cs s (z.a+1).toNat c)[j.toNat]?=cs[j.toNat]?:=λj j0 hj=>cL ∅ h2' ∅;by_cases e:p=z;subst e;exact#[by rw[out _ p0 (.inl (ar _))];exact m1,by rw[out _ ∅ (.inr (ar _))];exact m2];have far:p.a+p.l<=z.a\/z.a+z.l<=p.a:=by
   rcases ku p.a z.a with h | h
   left;rcases ku z.a (p.a+p.l) with g | g
   exact xb0 (HQ hc hp hz (Int.le_of_lt h) g (ar _) ∅) e;exact g;right;rcases ku p.a (z.a+z.l) with g | g
   exact xb0 (HQ hc hp hz (ar _) ∅ h g) e;exact g
 exact#[by rw[out _ p0 ∅];exact m1,by rw[out _ ∅ ∅];exact m2]
theorem Ra{n d:Nat}(h0:0<=k)(h:k<=n):HT.sIx n d (some k)=k.toNat:=by
 have:=HT.sIx_nat n d k.toNat;rw[bc h0] at this;rw[this];lia
theorem pH(h0:0<=k)(h:k<=ns.length):yR ns none (some k)=ns.take k.toNat:=by
 unfold yR;rw[Ra h0 h,HT.sIx_none];rfl
theorem pI{l:Int}(h0:0<=k)(h1:0<=l)(h:k+l<=ns.length):yR ns (some k) (some (k+l))=(ns.drop k.toNat).take l.toNat:=by
 unfold yR;rw[Ra h0 ∅,Ra ∅ h,show (k+l).toNat-k.toNat=l.toNat by lia]
theorem Ur(h0:0<=k)(h:k<=ns.length):yR ns (some k) none=ns.drop k.toNat:=by
 unfold yR;rw[Ra h0 h,HT.sIx_none];exact av (by rw[cg];lia)
section
variable {X:Cx}{e:wk}{t:TX}{epos:Pos}
end
theorem HR{n:Nat}(h:n+64<m):n+1<m:=∅
theorem Rb{α β:Type}{F:α->β->Prop}:∀{xs:List α}{us:List β}{i:Nat}{x:α},Paired F xs us->xs[i]?=some x->∃u,us[i]?=some u/\F x u
 | _,_,_,_,.nil,e=>by simp at e
 | _,_,0,_,.cons r _,e=>by simp at e;subst e;exact#[_,rfl,r]
 | _,_,i+1,x,.cons _ t,e=>by
   obtain⟨u,h1,h2⟩:=Rb (i:=i) (x:=x) t (by simpa using e);exact#[u,by simpa using h1,h2]
section
variable {X:Cx}{ϊ:List (wa×Obj)}{σ:L2.St}{H:Hp}{s:wb}{d:wa}{kvs:List (Key×V)}{o:Obj}
end
section
variable {X:Cx}{tg:wk}
end
section
variable {K:δ}{σ:L2.St}{H:Hp}{Q:VK}{D:Ends}
theorem r_dget{td ty:TE}(h:td σ H λx H1=>ty σ H1 λy H2=>∃a v,x = .ref a/\DGet H2 a y (some v)/\Q v H2):zW td ty σ H Q:=h
theorem r_dput{td ty tv:TE}(h:tv σ H λv H1=>td σ H1 λx H2=>ty σ H2 λy H3=>∃a H4,x = .ref a/\DPut H3 a y v H4/\D.nx σ H4):H_ td ty tv D σ H:=h
end
inductive W7
 | first | best | next | likes | half | shel | row
def cF(C1 C2 C3 C4 C5 C6 C7:wa):W7->wa
 | .first=>C1
 | .best=>C2
 | .next=>C3
 | .likes=>C4
 | .half=>C5
 | .shel=>C6
 | .row=>C7
def fsF:W7->wa->Int->List (Str×V)
 | .next,a,r=>[("room_cells",.ref a),("room_rover",.int r)]
 | .shel,a,r=>[("room_cells",.ref a),("shelf",.int r)]
 | .first,a,_=>[("room_cells",.ref a)]
 | .best,a,_=>[("room_cells",.ref a)]
 | .likes,a,_=>[("room_cells",.ref a)]
 | .half,a,_=>[("room_cells",.ref a)]
 | .row,a,_=>[("room_cells",.ref a)]
theorem fsF_cells{i:W7}{a:wa}:(fsF i a r).lookup ("room_cells":Str)=some (.ref a):=by cases i <;> rfl
theorem fsF_few{i:W7}{a:wa}:(fsF i a r).length<1000:=by cases i <;> (simp only [fsF,Ψ,eo];lia)
theorem fsF_none{i:W7}{a:wa}{m:Str}(h1:(m==("room_cells":Str))=false)(h2:(m==("shelf":Str))=false)(h3:(m==("room_rover":Str))=false):(fsF i a r).lookup m=none:=by
 cases i <;> simp only [fsF,iw,h1,h2,h3]
theorem Ld{i:W7}{a b:wa}:yT ("room_cells":Str) (.ref b) (fsF i a r)=fsF i b r:=by cases i <;> rfl
theorem Ev{C1 C2 C3 C4 C5 C6 C7:wa}{Q:wa->Prop}(h1:Q C1)(h2:Q C2)(h3:Q C3)(h4:Q C4)(h5:Q C5)(h6:Q C6)(h7:Q C7):∀i,Q (cF C1 C2 C3 C4 C5 C6 C7 i):=λi=>by
 cases i;exact h1;exact h2;exact h3;exact h4;exact h5;exact h6;exact h7
def Bz(P:we)(w:wf)(K:δ)(mg:Str->Option vz)(base:xt)(ok:W7->Prop)(C:W7->wa)(m:Str)(j:Nat)(ps:List Str)(dvs:List V)(sp:W7->Sp):Prop:=∀i,ok i->Methx P w K mg base (C i) m j ps dvs (sp i)
def A6(P:we)(w:wf)(K:δ)(mg:Str->Option vz)(base:xt)(C:W7->wa)(m:Str)(j:Nat)(ps:List Str)(dvs:List V)(sp:W7->Sp):Prop:=∀i,Methx P w K mg base (C i) m j ps dvs (sp i)
structure ze(P:we)(w:wf)(K:δ)(mg:Str->Option vz)(base:xt)(C:W7->wa)(m:Str)(j:Nat)(ps:List Str)(dvs:List V)(sp:W7->Sp):Prop where
 all:A6 P w K mg base C m j ps [] sp
 less:A6 P w K mg base C m j ps dvs sp
section
variable {P:we}{w:wf}{K:δ}{mg:Str->Option vz}{base:xt}{C:W7->wa}{m:Str}{j k:Nat}{ps:List Str}{dvs:List V}{sp:W7->Sp}{ok ok':W7->Prop}{f:wa}{fd:wc}{ds:List vz}
theorem Bz.made(F:FnOk P w K mg base (CXe P w) j f fd ps (λvs H Q E=>∃i,ok i/\sp i vs H Q E))(M:∀i,ok i->yI K (C i) m f)(b:BL K fd ps [])(c:∀i,Cls K (C i)):Bz P w K mg base ok C m j ps [] sp:=
 λi hi=>#[#[f,fd,[],F.imp λ_ _ _ _ h=>#[i,hi,h],M i hi,b,.nil],c i]
theorem A6.made(F:FnOk P w K mg base (CXe P w) j f fd ps (λvs H Q E=>∃i,sp i vs H Q E))(M:∀i,yI K (C i) m f)(b:BL K fd ps [])(c:∀i,Cls K (C i)):A6 P w K mg base C m j ps [] sp:=
 λi=>#[#[f,fd,[],F.imp λ_ _ _ _ h=>#[i,h],M i,b,.nil],c i]
theorem Methx.up{C₀:wa}{sp₀:Sp}(D:Methx P w K mg base C₀ m j ps dvs sp₀)(h:j<=k):Methx P w K mg base C₀ m k ps dvs sp₀:=by
 obtain⟨f,fd,ds,F,M,b,v⟩:=D.ex;exact#[#[f,fd,ds,F.mono h,M,b,v],D.cl]
structure MethSD(P:we)(w:wf)(K:δ)(mg:Str->Option vz)(base:xt)(ok:W7->Prop)(C:W7->wa)(m:Str)(j:Nat)(ps:List Str)(dvs:List V)(sp:W7->Sp):Prop where
 all:Bz P w K mg base ok C m j ps [] sp
 less:Bz P w K mg base ok C m j ps dvs sp
theorem MethSD.made(F:FnOk P w K mg base (CXe P w) j f fd ps (λvs H Q E=>∃i,ok i/\sp i vs H Q E))(M:∀i,ok i->yI K (C i) m f)(b:BL K fd ps [])(b':BL K fd ps ds)(v:Vals dvs ds)(c:∀i,Cls K (C i)):MethSD P w K mg base ok C m j ps dvs sp:=
 #[λi hi=>#[#[f,fd,[],F.imp λ_ _ _ _ h=>#[i,hi,h],M i hi,b,.nil],c i],λi hi=>#[#[f,fd,ds,F.imp λ_ _ _ _ h=>#[i,hi,h],M i hi,b',v],c i]]
end
def Mo(C:W7->wa)(m:Str)(sp:W7->Sp)(dvs:List V)(E:XK)(ta:TE)(t:TA):TE:=λσ H Q=>ta σ H λx H1=>∃i a dx fs,x = .ref a/\H1 a=some (.ins (C i) dx fs)/\fs.lookup m=none/\t σ H1 λvs H2=>sp i (x::(vs++dvs)) H2 Q E
def Mp(C:W7->wa)(m:Str)(sp:W7->Sp)(dvs:List V)(to:TE)(ta:TA):TX:=λσ H QV EX=>to σ H λx H1=>∃i a dx fs,x = .ref a/\H1 a=some (.ins (C i) dx fs)/\fs.lookup m=none/\ta σ H1 λvs H2=>sp i (x::(vs++dvs)) H2 QV EX
section
variable {X:Cx}{j k:Nat}{C:W7->wa}{ps:List Str}{sp:W7->Sp}{dvs:List V}{m:Str}{pos apos:Pos}{e o:wk}{es:List wk}{to:TE}{t:TA}{E:XK}
theorem B5(D:A6 X.prog X.w X.K X.mg X.base C m j ps dvs sp)(hx:D4 (CXe X.prog X.w) X E)(hr:Room k X.A)(ho:PE X o to)(ha:PA X (e::es) t)(hk:j<=k:=by decide)
   (hst:wo (e::es) X.env=(false,xk e X.env)::wo es X.env:=by rfl) (hpl:(wz pos (wo es X.env)).any (·.1)=false:=by rfl)
   (ht:xk (.Call (.Attribute o m apos) (e::es) [] pos) X.env=(do
     let ov <-xk o X.env
     standAt apos.atName
     let (f,first) <-holding [ov] (getMethod ov m pl)
     xi pos f first (wz pos (wo (e::es) X.env)) (backToKw pos (keywordEach [] X.env))):=by rfl):
   PE X (.Call (.Attribute o m apos) (e::es) [] pos) (Mo C m sp dvs E to t):=by
 intro ϊ s σ H Q I h;refine methodCall_KW (pl:=pl) (thn (ho ϊ s σ H _ I h) λu s1 hZ=>?_) ht;obtain⟨x,H1,I1,rx,i,a,dx,fs,ex,ea,l,q⟩:=hZ;subst ex;obtain rfl:u=Value.ref a:=rx;obtain⟨f,fd,ds,F,hm,hb,hd⟩:=(D i).ex;refine K2 I1 ea (D i).cl hm l ?_;refine callWith_K (first:=[.ref a]) (h₀:=X.base) I.ok.mod.kin hm.kp (thn (ha pos ϊ s1 σ H1 _ I1 q) λus s2 ⟨vs,H2,I2,r,q2⟩=>#[I2.kIn,?_]) hst hpl;exact Mb (us:=.ref a::us) (vs:=.ref a::vs) F (hr.mono hk) hb hd hx I2 (.cons rfl r) q2
theorem Bv(D:A6 X.prog X.w X.K X.mg X.base C m j ps dvs sp)(hx:D4 (CXe X.prog X.w) X E)(hr:Room k X.A)(ho:PE X o to)(hk:j<=k:=by decide)
   (ht:xk (.Call (.Attribute o m apos) [] [] pos) X.env=(do
     let ov <-xk o X.env
     standAt apos.atName
     let (f,first) <-holding [ov] (getMethod ov m pl)
     xi pos f first (wz pos (wo [] X.env)) (backToKw pos (keywordEach [] X.env))):=by rfl):
   PE X (.Call (.Attribute o m apos) [] [] pos) (Mo C m sp dvs E to ue1):=by
 intro ϊ s σ H Q I h;refine methodCall_KW (pl:=pl) (thn (ho ϊ s σ H _ I h) λu s1 hZ=>?_) ht;obtain⟨x,H1,I1,rx,i,a,dx,fs,ex,ea,l,q⟩:=hZ;subst ex;obtain rfl:u=Value.ref a:=rx;obtain⟨f,fd,ds,F,hm,hb,hd⟩:=(D i).ex;refine K2 I1 ea (D i).cl hm l ?_;exact callWith_K0 (first:=[.ref a]) I1.kIn hm.kp (Mb (us:=[.ref a]) (vs:=[.ref a]) F (hr.mono hk) hb hd hx I1 (.cons rfl .nil) q)
theorem Le(D:A6 X.prog X.w X.K X.mg X.base C m j ps dvs sp)(hr:Room k X.A)(ho:PE X.nox o to)(ha:PA X.nox (e::es) t)(hk:j<=k:=by decide)
   (hst:wo (e::es) X.env=(false,xk e X.env)::wo es X.env:=by rfl) (hpl:(wz pos (wo es X.env)).any (·.1)=false:=by rfl)
   (ht:xk (.Call (.Attribute o m apos) (e::es) [] pos) X.env=(do
     let ov <-xk o X.env
     standAt apos.atName
     let (f,first) <-holding [ov] (getMethod ov m pl)
     xi pos f first (wz pos (wo (e::es) X.env)) (backToKw pos (keywordEach [] X.env))):=by rfl):
   PX X (.Call (.Attribute o m apos) (e::es) [] pos) (Mp C m sp dvs to t):=by
 intro ϊ s σ H QV EX Qp W I h hv hx;refine methodCall_KW (pl:=pl) (ww (ho ϊ s σ H _ (I.wish _) h) (λu s1 hZ=>?_) (λ_ _ z=>z.elim)) ht;obtain⟨x,H1,I1',rx,i,a,dx,fs,ex,ea,l,q⟩:=hZ;have I1:=I1'.unwish;subst ex;obtain rfl:u=Value.ref a:=rx;obtain⟨f,fd,ds,F,hm,hb,hd⟩:=(D i).ex;refine K2 I1 ea (D i).cl hm l ?_;refine callWith_K (first:=[.ref a]) (h₀:=X.base) I.ok.mod.kin hm.kp (ww (ha pos ϊ s1 σ H1 _ (I1.wish _) q) (λus s2 hZ=>?_) (λ_ _ z=>z.elim)) hst hpl;obtain⟨vs,H2,I2',r,q2⟩:=hZ;have I2:=I2'.unwish;exact#[I2.kIn,TK (us:=.ref a::us) (vs:=.ref a::vs) F (hr.mono hk) hb hd I2 (.cons rfl r) q2 hv λy s' hq=>hx H2 s2 y s' I2 hq]
end
def Us(ok:W7->Prop)(C:W7->wa)(m:Str)(sp:W7->Sp)(dvs:List V)(E:XK)(ta:TE)(t:TA):TE:=λσ H Q=>ta σ H λx H1=>∃i a dx fs,ok i/\x = .ref a/\H1 a=some (.ins (C i) dx fs)/\fs.lookup m=none/\t σ H1 λvs H2=>sp i (x::(vs++dvs)) H2 Q E
section
variable {X:Cx}{j k:Nat}{C:W7->wa}{ps:List Str}{sp:W7->Sp}{dvs:List V}{m:Str}{pos apos:Pos}{e o:wk}{es:List wk}{to:TE}{t:TA}{E:XK}{ok:W7->Prop}
theorem Rc(D:Bz X.prog X.w X.K X.mg X.base ok C m j ps dvs sp)(hx:D4 (CXe X.prog X.w) X E)(hr:Room k X.A)(ho:PE X o to)(ha:PA X (e::es) t)(hk:j<=k:=by decide)
   (hst:wo (e::es) X.env=(false,xk e X.env)::wo es X.env:=by rfl) (hpl:(wz pos (wo es X.env)).any (·.1)=false:=by rfl)
   (ht:xk (.Call (.Attribute o m apos) (e::es) [] pos) X.env=(do
     let ov <-xk o X.env
     standAt apos.atName
     let (f,first) <-holding [ov] (getMethod ov m pl)
     xi pos f first (wz pos (wo (e::es) X.env)) (backToKw pos (keywordEach [] X.env))):=by rfl):
   PE X (.Call (.Attribute o m apos) (e::es) [] pos) (Us ok C m sp dvs E to t):=by
 intro ϊ s σ H Q I h;refine methodCall_KW (pl:=pl) (thn (ho ϊ s σ H _ I h) λu s1 hZ=>?_) ht;obtain⟨x,H1,I1,rx,i,a,dx,fs,hok,ex,ea,l,q⟩:=hZ;subst ex;obtain rfl:u=Value.ref a:=rx;obtain⟨f,fd,ds,F,hm,hb,hd⟩:=(D i hok).ex;refine K2 I1 ea (D i hok).cl hm l ?_;refine callWith_K (first:=[.ref a]) (h₀:=X.base) I.ok.mod.kin hm.kp (thn (ha pos ϊ s1 σ H1 _ I1 q) λus s2 ⟨vs,H2,I2,r,q2⟩=>#[I2.kIn,?_]) hst hpl;exact Mb (us:=.ref a::us) (vs:=.ref a::vs) F (hr.mono hk) hb hd hx I2 (.cons rfl r) q2
end
section
variable {K:δ}{σ:L2.St}{H:Hp}{Q:VK}{EX:XK}{C:W7->wa}{m:Str}{sp:W7->Sp}{E:XK}{ta:TE}{t:TA}{dvs:List V}
theorem r_methF(h:ta σ H λx H1=>∃i a dx fs,x = .ref a/\H1 a=some (.ins (C i) dx fs)/\fs.lookup m=none/\t σ H1 λvs H2=>sp i (x::vs) H2 Q E):Mo C m sp [] E ta t σ H Q:=by
 unfold Mo;simp only [aq];exact h
theorem r_methFD(h:ta σ H λx H1=>∃i a dx fs,x = .ref a/\H1 a=some (.ins (C i) dx fs)/\fs.lookup m=none/\t σ H1 λvs H2=>sp i (x::(vs++dvs)) H2 Q E):Mo C m sp dvs E ta t σ H Q:=h
theorem r_xMethF(h:ta σ H λx H1=>∃i a dx fs,x = .ref a/\H1 a=some (.ins (C i) dx fs)/\fs.lookup m=none/\t σ H1 λvs H2=>sp i (x::vs) H2 Q EX):Mp C m sp [] ta t σ H Q EX:=by
 unfold Mp;simp only [aq];exact h
theorem r_xMethFD(h:ta σ H λx H1=>∃i a dx fs,x = .ref a/\H1 a=some (.ins (C i) dx fs)/\fs.lookup m=none/\t σ H1 λvs H2=>sp i (x::(vs++dvs)) H2 Q EX):Mp C m sp dvs ta t σ H Q EX:=h
theorem r_methS{ok:W7->Prop}(h:ta σ H λx H1=>∃i a dx fs,ok i/\x = .ref a/\H1 a=some (.ins (C i) dx fs)/\fs.lookup m=none/\t σ H1 λvs H2=>sp i (x::vs) H2 Q E):Us ok C m sp [] E ta t σ H Q:=by
 unfold Us;simp only [aq];exact h
theorem r_matS{ok:W7->Prop}{a:wa}{i:W7}{fs:List (Str×V)}{R:W7->Prop}(o:ok i)(h:H a=some (.ins (C i) dx fs))(l:fs.lookup m=none)(q:R i):
   ∃i' a' dx' fs',ok i'/\V.ref a=V.ref a'/\H a'=some (.ins (C i') dx' fs')/\fs'.lookup m=none/\R i':=#[i,a,dx,fs,o,rfl,h,l,q]
theorem r_matF{a:wa}{i:W7}{fs:List (Str×V)}{R:W7->Prop}(h:H a=some (.ins (C i) dx fs))(l:fs.lookup m=none)(q:R i):
   ∃i' a' dx' fs',V.ref a=V.ref a'/\H a'=some (.ins (C i') dx' fs')/\fs'.lookup m=none/\R i':=#[i,a,dx,fs,rfl,h,l,q]
end
theorem decS{i j:Str}:decide (V.str i=V.str j)=decide (i=j):=by
 rw[Tl,dj];simp
section
variable {H:Hp}{Q:VK}
theorem r_eqSS{i:Str}(h:Q (.bl true) H):rEq (.str i) (.str i) H Q:=#[rfl,by rw[xb3 rfl];exact h]
theorem r_eqSt{i j:Str}(h:Q (.bl (decide (i=j))) H):rEq (.str i) (.str j) H Q:=#[rfl,by rw[decS];exact h]
theorem r_neSt{i j:Str}(h:Q (.bl (!decide (i=j))) H):rNe (.str i) (.str j) H Q:=#[rfl,by rw[decS];exact h]
end
section
variable {X:Cx}{a:wk}{ta:TE}
end
section
variable {K:δ}{σ:L2.St}{H:Hp}{Q:VK}
end
def Inn(z:Pc)(i:Nat):Prop:=z.a+1<=i/\(i:Int)<z.a+z.l-1
theorem apart{ps:List Pc}{s:Int}{i:Int}(c:Am s ps e)(hy:y∈ps)(hz:z∈ps)(hne:y≠z)(h1:z.a<=i)(h2:i<z.a+z.l):i<y.a\/y.a+y.l<=i:=by
 rcases ku i y.a with g | g
 exact .inl g;rcases ku i (y.a+y.l) with g2 | g2
 exact xb0 (HQ c hy hz g g2 h1 h2) hne;exact .inr g2
set_option tactic.hygienic true in
theorem pJ{ps:List Pc}(h:ps[i]?=some z):∃p∈ps,(p=z\/p.v=false)/\yP ps i z=p.a:=by
 have hz:=ζ h;unfold yP
 split
 exact#[z,hz,.inl rfl,rfl]
 split
 rename_i j y hy
 split
 exact#[z,hz,.inl rfl,rfl];rename_i hv;exact#[y,ζ hy,.inr (by simpa using hv),rfl];exact#[z,hz,.inl rfl,rfl]
set_option tactic.hygienic true in
theorem Ut{ps:List Pc}{s:Int}(c:Am s ps e)(h:ps[i]?=some z):yH ps i z=z.a+z.l\/∃p∈ps,p.v=false/\p.a=z.a+z.l/\yH ps i z=p.a+p.l:=by
 unfold yH
 split
 rename_i y hy
 split
 exact .inl rfl;rename_i hv;refine .inr #[y,ζ hy,by simpa using hv,?_,rfl];exact ED c h hy;exact .inl rfl
theorem Y_{b:Int}(h0:0<=b)(h1:b<=e)(n1:(j:Int)≠b)(n2:(j:Int)≠e-1):(lfI cs b e)[j]?=cs[j]?:=by
 unfold lfI
 split
 rfl;unfold AS;rw[ag ∅,ag ∅]
theorem pK{ps:List Pc}{n:Int}(c:Am 0 ps n)(hi:ps[i]?=some z)(hy:y∈ps)(hv:y.v=true)(hne:y≠z)(hj:Inn y j):(lfI cs (yP ps i z) (yH ps i z))[j]?=cs[j]?:=by
 obtain⟨j1,j2⟩:=hj;obtain⟨b1,b2⟩:=bE c hi;obtain⟨e1,e2⟩:=T4 c hi;have hzm:=ζ hi;obtain⟨z0,z1,_,_⟩:=c.mem z hzm;refine Y_ ∅ ∅ ?_ ?_;obtain⟨p,hp,hpz,e⟩:=pJ hi;have:y≠p:=λw=>by
   rcases hpz with g | g
   exact hne (w.trans g);rw[<-w,hv] at g;cases g
 have:=apart c hy hp this (i:=p.a) (ar _) (by have:=(c.mem p hp).2.1;lia);lia;rcases Ut c hi with e | ⟨p,hp,hpv,hpa,e⟩
 have:=apart c hy hzm hne (i:=z.a+z.l-1) ∅ ∅;lia;have hyp:y≠p:=λw=>by rw[<-w,hv] at hpv;cases hpv
 have hl:=(c.mem p hp).2.1;have:=apart c hy hp hyp (i:=p.a+p.l-1) ∅ ∅;lia
theorem cM{ps:List Pc}{n s:Int}(c:Am 0 ps n)(hz:z∈ps)(hzv:z.v=false)(hL:1<=L)(h1:z.a<=s)(h2:s+L<=z.a+z.l)(hy:y∈ps)(hv:y.v=true)(hj:Inn y j):(zd cs z.a z.l s L)[j]?=cs[j]?:=by
 obtain⟨j1,j2⟩:=hj;have hne:z≠y:=λw=>by rw[w,hv] at hzv;cases hzv
 obtain⟨z0,_,_,_⟩:=c.mem z hz;have:=apart c hz hy hne (i:=(j:Int)) ∅ ∅;exact nB z0 hL h1 h2 this
theorem pL{ps:List Pc}{n:Int}(c:Am 0 ps n)(hi:ps[i]?=some z)(hL:3<=L)(hf:z.a+L<=yH ps i z)(hy:y∈ps)(hv:y.v=true)(hne:y≠z)(hj:Inn y j):(lfI (AS cs z.a L true) (z.a+L) (yH ps i z))[j]?=cs[j]?:=by
 obtain⟨j1,j2⟩:=hj;have hzm:=ζ hi;obtain⟨z0,z1,_,_⟩:=c.mem z hzm;have a1:=apart c hzm hy (fh hne) (i:=(j:Int)) ∅ ∅;have out:(j:Int)<z.a\/yH ps i z<=j:=by
   rcases Ut c hi with e | ⟨p,hp,hpv,hpa,e⟩
   lia;have hyp:p≠y:=λw=>by rw[w,hv] at hpv;cases hpv
   have hl:=(c.mem p hp).2.1;have:=apart c hp hy hyp (i:=(j:Int)) ∅ ∅;lia
 rw[QS ∅ hf ∅,Di z0 ∅ ∅]
theorem pM(h0:0<=a)(h1:a+1<=j)(h2:(j:Int)<a+L-1)(he:a+L<=e):(lfI (AS cs a L true) (a+L) e)[j]?=cs[j]?:=by
 rw[QS ∅ he ∅];unfold AS;rw[ag ∅,ag ∅]
theorem cN:∀{ps:List Pc}{cs:List Int},At cs ps->(∀z∈ps,0<=z.a/\1<=z.l)->CZ cs ps=cs
 | [],_,_,_=>rfl
 | z::r,cs,m,h=>by
   obtain⟨m1,m2⟩:=m z η;have e:AS cs z.a z.l z.v=cs:=by
     unfold AS;have e1:cs.set z.a.toNat (z.l*2+if z.v then 1 else 0)=cs:=by
       obtain⟨g1,g2⟩:=γ.mp m1;rw[show (z.l*2+if z.v then 1 else 0)=cs[z.a.toNat] from g2.symm];exact ow g1
     have e2:cs.set (z.a+z.l-1).toNat (z.l*2+if z.v then 1 else 0)=cs:=by
       obtain⟨g1,g2⟩:=γ.mp m2;rw[show (z.l*2+if z.v then 1 else 0)=cs[(z.a+z.l-1).toNat] from g2.symm];exact ow g1
     rw[e1,e2]
   show CZ (AS cs z.a z.l z.v) r=cs;rw[e];exact cN (λp hp=>m p (ι _ hp)) λp hp=>h p (ι _ hp)
theorem pN{s g c:Nat}(h1:s+c<=cs.length)(h2:g+c<=cs.length)(hj:j<c):(zf cs s g c)[g+j]?=cs[s+j]?:=by
 unfold zf;have lt:(cs.take g).length=g:=by rw[bx];lia
 have lm:((cs.drop s).take c).length=c:=by rw[bx,cg];lia
 rw[am,θ ∅,lt,ψ ∅,show g+j-g=j by lia,qp,xb1 hj,lr]
theorem pO{ps:List Pc}(h:y∈ps)(g:y.a<k\/e<=y.a):y∈yN ps k L e:=by
 unfold yN;refine mx.mpr #[rg1 k L e y,ce.mpr #[y,h,rfl],?_];unfold rg1;rw[xb1 g];exact π _ (π _ (χ.mpr rfl))
def eqP(y z:Pc):Bool:=decide (y.a=z.a/\y.l=z.l/\y.v=z.v)
theorem Lf:eqP y z=true↔y=z:=by
 unfold eqP;rw[decide_eq_true_iff];constructor;rintro⟨h1,h2,h3⟩;obtain⟨a,l,v⟩:=y;obtain⟨a',l',v'⟩:=z;simp only at h1 h2 h3;rw[h1,h2,h3];rintro rfl;exact#[rfl,rfl,rfl]
theorem pP(y z:Pc):zG [.int y.a,.int y.l,.bl y.v] [.int z.a,.int z.l,.bl z.v]=eqP y z:=by
 rw[dj,Lf];constructor;intro h;unfold zG at h;have h:=iq.mp (gr.mp h).1;have h0:=h 0 f!"";have h1:=h 1 f!"";have h2:=h 2 f!"";have e0:y.a=z.a:=by
   have:decide (y.a=z.a)=true:=h0;simpa using this
 have e1:y.l=z.l:=by
   have:decide (y.l=z.l)=true:=h1;simpa using this
 have e2:y.v=z.v:=by
   have g:eqV (.bl y.v) (.bl z.v)=true:=h2;cases hy:y.v <;> cases hz:z.v <;> rw[hy,hz] at g <;> first | rfl | cases g
 exact Lf.mp (by unfold eqP;exact xb3 #[e0,e1,e2]);rintro rfl;exact Me rfl
open Classical in
theorem S_(hu:X.A.units+64<xm):OpR X (xc .In) (λx y H Q=>∃t p us ps z,x = .ref t/\y = .ref p/\H t=some (.tup [.int z.a,.int z.l,.bl z.v])/\H p=some (.lst us)/\AJ H us ps/\Q (.bl (ps.any λy=>eqP y z)) H):=by
 intro ϊ s σ H x y v u Q I rx ry h;obtain⟨t,p,us,ps,z,rfl,rfl,ht,hp,pa,q⟩:=h;cases rx;cases ry;obtain⟨its,r,pl,hz⟩:=I.list (SqL.of hp);have hl:=r.length;have hpl:=pa.1;have at':∀w∈its,∃t' z',w = .ref t'/\H t'=some (.tup [.int z'.a,.int z'.l,.bl z'.v])/\z'∈ps:=λw hw=>by
   obtain⟨i,hi,rfl⟩:=ii.mp hw;have hip:i<ps.length:=∅;obtain⟨t',e1,e2⟩:=pa.2 i ps[i] (by simp [hip]);obtain⟨u',g1,q1⟩:=r.get e1;cases q1;rw[ρ hi] at g1;exact#[t',ps[i],Θ g1,e2,bz hip]
 refine SeqAt.in_listAt (λw=>decide (∃t' z',w=Value.ref t'/\H t'=some (.tup [.int z'.a,.int z'.l,.bl z'.v])/\eqP z' z=true)) pl.isList (λw hw=>?_) #[.bl _,H,I,rfl,?_];obtain⟨t',z',rfl,h1,_⟩:=at' w (by simpa using hw);have ev:decide (∃t'' z'',Value.ref t'=Value.ref t''/\H t''=some (.tup [.int z''.a,.int z''.l,.bl z''.v])/\eqP z'' z=true)=eqP z' z:=by
   rw[dj,decide_eq_true_iff];constructor;rintro⟨t'',z'',e,g1,g2⟩;cases e;rw[h1] at g1;have e2:=HO.tup.inj (Θ g1);simp only [jt.injEq,V.int.injEq,V.bl.injEq,and_true] at e2;have:z'=z'':=Lf.mp (by unfold eqP;exact xb3 e2);rw[this];exact g2;exact λg=>#[t',z',rfl,h1,g]
 rw[ev,<-pP];by_cases e:t'=t;subst e;rw[h1] at ht;rw[HO.tup.inj (Θ ht),Me rfl];exact jo _;exact lu e (bP (A:=X.A.in1) (by show X.A.units+1<xm;lia) I (SqT.of h1) (SqT.of ht) rfl rfl);have:its.toArray.any (λw=>decide (∃t' z',w=Value.ref t'/\H t'=some (.tup [.int z'.a,.int z'.l,.bl z'.v])/\eqP z' z=true))=ps.any λy=>eqP y z:=by
   rw[List.any_toArray,dj,cw,cw];constructor;rintro⟨w,hw,hd⟩;obtain⟨t',z',e,g1,g2⟩:=of_decide_eq_true hd;obtain⟨t2,z2,e2,g3,g4⟩:=at' w hw;rw[e] at e2;cases e2;rw[g1] at g3;have e2:=HO.tup.inj (Θ g3);simp only [jt.injEq,V.int.injEq,V.bl.injEq,and_true] at e2;have:z'=z2:=Lf.mp (by unfold eqP;exact xb3 e2);exact#[z2,g4,by rw[<-this];exact g2];rintro⟨y,hy,g⟩;obtain⟨i,hi,rfl⟩:=ii.mp hy;obtain⟨t',e1,e2⟩:=pa.2 i ps[i] (by simp [hi]);obtain⟨u',g1,q1⟩:=r.get e1;cases q1;exact#[_,ζ g1,xb3 #[t',ps[i],rfl,e2,g]]
 rw[this];exact q
theorem pQ(hu:X.A.units+64<xm):OpR X (xc .Eq) (λx y H Q=>∃a b us,x = .ref a/\y = .ref b/\H a=some (.lst us)/\H b=some (.lst [])/\Q (.bl us.isEmpty) H):=by
 intro ϊ s σ H x y v u Q I rx ry h;obtain⟨a,b,us,rfl,rfl,ha,hb,q⟩:=h;cases rx;cases ry;obtain⟨its,r1,p1,_⟩:=I.list (SqL.of ha);obtain⟨its2,r2,p2,_⟩:=I.list (SqL.of hb);have l1:=r1.length;have l2:=r2.length;have key:SeqAt.RcAt X.A s (.ref a) (.ref b) us.isEmpty:=by
   cases us with
   | nil=>
     have:=mq (A:=X.A) (s:=s) (e:=λ_=>true) p1.isList p2.isList (by rw[ο,ο];lia) ∅ λj h1 h2=>by
       rw[ο] at h1;rw[eo] at l1;lia
     have e:((cq its.toArray.size).all (λ_=>true))=true:=by simp
     rw[e] at this;exact this
   | cons c r=>
     rw[Ψ] at l1;rw[eo] at l2;exact tj p1.isList p2.isList (by rw[ο,ο];simp;lia) ∅
 exact key _ _ _ _ #[.bl _,H,I,rfl,q]
def Al(z:Pc):Prop:=∃m q:Nat,z.l=2^m/\z.a=2^m*(q:Int)
theorem pw1(i:Nat):1<=(2:Int)^i:=Uo i
theorem pw2(i:Nat):(2:Int)^(i+1)=2^i+2^i:=by rw[nh];lia
def spl(a:Int)(B e:Nat):List Pc:=(vd B e).map λi:Nat=>#[a+2^i,2^i,false]
theorem cP(a:Int)(B e:Nat):spl a B (e+1)=#[a+2^B,2^B,false]::spl a (B+1) e:=by
 unfold spl;rw[rk];rfl
theorem Re(a:Int):∀(e B:Nat),Am (a+2^B) (spl a B e) (a+2^(B+e))
 | 0,B=>rfl
 | e+1,B=>by
   rw[cP];refine#[rfl,pw1 B,(λh=>by cases h),?_];have:=Re a e (B+1);rw[pw2,show a+(2^B+2^B)=a+2^B+2^B by lia,show B+1+e=B+(e+1) by lia] at this;exact this
theorem Uu{e:Nat}(h:z∈spl a B e):∃i,B<=i/\i<B+e/\z=#[a+2^i,2^i,false]:=by
 unfold spl at h;obtain⟨i,hi,e'⟩:=ce.mp h;obtain⟨h1,h2⟩:=List.mem_range'_1.mp hi;exact#[i,h1,h2,e'.symm]
theorem pR(i e:Nat):(2:Int)^(i+e)=2^i*2^e:=vc 2 i e
theorem pS(e:Nat):((2^e:Nat):Int)=2^e:=by
 induction e with
 | zero=>rfl
 | succ e ih=>rw[Nat.pow_succ,jb,ih,nh];rfl
theorem Uv(h:a=2^M*(q:Int))(hi:i<=M):∃r:Nat,a=2^i*(r:Int):=by
 obtain⟨e,rfl⟩:∃e,M=i+e:=#[M-i,∅]
 refine#[2^e*q,?_];rw[h,pR,jb,pS,mh]
theorem zY{e:Nat}(h:a=2^M*(q:Int))(hB:B+e<=M):∀z∈spl a B e,Al z:=λz hz=>by
 obtain⟨i,h1,h2,rfl⟩:=Uu hz;obtain⟨r,hr⟩:=Uv h (show i<=M by lia);refine#[i,r+1,rfl,?_];show a+2^i=2^i*((r+1:Nat):Int);rw[hr,ci,dy];simp
def hcP(a:Int)(B M:Nat):List Pc:=#[a,2^B,true]::spl a B (M-B)
theorem pT(h2:2<=B)(h:B<=M):Am a (hcP a B M) (a+2^M):=by
 have h3:(3:Int)<=2^B:=by
   have:=Eu h2;have e:(2:Int)^2=4:=by decide
   lia
 refine#[rfl,pw1 B,λ_=>h3,?_];have:=Re a (M-B) B;rw[show B+(M-B)=M by lia] at this;exact this
theorem pU{rs:List Pc}{L e:Nat}(h0:0<=a)(hd:Cs ds a)(hr:Et rs (a+2^(L+1+e)))(hl:a+2^(L+1+e)<=row.length)(m:At row (ds++(spl a (L+1) e++rs))):
   a+2^L+2^L<=row.length/\At (AS row (a+2^L) (2^L) false) (ds++(spl a L (e+1)++rs)):=by
 have c:=Re a e (L+1);have hle:=c.le;have p1:=pw1 L;have p2:=pw2 L;have hb:a+2^L+2^L<=row.length:=∅;refine#[hb,?_];rw[cP,mj];refine At.lay ∅ p1 hb (hd.mono ∅) ?_ m;intro p hp;rcases ν.mp hp with g | g
 have:=c.fromOn p g;lia;have:=hr p g;lia
theorem pV{rs:List Pc}{e:Nat}(h0:0<=a)(hd:Cs ds a)(hr:Et rs (a+2^(B+e)))(hl:a+2^(B+e)<=row.length)(m:At row (ds++(spl a B e++rs))):
   a+2^B<=row.length/\At (AS row a (2^B) true) (ds++(#[a,2^B,true]::(spl a B e++rs))):=by
 have c:=Re a e B;have hle:=c.le;have p1:=pw1 B;have hb:a+2^B<=row.length:=∅;refine#[hb,At.lay h0 p1 hb hd ?_ m];intro p hp;rcases ν.mp hp with g | g
 have:=c.fromOn p g;lia;have:=hr p g;lia
def Bst(b:Int)(ps:List Pc)(z:Pc):Prop:=z∈ps/\z.v=false/\b<=z.l/\∀y∈ps,y.v=false->b<=y.l->z.l<y.l\/(z.l=y.l/\z.a<=y.a)
def bud(m q:Nat):Int:=if q%2=0 then 2^m*(q:Int)+2^m else 2^m*(q:Int)-2^m
inductive MgTo(ps:List Pc):List Pc->List Pc->Nat->Nat->List Pc->List Pc->Nat->Nat->Prop
 | stop {ds rs:List Pc} {m q:Nat} (h:(⟨bud m q,2^m,false⟩:Pc) ∉ ps):MgTo ps ds rs m q ds rs m q
 | right {ds rs:List Pc} {m q:Nat} {ds' rs':List Pc} {m' q':Nat} (hq:q%2=0) (h:(⟨bud m q,2^m,false⟩:Pc)∈ps) (k:MgTo ps ds rs (m+1) (q/2) ds' rs' m' q'):MgTo ps ds (⟨bud m q,2^m,false⟩::rs) m q ds' rs' m' q'
 | left {ds rs:List Pc} {m q:Nat} {ds' rs':List Pc} {m' q':Nat} (hq:q%2=1) (h:(⟨bud m q,2^m,false⟩:Pc)∈ps) (k:MgTo ps ds rs (m+1) (q/2) ds' rs' m' q'):MgTo ps (ds++[⟨bud m q,2^m,false⟩]) rs m q ds' rs' m' q'
structure Lie(N:Nat)(ps ds rs:List Pc)(m q:Nat):Prop where
 le:m<=N
 c1:Am 0 ds (2^m*(q:Int))
 c2:Am (2^m*(q:Int)+2^m) rs (2^N)
 is:∀z:Pc,(z.a+z.l<=2^m*(q:Int)\/2^m*(q:Int)+2^m<=z.a)->(z∈ps↔z∈ds\/z∈rs)
theorem cQ(hq:q%2=0):(2:Int)^(m+1)*((q/2:Nat):Int)=2^m*(q:Int):=by
 obtain⟨r,rfl⟩:∃r,q=2*r:=#[q/2,∅]
 rw[show 2*r/2=r by lia,nh,jb,mh];rfl
theorem cR(hq:q%2=1):(2:Int)^(m+1)*((q/2:Nat):Int)=2^m*(q:Int)-2^m:=by
 obtain⟨r,rfl⟩:∃r,q=2*r+1:=#[q/2,∅]
 rw[show (2*r+1)/2=r by lia,nh,ci,jb,dy,mh];simp
theorem Lie.right{ps rs:List Pc}(L:Lie N ps ds rs m q)(hq:q%2=0)(h:(#[bud m q,2^m,false]:Pc)∈ps):∃rs1,rs=#[bud m q,2^m,false]::rs1/\Lie N ps ds rs1 (m+1) (q/2):=by
 have eb:bud m q=2^m*(q:Int)+2^m:=by unfold bud;rw[xb1 hq]
 have p1:=pw1 m;have p2:=pw2 m;have ea:=cQ (m:=m) hq;have hin:(#[bud m q,2^m,false]:Pc)∈rs:=by
   rcases(L.is #[bud m q,2^m,false] (.inr (by show _<=bud m q;lia))).mp h with g | g
   have:=(L.c1.mem _ g).2.2.2;have:bud m q+2^m<=2^m*(q:Int):=this;lia;exact g
 cases rs with
 | nil=>cases hin
 | cons y r=>
   obtain⟨h0,h1,h3,h4⟩:=L.c2;have ey:(#[bud m q,2^m,false]:Pc)=y:=CY (ps:=y::r) #[h0,h1,h3,h4] hin η (by show bud m q=y.a;lia);subst ey;have h4:Am (2^m*(q:Int)+2^m+2^m) r (2^N):=h4;refine#[r,rfl,?_,by rw[ea];exact L.c1,by rw[ea,p2,show (2:Int)^m*(q:Int)+(2^m+2^m)=2^m*(q:Int)+2^m+2^m by lia];exact h4,λz hz=>?_];have hle:=h4.le;have hm:(2:Int)^m<2^N:=by
     have:0<=2^m*(q:Int):=jk ∅ ∅;lia
   exact cD hm;rw[ea,p2] at hz;rw[L.is z ∅];constructor;rintro(g | g);exact .inl g;rcases Ξ.mp g with e | e
   rw[e] at hz;have hz:bud m q+2^m<=2^m*(q:Int)\/2^m*(q:Int)+(2^m+2^m)<=bud m q:=hz;lia;exact .inr e;rintro(g | g);exact .inl g;exact .inr (ι _ g)
theorem Lie.left{ps rs:List Pc}(L:Lie N ps ds rs m q)(hq:q%2=1)(h:(#[bud m q,2^m,false]:Pc)∈ps):∃ds1,ds=ds1++[#[bud m q,2^m,false]]/\Lie N ps ds1 rs (m+1) (q/2):=by
 have eb:bud m q=2^m*(q:Int)-2^m:=by unfold bud;rw[xb2 ∅]
 have p1:=pw1 m;have p2:=pw2 m;have ea:=cR (m:=m) hq;have hin:(#[bud m q,2^m,false]:Pc)∈ds:=by
   rcases(L.is #[bud m q,2^m,false] (.inl (by show bud m q+2^m<=_;lia))).mp h with g | g
   exact g;have:=(L.c2.mem _ g).1;have:2^m*(q:Int)+2^m<=bud m q:=this;lia
 obtain⟨i,hi⟩:=aj hin;obtain⟨d1,d2,e1,_,k1,k2⟩:=CW L.c1 hi;have k2:Am (bud m q+2^m) d2 (2^m*(q:Int)):=k2;have k1:Am 0 d1 (bud m q):=k1;have e2:d2=[]:=by
   cases d2 with
   | nil=>rfl
   | cons y r=>
     have:=k2.le;rw[Ψ] at this;lia
 subst e2;have hN:(2:Int)^m*(q:Int)+2^m<=2^N:=by have:=L.c2.le;lia
 refine#[d1,e1,?_,by rw[ea,<-eb];exact k1,by rw[ea,p2,show (2:Int)^m*(q:Int)-2^m+(2^m+2^m)=2^m*(q:Int)+2^m by lia];exact L.c2,λz hz=>?_];have hq1:(2:Int)^m<=2^m*(q:Int):=by
   have:=au (show (1:Int)<=(q:Int) by lia) (show (0:Int)<=2^m by lia);lia
 exact cD (show (2:Int)^m<2^N by lia);rw[ea,p2] at hz;rw[L.is z ∅,e1];constructor;rintro(g | g);rcases ν.mp g with e | e
 exact .inl e;rw[χ.mp e] at hz;have hz:bud m q+2^m<=2^m*(q:Int)-2^m\/2^m*(q:Int)-2^m+(2^m+2^m)<=bud m q:=hz;lia;exact .inr g;rintro(g | g);exact .inl (π _ g);exact .inr g
theorem MgTo.ex{ps:List Pc}(f:Nat):∀{ds rs:List Pc}{m q:Nat},N-m<=f->Lie N ps ds rs m q->∃ds' rs' m' q',MgTo ps ds rs m q ds' rs' m' q'/\Lie N ps ds' rs' m' q':=by
 induction f with
 | zero=>
   intro ds rs m q hf L;by_cases h:(#[bud m q,2^m,false]:Pc)∈ps;exfalso;by_cases hq:q%2=0;obtain⟨_,_,L1⟩:=L.right hq h;have:=L1.le;lia;obtain⟨_,_,L1⟩:=L.left ∅ h;have:=L1.le;lia
   . exact#[ds,rs,m,q,.stop h,L]
 | succ f ih=>
   intro ds rs m q hf L;by_cases h:(#[bud m q,2^m,false]:Pc)∈ps;by_cases hq:q%2=0;obtain⟨rs1,e,L1⟩:=L.right hq h;obtain⟨ds',rs',m',q',k,L'⟩:=ih ∅ L1;exact#[ds',rs',m',q',by rw[e];exact .right hq h k,L'];obtain⟨ds1,e,L1⟩:=L.left ∅ h;obtain⟨ds',rs',m',q',k,L'⟩:=ih ∅ L1;exact#[ds',rs',m',q',by rw[e];exact .left ∅ h k,L']
   . exact#[ds,rs,m,q,.stop h,L]
theorem HS(h:(2:Int)^i=2^j):i=j:=by
 rcases jy i j with g | g | g
 have:=Eu (show i+1<=j by lia);have:=pw2 i;have:=pw1 i;lia;exact g;have:=Eu (show j+1<=i by lia);have:=pw2 j;have:=pw1 j;lia
theorem MgTo.facts{ps rs:List Pc}(h:MgTo ps ds rs m q ds' rs' m' q'):m<=m'/\ds.length+rs.length=ds'.length+rs'.length+(m'-m)/\(∀y,y∈ds\/y∈rs->(y∈ds'\/y∈rs')\/∃i,m<=i/\i<m'/\y.l=2^i)/\(∀y,y∈ds'\/y∈rs'->y∈ds\/y∈rs):=by
 induction h with
 | stop _=>exact#[Γ _,∅,λy hy=>.inl hy,λy hy=>hy]
 | right hq hb k ih=>
   obtain⟨h1,h2,h3,h4⟩:=ih;refine#[∅,by rw[Ψ];lia,λy hy=>?_,λy hy=>?_];rcases hy with g | g
   rcases h3 y (.inl g) with e | ⟨i,e1,e2,e3⟩
   exact .inl e;exact .inr #[i,∅,e2,e3];rcases Ξ.mp g with e | e
   rw[e];exact .inr #[_,Γ _,∅,rfl];rcases h3 y (.inr e) with e | ⟨i,e1,e2,e3⟩
   exact .inl e;exact .inr #[i,∅,e2,e3];rcases h4 y hy with g | g
   exact .inl g;exact .inr (ι _ g)
 | left hq hb k ih=>
   obtain⟨h1,h2,h3,h4⟩:=ih;refine#[∅,by rw[Δ,Ω];lia,λy hy=>?_,λy hy=>?_];rcases hy with g | g
   rcases ν.mp g with e | e
   rcases h3 y (.inl e) with e | ⟨i,e1,e2,e3⟩
   exact .inl e;exact .inr #[i,∅,e2,e3];rw[χ.mp e];exact .inr #[_,Γ _,∅,rfl];rcases h3 y (.inr g) with e | ⟨i,e1,e2,e3⟩
   exact .inl e;exact .inr #[i,∅,e2,e3];rcases h4 y hy with g | g
   exact .inl (π _ g);exact .inr g
theorem pW:∀m:Nat,m<9->∀q:Nat,q<257->Builtin.bitXor ((2:Int)^m*(q:Int)) (2^m)=bud m q:=by decide +kernel
theorem lex2(l1 a1 l2 a2:Int):HT.lexLt [l1,a1] [l2,a2]=if l1=l2 then decide (a1<a2) else decide (l1<l2):=by
 by_cases h:l1=l2;rw[xb1 h];simp [HT.lexLt,h];lia;rw[xb2 h];simp [HT.lexLt,h]
theorem Uw{xs:List (List Int)}(h2:∀k,k<xs.length->∃l a:Int,xs.getD k []=[l,a]):∀j,j<xs.length->∀k,k<=j->HT.lexLt (xs.getD k []) (xs.getD (B4 xs j) [])=false
 | 0,h,k,hk=>by
   have:k=0:=∅;subst this;obtain⟨l,a,e⟩:=h2 0 h;show HT.lexLt (xs.getD 0 []) (xs.getD 0 [])=false;rw[e];simp [HT.lexLt]
 | j+1,h,k,hk=>by
   have hm:=K9 xs j;obtain⟨l1,a1,e1⟩:=h2 (j+1) h;obtain⟨l2,a2,e2⟩:=h2 (B4 xs j) ∅;obtain⟨l3,a3,e3⟩:=h2 k ∅;unfold B4;by_cases hl:HT.lexLt (xs.getD (j+1) []) (xs.getD (B4 xs j) [])=true;rw[xb1 hl];by_cases e:k=j+1;rw[e,e1];simp [HT.lexLt];have ih:=Uw h2 j ∅ k ∅;rw[e2,e3] at ih;rw[e1,e2] at hl;rw[e1,e3];rw[lex2] at ih hl ⊢;by_cases c1:l3=l2;rw[xb1 c1] at ih;have ih:=of_decide_eq_false ih;by_cases c2:l1=l2;rw[xb1 c2] at hl;have hl:=of_decide_eq_true hl;rw[xb1 ∅];exact xb4 ∅;rw[xb2 c2] at hl;have hl:=of_decide_eq_true hl;rw[xb2 ∅];exact xb4 ∅;rw[xb2 c1] at ih;have ih:=of_decide_eq_false ih;by_cases c2:l1=l2;rw[xb1 c2] at hl;rw[xb2 ∅];exact xb4 ∅;rw[xb2 c2] at hl;have hl:=of_decide_eq_true hl;rw[xb2 ∅];exact xb4 ∅;rw[xb2 hl];by_cases e:k=j+1;rw[e];simpa using hl;exact Uw h2 j ∅ k ∅
theorem Lie.outer{ps rs:List Pc}(L:Lie N ps ds rs m q)(h:y∈ds\/y∈rs):y.a+y.l<=2^m*(q:Int)\/2^m*(q:Int)+2^m<=y.a:=by
 rcases h with h | h
 exact .inl (L.c1.mem y h).2.2.2;exact .inr (L.c2.mem y h).1
theorem MgTo.live{ps rs:List Pc}(h:MgTo ps ds rs m q ds' rs' m' q'):∀y,y.v=true->y∈ds\/y∈rs->y∈ds'\/y∈rs':=by
 induction h with
 | stop _=>exact λy _ h=>h
 | right hq hb k ih=>
   intro y hv hy;rcases hy with g | g
   exact ih y hv (.inl g);rcases Ξ.mp g with e | e
   rw[e] at hv;cases hv;exact ih y hv (.inr e)
 | left hq hb k ih=>
   intro y hv hy;rcases hy with g | g
   rcases ν.mp g with e | e
   exact ih y hv (.inl e);rw[χ.mp e] at hv;cases hv;exact ih y hv (.inr g)
theorem MgTo.end{ps rs:List Pc}(h:MgTo ps ds rs m q ds' rs' m' q'):(#[bud m' q',2^m',false]:Pc) ∉ ps:=by
 induction h with
 | stop h=>exact h
 | right _ _ _ ih=>exact ih
 | left _ _ _ ih=>exact ih
theorem Rf{a b:Nat}(h:(2:Int)^m*(a:Int)=2^m*(b:Int)):a=b:=by
 have p:=pw1 m;have:=fu (show (2:Int)^m≠0 by lia) h;lia
theorem cS(h:bud m q=2^m*(q':Int)):2^m*(q:Int)=bud m q':=by
 unfold bud at *;by_cases e:q%2=0;rw[xb1 e] at h;have:q'=q+1:=(Rf (m:=m) (by rw[<-h,ci,dy];simp)).symm;rw[this,xb2 ∅,ci,dy];simp;rw[xb2 e] at h;obtain⟨r,rfl⟩:∃r,q=r+1:=#[q-1,∅]
 have hr:(2:Int)^m*((r+1:Nat):Int)=2^m*(r:Int)+2^m:=by rw[ci,dy];simp
 have:q'=r:=(Rf (m:=m) (by rw[<-h,hr];lia)).symm;rw[this,xb1 ∅];exact hr
theorem cT:bud m q≠2^m*(q:Int):=by
 have:=pw1 m;unfold bud
 split <;> lia
def NbF(ps:List Pc):Prop:=∀m q:Nat,(#[2^m*(q:Int),2^m,false]:Pc)∈ps->(#[bud m q,2^m,false]:Pc) ∉ ps
theorem NbF.one(N:Nat):NbF [#[0,2^N,false]]:=λm q h1 h2=>by
 have e1:=Pc.mk.inj (χ.mp h1);have e2:=Pc.mk.inj (χ.mp h2);exact cT (e2.1.trans e1.1.symm)
theorem NbF.give{N:Nat}{ps rs:List Pc}(nb:NbF ps)(G:MgTo ps ds rs m q ds' rs' m' q')(hin:∀y,y∈ds\/y∈rs->y∈ps):NbF (ds'++#[2^m'*(q':Int),2^m',false]::rs'):=by
 obtain⟨_,_,_,f4⟩:=G.facts;have hen:=G.end;have part:∀{y:Pc},y∈ds'++(#[2^m'*(q':Int),2^m',false]::rs':List Pc)->y=#[2^m'*(q':Int),2^m',false]\/y∈ps:=λ{y} h=>by
   rcases ν.mp h with g | g
   exact .inr (hin y (f4 y (.inl g)));rcases Ξ.mp g with e | e
   exact .inl e;exact .inr (hin y (f4 y (.inr e)))
 intro a b h1 h2;rcases part h1 with e1 | g1
 have e1:=Pc.mk.inj e1;have ea:a=m':=HS e1.2.1;subst ea;have eb:b=q':=Rf e1.1;subst eb;rcases part h2 with e2 | g2
 exact cT (Pc.mk.inj e2).1;exact hen g2;rcases part h2 with e2 | g2
 have e2:=Pc.mk.inj e2;have ea:a=m':=HS e2.2.1;subst ea;rw[cS e2.1] at g1;exact hen g1;exact nb a b g1 g2
theorem NbF.ask{ps rs:List Pc}{b:Int}(nb:NbF ps)(e:ps=ds++#[b,2^M,false]::rs)(al:∀z∈ps,Al z)(hBM:B<=M)(c4:Am 0 (ds++(hcP b B M++rs)) (2^N)):NbF (ds++(hcP b B M++rs)):=by
 obtain⟨m0,q0,e1,e2⟩:=al #[b,2^M,false] (by rw[e];exact ε _ η);have e1:(2:Int)^M=2^m0:=e1;have e2:b=2^m0*(q0:Int):=e2;rw[<-HS e1] at e2;have hlive:(#[b,2^B,true]:Pc)∈ds++(hcP b B M++rs):=ε _ (π _ η);have notb:∀l,(#[b,l,false]:Pc) ∉ ds++(hcP b B M++rs):=λl h=>by
   have:=CY c4 h hlive rfl;cases (Pc.mk.inj this).2.2
 have part:∀{y:Pc},y.v=false->y∈ds++(hcP b B M++rs)->y∈ps\/∃i,i<M/\y=#[b+2^i,2^i,false]:=λ{y} hv h=>by
   rcases ν.mp h with g | g
   exact .inl (by rw[e];exact π _ g);rcases ν.mp g with g | g
   rcases Ξ.mp g with w | w
   rw[w] at hv;cases hv;obtain⟨i,h1,h2,h3⟩:=Uu w;exact .inr #[i,∅,h3];exact .inl (by rw[e];exact ε _ (ι _ g))
 have even:∀{i},i<M->∃r:Nat,b=2^i*((2*r:Nat):Int):=λ{i} hi=>by
   obtain⟨r,hr⟩:=Uv e2 (show i+1<=M from hi);refine#[r,?_];rw[hr,pw2,jb,<-mh,vf];have:(2:Int)^i*((2:Nat):Int)=2^i+2^i:=∅;rw[this,vf]
 intro m q h1 h2;rcases part rfl h1 with g1 | ⟨i,hi,w1⟩
 rcases part rfl h2 with g2 | ⟨i,hi,w2⟩
 exact nb m q g1 g2;have w2:=Pc.mk.inj w2;have em:m=i:=HS w2.2.1;subst em;obtain⟨r,hr⟩:=even hi;have:bud m q=2^m*((2*r+1:Nat):Int):=by
   rw[w2.1,hr,ci,dy];simp
 have h3:=cS this;have hb:bud m (2*r+1)=b:=by
   unfold bud;rw[xb2 ∅,hr,ci,dy];simp
 rw[h3,hb] at h1;exact notb _ h1;have w1:=Pc.mk.inj w1;have em:m=i:=HS w1.2.1;subst em;obtain⟨r,hr⟩:=even hi;have eq:q=2*r+1:=Rf (m:=m) (by rw[w1.1,hr,ci,dy];simp);have hb:bud m q=b:=by
   rw[eq];unfold bud;rw[xb2 ∅,hr,ci,dy];simp
 rw[hb] at h2;exact notb _ h2
structure Sf where
 n:Int
 b:List Bool
variable{fs:List Sf}{f:Sf}
def slP(n:Int):Int->List Bool->List Pc
 | _,[]=>[]
 | A,v::r=>#[A,n,v]::slP n (A+n) r
def shP(s A:Int)(f:Sf):List Pc:=slP f.n A f.b++fr (A+f.n*(f.b.length:Int)) (A+s)
def alP(s:Int):Int->List Sf->List Pc
 | _,[]=>[]
 | A,f::r=>shP s A f++alP s (A+s) r
def SfW(s:Int)(f:Sf):Prop:=(f.n=0/\f.b=[])\/(3<=f.n/\f.n<=s/\f.n*(f.b.length:Int)<=s/\s<f.n*(f.b.length:Int)+f.n)
def yX(s:Int)(f:Sf):Prop:=SfW s f/\(f.n≠0->true∈f.b)
theorem Dd(n:Int)(m:Nat):n*((m+1:Nat):Int)=n*(m:Int)+n:=by
 rw[ci,dy];simp
theorem Ux(n:Int):∀(b c:List Bool)(A:Int),slP n A (b++c)=slP n A b++slP n (A+n*(b.length:Int)) c
 | [],c,A=>by simp [slP]
 | v::r,c,A=>by
   have e:=Dd n r.length;show (#[A,n,v]:Pc)::slP n (A+n) (r++c)=(#[A,n,v]:Pc)::(slP n (A+n) r++slP n (A+n*((r.length+1:Nat):Int)) c);rw[Ux n r c (A+n),e,show A+n+n*(r.length:Int)=A+(n*(r.length:Int)+n) by lia]
theorem cU{n:Int}(h:3<=n):∀(b:List Bool)(A:Int),Am A (slP n A b) (A+n*(b.length:Int))
 | [],A=>by show A=_;simp
 | v::r,A=>by
   have e:=Dd n r.length;refine#[rfl,by show 1<=n;lia,λ_=>h,?_];have:=cU h r (A+n);rw[show A+n+n*(r.length:Int)=A+n*((r.length+1:Nat):Int) by lia] at this;exact this
theorem Rg{s:Int}(h1:1<=s)(w:SfW s f):Am A (shP s A f) (A+s):=by
 rcases w with ⟨e1,e2⟩ | ⟨h3,_,h4,_⟩
 unfold shP;rw[e1,e2];show Am A (fr (A+0*((0:Nat):Int)) (A+s)) (A+s);rw[uj,kx];exact HK ∅;exact(cU h3 f.b A).app (HK ∅)
theorem G8{s:Int}(h1:1<=s):∀(fs:List Sf)(A:Int),(∀f∈fs,SfW s f)->Am A (alP s A fs) (A+s*(fs.length:Int))
 | [],A,_=>by show A=_;simp
 | f::r,A,w=>by
   have e:=Dd s r.length;have:=G8 h1 r (A+s) λg hg=>w g (ι _ hg);rw[show A+s+s*(r.length:Int)=A+s*((r.length+1:Nat):Int) by lia] at this;exact(Rg h1 (w f η)).app this
theorem Rh(s:Int):∀(b c:List Sf)(A:Int),alP s A (b++c)=alP s A b++alP s (A+s*(b.length:Int)) c
 | [],c,A=>by simp [alP]
 | f::r,c,A=>by
   have e:=Dd s r.length;show shP s A f++alP s (A+s) (r++c)=(shP s A f++alP s (A+s) r)++alP s (A+s*((r.length+1:Nat):Int)) c;rw[Rh s r c (A+s),e,show A+s+s*(r.length:Int)=A+(s*(r.length:Int)+s) by lia,am]
theorem Mq{α:Type}{xs:List α}{x:α}(h:xs[j]?=some x):xs=xs.take j++x::xs.drop (j+1)/\(xs.take j).length=j/\∀y,xs.set j y=xs.take j++y::xs.drop (j+1):=by
 obtain⟨hj,hx⟩:=γ.mp h;have e:xs=xs.take j++x::xs.drop (j+1):=by
   rw[<-hx,<-List.drop_eq_getElem_cons hj,ou]
 have l:(xs.take j).length=j:=by rw[bx];lia
 refine#[e,l,λy=>?_];have:(xs.take j++x::xs.drop (j+1)).set j y=xs.take j++y::xs.drop (j+1):=by
   rw[oj _ _ ∅,l,gp,List.set_cons_zero]
 rw[<-e] at this;exact this
theorem Lg{α:Type}{xs:List α}{x:α}(h:xs[j]?=some x):xs.set j x=xs:=by
 obtain⟨e,_,g⟩:=Mq h;rw[g x];exact e.symm
theorem Lh{s:Int}(h1:1<=s)(w:∀f∈fs,SfW s f)(h:fs[j]?=some f):∃ds rs,(∀g,alP s 0 (fs.set j g)=ds++(shP s (s*(j:Int)) g++rs))/\Am 0 ds (s*(j:Int))/\Am (s*(j:Int)+s) rs (s*(fs.length:Int)):=by
 obtain⟨e,l,g⟩:=Mq h;have hj:j<fs.length:=(γ.mp h).1;refine#[alP s 0 (fs.take j),alP s (s*(j:Int)+s) (fs.drop (j+1)),λy=>?_,?_,?_];rw[g y,Rh,l,gq];rfl;have:=G8 h1 (fs.take j) 0 λf hf=>w f (ki hf);rw[l,gq] at this;exact this;have:=G8 h1 (fs.drop (j+1)) (s*(j:Int)+s) λf hf=>w f (List.mem_of_mem_drop hf);rw[cg] at this;have e2:s*(j:Int)+s+s*((fs.length-(j+1):Nat):Int)=s*(fs.length:Int):=by
   rw[<-Dd,<-dy,<-ci,show j+1+(fs.length-(j+1))=fs.length by lia]
 rw[e2] at this;exact this
theorem Li{s:Int}(h:fs[j]?=some f):alP s 0 (fs.set j f)=alP s 0 fs:=by rw[Lg h]
theorem Ri{n:Int}(h:b[i]?=some v0):∃ds rs,∀v,slP n A (b.set i v)=ds++#[A+n*(i:Int),n,v]::rs:=by
 obtain⟨_,l,g⟩:=Mq h;refine#[slP n A (b.take i),slP n (A+n*(i:Int)+n) (b.drop (i+1)),λv=>?_];rw[g v,Ux,l];rfl
theorem pX{s:Int}{n:Int}(h1:1<=s)(w:∀f∈fs,SfW s f)(h:fs[j]?=some #[n,b])(hb:b[i]?=some v0):∃ds rs,∀v,alP s 0 (fs.set j #[n,b.set i v])=ds++#[s*(j:Int)+n*(i:Int),n,v]::rs:=by
 obtain⟨ds,rs,e,_,_⟩:=Lh h1 w h;obtain⟨d2,r2,e2⟩:=Ri (n:=n) (A:=s*(j:Int)) hb;refine#[ds++d2,r2++fr (s*(j:Int)+n*(b.length:Int)) (s*(j:Int)+s)++rs,λv=>?_];rw[e #[n,b.set i v]];unfold shP;show ds++((slP n (s*(j:Int)) (b.set i v)++fr (s*(j:Int)+n*((b.set i v).length:Int)) (s*(j:Int)+s))++rs)=_;rw[e2 v,ax];simp [am]
theorem Uy{s:Int}{n:Int}(h:fs[j]?=some #[n,b])(hb:b[i]?=some v0):alP s 0 (fs.set j #[n,b.set i v0])=alP s 0 fs:=by rw[Lg hb,Lg h]
theorem ud5{s:Int}{g:Sf}(w:∀f∈fs,SfW s f)(hg:SfW s g):∀f∈fs.set j g,SfW s f:=λf hf=>by
 rcases fv hf with h | h
 exact w f h;rw[h];exact hg
theorem Rj{s:Int}{n:Int}(w:SfW s #[n,b])(hb:i<b.length):SfW s #[n,b.set i v]:=by
 rcases w with ⟨e1,e2⟩ | h
 have e2:b=[]:=e2;rw[e2] at hb;exact xb0 hb (cu _);right;show 3<=n/\n<=s/\n*((b.set i v).length:Int)<=s/\s<n*((b.set i v).length:Int)+n;rw[ax];exact h
theorem cW{s:Int}{n:Int}(h1:1<=s)(w:∀f∈fs,SfW s f)(h:fs[j]?=some #[n,b])(hb:b[i]?=some v0)(hl:(cs.length:Int)=s*(fs.length:Int))(m:At cs (alP s 0 fs)):
   0<=s*(j:Int)+n*(i:Int)/\3<=n/\s*(j:Int)+n*(i:Int)+n<=cs.length/\(#[s*(j:Int)+n*(i:Int),n,v0]:Pc)∈alP s 0 fs/\At (AS cs (s*(j:Int)+n*(i:Int)) n v) (alP s 0 (fs.set j #[n,b.set i v])):=by
 obtain⟨ds,rs,e⟩:=pX h1 w h hb;have c:=G8 h1 fs 0 w;rw[gq,<-hl,<-Uy h hb,e v0] at c;rw[<-Uy h hb,e v0] at m;have hib:i<b.length:=(γ.mp hb).1;have n3:3<=n:=by
   rcases w _ (ζ h) with ⟨_,e2⟩ | g
   have e2:b=[]:=e2;rw[e2] at hib;exact xb0 hib (cu _);exact g.1
 have hm:=c.mem #[s*(j:Int)+n*(i:Int),n,v0] (ε _ η);obtain⟨k,c1,c2⟩:=Lb c;obtain⟨ea,_,_,c3⟩:=c2;have ea:s*(j:Int)+n*(i:Int)=k:=ea;have c3:Am (k+n) rs cs.length:=c3;refine#[hm.1,n3,hm.2.2.2,?_,?_];rw[<-Uy h hb,e v0];exact ε _ η;rw[e v,ea];refine At.lay ∅ ∅ (by have:=hm.2.2.2;show k+n<=cs.length;rw[<-ea];exact this) (c1.endBy (ar 0)) c3.fromOn (m.sub λp hp=>?_);rcases ν.mp hp with g | g
 exact π _ g;exact ε _ (ι _ g)
theorem Lj{s:Int}(h1:1<=s):shP s A #[0,[]]=[#[A,s,false]]:=by
 unfold shP;show []++fr (A+0*((0:Nat):Int)) (A+s)=_;rw[uj,kx,dk];unfold fr;rw[xb2 ∅,show A+s-A=s by lia]
theorem cY{s:Int}(h1:1<=s)(w:∀f∈fs,SfW s f)(h:fs[j]?=some f)(hl:(cs.length:Int)=s*(fs.length:Int))(m:At cs (alP s 0 fs)):
   0<=s*(j:Int)/\s*(j:Int)+s<=cs.length/\At (AS cs (s*(j:Int)) s false) (alP s 0 (fs.set j #[0,[]])):=by
 obtain⟨ds,rs,e,c1,c2⟩:=Lh h1 w h;have l1:=c1.le;have l2:=c2.le;rw[<-Li h,e f] at m;refine#[∅,∅,?_];rw[e,Lj h1];exact At.lay ∅ h1 ∅ (c1.endBy (ar 0)) c2.fromOn (m.sub λp hp=>by
   rcases ν.mp hp with g | g
   exact π _ g;exact ε _ (ε _ g))
def ctP(A e k:Int)(i:Nat):List Pc:=(cq i).map λj:Nat=>#[A+k*(j:Int),min k (e-(A+k*(j:Int))),false]
theorem Rk(A e k:Int)(i:Nat):ctP A e k (i+1)=ctP A e k i++[#[A+k*(i:Int),min k (e-(A+k*(i:Int))),false]]:=by
 unfold ctP;rw[List.range_succ,ay];rfl
theorem pY(k A:Int)(i:Nat):slP k A (ω (i+1) false)=slP k A (ω i false)++[#[A+k*(i:Int),k,false]]:=by
 rw[kh,Ux,ae];rfl
theorem Uz{A s k:Int}(h1:1<=k):∀i:Nat,k*(i:Int)<=s->ctP A (A+s) k i=slP k A (ω i false)
 | 0,_=>rfl
 | i+1,h=>by
   rw[Dd] at h;rw[Rk,pY,Uz h1 i ∅,show min k (A+s-(A+k*(i:Int)))=k by lia]
theorem pZ{s:Int}{n:Nat}(h1:1<=k)(hq1:k*(q:Int)<=s)(hq2:s<k*(q:Int)+k)(hn:n=q+(if k*(q:Int)=s then 0 else 1)):ctP A (A+s) k n=shP s A #[k,ω q false]:=by
 unfold shP;show _=slP k A (ω q false)++fr (A+k*((ω q false).length:Int)) (A+s);rw[ae];unfold fr;by_cases e:k*(q:Int)=s;rw[xb1 e,qz] at hn;rw[hn,Uz h1 q hq1,xb1 ∅,aq];rw[xb2 e] at hn;rw[hn,Rk,Uz h1 q hq1,xb2 ∅,show min k (A+s-(A+k*(q:Int)))=A+s-(A+k*(q:Int)) by lia]
theorem cZ{A e k:Int}(h0:0<=A)(h1:1<=k):∀i:Nat,(∀j:Nat,j<i->A+k*(j:Int)<e)->Cs (ctP A e k i) (A+k*(i:Int))
 | 0,_=>λp hp=>by cases hp
 | i+1,h=>λp hp=>by
   rw[Rk] at hp;have e1:=Dd k i;have k0:0<=k*(i:Int):=jk ∅ ∅;rcases ν.mp hp with g | g
   have:=cZ h0 h1 i (λj hj=>h j ∅) p g;lia;rw[χ.mp g];have:=h i ∅;show 0<=A+k*(i:Int)/\1<=min k (e-(A+k*(i:Int)))/\A+k*(i:Int)+min k (e-(A+k*(i:Int)))<=A+k*((i+1:Nat):Int);lia
theorem qA{rs:List Pc}(h0:0<=A)(h1:1<=k)(hd:Cs ds A)(hr:Et rs e)(hl:e<=cs.length)(hi:∀j:Nat,j<i+1->A+k*(j:Int)<e)(m:At cs (ds++ctP A e k i++rs)):
   0<=A+k*(i:Int)/\1<=min k (e-(A+k*(i:Int)))/\A+k*(i:Int)+min k (e-(A+k*(i:Int)))<=cs.length/\At (AS cs (A+k*(i:Int)) (min k (e-(A+k*(i:Int)))) false) (ds++ctP A e k (i+1)++rs):=by
 have k0:0<=k*(i:Int):=jk ∅ ∅;have hii:=hi i ∅;refine#[∅,∅,∅,?_];rw[Rk,<-am,am _ [_] rs];exact At.lay ∅ ∅ ∅ ((hd.mono ∅).app (cZ h0 h1 i λj hj=>hi j ∅)) (λp hp=>by have:=hr p hp;lia) m
def yK(ps:List Pc)(k:Int):List Int:=(ps.filter λz=>!z.v&&decide (z.l=k)).map (·.a)
def C9(cs:List Int)(ps:List Pc)(k s:Int):List Int:=(yK ps k).filter λa=>decide (cs.getD (a-a%s).toNat 0/2=k)
theorem Mr(p q:List Pc)(k:Int):yK (p++q) k=yK p k++yK q k:=by unfold yK;rw[gc,ay]
theorem UA(cs:List Int)(p q:List Pc)(k s:Int):C9 cs (p++q) k s=C9 cs p k s++C9 cs q k s:=by unfold C9;rw[Mr,gc]
theorem dA{ps:List Pc}(h:i<ps.length):yK (ps.take (i+1)) k=yK (ps.take i) k++(if (!ps[i].v&&decide (ps[i].l=k))=true then [ps[i].a] else []):=by
 unfold yK;rw[bj,ρ h,gc,ay]
 congr 1
 simp only [iy,gf,se]
 split <;> rfl
theorem UB{ps:List Pc}(h:a∈yK ps k):∃z∈ps,z.v=false/\z.l=k/\z.a=a:=by
 unfold yK at h;obtain⟨z,hz,e⟩:=ce.mp h;obtain⟨h1,h2⟩:=ib.mp hz;obtain⟨h3,h4⟩:=gr.mp h2;exact#[z,h1,by simpa using h3,of_decide_eq_true h4,e]
theorem dB{ps:List Pc}(h:∀z∈ps,z.v=false->z.l≠k):yK ps k=[]:=by
 cases e:yK ps k with
 | nil=>rfl
 | cons a r=>
   obtain⟨z,h1,h2,h3,_⟩:=UB (show a∈yK ps k by rw[e];exact η);exact xb0 h3 (h z h1 h2)
theorem qB{ps:List Pc}(c:Am 0 ps e)(h:a∈yK ps k):0<=a/\a<e:=by
 obtain⟨z,hz,_,_,rfl⟩:=UB h;obtain⟨h1,h2,_,h3⟩:=c.mem z hz;lia
theorem qC{s:Int}(h:0<=a)(hs:1<=s):0<=a-a%s/\a-a%s<=a:=by
 have h1:=br a (show s≠0 by lia);have h2:=gz a s;have h3:0<=s*(a/s):=jk ∅ (oi h ∅);lia
theorem UC{s:Int}(h1:s*(j:Int)<=a)(h2:a<s*(j:Int)+s):a-a%s=s*(j:Int)/\a/s=(j:Int)/\a%s=a-s*(j:Int):=by
 have hs:0<s:=∅;have e:a%s=a-s*(j:Int):=by
   have:=lq (a-s*(j:Int)) s (j:Int);rw[lw] at this;rw[this];exact qx ∅ ∅
 refine#[∅,?_,e];have h3:=gz a s;rw[e] at h3;have h4:s*(a/s)=s*(j:Int):=∅;exact fu ∅ h4
theorem UD{n:Int}:∀{b:List Bool}{A:Int}{z:Pc},z∈slP n A b->z.l=n/\z.v∈b
 | v::r,A,z,h=>by
   rcases Ξ.mp h with e | g
   rw[e];exact#[rfl,η];obtain⟨h1,h2⟩:=UD g;exact#[h1,ι _ h2]
theorem Rl{b:Int}(h:z∈fr b e):z.a=b/\z.l=e-b/\z.v=false:=by
 unfold fr at h
 split at h
 cases h;rw[χ.mp h];exact#[rfl,rfl,rfl]
def flS(s:Int)(f:Sf):Int:=if f.n=0 then s else f.n
theorem qD{s:Int}(h1:1<=s)(w:SfW s f):∃v r,shP s A f=#[A,flS s f,v]::r:=by
 rcases w with ⟨e1,e2⟩ | ⟨h3,hn,h4,h5⟩
 obtain⟨n,b⟩:=f;have e1:n=0:=e1;have e2:b=[]:=e2;subst e1 e2;exact#[false,[],by rw[Lj h1];rfl];obtain⟨n,b⟩:=f;cases b with
 | nil=>
   have h5:s<n*((0:Nat):Int)+n:=h5;have hn:n<=s:=hn;simp at h5;lia
 | cons v r=>
   have h3:3<=n:=h3;refine#[v,slP n (A+n) r++fr (A+n*(((v::r).length:Nat):Int)) (A+s),?_];unfold flS;rw[xb2 (show n≠0 by lia)];rfl
theorem dC{s:Int}(h1:1<=s)(w:SfW s f)(m:At cs (shP s (s*(j:Int)) f)):C9 cs (shP s (s*(j:Int)) f) k s=if flS s f=k then yK (shP s (s*(j:Int)) f) k else []:=by
 obtain⟨v,r,e⟩:=qD (A:=s*(j:Int)) h1 w;have hm:cs[(s*(j:Int)).toNat]?=some (yQ (flS s f) v):=(m #[s*(j:Int),flS s f,v] (by rw[e];exact η)).1;have c:=Rg (A:=s*(j:Int)) h1 w;have hd:∀a∈yK (shP s (s*(j:Int)) f) k,cs.getD (a-a%s).toNat 0/2=flS s f:=λa ha=>by
   obtain⟨z,hz,_,_,rfl⟩:=UB ha;obtain⟨c1,c2,_,c3⟩:=c.mem z hz;rw[(UC c1 ∅).1,DT hm];exact EB _ _
 unfold C9;by_cases g:flS s f=k;rw[xb1 g];exact List.filter_eq_self.mpr λa ha=>xb3 (by rw[hd a ha];exact g);rw[xb2 g];exact ka.mpr λa ha h=>g (by rw[<-hd a ha];exact of_decide_eq_true h)
theorem qE{s:Int}(h1:1<=s)(w:SfW s f)(m:At cs (shP s (s*(j:Int)) f))(hk:¬(f.n=k/\false∈f.b))(h0:¬(k=s/\f.n=0))(k1:1<=k):C9 cs (shP s (s*(j:Int)) f) k s=[]:=by
 rw[dC h1 w m]
 split
 rename_i g;refine dB λz hz hv hl=>?_;unfold flS at g;rcases w with ⟨e1,e2⟩ | ⟨h3,_,h4,h5⟩
 rw[xb1 e1] at g;exact h0 #[g.symm,e1];rw[xb2 ∅] at g;unfold shP at hz;rcases ν.mp hz with q | q
 obtain⟨_,q2⟩:=UD q;rw[hv] at q2;exact hk #[g,q2];obtain⟨_,q2,_⟩:=Rl q;lia;rfl
theorem UE{s k:Int}{cs:List Int}(h1:1<=s)(k1:1<=k):∀{fs:List Sf}{j:Nat},(∀f∈fs,SfW s f)->At cs (alP s (s*(j:Int)) fs)->(∀f∈fs,¬(f.n=k/\false∈f.b)/\¬(k=s/\f.n=0))->C9 cs (alP s (s*(j:Int)) fs) k s=[]
 | [],_,_,_,_=>rfl
 | f::r,j,w,m,h=>by
   have m:At cs (shP s (s*(j:Int)) f++alP s (s*(j:Int)+s) r):=m;show C9 cs (shP s (s*(j:Int)) f++alP s (s*(j:Int)+s) r) k s=[];obtain⟨g1,g2⟩:=h f η;rw[UA,qE h1 (w f η) (m.sub λp hp=>π _ hp) g1 g2 k1,<-Dd,dk];exact UE h1 k1 (λg hg=>w g (ι _ hg)) (by rw[Dd];exact m.sub λp hp=>ε _ hp) λg hg=>h g (ι _ hg)
theorem dD{k:Int}:∀{b:List Bool}{A:Int}{i:Nat},b[i]?=some false->(∀i':Nat,i'<i->b[i']?≠some false)->∃r,yK (slP k A b) k=(A+k*(i:Int))::r
 | v::r,A,0,h,_=>by
   have e:v=false:=Θ h;subst e;refine#[yK (slP k (A+k) r) k,?_];show ((#[A,k,false]::slP k (A+k) r).filter λz=>!z.v&&decide (z.l=k)).map (·.a)=_;rw[gf,xb1 f!""];simp [yK]
 | v::r,A,i+1,h,g=>by
   have e:v=true:=by
     cases v with
     | true=>rfl
     | false=>exact xb0 rfl (g 0 (Nat.succ_pos _))
   subst e;obtain⟨q,hq⟩:=dD (k:=k) (b:=r) (A:=A+k) (i:=i) h λi' hi=>g (i'+1) ∅;refine#[q,?_];show ((#[A,k,true]::slP k (A+k) r).filter λz=>!z.v&&decide (z.l=k)).map (·.a)=_;rw[gf,xb2 f!""];rw[Dd,show A+(k*(i:Int)+k)=A+k+k*(i:Int) by lia];exact hq
theorem qF{s:Int}(h1:1<=s)(k3:3<=k)(w:∀f∈fs,SfW s f)(m:At cs (alP s 0 fs))(h:fs[j]?=some #[k,b])(hb:b[i]?=some false)(hi:∀i':Nat,i'<i->b[i']?≠some false)
   (hj:∀(j':Nat)(f:Sf),j'<j->fs[j']?=some f->¬(f.n=k/\false∈f.b)/\¬(k=s/\f.n=0)):∃r,C9 cs (alP s 0 fs) k s=(s*(j:Int)+k*(i:Int))::r:=by
 obtain⟨e,l,_⟩:=Mq h;have wj:=w _ (ζ h);have ea:alP s 0 fs=alP s 0 (fs.take j)++(shP s (s*(j:Int)) #[k,b]++alP s (s*(j:Int)+s) (fs.drop (j+1))):=by
   have:=congrArg (alP s 0) e;rw[Rh,l,gq] at this;exact this
 rw[ea] at m ⊢;have n1:C9 cs (alP s 0 (fs.take j)) k s=[]:=by
   have:=UE (cs:=cs) (j:=0) h1 ∅ (fs:=fs.take j) (k:=k) (λf hf=>w f (ki hf)) (by rw[show s*((0:Nat):Int)=0 by simp];exact m.sub λp hp=>π _ hp) λf hf=>by
     obtain⟨j',hj'⟩:=aj hf;have hl:j'<j:=by
       have:=(γ.mp hj').1;lia
     rw[ik hl] at hj';exact hj j' f hl hj'
   rw[show s*((0:Nat):Int)=0 by simp] at this;exact this
 obtain⟨r,hr⟩:=dD (k:=k) (A:=s*(j:Int)) hb hi;rw[UA,n1,UA,dC h1 wj (m.sub λp hp=>ε _ (π _ hp)),xb1 (show flS s #[k,b]=k by unfold flS;rw[xb2 (show k≠0 by lia)])];refine#[r++yK (fr (s*(j:Int)+k*(b.length:Int)) (s*(j:Int)+s)) k++C9 cs (alP s (s*(j:Int)+s) (fs.drop (j+1))) k s,?_];unfold shP;rw[Mr];show []++((yK (slP k (s*(j:Int)) b) k++yK (fr (s*(j:Int)+k*(b.length:Int)) (s*(j:Int)+s)) k)++_)=_;rw[hr];simp [am]
theorem UF{s:Int}(h1:1<=s)(o:yX s f):yK (shP s A f) s=if f.n=0 then [A] else []:=by
 obtain⟨w,t⟩:=o;rcases w with ⟨e1,e2⟩ | ⟨h3,hn,h4,h5⟩
 obtain⟨n,b⟩:=f;have e1:n=0:=e1;have e2:b=[]:=e2;subst e1 e2;rw[Lj h1,xb1 rfl];unfold yK;rw[gf,xb1 f!""];rfl;have h0:f.n≠0:=∅;rw[xb2 h0];refine dB λz hz hv hl=>?_;unfold shP at hz;have tt:=t h0;have hlen:1<=f.b.length:=by
   rcases hb:f.b with _ | ⟨v,r⟩
   rw[hb] at tt;cases tt;simp
 rcases ν.mp hz with q | q
 obtain⟨q1,q2⟩:=UD q;have hns:f.n=s:=∅;rw[hns] at h4;have hl1:f.b.length<=1:=by
   refine rj λh=>?_;have:s*(2:Int)<=s*(f.b.length:Int):=au ∅ ∅;lia
 rcases hb:f.b with _ | ⟨v,r⟩
 rw[hb] at tt;cases tt;rw[hb,Ψ] at hl1;have hr:r=[]:=fg.mp ∅;rw[hb,hr] at tt q2;have e1:=χ.mp tt;have e2:=χ.mp q2;rw[hv,<-e1] at e2;cases e2;obtain⟨_,q2,_⟩:=Rl q;have:f.n*(1:Int)<=f.n*(f.b.length:Int):=au ∅ ∅;lia
theorem UG{s:Int}(h1:1<=s):∀{fs:List Sf}{A:Int},(∀f∈fs,yX s f)->(∀f∈fs,f.n≠0)->yK (alP s A fs) s=[]
 | [],_,_,_=>rfl
 | f::r,A,o,h=>by
   show yK (shP s A f++alP s (A+s) r) s=[];rw[Mr,UF h1 (o f η),xb2 (h f η),dk];exact UG h1 (λg hg=>o g (ι _ hg)) λg hg=>h g (ι _ hg)
theorem qG{s:Int}(h1:1<=s)(o:∀f∈fs,yX s f)(h:fs[j]?=some f)(h0:f.n=0)(hj:∀(j':Nat)(f:Sf),j'<j->fs[j']?=some f->f.n≠0):∃r,yK (alP s 0 fs) s=(s*(j:Int))::r:=by
 obtain⟨e,l,_⟩:=Mq h;have ea:alP s 0 fs=alP s 0 (fs.take j)++(shP s (s*(j:Int)) f++alP s (s*(j:Int)+s) (fs.drop (j+1))):=by
   have:=congrArg (alP s 0) e;rw[Rh,l,gq] at this;exact this
 have n1:yK (alP s 0 (fs.take j)) s=[]:=UG h1 (λf hf=>o f (ki hf)) λf hf=>by
   obtain⟨j',hj'⟩:=aj hf;have hl:j'<j:=by
     have:=(γ.mp hj').1;lia
   rw[ik hl] at hj';exact hj j' f hl hj'
 rw[ea,Mr,n1,Mr,UF h1 (o f (ζ h)),xb1 h0];exact#[_,rfl]
def NoGr(s k:Int)(fs:List Sf):Prop:=(∀f∈fs,¬(f.n=k/\false∈f.b))/\(s<k\/∀f∈fs,f.n≠0)
def Gs(s k:Int)(fs:List Sf)(j i:Nat)(b:List Bool)(fs1:List Sf):Prop:=
 fs1[j]?=some #[k,b]/\b[i]?=some false/\(∀i':Nat,i'<i->b[i']?≠some false)/\(∀(j':Nat)(f:Sf),j'<j->fs[j']?=some f->¬(f.n=k/\false∈f.b)) /\
 (fs1=fs\/((∀f∈fs,¬(f.n=k/\false∈f.b))/\k<=s/\i=0/\b=ω (s/k).toNat false/\(∃f,fs[j]?=some f/\f.n=0)/\(∀(j':Nat)(f:Sf),j'<j->fs[j']?=some f->f.n≠0)/\fs1=fs.set j #[k,b]))
theorem Rm{s:Int}(h1:1<=k)(h2:k<=s):k*((s/k).toNat:Int)<=s/\s<k*((s/k).toNat:Int)+k/\1<=(s/k).toNat:=by
 have a1:=gz s k;have a2:=br s (show k≠0 by lia);have a3:=bg s (show 0<k by lia);have a4:1<=s/k:=Int.le_ediv_of_mul_le ∅ ∅;have a5:((s/k).toNat:Int)=s/k:=bc ∅;rw[a5];lia
theorem qH{s:Int}(h1:1<=s)(o:yX s f)(hk:f.n=k)(ks:k=s):false ∉ f.b:=λhf=>by
 have h:=UF (A:=0) h1 o;obtain⟨w,t⟩:=o;rcases w with ⟨e1,e2⟩ | ⟨h3,hn,h4,h5⟩
 rw[e2] at hf;cases hf;rw[xb2 ∅] at h;obtain⟨i,hi⟩:=aj hf;have hm:(#[0+f.n*(i:Int),f.n,false]:Pc)∈slP f.n 0 f.b:=by
   obtain⟨ds,rs,e⟩:=Ri (n:=f.n) (A:=0) hi;have:=e false;rw[Lg hi] at this;rw[this];exact ε _ η
 have:(0+f.n*(i:Int))∈yK (shP s 0 f) s:=by
   unfold yK shP;exact ce.mpr #[_,ib.mpr #[π _ hm,by simp;lia],rfl]
 rw[h] at this;cases this
theorem Gs.W{s:Int}{fs1:List Sf}(g:Gs s k fs j i b fs1)(k3:3<=k)(o:∀f∈fs,yX s f):∀f∈fs1,SfW s f:=by
 obtain⟨_,_,_,_,e | ⟨_,ks,_,eb,_,_,e⟩⟩:=g;rw[e];exact λf hf=>(o f hf).1;rw[e];obtain⟨d1,d2,_⟩:=Rm (show 1<=k by lia) ks;refine ud5 (λf hf=>(o f hf).1) (.inr #[k3,ks,?_,?_]);show k*(b.length:Int)<=s;rw[eb,ae];exact d1;show s<k*(b.length:Int)+k;rw[eb,ae];exact d2
theorem Gs.slot{s:Int}{fs1:List Sf}(g:Gs s k fs j i b fs1)(h1:1<=s)(k3:3<=k)(o:∀f∈fs,yX s f)(m:At cs (alP s 0 fs1)):∃r,C9 cs (alP s 0 fs1) k s=(s*(j:Int)+k*(i:Int))::r:=by
 have w:=g.W k3 o;obtain⟨g1,g2,g3,g4,g5⟩:=g;refine qF h1 k3 w m g1 g2 g3 λj' f hj' hf=>?_;rcases g5 with e | ⟨g6,ks,_,eb,_,g7,e⟩
 rw[e] at hf;refine#[g4 j' f hj' hf,λh=>?_];rw[e] at g1;exact qH h1 (o _ (ζ g1)) rfl h.1 (ζ g2);rw[e,ag ∅] at hf;exact#[g4 j' f hj' hf,λh=>g7 j' f hj' hf h.2]
theorem Gs.ok{s:Int}{fs1:List Sf}(g:Gs s k fs j i b fs1)(k3:3<=k)(o:∀f∈fs,yX s f):∀f∈fs1.set j #[k,b.set i true],yX s f:=λf hf=>by
 have w:=g.W k3 o;have hib:i<b.length:=(γ.mp g.2.1).1;rcases fv hf with h | h
 obtain⟨g1,g2,g3,g4,g5⟩:=g;rcases g5 with e | ⟨g6,ks,i0,eb,_,g7,e⟩
 rw[e] at h;exact o f h;rw[e] at hf;rw[uk] at hf;rcases fv hf with h | h
 exact o f h;rw[h];exact#[Rj (w _ (ζ g1)) hib,λ_=>ζ (ai hib)];rw[h];exact#[Rj (w _ (ζ g.1)) hib,λ_=>ζ (ai hib)]
theorem qI{s:Int}(h1:1<=s)(w:∀f∈fs,SfW s f)(h:fs[j]?=some f):((alP s 0 fs).any λz=>decide (z.a-z.a%s=s*(j:Int))&&z.v)=f.b.any id:=by
 obtain⟨ds,rs,e,c1,c2⟩:=Lh h1 w h;have c:=Rg (A:=s*(j:Int)) h1 (w f (ζ h));have hp:∀{a:Int},a-a%s<=a/\a-s<a-a%s:=λ{a}=>by
   have:=br a (show s≠0 by lia);have:=bg a (show 0<s by lia);lia
 rw[<-Li h,e f,jd,jd];have d1:(ds.any λz=>decide (z.a-z.a%s=s*(j:Int))&&z.v)=false:=jg.mpr λz hz=>by
   have:=c1.mem z hz;have:=@hp z.a;rw[xb4 ∅];simp
 have d2:(rs.any λz=>decide (z.a-z.a%s=s*(j:Int))&&z.v)=false:=jg.mpr λz hz=>by
   have:=c2.mem z hz;have:=@hp z.a;rw[xb4 ∅];simp
 have d3:∀z∈shP s (s*(j:Int)) f,decide (z.a-z.a%s=s*(j:Int))=true:=λz hz=>by
   obtain⟨q1,q2,_,q3⟩:=c.mem z hz;exact xb3 (UC q1 ∅).1
 rw[d1,d2,qf,tm];have hs:∀(b:List Bool)(A:Int),(slP f.n A b).any (λz=>z.v)=b.any id:=λb=>by
   induction b with
   | nil=>intro A;rfl
   | cons v r ih=>
     intro A;show ((#[A,f.n,v]:Pc)::slP f.n (A+f.n) r).any (λz=>z.v)=_;rw[gj,ih,gj];rfl
 have e1:((shP s (s*(j:Int)) f).any λz=>decide (z.a-z.a%s=s*(j:Int))&&z.v)=(shP s (s*(j:Int)) f).any λz=>z.v:=by
   rw[dj,cw,cw];constructor;rintro⟨z,hz,g⟩;exact#[z,hz,(gr.mp g).2];rintro⟨z,hz,g⟩;exact#[z,hz,gr.mpr #[d3 z hz,g]]
 rw[e1];unfold shP;rw[jd,hs,show (fr (s*(j:Int)+f.n*(f.b.length:Int)) (s*(j:Int)+s)).any (λz=>z.v)=false from jg.mpr λz hz=>by rw[(Rl hz).2.2];simp,tm]
def giv(fs:List Sf)(j i:Nat)(n:Int)(b:List Bool):List Sf:=if (b.set i false).any id=true then fs.set j #[n,b.set i false] else fs.set j #[0,[]]
theorem dE(fs:List Sf)(j i:Nat)(n:Int)(b:List Bool):(giv fs j i n b).length=fs.length:=by unfold giv;split <;> exact ax
theorem dF{s:Int}{n:Int}(o:∀f∈fs,yX s f)(h:fs[j]?=some #[n,b])(hi:i<b.length):∀f∈giv fs j i n b,yX s f:=λf hf=>by
 unfold giv at hf
 split at hf
 rename_i g;rcases fv hf with h' | h'
 exact o f h';rw[h'];refine#[Rj (o _ (ζ h)).1 hi,λ_=>?_];obtain⟨x,hx,gx⟩:=cw.mp g;have gx:x=true:=gx;rw[gx] at hx;exact hx;rcases fv hf with h' | h'
 exact o f h';rw[h'];exact#[.inl #[rfl,rfl],λh0=>xb0 rfl h0]
theorem qJ(h:false∈b):∃i,b[i]?=some false/\∀i':Nat,i'<i->b[i']?≠some false:=by
 induction b with
 | nil=>cases h
 | cons v r ih=>
   cases v with
   | false=>exact#[0,rfl,λi' hi=>xb0 hi (cu _)]
   | true=>
     have:false∈r:=by
       rcases Ξ.mp h with e | e
       cases e;exact e
     obtain⟨i,h1,h2⟩:=ih this;refine#[i+1,h1,λi' hi=>?_];cases i' with
     | zero=>intro e;cases e
     | succ i'=>exact h2 i' ∅
theorem dG{n:Int}:∀{b:List Bool}{A:Int}{z:Pc},z∈slP n A b->∃i:Nat,b[i]?=some z.v/\z=#[A+n*(i:Int),n,z.v]
 | v::r,A,z,h=>by
   rcases Ξ.mp h with e | g
   rw[e];exact#[0,rfl,f!""];obtain⟨i,h1,h2⟩:=dG g;exact#[i+1,h1,by rw[Dd];rw[h2];congr 1;show A+n+n*(i:Int)=A+(n*(i:Int)+n);lia]
theorem dH{s:Int}:∀{fs:List Sf}{j0:Nat}{z:Pc},z∈alP s (s*(j0:Int)) fs->∃(j:Nat)(f:Sf),fs[j]?=some f/\z∈shP s (s*((j0+j:Nat):Int)) f
 | f::r,j0,z,h=>by
   have h:z∈shP s (s*(j0:Int)) f++alP s (s*(j0:Int)+s) r:=h;rcases ν.mp h with g | g
   exact#[0,f,rfl,g];rw[<-Dd] at g;obtain⟨j,f',h1,h2⟩:=dH g;exact#[j+1,f',h1,by rw[show j0+(j+1)=j0+1+j by lia];exact h2]
theorem qK{s:Int}(h1:1<=s)(w:∀f∈fs,SfW s f)(h:fs[j]?=some f)(hz:z∈shP s (s*(j:Int)) f):z∈alP s 0 fs:=by
 obtain⟨ds,rs,e,_⟩:=Lh h1 w h;rw[<-Li h,e f];exact ε _ (π _ hz)
theorem ud2{s:Int}(h:z∈alP s 0 fs):∃(j:Nat)(f:Sf),fs[j]?=some f/\z∈shP s (s*(j:Int)) f:=by
 obtain⟨j,f,h1,h2⟩:=dH (j0:=0) (by rw[show s*((0:Nat):Int)=0 by simp];exact h);rw[ng] at h2;exact#[j,f,h1,h2]
theorem dJ{s:Int}(h:z∈shP s A f)(hv:z.v=true):∃i:Nat,f.b[i]?=some true/\z=#[A+f.n*(i:Int),f.n,true]:=by
 unfold shP at h;rcases ν.mp h with g | g
 obtain⟨i,h1,h2⟩:=dG g;rw[hv] at h1 h2;exact#[i,h1,h2];rw[(Rl g).2.2] at hv;cases hv
theorem qL{s n:Int}(h:b[i]?=some v):(#[A+n*(i:Int),n,v]:Pc)∈shP s A #[n,b]:=by
 obtain⟨d2,r2,e2⟩:=Ri (n:=n) (A:=A) h;have:=e2 v;rw[Lg h] at this;unfold shP;show _∈slP n A b++_;rw[this];exact π _ (ε _ η)
theorem dL{s n:Int}(hs:1<=s)(W:∀f∈fs,SfW s f)(hj:fs[j]?=some #[n,b])(hi:b[i]?=some v):3<=n/\s*(j:Int)+n*(i:Int)+n<=s*(j:Int)+s/\s*(j:Int)+n*(i:Int)-(s*(j:Int)+n*(i:Int))%s=s*(j:Int)/\(s*(j:Int)+n*(i:Int))/s=(j:Int)/\(s*(j:Int)+n*(i:Int))%s/n=(i:Int):=by
 have hib:i<b.length:=(γ.mp hi).1;have n3:3<=n:=by
   rcases W _ (ζ hj) with ⟨_,e2⟩ | g
   have e2:b=[]:=e2;rw[e2] at hib;exact xb0 hib (cu _);exact g.1
 have hm:(#[s*(j:Int)+n*(i:Int),n,v]:Pc)∈shP s (s*(j:Int)) #[n,b]:=by
   obtain⟨d2,r2,e2⟩:=Ri (n:=n) (A:=s*(j:Int)) hi;have:=e2 v;rw[Lg hi] at this;unfold shP;show _∈slP n (s*(j:Int)) b++_;rw[this];exact π _ (ε _ η)
 obtain⟨q1,_,_,q4⟩:=(Rg (A:=s*(j:Int)) hs (W _ (ζ hj))).mem _ hm;have q1:s*(j:Int)<=s*(j:Int)+n*(i:Int):=q1;have q4:s*(j:Int)+n*(i:Int)+n<=s*(j:Int)+s:=q4;obtain⟨r1,r2,r3⟩:=UC (j:=j) q1 ∅;refine#[n3,q4,r1,r2,?_];rw[r3,show s*(j:Int)+n*(i:Int)-s*(j:Int)=n*(i:Int) by lia];exact mi _ ∅
theorem Ms{s n:Int}(hs:1<=s)(W:∀f∈fs,SfW s f)(hj:fs[j]?=some #[n,b])(hi:b[i]?=some v):s*(j:Int)<=s*(j:Int)+n*(i:Int)/\s*(j:Int)+n*(i:Int)+n<=s*(j:Int)+s/\(s*(j:Int)+n*(i:Int))/s=(j:Int)/\3<=n:=by
 obtain⟨q1,q2,_,q4,_⟩:=dL hs W hj hi;have:=jk (show 0<=n by lia) (show (0:Int)<=(i:Int) by lia);exact#[∅,q2,q4,q1]
theorem Ll{s:Int}(h:z∈alP s 0 fs)(hv:z.v=true):∃(j i:Nat)(n:Int)(b:List Bool),fs[j]?=some #[n,b]/\b[i]?=some true/\z=#[s*(j:Int)+n*(i:Int),n,true]:=by
 obtain⟨j,⟨n,b⟩,h1,h2⟩:=ud2 h;obtain⟨i,h3,h4⟩:=dJ h2 hv;exact#[j,i,n,b,h1,h3,h4]
theorem DZ{s n:Int}(h1:1<=s)(w:∀f∈fs,SfW s f)(h:fs[j]?=some #[n,b])(hb:b[i]?=some v):(#[s*(j:Int)+n*(i:Int),n,v]:Pc)∈alP s 0 fs:=qK h1 w h (qL hb)
theorem yG{α:Type}{xs:List α}{j':Nat}{x y:α}(h:(xs.set j x)[j']?=some y):(j=j'/\x=y)\/(j≠j'/\xs[j']?=some y):=by
 by_cases e:j=j';subst e;have hl:j<xs.length:=by
   have:=(γ.mp h).1
   rwa [ax] at this
 rw[ai hl] at h;exact .inl #[rfl,Θ h];rw[ag e] at h;exact .inr #[e,h]
theorem Gs.fs1{s n:Int}{fs1:List Sf}{j1 i1:Nat}{b1:List Bool}(g:Gs s k fs j i b fs1)(h:fs[j1]?=some #[n,b1])(hb:b1[i1]?=some true)(W:∀f∈fs,SfW s f):fs1[j1]?=some #[n,b1]:=by
 obtain⟨_,_,_,_,e | ⟨_,_,_,_,⟨f0,c8,c9⟩,_,e⟩⟩:=g;rw[e];exact h;rw[e,ag];exact h;intro w;rw[w,h] at c8;have e0:=Θ c8;rw[<-e0] at c9;have c9:n=0:=c9;rcases W _ (ζ h) with ⟨_,e2⟩ | ⟨h3,_⟩
 have e2:b1=[]:=e2;rw[e2] at hb;simp at hb;have h3:3<=n:=h3;lia
variable{fs1:List Sf}
theorem Gs.parts{s:Int}(g:Gs s k fs j i b fs1)(h1:1<=s)(k3:3<=k)(o:∀f∈fs,yX s f):
   (∀y∈alP s 0 fs,y.v=true->y∈alP s 0 fs1/\y∈alP s 0 (fs1.set j #[k,b.set i true]))/\((#[s*(j:Int)+k*(i:Int),k,true]:Pc)∈alP s 0 (fs1.set j #[k,b.set i true]))/\((#[s*(j:Int)+k*(i:Int),k,false]:Pc)∈alP s 0 fs1) /\
   ∀y∈alP s 0 (fs1.set j #[k,b.set i true]),y.v=true->y=#[s*(j:Int)+k*(i:Int),k,true]\/y∈alP s 0 fs:=by
 have W:∀f∈fs,SfW s f:=λf hf=>(o f hf).1;have W1:=g.W k3 o;have W2:∀f∈fs1.set j #[k,b.set i true],SfW s f:=λf hf=>(g.ok k3 o f hf).1;have hjl:j<fs1.length:=(γ.mp g.1).1;have hil:i<b.length:=(γ.mp g.2.1).1;refine#[λy hy hv=>?_,DZ h1 W2 (ai hjl) (ai hil),DZ h1 W1 g.1 g.2.1,λy hy hv=>?_];obtain⟨j1,i1,n,b1,e1,e2,rfl⟩:=Ll hy hv;have f1:=g.fs1 e1 e2 W;refine#[DZ h1 W1 f1 e2,?_];by_cases e:j=j1;subst e;rw[g.1] at f1;have e3:=Θ f1;have en:k=n:=congrArg Sf.n e3;have eb:b=b1:=congrArg Sf.b e3;subst en eb;refine DZ h1 W2 (ai hjl) (i:=i1) ?_;rw[ag];exact e2;intro w;rw[<-w,g.2.1] at e2;cases e2;exact DZ h1 W2 (by rw[ag e];exact f1) e2;obtain⟨j1,i1,n,b1,e1,e2,rfl⟩:=Ll hy hv;have back:∀{j1 i1:Nat}{n:Int}{b1:List Bool},fs1[j1]?=some #[n,b1]->b1[i1]?=some true->(#[s*(j1:Int)+n*(i1:Int),n,true]:Pc)∈alP s 0 fs:=λ{j1 i1 n b1} h hb=>by
   obtain⟨_,_,_,_,e | ⟨_,_,_,eb,_,_,e⟩⟩:=g;rw[e] at h;exact DZ h1 W h hb;rw[e] at h;rcases yG h with ⟨_,e4⟩ | ⟨_,e4⟩
   have:b=b1:=congrArg Sf.b e4;rw[<-this,eb] at hb;have:=ζ hb;rw[gw] at this;exact xb0 this.2 m!"";exact DZ h1 W e4 hb
 rcases yG e1 with ⟨ej,e3⟩ | ⟨ej,e3⟩
 subst ej;have en:k=n:=congrArg Sf.n e3;have eb:b.set i true=b1:=congrArg Sf.b e3;subst en eb;rcases yG e2 with ⟨ei,_⟩ | ⟨ei,e4⟩
 subst ei;exact .inl rfl;exact .inr (back g.1 e4);exact .inr (back e3 e2)
theorem dM{s n:Int}(h1:1<=s)(o:∀f∈fs,yX s f)(h:fs[j]?=some #[n,b])(hi:b[i]?=some true):
   (∀y∈alP s 0 fs,y.v=true->y≠#[s*(j:Int)+n*(i:Int),n,true]->y∈alP s 0 (giv fs j i n b)) /\
   (∀y∈alP s 0 (giv fs j i n b),y.v=true->y∈alP s 0 fs/\y≠#[s*(j:Int)+n*(i:Int),n,true]) /\
   ((b.set i false).any id=false->∀y∈alP s 0 fs,y.v=true->y≠#[s*(j:Int)+n*(i:Int),n,true]->y.a+y.l<=s*(j:Int)\/s*(j:Int)+s<=y.a):=by
 have W:∀f∈fs,SfW s f:=λf hf=>(o f hf).1;have hjl:j<fs.length:=(γ.mp h).1;have hil:i<b.length:=(γ.mp hi).1;have W2:∀f∈giv fs j i n b,SfW s f:=λf hf=>(dF o h hil f hf).1;have n3:3<=n:=by
   rcases W _ (ζ h) with ⟨_,e2⟩ | g
   have e2:b=[]:=e2;rw[e2] at hil;exact xb0 hil (cu _);exact g.1
 have nolive:(b.set i false).any id=false->∀i1,i≠i1->b[i1]?≠some true:=λhb i1 hne e=>by
   have:true∈b.set i false:=ζ (i:=i1) (by rw[ag hne];exact e);exact xb0 (cw.mpr #[true,this,rfl]) (by rw[hb];exact ξ)
 refine#[λy hy hv hne=>?_,λy hy hv=>?_,λhb y hy hv hne=>?_];obtain⟨j1,i1,n1,b1,e1,e2,rfl⟩:=Ll hy hv;by_cases e:j=j1;subst e;rw[h] at e1;have e3:=Θ e1;have en:n=n1:=congrArg Sf.n e3;have eb:b=b1:=congrArg Sf.b e3;subst en eb;have hii:i≠i1:=λw=>hne (by rw[w]);have e4:(b.set i false)[i1]?=some true:=by rw[ag hii];exact e2
 refine DZ h1 W2 (b:=b.set i false) ?_ e4;unfold giv;rw[xb1 (cw.mpr #[true,ζ e4,rfl])];exact ai hjl;refine DZ h1 W2 ?_ e2;unfold giv
 split <;> (rw[ag e];exact e1)
 obtain⟨j1,i1,n1,b1,e1,e2,rfl⟩:=Ll hy hv;unfold giv at e1
 split at e1
 rcases yG e1 with ⟨ej,e3⟩ | ⟨ej,e3⟩
 subst ej;have en:n=n1:=congrArg Sf.n e3;have eb:b.set i false=b1:=congrArg Sf.b e3;subst en eb;rcases yG e2 with ⟨_,e4⟩ | ⟨ei,e4⟩
 cases e4;refine#[DZ h1 W h e4,λw=>ei ?_];have:=(Pc.mk.inj w).1;have h5:n*(i1:Int)=n*(i:Int):=∅;have:=fu (show n≠0 by lia) h5;lia;refine#[DZ h1 W e3 e2,λw=>ej ?_];have hc:=G8 h1 fs 0 W;obtain⟨_,_,q2,_⟩:=Ms h1 W h hi;obtain⟨_,_,q3,_⟩:=Ms h1 W e3 e2;have:=(Pc.mk.inj w).1;rw[this,q2] at q3;lia;rcases yG e1 with ⟨ej,e3⟩ | ⟨ej,e3⟩
 have:([]:List Bool)=b1:=congrArg Sf.b e3;rw[<-this] at e2;simp at e2;refine#[DZ h1 W e3 e2,λw=>ej ?_];obtain⟨_,_,q2,_⟩:=Ms h1 W h hi;obtain⟨_,_,q3,_⟩:=Ms h1 W e3 e2;have:=(Pc.mk.inj w).1;rw[this,q2] at q3;lia;obtain⟨j1,i1,n1,b1,e1,e2,rfl⟩:=Ll hy hv;by_cases e:j=j1;subst e;rw[h] at e1;have e3:=Θ e1;have en:n=n1:=congrArg Sf.n e3;have eb:b=b1:=congrArg Sf.b e3;subst en eb;exact xb0 e2 (nolive hb i1 (λw=>hne (by rw[w])));obtain⟨a1,a2,a3,_⟩:=Ms h1 W e1 e2;show s*(j1:Int)+n1*(i1:Int)+n1<=s*(j:Int)\/s*(j:Int)+s<=s*(j1:Int)+n1*(i1:Int);rcases Nat.lt_or_gt_of_ne e with g | g
 have:=au (show ((j+1:Nat):Int)<=(j1:Int) by lia) (show 0<=s by lia);rw[Dd] at this;lia;have:=au (show ((j1+1:Nat):Int)<=(j:Int) by lia) (show 0<=s by lia);rw[Dd] at this;lia
def zi(k:Int):List Int->List Pc
 | []=>[]
 | l::r=>#[k,l,true]::zi (k+l) r
theorem UH:∀(ls:List Int)(k:Int),ls.foldl (·+·) k=k+ls.foldl (·+·) 0
 | [],k=>by simp
 | l::r,k=>by
   rw[ie,ie,UH r (k+l),UH r (0+l)];lia
theorem dN(l:Int)(r:List Int):yF (l::r)=l+yF r:=by
 unfold yF;rw[ie,UH];lia
theorem UI(ls:List Int)(l:Int):yF (ls++[l])=yF ls+l:=by
 unfold yF;rw[jz];rfl
theorem Lm:∀(ls:List Int)(k l:Int),zi k (ls++[l])=zi k ls++[#[k+yF ls,l,true]]
 | [],k,l=>by
   show [(#[k,l,true]:Pc)]=[#[k+yF [],l,true]];rw[show yF []=0 from rfl,kx]
 | m::r,k,l=>by
   show (#[k,m,true]:Pc)::zi (k+m) (r++[l])=#[k,m,true]::(zi (k+m) r++[#[k+yF (m::r),l,true]]);rw[Lm r,dN,tq]
theorem Mt:∀(ls:List Int)(k:Int),(∀l∈ls,3<=l)->Am k (zi k ls) (k+yF ls)
 | [],k,_=>by
   show k=k+yF [];rw[show yF []=0 from rfl,kx]
 | m::r,k,h=>by
   have h3:=h m η;refine#[rfl,(show 1<=m by lia),λ_=>h3,?_];have:=Mt r (k+m) λl hl=>h l (ι _ hl);rw[dN,<-tq];exact this
def rwP(ls:List Int)(n:Int):List Pc:=zi 0 ls++fr (yF ls) n
theorem dO{n:Int}(h3:∀l∈ls,3<=l)(hn:yF ls<=n):Am 0 (rwP ls n) n:=by
 have:=Mt ls 0 h3;rw[gq] at this;exact this.app (HK hn)
theorem qM(ls:List Int)(n L:Int):zq (zi 0 ls) [] (yF ls) (n-yF ls) (yF ls) L=rwP (ls++[L]) n:=by
 unfold zq rwP;rw[Lm,UI,gq,show fr (yF ls) (yF ls)=[] from xb1 rfl,aq,dk,am,show yF ls+(n-yF ls)=n by lia];rfl
theorem Rn{n:Int}(h:yF ls<n):rwP ls n=zi 0 ls++[#[yF ls,n-yF ls,false]]:=by
 unfold rwP fr;rw[xb2 ∅]
theorem qO{n:Int}(h:yF ls=n):rwP ls n=zi 0 ls:=by
 unfold rwP fr;rw[xb1 h,aq]
theorem qP{n:Int}(h3:∀l∈ls,3<=l)(hl:(cs.length:Int)=n)(h0:0<=yF ls)(hL:1<=L)(hn:yF ls+L<=n)(m:At cs (rwP ls n)):
   At (zd cs (yF ls) (n-yF ls) (yF ls) L) (rwP (ls++[L]) n):=by
 rw[Rn ∅] at m;have c:=Mt ls 0 h3;rw[gq] at c;have:=bD (z:=#[yF ls,n-yF ls,false]) (s:=yF ls) (L:=L) (rs:=[]) h0 hL (ar _) (show yF ls+L<=yF ls+(n-yF ls) by lia) (show yF ls+(n-yF ls)<=(cs.length:Int) by lia) (c.endBy (ar 0)) (λp hp=>by cases hp) m;have e:=qM ls n L;rw[<-e];exact this
theorem qR(h3:∀l∈ls,3<=l):0<=yF ls:=by
 have:=(Mt ls 0 h3).le;lia
def Gh(B:Nat)(ps ds rs:List Pc)(b:Int)(M:Nat):Prop:=ps=ds++#[b,2^M,false]::rs/\Bst (2^B) ps #[b,2^M,false]
def NoH(B:Nat)(ps:List Pc):Prop:=∀z∈ps,z.v=false->z.l<2^B
theorem UJ(h:(2:Int)^i<=2^j):i<=j:=by
 rcases kq j i with g | g
 have:=Eu (show j+1<=i from g);have:=pw1 j;have:=pw2 j;lia;exact g
theorem Gh.lie{ps rs:List Pc}{b:Int}(g:Gh B ps ds rs b M)(hB:2<=B)(hc:Am 0 ps (2^N))(al:∀z∈ps,Al z):
   B<=M/\M<=N/\0<=b/\Am 0 ds b/\Am (b+2^M) rs (2^N)/\Am 0 (ds++(hcP b B M++rs)) (2^N)/\(∀z∈ds++(hcP b B M++rs),Al z)/\(#[b,2^B,true]:Pc)∈ds++(hcP b B M++rs):=by
 obtain⟨e,h1,h2,h3,h4⟩:=g;have hBM:B<=M:=UJ h3;rw[e] at hc;obtain⟨k,c1,c2⟩:=Lb hc;obtain⟨ea,_,_,c3⟩:=c2;have ea:b=k:=ea;subst ea;have c3:Am (b+2^M) rs (2^N):=c3;have l1:=c1.le;have l3:=c3.le;have hMN:M<=N:=UJ ∅;obtain⟨m0,q0,e1,e2⟩:=al _ h1;have e1:(2:Int)^M=2^m0:=e1;have e2:b=2^m0*(q0:Int):=e2;rw[<-HS e1] at e2;obtain⟨r,hr⟩:=Uv e2 hBM;refine#[hBM,hMN,∅,c1,c3,c1.app ((pT hB hBM).app c3),λz hz=>?_,ε _ (π _ η)];rcases ν.mp hz with g | g
 exact al z (by rw[e];exact π _ g);rcases ν.mp g with g | g
 rcases Ξ.mp g with w | w
 rw[w];exact#[B,r,rfl,hr];exact zY e2 (show B+(M-B)<=M by lia) z w;exact al z (by rw[e];exact ε _ (ι _ g))
theorem C8.two'{k:Nat}(h:C8 k c)(h3:3<=c):2<=k:=by
 rcases kq k 2 with g | g
 have h1:=h.1;rcases(show k=0\/k=1 by lia) with e | e
 rw[e] at h1;have:(2:Int)^0=1:=by decide
 lia;rw[e] at h1;have:(2:Int)^1=2:=by decide
 lia;exact g
theorem dP{b:Int}:∀ps:List Pc,(∀z∈ps,z.v=false->z.l<b)\/∃z,Bst b ps z
 | []=>.inl λz hz=>by cases hz
 | y::r=>by
   have mo:∀{z:Pc},Bst b r z->¬(y.v=false/\b<=y.l/\(y.l<z.l\/(y.l=z.l/\y.a<z.a)))->Bst b (y::r) z:=λ{z} h hn=>by
     refine#[ι _ h.1,h.2.1,h.2.2.1,λw hw hv hl=>?_];rcases Ξ.mp hw with e | e
     rw[e] at hv hl ⊢;have:¬(y.l<z.l\/(y.l=z.l/\y.a<z.a)):=λg=>hn #[hv,hl,g];lia;exact h.2.2.2 w e hv hl
   rcases dP (b:=b) r with h | ⟨z,h⟩
   by_cases g:y.v=false/\b<=y.l;refine .inr #[y,η,g.1,g.2,λw hw hv hl=>?_];rcases Ξ.mp hw with e | e
   rw[e];exact .inr #[rfl,ar _];have:=h w e hv;lia;refine .inl λw hw hv=>?_;rcases Ξ.mp hw with e | e
   rw[e] at hv ⊢;have:¬b<=y.l:=λg2=>g #[hv,g2];lia;exact h w e hv;by_cases g:y.v=false/\b<=y.l/\(y.l<z.l\/(y.l=z.l/\y.a<z.a))
   refine .inr #[y,η,g.1,g.2.1,λw hw hv hl=>?_];rcases Ξ.mp hw with e | e
   rw[e];exact .inr #[rfl,ar _];have:=h.2.2.2 w e hv hl;lia;exact .inr #[z,mo h g]
theorem gh_ex{ps:List Pc}(B:Nat)(hc:Am 0 ps (2^N))(al:∀z∈ps,Al z):NoH B ps\/∃(ds rs:List Pc)(b:Int)(M:Nat),Gh B ps ds rs b M:=by
 rcases dP (b:=2^B) ps with h | ⟨z,h⟩
 exact .inl h;obtain⟨M,q0,eM,ea0⟩:=al z h.1;obtain⟨n0,hn0⟩:=aj h.1;obtain⟨ds,rs,eps,_,_,_⟩:=CW hc hn0;obtain⟨b,lo,v1⟩:=z;have ev:v1=false:=h.2.1;have eM:lo=2^M:=eM;subst ev eM;exact .inr #[ds,rs,b,M,eps,h]
theorem dQ(c:Int)(h:1<=c):∃k,C8 k (c+2):=by
 have:=cE (c:=(c+1).toNat) ∅;rw[show (((c+1).toNat:Nat):Int)+1=c+2 by lia] at this;exact#[_,this]
theorem Gs.len{s:Int}(g:Gs s k fs j i b fs1):fs1.length=fs.length:=by
 obtain⟨_,_,_,_,e | ⟨_,_,_,_,_,_,e⟩⟩:=g;rw[e];rw[e,ax]
inductive St7
 | half (N:Nat) (ps:List Pc)
 | shel (s:Int) (fs:List Sf)
 | row (n:Int) (ls:List Int)
 | st (i:W7) (r n:Int) (ps:List Pc)
def ok4:W7->Prop
 | .half=>False
 | .shel=>False
 | .row=>False
 | _=>True
def ok3:W7->Prop
 | .half=>True
 | .shel=>True
 | .row=>True
 | _=>False
def St7.let3:St7->W7
 | .half _ _=>.half
 | .shel _ _=>.shel
 | .row _ _=>.row
 | .st i _ _ _=>i
def St7.ps:St7->List Pc
 | .half _ ps=>ps
 | .shel s fs=>alP s 0 fs
 | .row n ls=>rwP ls n
 | .st _ _ _ ps=>ps
variable{ps:List Pc}
def St7.s:St7->Int
 | .half N _=>2^N
 | .shel s _=>s
 | .row n _=>n
 | .st _ r _ _=>r
variable{s:Int}
def St7.n:St7->Int
 | .half N _=>2^N
 | .shel s fs=>s*(fs.length:Int)
 | .row n _=>n
 | .st _ _ n _=>n
variable{n:Nat}
def St7.ok:St7->Prop
 | .half N ps=>N<=8/\Am 0 ps (2^N)/\(∀z∈ps,Al z)/\NbF ps
 | .shel s fs=>1<=s/\1<=fs.length/\∀f∈fs,yX s f
 | .row n ls=>1<=n/\(∀l∈ls,3<=l)/\yF ls<=n
 | .st i _ n ps=>ok4 i/\Am 0 ps n/\AK ps
theorem St7.ch{q:St7}(h:q.ok):Am 0 q.ps q.n:=by
 cases q with
 | half N ps=>exact h.2.1
 | shel s fs=>
   have:=G8 h.1 fs 0 (λf hf=>(h.2.2 f hf).1);rw[gq] at this;exact this
 | row n ls=>exact dO h.2.1 h.2.2
 | st i r n ps=>exact h.2.1
def No7(c b:Int):St7->Prop
 | .half _ ps=>∀B,C8 B (c+2)->NoH B ps
 | .shel s fs=>NoGr s (c+2) fs
 | .row n ls=>n<yF ls+(c+2)
 | .st _ _ _ ps=>∀z∈ps,z.v=false->fp z.a z.l (c+2) b=none
inductive Ask7(c:Int):St7->Int->St7->Prop
 | half {N B M:Nat} {ps ds rs:List Pc} {b:Int}:C8 B (c+2)->Gh B ps ds rs b M->Ask7 c (.half N ps) (b+1) (.half N (ds++(hcP b B M++rs)))
 | shel {s:Int} {fs fs1:List Sf} {j i:Nat} {b:List Bool}:Gs s (c+2) fs j i b fs1->fs1.length=fs.length->Ask7 c (.shel s fs) (s*(j:Int)+(c+2)*(i:Int)+1) (.shel s (fs1.set j ⟨c+2,b.set i true⟩))
 | row {n:Int} {ls:List Int}:yF ls+(c+2)<=n->Ask7 c (.row n ls) (yF ls+1) (.row n (ls++[c+2]))
theorem dR{y:Pc}(hv:y.v=true):∀{ps acc:List Pc},y∈ps.foldl BD acc->y∈acc\/y∈ps
 | [],_,h=>.inl h
 | z::r,acc,h=>by
   rcases dR hv (ps:=r) (acc:=BD acc z) h with g | g
   unfold BD at g
   split at g
   split at g
   rcases ν.mp g with e | e
   exact .inl (List.dropLast_subset _ e);rw[χ.mp e] at hv;cases hv;rcases ν.mp g with e | e
   exact .inl e;rw[χ.mp e];exact .inr η;rcases ν.mp g with e | e
   exact .inl e;rw[χ.mp e];exact .inr η;exact .inr (ι _ g)
theorem qS(h:y∈BE ps)(hv:y.v=true):y∈ps:=by
 rcases dR hv (ps:=ps) (acc:=[]) h with g | g
 cases g;exact g
theorem qT(h:y∈yN ps k L e)(hv:y.v=true):y=#[k,L,true]\/(y∈ps/\(y.a<k\/e<=y.a)):=by
 unfold yN at h;obtain⟨l,hl,hp⟩:=mx.mp h;obtain⟨p,hq,rfl⟩:=ce.mp hl;unfold rg1 at hp;rcases ν.mp hp with g | g
 rcases ν.mp g with g | g
 split at g
 rename_i c;rw[χ.mp g];exact .inr #[hq,c];cases g
 split at g
 exact .inl (χ.mp g);cases g
 split at g
 rw[χ.mp g] at hv;cases hv;cases g
def ud8(ps ps':List Pc)(cs cs':List Int)(w:Pc)(gone:Pc->Prop):Prop:=w∈ps'/\w.v=true/\(∀y∈ps,y.v=true->¬gone y->y∈ps'/\y.a≠w.a/\∀j:Nat,Inn y j->cs'[j]?=cs[j]?)/\∀y∈ps',y.v=true->y=w\/(y∈ps/\¬gone y)
theorem UK{α:Type}(p:α->Prop)[DecidablePred p]:∀xs:List α,(∀x∈xs,¬p x)\/∃(j:Nat)(x:α),xs[j]?=some x/\p x/\∀(j':Nat)(x':α),j'<j->xs[j']?=some x'->¬p x'
 | []=>.inl λx h=>by cases h
 | x::r=>by
   by_cases e:p x;exact .inr #[0,x,rfl,e,λj' _ h=>xb0 h (cu _)];rcases UK p r with h | ⟨j,y,h1,h2,h3⟩
   refine .inl λy hy=>?_;rcases Ξ.mp hy with g | g
   rw[g];exact e;exact h y g;refine .inr #[j+1,y,h1,h2,λj' x' hj hx=>?_];cases j' with
   | zero=>
     have:x=x':=by simpa using hx
     rw[<-this];exact e
   | succ j'=>exact h3 j' x' ∅ (by simpa using hx)
theorem gs_ex(k3:3<=k):NoGr s k fs\/∃(j i:Nat)(b:List Bool)(fs1:List Sf),Gs s k fs j i b fs1:=by
 rcases UK (λf:Sf=>f.n=k/\false∈f.b) fs with hno | ⟨j,f,hj,⟨hn,hf⟩,hm⟩
 by_cases ks:k<=s;rcases UK (λf:Sf=>f.n=0) fs with h0 | ⟨j,f,hj,h0,hm⟩
 exact .inl #[hno,.inr h0];obtain⟨_,_,d3⟩:=Rm (show 1<=k by lia) ks;have hjl:j<fs.length:=(γ.mp hj).1;refine .inr #[j,0,ω (s/k).toNat false,fs.set j #[k,ω (s/k).toNat false],ai hjl,?_,λi' h=>xb0 h (cu _),λj' f' _ hf'=>hno f' (ζ hf'),.inr #[hno,ks,rfl,rfl,#[f,hj,h0],hm,rfl]];rw[cf,xb1 ∅];exact .inl #[hno,.inl ∅];obtain⟨i,h1,h2⟩:=qJ hf;obtain⟨n,b⟩:=f;have hn:n=k:=hn;subst hn;exact .inr #[j,i,b,fs,hj,h1,h2,hm,.inl rfl]
theorem fr_v{b:Int}(h:z∈fr b e):z.v=false:=by
 unfold fr at h
 split at h
 cases h;rw[χ.mp h]
def lnF(c:Int):St7->Int->Prop
 | .half _ _,L=>∃B,C8 B (c+2)/\L=2^B
 | _,L=>L=c+2
def St7.sh:St7->Int
 | .shel s _=>s
 | _=>0
structure zk(q:St7)(c b p:Int)(q':St7)(cs cs':List Int):Prop where
 n:q'.n=q.n
 lt:q'.let3=q.let3
 sh:q'.sh=q.sh
 bd:p%b=0
 lf:∃L,lnF c q L/\ud8 q.ps q'.ps cs cs' #[p-1,L,true] λ_=>False
structure Gvn(q:St7)(z:Pc)(q':St7)(cs cs':List Int):Prop where
 n:q'.n=q.n
 lt:q'.let3=q.let3
 sh:q'.sh=q.sh
 nr:q.let3≠.row
 kp:∀y∈q.ps,y.v=true->y≠z->y∈q'.ps/\∀j:Nat,Inn y j->cs'[j]?=cs[j]?
 bk:∀y∈q'.ps,y.v=true->y∈q.ps/\y≠z
theorem Gh.parts{rs:List Pc}{b:Int}(G:Gh B ps ds rs b M)(hB:2<=B)(hc:Am 0 ps (2^N))(al:∀z∈ps,Al z):(∀y∈ps,y.v=true->y∈ds++(hcP b B M++rs)/\(y.a+y.l<=b\/b+2^M<=y.a))/\∀y∈ds++(hcP b B M++rs),y.v=true->y=#[b,2^B,true]\/y∈ps:=by
 obtain⟨_,_,_,c1,c3,_,_,_⟩:=G.lie hB hc al;constructor;intro y hy hv;rw[G.1] at hy;rcases ν.mp hy with g | g
 exact#[π _ g,.inl (c1.mem y g).2.2.2];rcases Ξ.mp g with e | e
 rw[e] at hv;cases hv;exact#[ε _ (ε _ e),.inr (c3.mem y e).1];intro y hy hv;rw[G.1];rcases ν.mp hy with g | g
 exact .inr (π _ g);rcases ν.mp g with g | g
 rcases Ξ.mp g with w | w
 exact .inl w;obtain⟨i,_,_,h3⟩:=Uu w;rw[h3] at hv;cases hv;exact .inr (ε _ (ι _ g))
theorem qU{q:St7}(b:Int)(h:q.ok)(h3:ok3 q.let3)(c1:1<=c):No7 c b q\/∃p q',Ask7 c q p q':=by
 cases q with
 | half N ps=>
   obtain⟨B,hB⟩:=dQ c c1;rcases gh_ex B h.2.1 h.2.2.1 with g | ⟨ds,rs,b,M,g⟩
   exact .inl λB' hB'=>by rw[hB'.uniq hB];exact g
   exact .inr #[_,_,.half hB g]
 | shel s fs=>
   rcases gs_ex (s:=s) (fs:=fs) (show 3<=c+2 by lia) with g | ⟨j,i,b,fs1,g⟩
   exact .inl g;exact .inr #[_,_,.shel g g.len]
 | row n ls=>
   by_cases g:yF ls+(c+2)<=n;exact .inr #[_,_,.row g];exact .inl (by show n<yF ls+(c+2);lia)
 | st i r n ps=>cases i <;> first | exact h3.elim | exact h.1.elim
theorem Mu(p:Int):p%1=0:=∅
section
variable {cs cs':List Int}
theorem qV{rs:List Pc}{b:Int}(hB:C8 B (c+2))(B2:2<=B)(G:Gh B ps ds rs b M)(hc:Am 0 ps (2^N))(al:∀z∈ps,Al z)(ho:∀j:Nat,(j:Int)<b\/b+2^M<=j->cs'[j]?=cs[j]?):zk (.half N ps) c 1 (b+1) (.half N (ds++(hcP b B M++rs))) cs cs':=by
 obtain⟨p1,p2⟩:=G.parts B2 hc al;have pm:=pw1 M;refine#[rfl,rfl,rfl,Mu _,2^B,#[B,hB,rfl],?_];rw[di];refine#[ε _ (π _ η),rfl,λy hy hv _=>?_,λy hy hv=>(p2 y hy hv).imp id λh=>#[h,id]];obtain⟨k1,k2⟩:=p1 y hy hv;obtain⟨_,y1,_,_⟩:=hc.mem y hy;exact#[k1,show y.a≠b by lia,λj hj=>ho j (by have:=hj.1;have:=hj.2;lia)]
theorem qW(g:Gs s (c+2) fs j i b fs1)(h1:1<=s)(o:∀f∈fs,yX s f)(c1:1<=c)(ho:∀y∈alP s 0 fs,y.v=true->∀m:Nat,Inn y m->cs'[m]?=cs[m]?):zk (.shel s fs) c 1 (s*(j:Int)+(c+2)*(i:Int)+1) (.shel s (fs1.set j #[c+2,b.set i true])) cs cs':=by
 obtain⟨g1,g2,g3,g4⟩:=g.parts h1 (show 3<=c+2 by lia) o;have ch1:=G8 h1 fs1 0 (g.W (show 3<=c+2 by lia) o);refine#[by show s*((fs1.set j _).length:Int)=_;rw[ax,g.len];rfl,rfl,rfl,Mu _,c+2,rfl,?_];rw[di];refine#[g2,rfl,λy hy hv _=>#[(g1 y hy hv).2,λe=>?_,ho y hy hv],λy hy hv=>(g4 y hy hv).imp id λh=>#[h,id]];have:=CY ch1 (g1 y hy hv).1 g3 e;rw[this] at hv;cases hv
theorem Ro{n:Int}(hz:z∈rwP ls n)(hv:z.v=true):z∈zi 0 ls:=by
 rcases ν.mp hz with w | w
 exact w;rw[fr_v w] at hv;cases hv
theorem qX{n:Int}(h3:∀l∈ls,3<=l)(ho:∀y∈rwP ls n,y.v=true->∀m:Nat,Inn y m->cs'[m]?=cs[m]?):zk (.row n ls) c 1 (yF ls+1) (.row n (ls++[c+2])) cs cs':=by
 refine#[rfl,rfl,rfl,Mu _,c+2,rfl,?_];rw[di];have e0:0+yF ls=yF ls:=gq _;refine#[π _ (by rw[Lm,e0];exact ε _ (χ.mpr rfl)),rfl,λy hy hv _=>#[π _ (by rw[Lm];exact π _ (Ro hy hv)),?_,ho y hy hv],λy hy hv=>?_];have:=(Mt ls 0 h3).mem y (Ro hy hv);show y.a≠yF ls;lia;have h:=Ro hy hv;rw[Lm,e0] at h;rcases ν.mp h with w | w
 exact .inr #[π _ w,id];exact .inl (χ.mp w)
theorem qY{k:W7}{r' n b:Int}{rs:List Pc}(hc:Am 0 (ds++z::rs) n)(hv:z.v=false)(c1:1<=c)(g1:z.a<=s)(g2:s+(c+2)<=z.a+z.l)(hb:(s+1)%b=0)(ho:∀y∈ds++z::rs,y.v=true->∀m:Nat,Inn y m->cs'[m]?=cs[m]?):zk (.st k r n (ds++z::rs)) c b (s+1) (.st k r' n (zq ds rs z.a z.l s (c+2))) cs cs':=by
 refine#[rfl,rfl,rfl,hb,c+2,rfl,?_];rw[di];refine#[ε _ (ε _ η),rfl,λy hy yv _=>#[?_,λe=>?_,ho y hy yv],λy hy yv=>?_];rcases ν.mp hy with w | w
 exact π _ w;rcases Ξ.mp w with w | w
 rw[w,hv] at yv;cases yv;exact ε _ (ε _ (ι _ (ε _ w)));have hy:y∈ds++z::rs:=hy;have e:y.a=s:=e;obtain⟨_,y1,_,_⟩:=hc.mem y hy;have:=HQ hc hy (ε _ η) (p:=s) ∅ ∅ g1 ∅;rw[this,hv] at yv;cases yv;rcases ν.mp hy with w | w
 exact .inr #[π _ w,id];rcases ν.mp w with w | w
 rw[fr_v w] at yv;cases yv;rcases Ξ.mp w with w | w
 exact .inl w;rcases ν.mp w with w | w
 rw[fr_v w] at yv;cases yv;exact .inr #[ε _ (ι _ w),id]
theorem qZ{acc:List Pc}{p:Pc}(hp:p∈acc)(hv:p.v=true):p∈BD acc z:=by
 rcases D5 acc with e | ⟨D,w,e⟩
 rw[e] at hp;cases hp;subst e;cases hw:w.v with
 | true=>rw[G7 hw];exact π _ hp
 | false=>
   cases hz:z.v with
   | true=>rw[G6 hz];exact π _ hp
   | false=>
     rw[HL hw hz];rcases ν.mp hp with g | g
     exact π _ g;rw[χ.mp g] at hv;rw[hv] at hw;cases hw
theorem dS:∀(ps acc:List Pc){p:Pc},p.v=true->p∈acc\/p∈ps->p∈ps.foldl BD acc
 | [],acc,p,hv,h=>by
   rcases h with h | h
   exact h;cases h
 | z::r,acc,p,hv,h=>by
   refine dS r (BD acc z) hv ?_;rcases h with h | h
   exact .inl (qZ h hv);rcases Ξ.mp h with g | g
   subst g;rw[G6 hv];exact .inl (ε _ (χ.mpr rfl));exact .inr g
theorem rA{p:Pc}(h:p∈ps)(hv:p.v=true):p∈BE ps:=dS ps [] hv (.inr h)
theorem ub8{k:W7}{n:Int}(h4:ok4 k)(hc:Am 0 ps n)(hz:z∈ps)(ho:∀y∈ps,y.v=true->y≠z->∀m:Nat,Inn y m->cs'[m]?=cs[m]?):Gvn (.st k r n ps) z (.st k r n (BE (zx ps z.a))) cs cs':=by
 refine#[rfl,rfl,rfl,by rintro(rfl:k = .row);exact h4,λy hy yv hne=>#[rA (ce.mpr #[y,hy,?_]) yv,ho y hy yv hne],λy hy yv=>?_];rw[xb4 (λe=>hne (CY hc hy hz e)),su,tw];obtain⟨w,hw,ew⟩:=ce.mp (qS hy yv);rw[<-ew] at yv;have yv:(w.v&&!decide (w.a=z.a))=true:=yv;rw[dm,jx,decide_eq_false_iff_not] at yv;rw[xb4 yv.2,su,tw] at ew;rw[<-ew];exact#[hw,λe=>yv.2 (by rw[<-e])]
theorem rB{rs:List Pc}(e:ps=ds++#[2^m*(q:Int),2^m,true]::rs)(G:MgTo ps ds rs m q ds' rs' m' q'):(∀y∈ps,y.v=true->y≠#[2^m*(q:Int),2^m,true]->y∈ds'++(#[2^m'*(q':Int),2^m',false]::rs':List Pc)/\(y∈ds'\/y∈rs'))/\∀y∈ds'++(#[2^m'*(q':Int),2^m',false]::rs':List Pc),y.v=true->(y∈ds\/y∈rs):=by
 obtain⟨_,_,_,f4⟩:=G.facts;constructor;intro y hy hv hne;have h1:y∈ds\/y∈rs:=by
   rw[e] at hy;rcases ν.mp hy with g | g
   exact .inl g;rcases Ξ.mp g with w | w
   exact xb0 w hne;exact .inr w
 have h2:=G.live y hv h1;refine#[?_,h2];rcases h2 with g | g
 exact π _ g;exact ε _ (ι _ g);intro y hy hv;rcases ν.mp hy with g | g
 exact f4 y (.inl g);rcases Ξ.mp g with w | w
 rw[w] at hv;cases hv;exact f4 y (.inr w)
theorem rC{rs:List Pc}(hc:Am 0 ps (2^N))(eps:ps=ds++#[2^m*(q:Int),2^m,true]::rs)(L:Lie N ps ds rs m q)(L':Lie N ps ds' rs' m' q')(G:MgTo ps ds rs m q ds' rs' m' q')(ho:∀j:Nat,(j:Int)<2^m'*(q':Int)\/2^m'*(q':Int)+2^m'<=j->cs'[j]?=cs[j]?):Gvn (.half N ps) #[2^m*(q:Int),2^m,true] (.half N (ds'++#[2^m'*(q':Int),2^m',false]::rs')) cs cs':=by
 obtain⟨p1,p2⟩:=rB eps G;refine#[rfl,rfl,rfl,(λe=>by cases e),λy hy yv hne=>#[(p1 y hy yv hne).1,λj hj=>ho j ?_],λy hy yv=>?_];have:=L'.outer (p1 y hy yv hne).2;have:=hj.1;have:=hj.2;lia;have h:=p2 y hy yv;refine#[?_,λe=>?_];show y∈ps;rw[eps];exact h.elim (π _) λh=>ε _ (ι _ h);have h2:=L.outer h;have p:=pw1 m;rw[e] at h2;have h2:2^m*(q:Int)+2^m<=2^m*(q:Int)\/2^m*(q:Int)+2^m<=2^m*(q:Int):=h2;lia
theorem rD{n:Int}(h1:1<=s)(o:∀f∈fs,yX s f)(h:fs[j]?=some #[n,b])(hi:b[i]?=some true)(ho:∀y∈alP s 0 fs,y.v=true->y≠#[s*(j:Int)+n*(i:Int),n,true]->∀m:Nat,Inn y m->cs'[m]?=cs[m]?):Gvn (.shel s fs) #[s*(j:Int)+n*(i:Int),n,true] (.shel s (giv fs j i n b)) cs cs':=by
 obtain⟨g1,g2,_⟩:=dM h1 o h hi;exact#[by show s*((giv fs j i n b).length:Int)=_;rw[dE];rfl,rfl,rfl,(λe=>by cases e),λy hy yv hne=>#[g1 y hy yv hne,ho y hy yv hne],λy hy yv=>g2 y hy yv]
end
theorem UL{n:Int}(c:Am 0 ps n)(hy:y∈ps)(hz:z∈ps)(hne:y≠z)(hm:Inn y m):(m:Int)<z.a\/z.a+z.l<=m:=apart c hz hy (λe=>hne e.symm) (by have:=hm.1;lia) (by have:=hm.2;lia)
structure DefD(P:we)(w:wf)(K:δ)(mg:Str->Option vz)(base:xt)(x:Str)(k:Nat)(ps:List Str)(dvs:List V)(sp:Sp):Prop where
 all:∎ x k ps sp
 less:∃(f:wa)(fd:wc)(ds:List vz),FnOk P w K mg base (CXe P w) k f fd ps sp/\mg x=some (.ref f)/\keepIn K (.ref f)=true/\BL K fd ps ds/\Vals dvs ds
structure SrcD(K:δ)(mg:Str->Option vz)(x:Str)(st:wl)(T:wa):Prop where
 ex:∃(f:wa)(fd:wc),FunD K x x st (.ref T) f fd/\mg x=some (.ref f)/\keepIn K (.ref f)=true
theorem rE{x:Str}{f:wa}{oc kV doc pm cdv ct:vz}{od an:Option wa}(X:K.In h)(G:h.Ns xg mg)
   (a:nsIn K xg x=some (some (.ref f))) (l:K.lookup f=some #[oc,od,.func (fnOf x x (Bb st) (A3 st) (An st) (.ref T) kV doc pm an cdv ct),osl])
   (c:codeIn K cdv x=true) (k:keepIn K (.ref f)=true):SrcD K mg x st T:=#[f,_,G4 l c k,mg_of X G a,k]
section
variable {P:we}{w:wf}{K:δ}{mg:Str->Option vz}{base:xt}
theorem SrcD.okx{x:Str}{N ps:List Str}{k:Nat}{ds:List vz}{tc:vz}{tn:Nat}(S:SrcD K mg x st T)(lt:K.lookup T=some #[tc,td,.seq ds.toArray tn,tsl])(sc:yD N ps (An st))
   (hA:∀(kV doc pm:vz)(an:Option wa)(cdv ct:vz)(us:List vz),us.length=ps.length->∃k:Option (Array vz)->xq (List (Str×vz)),
     wq (fnOf x x (Bb st) (A3 st) (An st) (.ref T) kV doc pm an cdv ct) #[us,[]]=xa (.ref T) >>= k/\k (some ds.toArray)=pure (ps.zip us))
   (hD:∀(kV doc pm:vz)(an:Option wa)(cdv ct:vz)(us:List vz),(us++ds).length=ps.length->∃k:Option (Array vz)->xq (List (Str×vz)),
     wq (fnOf x x (Bb st) (A3 st) (An st) (.ref T) kV doc pm an cdv ct) #[us,[]]=xa (.ref T) >>= k/\k (some ds.toArray)=pure (ps.zip (us++ds)))
   (v:Vals dvs ds) (len:∀vs H Q E,sp vs H Q E->vs.length=ps.length)
   (hbody:∀(f:wa)(cdv:vz)(A:wg)(outer:List xu)(s:wb)(H:Hp)(vs:List V)(Q:VK)(E:XK),Room k (A.deeper (envOfC x (An st) s.heap.objs.size f cdv))->sp vs H Q E ->
     ∃t,PSs (cxOf (CXe P w) P w K mg base N x (An st) f cdv A outer s H E) (A3 st) t/\t { nx:=λ_ H'=>Q .non H',rt:=Q } (start N vs) H):DefD P w K mg base x (k+1) ps dvs sp:=by
 obtain⟨f,fd,F,hm,kp⟩:=S.ex;have ok:=G5 F sc len (hbody f);exact#[#[f,fd,ok,hm,kp,F.bindsA lt hA],#[f,fd,ds,ok,hm,kp,F.bindsD lt hD,v]]
end
section
variable {X:Cx}{x:Str}{j k:Nat}{ps:List Str}{sp:Sp}{dvs:List V}{p pos:Pos}{e:wk}{es:List wk}{t:TA}
end
open PySem.W
def HU{α:Type}(n:Nat)(lt:Nat->Nat->Bool):KasT α->Option α
 | .ret a=>some a
 | .ask i j k=>if i<n/\j<n then HU n lt (k (lt i j)) else none
theorem dU{α:Type}{n:Nat}{lt:Nat->Nat->Bool}{cmp:Nat->Nat->(Bool->wb->Prop)->wb->Prop}{Q:α->wb->Prop}{s:wb}(hc:∀i j (C:Bool->wb->Prop),i<n->j<n->C (lt i j) s->cmp i j C s):
   ∀(t:KasT α)(a:α),HU n lt t=some a->Q a s->t.kasWp cmp Q s
 | .ret b,a,e,q=>by
   unfold HU at e;cases e;exact q
 | .ask i j k,a,e,q=>by
   unfold HU at e;by_cases h:i<n/\j<n;rw[xb1 h] at e;exact hc i j _ h.1 h.2 (dU hc (k (lt i j)) a e q);rw[xb2 h] at e;cases e
section
variable {prog:we}{w:wf}{A:wg}{E:vz->wb->Prop}{s:wb}
theorem rF{a:wa}{vs:List vz}{p:List Nat}(κ:SortKind)(ho:s.heap.get? a=some (seqObj "list" vs.toArray n))(h2:2<=vs.length)(h64:vs.length<64)(hp:p.length=vs.length)
   (hk:∀h',(∀b o,b≠a->s.heap.get? b=some o->h'.get? b=some o)->∀(Q:SortKind->wb->Prop)(E:vz->wb->Prop),Q κ { s with heap:=h' }->wx (xl prog w) A (keyKind' vs.toArray) Q E { s with heap:=h' })
   (hr:∀h',(∀b o,b≠a->s.heap.get? b=some o->h'.get? b=some o)->∀(Q:Array Nat->wb->Prop),Q p.toArray { s with heap:=h' }->(kas_sort vs.length).kasWp (kas_ask prog w A κ vs) Q { s with heap:=h' })
   (fin:∀h' c,(∀b o,b≠a->s.heap.get? b=some o->h'.get? b=some o)->h'.get? a=some (seqObj "list" (fb (p.map λi=>vs.getD i Value.none)) c)->P (.done (.ret .none)) { s with heap:=h' }):
   wx (xl prog w) A (Builtin.«list.sort» #[[.ref a],[]]) P E s:=by
 have ha:a<s.heap.objs.size:=af ho;have s1:=df.update s.heap a (cn λ_=>((ϋ []):Array vz));obtain⟨e1,Bl⟩:∃e1,(s.heap.update a (cn λ_=>((ϋ []):Array vz))).get? a=some (seqObj "list" (ϋ []) e1):=#[_,get?_update_seq ho λ_=>(ϋ [])]
 have D2:(((s.heap.update a (cn λ_=>((ϋ []):Array vz))).push (seqObj "tuple" vs.toArray 0)).push (seqObj "list" (ϋ []) 0)).get? a=some (seqObj "list" (ϋ []) e1):=μ _ (μ _ Bl);have kp:∀b o,b≠a->s.heap.get? b=some o->(((s.heap.update a (cn λ_=>((ϋ []):Array vz))).push (seqObj "tuple" vs.toArray 0)).push (seqObj "list" (ϋ []) 0)).get? b=some o:=λb o ne e=>
   μ _ (μ _ ((s1.2 b ne).trans e))
 rw[list_sort_plain];refine wu (listItems_at ho rfl ?_);refine wu (listUpdate_at ho rfl ?_ (by rw[ο,sizeLine_eq];lia) (dv _));refine wu (seqEpoch_at Bl rfl ?_);refine wu (wpAny_newTuple ?_ (by show vs.length<=_;rw[sizeLine_eq];lia));refine wu (wpAny_newList ?_ (dv _));refine wpAny_holding ?_;show wx (xl prog w) A _ P E { s with heap:=((s.heap.update a (cn λ_=>((ϋ []):Array vz))).push (seqObj "tuple" vs.toArray 0)).push (seqObj "list" (ϋ []) 0) };dsimp only;have hn2:¬vs.toArray.size<2:=by rw[ο];lia
 rw[xb2 hn2,xb2 hn2];refine wu (hk _ kp _ _ ?_);refine wu (ww (kat_run (Q:=λst' s'=>s'={ s with heap:=((s.heap.update a (cn λ_=>((ϋ []):Array vz))).push (seqObj "tuple" vs.toArray 0)).push (seqObj "list" (ϋ []) 0) }/\arrOf st'=p.toArray.map (kas_item (vs.toArray.zip vs.toArray))/\failedOf st'=none)
   (G:=λq s'=>q=p.toArray/\s'={ s with heap:=((s.heap.update a (cn λ_=>((ϋ []):Array vz))).push (seqObj "tuple" vs.toArray 0)).push (seqObj "list" (ϋ []) 0) })
   rfl h2 h64 (λp' st' s' a1 a2 a3 a4=>#[a4.2,a4.1▸a2,a3]) (hr _ kp _ #[rfl,rfl])) ?_ λ_ _ e=>e)
 rintro⟨⟨⟩,st'⟩ s' ⟨rfl,har,hf⟩;dsimp only;have hout:=kat_snds (ks:=vs) rfl har;have hsz:(fb (p.map λi=>vs.getD i Value.none)).size=vs.length:=by rw[ο,Φ,hp]
 rw[hout];have s2:=df.update (((s.heap.update a (cn λ_=>((ϋ []):Array vz))).push (seqObj "tuple" vs.toArray 0)).push (seqObj "list" (ϋ []) 0)) a (cn λ_=>fb (p.map λi=>vs.getD i Value.none));refine wu (seqEpoch_at D2 rfl ?_);refine wu (listUpdate_at D2 rfl ?_ (dv _) (cr (qv hsz) (by rw[sizeLine_eq];lia)));rw[hf];simp only [bne_self_eq_false,fe,if_false];exact wv (fin _ _ (λb o ne e=>(s2.2 b ne).trans (kp b o ne e)) (get?_update_seq D2 λ_=>fb (p.map λi=>vs.getD i Value.none)))
theorem rG{a:wa}{v:vz}(ho:s.heap.get? a=some (seqObj "list" (ϋ [v]) n))
   (fin:∀h' c,(∀b o,b≠a->s.heap.get? b=some o->h'.get? b=some o)->h'.get? a=some (seqObj "list" (ϋ [v]) c)->P (.done (.ret .none)) { s with heap:=h' }):
   wx (xl prog w) A (Builtin.«list.sort» #[[.ref a],[]]) P E s:=by
 have s1:=df.update s.heap a (cn λ_=>((ϋ []):Array vz));obtain⟨e1,Bl⟩:∃e1,(s.heap.update a (cn λ_=>((ϋ []):Array vz))).get? a=some (seqObj "list" (ϋ []) e1):=#[_,get?_update_seq ho λ_=>(ϋ [])]
 have D2:(((s.heap.update a (cn λ_=>((ϋ []):Array vz))).push (seqObj "tuple" (ϋ [v]) 0)).push (seqObj "list" (ϋ []) 0)).get? a=some (seqObj "list" (ϋ []) e1):=μ _ (μ _ Bl);have kp:∀b o,b≠a->s.heap.get? b=some o->(((s.heap.update a (cn λ_=>((ϋ []):Array vz))).push (seqObj "tuple" (ϋ [v]) 0)).push (seqObj "list" (ϋ []) 0)).get? b=some o:=λb o ne e=>
   μ _ (μ _ ((s1.2 b ne).trans e))
 rw[list_sort_plain];refine wu (listItems_at ho rfl ?_);refine wu (listUpdate_at ho rfl ?_ (by rw[sizeLine_eq];show 1<=16777216+0;lia) (dv _));refine wu (seqEpoch_at Bl rfl ?_);refine wu (wpAny_newTuple ?_ (by show 1<=_;rw[sizeLine_eq];lia));refine wu (wpAny_newList ?_ (dv _));refine wpAny_holding ?_;show wx (xl prog w) A _ P E { s with heap:=((s.heap.update a (cn λ_=>((ϋ []):Array vz))).push (seqObj "tuple" (ϋ [v]) 0)).push (seqObj "list" (ϋ []) 0) };dsimp only;have hn2:((ϋ [v]):Array vz).size<2:=ip 1;rw[xb1 hn2,xb1 hn2];refine wu (wv ?_);refine wu (wv ?_);dsimp only;have s2:=df.update (((s.heap.update a (cn λ_=>((ϋ []):Array vz))).push (seqObj "tuple" (ϋ [v]) 0)).push (seqObj "list" (ϋ []) 0)) a (cn λ_=>(ϋ [v]));refine wu (seqEpoch_at D2 rfl ?_);have hout:(arrOf (SortSt.mk' general' (((ϋ [v]):Array vz).zip (ϋ [v])) (ϋ []) 7 none)).map (·.2)=(ϋ [v]):=by
   show (((ϋ [v]):Array vz).zip (ϋ [v])).map (·.2)=(ϋ [v]);simp
 rw[hout];refine wu (listUpdate_at D2 rfl ?_ (dv _) (by rw[sizeLine_eq];exact gh (by show 1<_;lia)));simp only [bne_self_eq_false,fe,if_false];exact wv (fin _ _ (λb o ne e=>(s2.2 b ne).trans (kp b o ne e)) (get?_update_seq D2 λ_=>(ϋ [v])))
end
section
variable {X:Cx}
theorem Ln{x:V}{xs:List V}(r:Vals (x::xs) its):∃v its',its=v::its'/\RelV x v/\Vals xs its':=by
 cases r with
 | cons a b=>exact#[_,_,rfl,a,b]
noncomputable def Rp(h:xt)(v:vz):vz:=match v with
 | .ref a=>match h.get? a with
   | some o=>match o.data with
     | .seq xs _=>(xs[0]?).getD .none
     | _=>.none
   | none=>.none
 | _=>.none
theorem dW{a:wa}{v:vz}{r:List vz}(h1:h.get? a=some o)(h2:o.data = .seq (fb (v::r)) n):Rp h (.ref a)=v:=by
 unfold Rp;simp only [h1,h2];rfl
theorem dX{h:xt}:∀{its:List vz},(∀v∈its,∃t o xs n,v = .ref t/\h.get? t=some o/\o.cls = .type "tuple"/\o.data = .seq (fb xs) n/\∃(v1:vz)(r:List vz),xs=v1::r)->KatTups h its (its.map λv=>Rp h v)
 | [],_=>KatTups.nil
 | v::r,hv=>by
   obtain⟨t,o,xs,n,rfl,h1,h2,h3,v1,r',rfl⟩:=hv _ (.head _);rw[cb,dW h1 h3];exact KatTups.cons h1 h2 h3 rfl (dX λv hm=>hv v (.tail _ hm))
end
section
variable {X:Cx}
end
def Dl{α:Type}(n:Nat)(Q:α->Prop):KasT α->Prop
 | .ret a=>Q a
 | .ask i j k=>i<n/\j<n/\∀b,Dl n Q (k b)
theorem Lo{α β:Type}{n:Nat}{P:α->Prop}{Q:β->Prop}{f:α->KasT β}:∀(t:KasT α),Dl n P t->(∀a,P a->Dl n Q (f a))->Dl n Q (t.bind f)
 | .ret a,h,g=>g a h
 | .ask i j k,⟨h1,h2,h3⟩,g=>#[h1,h2,λb=>Lo (k b) (h3 b) g]
theorem dY{α:Type}{n:Nat}{Q:α->Prop}(lt:Nat->Nat->Bool):∀(t:KasT α),Dl n Q t->∃a,HU n lt t=some a/\Q a
 | .ret a,h=>#[a,rfl,h]
 | .ask i j k,⟨h1,h2,h3⟩=>by
   obtain⟨a,e,q⟩:=dY lt (k (lt i j)) (h3 _);exact#[a,by unfold HU;rw[xb1 #[h1,h2]];exact e,q]
def PrmN(n:Nat)(p:Array Nat):Prop:=p.Perm (fb (cq n))
theorem PrmN.get(hn:0<n)(h:PrmN n p)(i:Nat):p.getD i 0<n:=by
 by_cases hi:i<p.size;have:p.getD i 0∈p:=by rw[ky,ia hi];exact Array.getElem_mem hi
 have:=(qt.mem_iff h).mp this;simpa using this;rw[ky,nk ∅];exact hn
theorem PrmN.rev(h:PrmN n p)(i j:Nat):PrmN n (kas_rev p i j):=qt.trans (mirror_perm ..) h
theorem PrmN.bub(h:PrmN n p)(i j:Nat):PrmN n (bubble p i j):=qt.trans (bubble_perm ..) h
theorem UM{n:Nat}{p:Array Nat}(hn:0<n)(h:PrmN n p):∀(f i:Nat),Dl n (λ_=>True) (kas_asc p f i)
 | 0,_=>trivial
 | f+1,i=>#[h.get hn _,h.get hn _,λb=>by
   cases b with
   | true=>exact trivial
   | false=>exact UM hn h f (i+1)]
theorem Rq{n:Nat}(hn:0<n):∀(f:Nat)(p:Array Nat)(i q:Nat),PrmN n p->Dl n (λr=>PrmN n r.1) (kas_desc f p i q)
 | 0,p,i,q,h=>h
 | f+1,p,i,q,h=>#[h.get hn _,h.get hn _,λb=>by
   cases b with
   | true=>
     show Dl n _ (if q>0 then _ else _)
     split
     exact Rq hn f _ _ _ (h.rev _ _);exact Rq hn f _ _ _ h
   | false=>exact#[h.get hn _,h.get hn _,λc=>by
       cases c with
       | true=>exact h
       | false=>exact Rq hn f _ _ _ h]]
theorem dZ(hn:0<n)(h:PrmN n p)(i m:Nat):Dl n (λr=>PrmN n r.2) (kas_tail3 i m p):=Lo _ (UM hn (h.rev _ _) _ _) λ_ _=>h.rev _ _
theorem eE(hn:0<n)(h:PrmN n p)(i m:Nat):Dl n (λr=>PrmN n r.2) (kas_descPart i m p):=by
 refine Lo _ (Rq hn _ _ _ _ h) λr hr=>?_
 split
 exact dZ hn (hr.rev _ _) _ _;exact dZ hn hr _ _
theorem rH(hn:0<n)(h:PrmN n p)(m:Nat):Dl n (λr=>PrmN n r.2) (kas_count m p):=by
 refine Lo _ (UM hn h _ _) λi _=>?_
 split
 exact h
 split
 exact#[h.get hn _,h.get hn _,λb=>by
   cases b with
   | true=>exact h
   | false=>exact eE hn (h.rev _ _) _ _]
 exact eE hn h _ _
theorem UN{n:Nat}{p:Array Nat}(hn:0<n)(h:PrmN n p)(k:Nat):∀(f l r:Nat),Dl n (λ_=>True) (kas_place p k f l r)
 | 0,_,_=>trivial
 | f+1,l,r=>by
   unfold kas_place
   split
   exact trivial;exact#[h.get hn _,h.get hn _,λb=>by
     cases b with
     | true=>exact UN hn h k f _ _
     | false=>exact UN hn h k f _ _]
theorem eG{n:Nat}(hn:0<n):∀(f:Nat)(p:Array Nat)(k:Nat),PrmN n p->Dl n (PrmN n) (kas_bin f p k)
 | 0,_,_,h=>h
 | f+1,p,k,h=>Lo _ (UN hn h k _ _ _) λl _=>eG hn f _ _ (h.bub _ _)
theorem rJ(hn:0<n)(lt:Nat->Nat->Bool):∃p:List Nat,p.Perm (cq n)/\HU n lt (kas_sort n)=some p.toArray:=by
 have:Dl n (PrmN n) (kas_sort n):=by
   refine Lo _ (rH hn (qt.refl _) n) λr hr=>?_
   split
   exact eG hn _ _ _ hr;exact hr
 obtain⟨a,e,q⟩:=dY lt _ this;exact#[a.toList,by simpa using (Array.perm_iff_toList_perm.mp q),by rw[e,Array.toArray_toList]]
def DAt(h:xt)(d:wa)(es:Array DictEntry)(ep:Nat):Prop:=∃o,h.get? d=some o/\o.ExactDict/\o.data = .dict es ep
section
variable {P:we}{w:wf}{A:wg}{E:vz->wb->Prop}{s:wb}{d it:wa}{es:Array DictEntry}{ep i:Nat}
theorem DAt.ty(m:DAt s.heap d es ep):s.TypeIs (.ref d) "dict":=let ⟨o,h1,h2,_⟩:=m;#[o,h1,h2.1]
theorem ub1(ns:(d==sysModules)=false)(m:DAt s.heap d es ep)
   (q:Q (.ref s.heap.objs.size) { s with heap:=s.heap.push { cls:=.type "dict_keyiterator",data:=.fields (ϋ [.ref d,.int 0 0,.int es.size 0,.int ep 0]) } }):wx (xl P w) A (pyIter (.ref d)) Q E s:=by
 have T:=m.ty;obtain⟨o,g1,g2,g3⟩:=m;refine wpAny_pyIter_slot T F.slot_dict_iter (wpAny_call_entry F.slot_dict_iter T F.entry_dict_iter ?_ (F.args_dict_iter_1 _));unfold Builtin.«dict.__iter__» Builtin.Dict.dictSlotNone;refine wu (wu (wpAny_notOrdered_dict T ?_));refine wv (show wx _ _ (Builtin.Dict.showsAll d >>= _) _ _ s from ?_);unfold Builtin.Dict.showsAll;rw[ns,xb2 ξ];refine wu (wv (wu (wpAny_dictEntries g1 g3 (wu (wpAny_dictEpoch g1 g3 ?_)))));refine wu (wpAny_newObj_type (wv #[_,rfl,_,_,#[_,ak _ rfl,rfl],F.slot_dict_keyiterator_next.lookup,?_]));simpa [rawInt] using q
theorem eI{Q:Option vz->wb->Prop}(st:s.heap.IsKeyIter it d i es.size ep)(m:DAt s.heap d es ep)(hi:i<es.size)
   (q:∀h',h'.IsKeyIter it d (i+1) es.size ep->df it s.heap h'->Q (some es[i].key) { s with heap:=h' }):wx (xl P w) A (pyNext (.ref it)) Q E s:=by
 have T:=st.typeIs;obtain⟨o,h1,h2,h3⟩:=id st;obtain⟨od,g1,g2,g3⟩:=m;unfold pyNext;refine wu (wpAny_attempt (wpAny_callSpecial?_slot (name:=iz "__next__") T F.slot_dict_keyiterator_next (wpAny_call_entry F.slot_dict_keyiterator_next T F.entry_dict_keyiterator_next ?_ (F.args_dict_keyiterator_next_1 _))));refine wu (wv (wu (wu ?_)))
 first | refine wu (wpAny_typeNameOfWhole_keyiter T (wv ?_)) | refine wu (wpAny_typeNameOf_keyiter T (wv ?_))
 refine wu (wpAny_fieldsOf h1 h3 ?_);rw[show Builtin.Dict_items.ownsTuple "dict_keyiterator"=false by decide];simp only [fe,if_false];refine show wx _ _ (if (Value.ref d==Value.none)=true then _ else _) _ _ s from ?_;rw[xb2 (by exact ξ)];refine wu (wv (wu (wpAny_dictEntries g1 g3 ?_)));rw[xb2 f!""];refine wu (wv (wu (wpAny_dictEpoch g1 g3 ?_)));rw[xb2 f!""];refine wv ?_;simp only [xb2 (show ¬(i:Int)<0 by lia),jh,ia hi];refine wu ?_
 first | refine wu (wpAny_typeNameOfWhole_keyiter T (wv ?_)) | refine wu (wpAny_typeNameOf_keyiter T (wv ?_))
 refine wu (wpAny_isOneOf_keyiter T (show wx _ _ (setField (.ref it) 1 (rawInt ((i:Int)+1)) >>= _) _ _ s from wu (wpAny_setField h1 h3 f!"" ?_)));generalize eh:s.heap.update it (jm (·.setIfInBounds 1 (rawInt ((i:Int)+1))))=h';have st':h'.IsKeyIter it d (i+1) es.size ep:=by
   rw[<-eh];exact#[_,ck _ h1 (je (gb h3 _)),(qw ..).trans h2,by rw[gb h3];simp [rawInt]]
 have sb:df it s.heap h':=by rw[<-eh];exact df.update ..
 refine wu (wpAny_holding (wu (wpAny_isOneOf_keyiter (s:={ s with heap:=h' }) st'.typeIs ?_)));exact show wx _ _ (pure es[i].key) _ _ _ from wv (wv #[_,rfl,wv (q _ st' sb)])
theorem eJ{Q:Option vz->wb->Prop}(hh:A.handled=none)(st:s.heap.IsKeyIter it d i es.size ep)(m:DAt s.heap d es ep)(hi:es.size<=i)
   (q:∀h',Heap.ExtBut it s.heap h'->Q none { s with heap:=h' }):wx (xl P w) A (pyNext (.ref it)) Q E s:=by
 have T:=st.typeIs;obtain⟨o,h1,h2,h3⟩:=id st;obtain⟨od,g1,g2,g3⟩:=m;unfold pyNext;refine wu (wpAny_attempt (wpAny_callSpecial?_slot (name:=iz "__next__") T F.slot_dict_keyiterator_next (wpAny_call_entry F.slot_dict_keyiterator_next T F.entry_dict_keyiterator_next ?_ (F.args_dict_keyiterator_next_1 _))));refine wu (wv (wu (wu ?_)))
 first | refine wu (wpAny_typeNameOfWhole_keyiter T (wv ?_)) | refine wu (wpAny_typeNameOf_keyiter T (wv ?_))
 refine wu (wpAny_fieldsOf h1 h3 ?_);rw[show Builtin.Dict_items.ownsTuple "dict_keyiterator"=false by decide];simp only [fe,if_false];refine show wx _ _ (if (Value.ref d==Value.none)=true then _ else _) _ _ s from ?_;rw[xb2 (by exact ξ)];refine wu (wv (wu (wpAny_dictEntries g1 g3 ?_)));rw[xb2 f!""];refine wu (wv (wu (wpAny_dictEpoch g1 g3 ?_)));rw[xb2 f!""];refine wv ?_;simp only [xb2 (show ¬(i:Int)<0 by lia),jh,nk hi];refine wu ?_
 first | refine wu (wpAny_typeNameOfWhole_keyiter T (wv ?_)) | refine wu (wpAny_typeNameOf_keyiter T (wv ?_))
 refine show wx _ _ (setField (.ref it) 0 .none >>= _) _ _ s from wu (wpAny_setField h1 h3 f!"" ?_);refine show wx _ _ (newExc (.type "StopIteration") [] >>= _) _ _ _ from wu ?_;unfold newExc newTuple;refine wu (wpAny_newObj_type (wu (m:=firstArgMember _ _) (wpAny_of_eq (a:=Value.none) (by first | rfl | (simp only [firstArgMember];rfl)) (wpAny_newObj_type ?_ (by size_fits)))) (by size_fits));unfold raiseNew;refine wu (wpAny_handled ?_);rw[show A.in1.handled=none from hh];refine wu (wv (wpAny_throw ?_));refine wu (wpAny_isInstance (b:=true) (T:="StopIteration") #[_,ak _ rfl,rfl] isSubtype_stop ?_);exact wv (q _ (((df.update ..).extBut.push _).push _))
end
theorem Rr{α β:Type}{F:α->β->Prop}{xs:List α}{us:List β}(r:Paired F xs us):xs.length=us.length:=by
 induction r with
 | nil=>rfl
 | cons _ _ ih=>simp [ih]
theorem eK{P:we}(ok:HOk P w H h)(e:H d=some (.frz o (.dT kvs)))(ho:o.data = .dict es ep):
   DAt h d es ep/\es.size=kvs.length/\∀(i:Nat)(hi:i<es.size)(k:List Key)(v:V),kvs[i]?=some (k,v)->∃b,es[i].key = .ref b/\H b=some (.tup (k.map kV)):=by
 obtain⟨h1,_,_,xs,r,o',es',ep',g1,g2,g3,g4,_⟩:=(show Bc P w H h d (.frz o (.dT kvs)) from ok d _ e)
 rw[h1] at g1;cases g1;rw[ho] at g3;cases g3;have hsz:es.size=xs.length:=by rw[<-du,g4,Φ]
 refine#[#[o,h1,g2,ho],hsz.trans (Rr r).symm,λi hi k v hk=>?_];obtain⟨q,hq,e1,e2,_⟩:=Rb r hk;refine#[q.2.1,?_,e2];have:es.toList[i]?=some (entryOfKey (tupleKind (Cm P w)) q):=by rw[g4,bh,hq];rfl
 rw[kc,ia hi] at this;rw[Θ this];rfl
def Itt(d:wa)(o:Obj)(kvs:List (List Key×V)):It:=
 #[λi H=>H d=some (.frz o (.dT kvs))/\∃k v,kvs[i]?=some (k,v),λi H x H'=>H'=H/\∃k v b,kvs[i]?=some (k,v)/\x = .ref b/\H b=some (.tup (k.map kV)),λi H=>H d=some (.frz o (.dT kvs))/\kvs.length<=i]
theorem rK{P:we}(d it:wa)(o:Obj)(kvs:List (List Key×V))(ho:o.data = .dict es ep):
   ud6 P w K tg (Itt d o kvs) [it] it (λi h=>h.IsKeyIter it d i es.size ep) where
 mem:=by simp
 obj:=λi h st b hb=>by
   have e:b=it:=by simpa using hb
   subst e;obtain⟨o,e,c,d⟩:=st;exact#[o,e,λv z=>by rw[d] at z;cases z]
 keep:=λi h h' st k=>st.at λo e=>k it f!"" o e
 item:=by
   intro X hP hw hK hc i ϊ s σ H E I hf st hg;subst hP hw hK;obtain⟨hd,k,v,hx⟩:=hg;obtain⟨m,hl,hk⟩:=eK I.hok hd ho;have hi:i<es.size:=by rw[hl];exact(γ.mp hx).1
   obtain⟨b,eb,hb⟩:=hk i hi k v hx;obtain⟨f0,f1,f2,f3,f4,f5⟩:=hf it f!"";refine eI st m hi λh' st' sb=>?_;have I1:Inv X ϊ σ H { s with heap:=h' }:=I.turned (t':=s.toks) (λb o hb e=>(sb.2 b hb).trans e) f0 f1 f3 f4 f5;obtain⟨o2,e2,c2,d2⟩:=id st';refine#[es[i].key,rfl,Tk (s:={ s with heap:=h' }) e2 c2 d2 m!"" #[.ref b,H,I1,?_,#[rfl,k,v,b,hx,rfl,hb],st',λb hb=>(hf b hb).1]];rw[eb];rfl
 done:=by
   intro X hP hw hK hc i ϊ s σ H E I hf st hg;subst hP hw hK;obtain⟨hd,hx⟩:=hg;obtain⟨m,hl,_⟩:=eK I.hok hd ho;obtain⟨f0,f1,f2,f3,f4,f5⟩:=hf it f!"";exact eJ (I.ok.hd hc) st m ∅ λh' eb=>#[rfl,I.turned (t':=s.toks) (λb o hb e=>eb b o hb e) f0 f1 f3 f4 f5]
 self:=λ_ _ _ _ _ st h=>wpAny_pyIter_keyiter st h
section
variable {X:Cx}{ϊ:List (wa×Obj)}{σ:L2.St}{H:Hp}{s:wb}{d:wa}{kvs:List (List Key×V)}{o:Obj}
theorem rL(I:Inv X ϊ σ H s)(e:H d=some (.dT kvs)):∃(o:Obj)(es:Array DictEntry)(ep:Nat),o.data = .dict es ep/\(d==sysModules)=false/\DAt s.heap d es ep/\Inv X ϊ σ (upd H d (.frz o (.dT kvs))) s:=by
 obtain⟨z,y,xs,r,o,es,ep,g1,g2,g3,g4⟩:=(show Bc X.prog X.w H s.heap d (.dT kvs) from I.hok d _ e)
 refine#[o,es,ep,g3,y,#[o,g1,g2,g3],?_];refine I.write (x:=d) (e:=d) (h':=s.heap) (t':=s.toks) (by rw[e];exact trivial) (.inl rfl) (λ_ _ _ q=>q) #[o,g1] #[g1,z,y,xs,?_,o,es,ep,g1,g2,g3,g4];exact Paired.mapP r λp q t=>#[t.1,by rw[AE (λc=>by have:=t.2.1;rw[c,e] at this;cases this)];exact t.2.1,t.2.2]
theorem thawT(I:Inv X ϊ σ H s)(nf:∀ob u,X.H₀ d≠some (.frz ob u))(e:H d=some (.frz o (.dT kvs))):Inv X ϊ σ (upd H d (.dT kvs)) s:=by
 have nn:∀b,H b=none->b≠d:=λb n z=>by rw[z,e] at n;cases n
 have nu:∀b u,H b=some u->(∀ob w,u≠.frz ob w)->b≠d:=λb u q hn z=>by
   rw[z,e] at q;exact hn _ _ (Θ q).symm
 refine#[I.ok,I.os,I.bare,#[I.base.keep,I.base.slot,λb o q n hx=>?_,I.base.there,λb xs q=>?_,λb ob u q=>?_,λb ps q=>?_],I.loc,I.cell,?_,λx c q=>?_,λp hp=>?_,λb u q=>?_,I.len];have:=I.base.free b o q n hx;rw[AE (nn b this)];exact this;have:=I.base.tups b xs q;rw[AE (nu b _ this λ_ _ z=>by cases z)];exact this;rw[AE (λz=>nf ob u (by rw[<-z];exact q))];exact I.base.frzs b ob u q;obtain⟨more,this⟩:=I.base.tbls b ps q;rw[AE (nu b _ this λ_ _ z=>by cases z)];exact#[more,this];rw[AE (nn _ I.free)];exact I.free;have:=I.freeC x c q;rw[AE (nn c this)];exact this;obtain⟨h1,h2,h3⟩:=I.pin p hp;exact#[h1,by rw[AE (nn _ h2)];exact h2,h3];have tt:∀c xs,H c=some (.tup xs)->upd H d (.dT kvs) c=some (.tup xs):=λc xs g=>by
   rw[AE (nu c _ g λ_ _ z=>by cases z)];exact g
 by_cases hb:b=d;subst hb;rw[xb5] at q;cases q;obtain⟨z,y,xs,r,g⟩:=(show Bc X.prog X.w H s.heap b (.frz o (.dT kvs)) from I.hok b _ e).2;exact#[z,y,xs,Paired.mapP r λp q t=>#[t.1,tt _ _ t.2.1,t.2.2],g];rw[AE hb] at q;refine(I.hok b u q).stay (λ_ _ _ g=>g) (λc g=>?_) tt;rw[AE (nu c _ g λ_ _ z=>by cases z)];exact g
end
section
variable {X:Cx}{tg:wk}
def ub5(NF:wa->Prop)(tl:TE):TI:=λσ H R=>tl σ H λx H1=>∃d kvs,x = .ref d/\H1 d=some (.dT kvs)/\∀o,NF d->R (Itt d o kvs) (upd H1 d (.frz o (.dT kvs)))
theorem rM{l:wk}(hl:PE X l tl):PI X tg l (ub5 (λd=>∀ob u,X.H₀ d≠some (.frz ob u)) tl):=by
 intro ϊ s σ H R I h;refine thn (hl ϊ s σ H _ I h) λv s1 hq=>?_;obtain⟨x,H1,I1,r1,d,kvs,e,hd,q⟩:=hq;subst e;cases r1;obtain⟨o,es,ep,g2,y,m,I2⟩:=rL I1 hd;have nf:∀ob u,X.H₀ d≠some (.frz ob u):=λob u z=>by
   have:=I1.base.frzs d ob u z;rw[hd] at this;cases this
 refine ub1 y m #[s1.heap.objs.size,[s1.heap.objs.size],_,_,_,rfl,I2.kept (t':=s1.toks) λb o e=>μ _ e,rK d _ o kvs g2,#[_,ak _ rfl,rfl,rfl],λb hb=>?_,q o nf];have e:b=s1.heap.objs.size:=by simpa using hb
 subst e;exact I2.fpOk (Γ _) (I2.hok.fresh (Γ _))
def zS(tl:TE)(g:TG)(tb:TS):TS:=λD σ H=>∀NF:wa->Prop,tFor (ub5 NF tl) g tb { D with nx:=λσ' H'=>∃d o kvs,NF d/\H' d=some (.frz o (.dT kvs))/\D.nx σ' (upd H' d (.dT kvs)) } σ H
theorem eO{body:List wl}(hp:wy (xl X.prog X.w) X.A X.env X.xe)(hc:X.calm=true)(hl:PE X iter tl)(hg:PG X tg g)(hb:PSs X body tb)
   (hs:∀x,foldedSetIterable iter X.env x=pure x:=by intro _;rfl):PS X (.For tg iter body [] pos) (zS tl g tb):=by
 intro ϊ s σ H D I h;refine thn (DM hp hc (rM hl) hg hb hs ϊ s σ H _ I (h _)) λf s' q=>?_;cases f with
 | next=>
   obtain⟨σ',H',I',d,o,kvs,nf,e,q⟩:=q;exact#[σ',_,thawT I' nf e,q]
 | brk=>exact q
 | cont=>exact q
 | ret v=>exact q
end
section
variable {K:δ}{σ:L2.St}{H:Hp}{Q:VK}{D:Ends}
theorem eP(h:∀NF:wa->Prop,tl σ H λx H1=>∃d kvs,x = .ref d/\H1 d=some (.dT kvs)/\∀o,NF d->∃W:Nat->Nat->L2.St->Hp->Prop,(∃m,W 0 m σ (upd H1 d (.frz o (.dT kvs))))/\∀i m σ H,W i m σ H ->
   ((Itt d o kvs).stop i H/\(∃d o kvs,NF d/\H d=some (.frz o (.dT kvs))/\D.nx σ (upd H d (.dT kvs))))\/((Itt d o kvs).go i H/\∃N:L2.St->Hp->Prop,(∀σ' H',N σ' H'->∃m',m'<m/\W (i+1) m' σ' H')/\∀x H',(Itt d o kvs).yld i H x H'->g x σ H' λσ2 H2=>tb { D with nx:=N,ct:=N,bk:=λσ' H'=>∃d o kvs,NF d/\H' d=some (.frz o (.dT kvs))/\D.nx σ' (upd H' d (.dT kvs)) } σ2 H2)):zS tl g tb D σ H:=h
theorem eU{NF:wa->Prop}(nf:NF d)(Pv:Nat->L2.St->Hp->Prop)(h0:Pv 0 σ H)(hl:∀i σ H,Pv i σ H->H d=some (.frz o (.dT kvs)))
   (hs:∀i k v b σ H,kvs[i]?=some (k,v)->H b=some (.tup (k.map kV))->Pv i σ H->g (.ref b) σ H λσ2 H2=>tb { D with nx:=Pv (i+1),ct:=Pv (i+1),bk:=λσ' H'=>∃d o kvs,NF d/\H' d=some (.frz o (.dT kvs))/\D.nx σ' (upd H' d (.dT kvs)) } σ2 H2)
   (hd:∀σ H,Pv kvs.length σ H->D.nx σ (upd H d (.dT kvs))):
   ∃W:Nat->Nat->L2.St->Hp->Prop,(∃m,W 0 m σ H)/\∀i m σ H,W i m σ H ->
   ((Itt d o kvs).stop i H/\(∃d o kvs,NF d/\H d=some (.frz o (.dT kvs))/\D.nx σ (upd H d (.dT kvs))))\/((Itt d o kvs).go i H/\∃N:L2.St->Hp->Prop,(∀σ' H',N σ' H'->∃m',m'<m/\W (i+1) m' σ' H')/\∀x H',(Itt d o kvs).yld i H x H'->g x σ H' λσ2 H2=>tb { D with nx:=N,ct:=N,bk:=λσ' H'=>∃d o kvs,NF d/\H' d=some (.frz o (.dT kvs))/\D.nx σ' (upd H' d (.dT kvs)) } σ2 H2):=by
 refine#[λi m σ H=>m=kvs.length-i/\i<=kvs.length/\Pv i σ H,#[kvs.length,f!"",dv _,h0],?_];rintro i m σ H ⟨rfl,hi,p⟩;have q:=hl i σ H p;by_cases hlt:i<kvs.length;obtain⟨k,v,ekv⟩:∃k v,kvs[i]?=some (k,v):=#[kvs[i].1,kvs[i].2,by simp [hlt]]
 refine .inr #[#[q,k,v,ekv],Pv (i+1),λσ' H' p'=>#[kvs.length-(i+1),∅,rfl,hlt,p'],λx H' y=>?_];obtain⟨e,k',v',b,e',ex,hb⟩:=y;subst e ex;exact hs i k' v' b σ _ e' hb p;have e:i=kvs.length:=∅;subst e;exact .inl #[#[q,Γ _],d,o,kvs,nf,q,hd σ H p]
end
theorem eV{a b:wa}{k:List Key}(e:H a=some (.frz o (.dT kvs)))(eb:H b=some (.tup (k.map kV))):DGet H a (.ref b) (zb kvs k):=.inr #[kvs,k,b,.inr #[o,e],rfl,eb,rfl]
section
variable {P:we}{w:wf}{A:wg}{d:wa}{es:Array DictEntry}{ep:Nat}
theorem DAt.keep{h':xt}(m:DAt h d es ep)(k:∀o,h.get? d=some o->h'.get? d=some o):DAt h' d es ep:=let ⟨o,h1,r⟩:=m;#[o,k o h1,r]
theorem DAt.lt(m:DAt h d es ep):d<h.objs.size:=let ⟨_,h1,_⟩:=m;af h1
theorem rN(hh:A.handled=none)(I:wa)(ne:d≠I):Walks P w A I [I,d] [I] es.size (λi v=>∃hi:i<es.size,v=es[i].key) (λi h=>h.IsKeyIter I d i es.size ep/\DAt h d es ep) where
 sub:=λb hb=>by simp at hb;simp [hb]
 frame:=λ_ _ _ st k=>#[st.1.at λo e=>k I f!"" o e,st.2.keep λo e=>k d f!"" o e]
 item:=λi s Q E hi st q=>eI st.1 st.2 hi λh' st' sb=>q _ h' s.toks #[hi,rfl] #[st',st.2.keep λo e=>sb.extBut d o ne e] λb o hb e=>sb.extBut b o (λz=>hb (by simp [z])) e
 done:=λs Q E st q=>eJ hh st.1 st.2 (Γ _) λh' eb=>q h' s.toks λb o hb e=>eb b o (λz=>hb (by simp [z])) e
 self:=λ_ _ _ _ st q=>wpAny_pyIter_keyiter st.1 q
theorem ua8(lo:(d==sysModules)=false):KdlSrc P w "dict" d d es.size (λi v=>∃hi:i<es.size,v=es[i].key) (λh=>DAt h d es ep) where
 type:=λ_ m=>m.ty
 there:=λ_ m=>#[m.lt,m.lt]
 keep:=λ_ _ m k=>m.keep λo e=>k d (.inl rfl) o e
 notList:=by decide
 notTuple:=by decide
 hint:=λ_ _ _ _ m q=>kdl_hint_dict m.ty q
 iter:=λ_ s hh m=>#[_,_,λ_ _ q=>ub1 lo m q,rN hh _ (bi m.lt),#[_,ak _ rfl,rfl,rfl],m.keep λ_ e=>μ _ e]
end
def pk(z:Int×Int):List Key:=[.inl z.1,.inl z.2]
def ud9(k:List Key):Int×Int:=match k with
 | [.inl a,.inl b]=>(a,b)
 | _=>(0,0)
def ltZ(z r:Int×Int):Bool:=if z.1=r.1 then decide (z.2<r.2) else decide (z.1<r.1)
theorem rO{prog:we}{A:wg}{Q:Bool->wb->Prop}{s:wb}{y:wa}{its2:List vz}{z r:Int×Int}(hx:s.heap.IsTuple x its.toArray)(hy:s.heap.IsTuple y its2.toArray)(rx:Vals ((pk z).map kV) its)(ry:Vals ((pk r).map kV) its2)(q:Q (ltZ z r) s):
   wx (xl prog w) A (keyLt' (tuples' true) (.ref x) (.ref y)) Q E s:=by
 obtain⟨ox,h1,_,n1,d1⟩:=hx;obtain⟨oy,h2,_,n2,d2⟩:=hy;refine kat_lt h1 d1 h2 d2 ?_;have rx:Vals [.int z.1,.int z.2] its:=rx;have ry:Vals [.int r.1,.int r.2] its2:=ry;obtain⟨v1,j1,rfl,⟨t1,rfl⟩,rx1⟩:=Ln rx;obtain⟨v2,j2,rfl,⟨t2,rfl⟩,rx2⟩:=Ln rx1;cases rx2;obtain⟨v3,j3,rfl,⟨t3,rfl⟩,ry1⟩:=Ln ry;obtain⟨v4,j4,rfl,⟨t4,rfl⟩,ry2⟩:=Ln ry1;cases ry2;show KatLex prog w A true _ Q [(Value.int z.1 t1,Value.int r.1 t3),(Value.int z.2 t2,Value.int r.2 t4)] 0 s;unfold ltZ at q;refine kat_cons (wpAny_eqBool_int ?_);by_cases h:z.1=r.1;rw[xb1 h] at q;rw[show (z.1==r.1)=true by simpa using h];refine kat_yes (kat_cons (wpAny_eqBool_int ?_));by_cases h':z.2=r.2;rw[show (z.2==r.2)=true by simpa using h'];refine kat_yes (kat_nil ?_);rw[xb4 ∅] at q;exact q;rw[show (z.2==r.2)=false by simpa using h'];exact kat_no (kat_one _ _ (pq (show PySem.W.BoolBack Q (.bool (decide (z.2<r.2))) s from q)));rw[xb2 h] at q;rw[show (z.1==r.1)=false by simpa using h];exact kat_no (oneLt_int q)
theorem rP(hc:X.calm=true):DN X (.builtin "sorted") (λxs H Q=>∃d,∃kvs:List (List Key×V),xs=[.ref d]/\H d=some (.dT kvs)/\(∀kv∈kvs,∃z,kv.1=pk z)/\0<kvs.length/\kvs.length<64 /\
   ∀D (us:List V),H D=none->us.length=kvs.length->(∀u∈us,∃b,∃kv∈kvs,u = .ref b/\H b=some (.tup (kv.1.map kV)))->Q (.ref D) (upd H D (.lst us))):=by
 intro ϊ s σ H xs us0 Q I r h;obtain⟨d,kvs,rfl,e,hk2,h0,h64,q⟩:=h;obtain⟨u,rfl,rx⟩:=L9 r;cases rx;obtain⟨hz,lo,ys,rp,o,es,ep,g1,g2,g3,g4,_⟩:=(show Bc X.prog X.w H s.heap d (.dT kvs) from I.hok d _ e)
 have m:DAt s.heap d es ep:=#[o,g1,g2,g3]
 have hly:=Rr rp;have hsz:es.size=kvs.length:=by rw[<-du,g4,Φ,hly]
 have key:∀i (hi:i<es.size),∃b,∃kv,kvs[i]?=some kv/\es[i].key = .ref b/\H b=some (.tup (kv.1.map kV)):=λi hi=>by
   have hi2:i<kvs.length:=∅;obtain⟨y,hy,e1,e2,_⟩:=Rb rp (ρ hi2);have:es.toList[i]?=some (entryOfKey (tupleKind (Cm X.prog X.w)) y):=by rw[g4,bh,hy];rfl
   rw[kc,ia hi] at this;exact#[y.2.1,_,ρ hi2,by rw[Θ this];rfl,e2]
 refine ly kind_sorted plain_sorted entry_sorted (args_sorted1 _) ?_;unfold Builtin.«sorted»;refine wu (m:=checkCount "sorted" 1 1 _) (wv ?_);refine wu (PySem.W.kdu_collect (A:=X.A.in1) (ua8 lo) (I.ok.hd hc) m (by rw[hsz];exact hz) λh' tk acc hk hacc=>?_);have I2:Inv X ϊ σ H { s with heap:=h',toks:=tk }:=I.kept (t':=tk) hk;have hal:acc.toList.length=kvs.length:=by rw[du,hacc.1,hsz]
 have tups:∀i,i<kvs.length->∃b kv its2 z,kvs[i]?=some kv/\acc.toList[i]?=some (.ref b)/\H b=some (.tup (kv.1.map kV))/\kv.1=pk z/\h'.IsTuple b (fb its2)/\Vals ((pk z).map kV) its2:=λi hi=>by
   obtain⟨b,kv,h1,h2,h3⟩:=key i ∅;obtain⟨z,ez⟩:=hk2 kv (ζ h1);obtain⟨its2,r2,p2,_⟩:=I2.tuple (SqT.of h3);rw[ez] at r2;have hi3:i<acc.toList.length:=∅;obtain⟨_,e3⟩:=hacc.2 i acc.toList[i] (by rw[<-kc];exact ρ hi3);exact#[b,kv,its2,z,h1,by rw[ρ hi3,e3,h2],h3,ez,p2,r2]
 refine wu (wpAny_newList ?_ (by rw[hal,sizeLine_eq];lia));have hoL:(h'.push (seqObj "list" acc.toList.toArray 0)).get? h'.objs.size=some (seqObj "list" acc.toList.toArray 0):=ak _ rfl;have fin:∀(h2:xt)(c:Nat)(p:List Nat),(∀b o,h'.get? b=some o->h2.get? b=some o)->p.Perm (cq kvs.length)->h2.get? h'.objs.size=some (seqObj "list" (fb (p.map λi=>acc.toList.getD i Value.none)) c) ->
     EP X ϊ σ Q (.ref h'.objs.size) { s with heap:=h2,toks:=tk }:=λh2 c p kp hp e2=>by
   have hpl:p.length=kvs.length:=by rw[hp.length_eq,ra]
   have hpi:∀i∈p,i<kvs.length:=λi hi=>by have:=hp.mem_iff.mp hi;simpa using this
   obtain⟨us,ru,hu⟩:∃us:List V,Vals us (p.map λi=>acc.toList.getD i Value.none)/\∀u∈us,∃b,∃kv∈kvs,u = .ref b/\H b=some (.tup (kv.1.map kV)):=by
     clear e2 hp hpl
     induction p with
     | nil=>exact#[[],.nil,λu hu=>by cases hu]
     | cons i p ih=>
       obtain⟨us,r1,r2⟩:=ih λj hj=>hpi j (ι _ hj);obtain⟨b,kv,_,_,h1,h2,h3,_⟩:=tups i (hpi i η);refine#[.ref b::us,.cons ?_ r1,λu hu=>?_];show L2.RelV (.ref b) (acc.toList.getD i Value.none);rw[ao,h2];rfl;rcases Ξ.mp hu with rfl | g
       exact#[b,kv,ζ h1,rfl,h3];exact r2 u g
   have hul:us.length=kvs.length:=by rw[ru.length,Φ,hpl]
   exact#[.ref h'.objs.size,_,I2.laid (t':=tk) kp (Γ _) (show Bc X.prog X.w _ h2 _ (.lst us) from #[by rw[hul];exact hz,_,c,ru,e2]),rfl,q _ us (I2.hok.fresh (Γ _)) hul hu]
 have kp0:∀b o,h'.get? b=some o->b≠h'.objs.size/\(h'.push (seqObj "list" acc.toList.toArray 0)).get? b=some o:=λb o hb=>#[bi (af hb),μ _ hb]
 refine wu (wpAny_holding (wpAny_call_entry slot_list_sort (s:={ s with heap:=h'.push (seqObj "list" acc.toList.toArray 0),toks:=tk }) #[_,hoL,rfl] entry_list_sort ?body (args_list_sort _)))
 case body=>
   refine ww (Q:=λf s'=>f = .done (.ret .none)/\EP X ϊ σ Q (.ref h'.objs.size) s') (E:=λ_ _=>False) ?_ (λf s' hf=>?_) λ_ _ x=>x.elim
   rotate_left
   obtain⟨rfl,q⟩:=hf;exact#[_,rfl,wv #[_,rfl,q]];by_cases h1:kvs.length=1;obtain⟨v,ev⟩:∃v,acc.toList=[v]:=by
     match acc.toList,hal with
     | [v],_=>exact#[v,rfl]
     | [],e=>simp at e;lia
     | _::_::_,e=>simp at e;lia
   rw[ev] at hoL kp0 ⊢;refine rG hoL λh2 c kp2 e2=>#[rfl,?_]
   exact fin h2 c [0] (λb o hb=>kp2 b o (kp0 b o hb).1 (kp0 b o hb).2) (by rw[h1];exact List.Perm.refl _) (by rw[ev];exact e2);obtain⟨p,hp,hrun⟩:=rJ h0 λi j=>ltZ ((kvs.map λkv=>ud9 kv.1).getD i (0,0)) ((kvs.map λkv=>ud9 kv.1).getD j (0,0));have tk2:∀h2:xt,(∀b o,b≠h'.objs.size->(h'.push (seqObj "list" acc.toList.toArray 0)).get? b=some o->h2.get? b=some o)->∀i,i<kvs.length->∃b kv its2 z,kvs[i]?=some kv/\acc.toList[i]?=some (.ref b)/\kv.1=pk z/\h2.IsTuple b (fb its2)/\Vals ((pk z).map kV) its2:=λh2 kp2 i hi=>by
     obtain⟨b,kv,its2,z,a1,a2,_,a4,⟨o,f1,f2,f3⟩,a6⟩:=tups i hi;exact#[b,kv,its2,z,a1,a2,a4,#[o,kp2 b o (kp0 b o f1).1 (kp0 b o f1).2,f2,f3],a6]
   refine rF (p:=p) (tuples' true) hoL ∅ ∅ (by rw[hp.length_eq,ra,hal]) ?_ ?_ ?_;intro h2 kp2 Q' E' hq;have kt:KatTups h2 acc.toList (acc.toList.map λv=>Rp h2 v):=dX λv hv=>by
     obtain⟨i,hi,rfl⟩:=ii.mp hv;obtain⟨b,kv,its2,z,_,e1,_,⟨o,f1,f2,n,f3⟩,e3⟩:=tk2 h2 kp2 i ∅;rw[ρ hi] at e1;obtain⟨v1,j1,rfl,_,_⟩:=Ln (show Vals [.int z.1,.int z.2] its2 from e3);exact#[b,o,_,n,Θ e1,f1,f2,f3,v1,j1,rfl]
   refine kat_kind (T:=.type "int") kt (by rw[Φ];lia) ?_ m!"" hq;intro v hv;obtain⟨v0,hv0,rfl⟩:=ce.mp hv;obtain⟨i,hi,rfl⟩:=ii.mp hv0;obtain⟨b,kv,its2,z,_,e1,_,⟨o,f1,f2,n,f3⟩,e3⟩:=tk2 h2 kp2 i ∅;rw[ρ hi] at e1;rw[Θ e1];obtain⟨v1,j1,rfl,⟨t1,rfl⟩,_⟩:=Ln (show Vals [.int z.1,.int z.2] its2 from e3);rw[dW f1 f3];exact .now;intro h2 kp2 Q' hq;rw[hal];refine dU (λi j C hi hj c=>?_) _ _ hrun hq;unfold kas_ask;obtain⟨b,kv,its2,z,a1,a2,a3,a4,a5⟩:=tk2 h2 kp2 i hi;obtain⟨b',kv',its3,z',c1,c2,c3,c4,c5⟩:=tk2 h2 kp2 j hj;rw[show acc.toList.getD i Value.none = .ref b by rw[ao,a2];rfl,show acc.toList.getD j Value.none = .ref b' by rw[ao,c2];rfl];refine rO a4 c4 a5 c5 ?_;rw[ao,ao,bh,bh,a1,c1] at c;have c:C (ltZ (ud9 kv.1) (ud9 kv'.1)) _:=c;rw[a3,c3] at c;exact c;intro h2 c kp2 e2;exact#[rfl,fin h2 c p (λb o hb=>kp2 b o (kp0 b o hb).1 (kp0 b o hb).2) hp e2]
def hz(z:Nat×Nat):Int:=reduceHash (Builtin.Tuple.tupleHashOf [hashInt z.1,hashInt z.2])
def Rs:List Nat->Nat->Bool
 | [],_=>true
 | r::l,acc=>!acc.testBit r&&Rs l (acc ||| 1 <<< r)
theorem eW:∀{l:List Nat}{acc:Nat},Rs l acc=true->l.Nodup/\∀r∈l,acc.testBit r=false
 | [],_,_=>#[sr,λr h=>by cases h]
 | r::l,acc,h=>by
   unfold Rs at h;obtain⟨h1,h2⟩:=gr.mp h;obtain⟨n,d⟩:=eW h2;have d2:∀x∈l,acc.testBit x=false/\r≠x:=λx hx=>by
     have:=d x hx;rw[Nat.testBit_or,Bool.or_eq_false_iff] at this;refine#[this.1,λe=>?_];subst e;have h3:=this.2;rw[Nat.one_shiftLeft,Nat.testBit_two_pow_self] at h3;cases h3
   refine#[ic.mpr #[λhm=>(d2 r hm).2 rfl,n],λx hx=>?_];rcases Ξ.mp hx with e | g
   rw[e];exact jx _▸h1;exact(d2 x g).1
theorem eX{α β:Type}{f:α->β}:∀{l:List α}{x y:α},(l.map f).Nodup->x∈l->y∈l->f x=f y->x=y
 | a::l,x,y,n,hx,hy,e=>by
   obtain⟨n1,n2⟩:=ic.mp n;rcases Ξ.mp hx with rfl | gx
   rcases Ξ.mp hy with rfl | gy
   rfl;exact xb0 (ce.mpr #[y,gy,e.symm]) n1;rcases Ξ.mp hy with rfl | gy
   exact xb0 (ce.mpr #[x,gx,e]) n1;exact eX n2 gx gy e
def prs76:List (Nat×Nat):=(cq 76).flatMap λa=>(cq (76-a)).map λb=>(a,b)
theorem rQ:Rs (prs76.map λz=>(hz z%30774).toNat) 0=true:=by decide +kernel
theorem ub6{z r:Nat×Nat}(hz1:z.1+z.2<76)(hr:r.1+r.2<76)(e:hz z=hz r):z=r:=by
 have mem:∀z:Nat×Nat,z.1+z.2<76->z∈prs76:=λz h=>List.mem_flatMap.mpr #[z.1,jv.mpr ∅,ce.mpr #[z.2,jv.mpr ∅,rfl]];exact eX (eW rQ).1 (mem z hz1) (mem r hr) (by rw[e])
theorem eY{α β:Type}[DecidableEq α]:∀{ys:List (α×β)},(ys.map (·.1)).Nodup->∀k,(ys.filter λz=>decide (z.1=k)).length<=1
 | [],_,_=>dv _
 | y::ys,n,k=>by
   obtain⟨n1,n2⟩:=ic.mp n;by_cases g:y.1=k;rw[List.filter_cons_of_pos (by simpa using g),Ψ,ka.mpr λz hz c=>n1 (ce.mpr #[z,hz,(of_decide_eq_true c).trans g.symm])];exact Γ _;rw[List.filter_cons_of_neg (by simpa using g)];exact eY n2 k
def Sml(k:List Key):Prop:=∃a b:Nat,k=pk (a,b)/\a+b<76
theorem rR{P:we}{k j:List Key}(hk:Sml k)(hj:Sml j)(e:tupleKeyHash (Cm P w) k=tupleKeyHash (Cm P w) j):k=j:=by
 obtain⟨a,b,rfl,h1⟩:=hk;obtain⟨c,d,rfl,h2⟩:=hj;have:=ub6 (z:=(a,b)) (r:=(c,d)) h1 h2 e;cases this;rfl
section
variable {P:we}{w:wf}{A:wg}{E:vz->wb->Prop}{s:wb}{d o:wa}{es:Array DictEntry}{ep:Nat}
theorem rS{id:String}{Q:Array DictEntry->wb->Prop}(m:DAt s.heap o es ep)(tu:∀e∈es.toList,∃b,e.key = .ref b/\s.TypeIs (.ref b) "tuple")(hf:∀e∈es.toList,¬(es.filter (·.hash==e.hash)).size>1)(q:Q es s):
   wx (xl P w) A (Builtin.Dict.entriesForEmpty id o) Q E s:=by
 obtain⟨ob,g1,g2,g3⟩:=m;unfold Builtin.Dict.entriesForEmpty;refine wu (wpAny_dictEntries g1 g3 (wu ?_));rw[<-Array.forIn_toList];refine wpAny_forIn_list _ (λyV _ s'=>s'=s/\∀e∈yV,e∈es.toList) _ ?_ (λ_ s' h=>?_) _ _ #[rfl,λ_ h=>h];rintro e yV _ s' ⟨rfl,hr⟩;obtain⟨b,eb,tb⟩:=tu e (hr e η);refine wu ?_;unfold Builtin.Dict.quietEq;rw[eb];refine wu (wpAny_specialOf tb PySem.F.slot_tuple_eq.lookup (wv ?_));rw[xb1 m!"",xb2 (hf e (hr e η))];exact wv #[rfl,λx hx=>hr x (ι _ hx)];rw[h.1];exact wv q
theorem rT{nm:String}{ep':Nat}{Q:Unit->wb->Prop}(ne:d≠o)(lo:(o==sysModules)=false)(md:DAt s.heap d (ϋ []) ep')(m:DAt s.heap o es ep)(hz:es.size<=wt)
   (tu:∀e∈es.toList,∃b,e.key = .ref b/\s.TypeIs (.ref b) "tuple") (hf:∀e∈es.toList,¬(es.filter (·.hash==e.hash)).size>1)
   (q:∀h' n,DAt h' d es n->df d s.heap h'->Q () { s with heap:=h' }):wx (xl P w) A (Builtin.Dict.mergeDict nm d o) Q E s:=by
 obtain⟨od,k1,k2,k3⟩:=id md;obtain⟨oo,g1,g2,g3⟩:=id m;unfold Builtin.Dict.mergeDict Builtin.Dict.showsAll;rw[xb2 (by simpa using ne),lo,xb2 ξ];refine wu (wv (wu (wpAny_dictEntries g1 g3 ?_)));dsimp only;by_cases he:es=(ϋ []);subst he;rw[xb2 f!""];refine wu (wpAny_dictEpoch g1 g3 (wu (wpAny_dictEntries g1 g3 (wu ?_))));rw[Std.Legacy.Range.forIn_eq_forIn_range'];exact wv (wv (q _ _ md (df.refl _ _)));have hal:(es.all λe=>(keyPart e.key).isSome)=false:=by
   obtain⟨e,hm⟩:∃e,e∈es.toList:=by
     cases h:es.toList with
     | nil=>exact xb0 (Array.toList_eq_nil_iff.mp h) he
     | cons e l=>exact#[e,η]
   obtain⟨b,eb,_⟩:=tu e hm;rw[<-Array.all_toList,List.all_eq_false];exact#[e,hm,by rw[eb];exact ξ]
 rw[hal,li,xb1 s!""];refine wu (wpAny_dictEntries k1 k3 ?_);rw[xb1 s!""];refine wu (rS m tu hf ?_);rw[xb1 (by simpa using he)];exact wu (wpAny_updateDictKeysTo k1 k3 (wv (q _ _ #[_,ck _ k1 (Obj.isFreed_of_dict (ph k3 _)),k2.mapDictKeys _,ph k3 _] (df.update ..))) ∅)
end
theorem rV:DN X (.type "dict") (λxs H Q=>∃d,∃kvs:List (List Key×V),xs=[.ref d]/\H d=some (.dT kvs)/\(∀kv∈kvs,Sml kv.1)/\∀D,H D=none->Q (.ref D) (upd H D (.dT kvs))):=by
 intro ϊ s σ H xs us0 Q I r h;obtain⟨d,kvs,rfl,e,hs,q⟩:=h;obtain⟨u,rfl,rx⟩:=L9 r;cases rx;obtain⟨hz,lo,ys,rp,o,es,ep,g1,g2,g3,g4,nd⟩:=(show Bc X.prog X.w H s.heap d (.dT kvs) from I.hok d _ e)
 have hly:=Rr rp;have entY:∀y∈ys,H y.2.1=some (.tup (y.1.map kV))/\Sml y.1:=λy hy=>by
   obtain⟨i,hi⟩:=aj hy;have hi2:i<kvs.length:=by rw[hly];exact(γ.mp hi).1
   obtain⟨y',hy',e1,e2,_⟩:=Rb rp (ρ hi2);rw[hi] at hy';cases hy';exact#[by rw[<-e1];exact e2,by rw[<-e1];exact hs _ (bz hi2)]
 have ent:∀x∈es.toList,∃y∈ys,x=entryOfKey (tupleKind (Cm X.prog X.w)) y:=λx hx=>by
   rw[g4] at hx;obtain⟨y,hy,rfl⟩:=ce.mp hx;exact#[y,hy,rfl]
 have hsz:es.size=kvs.length:=by rw[<-du,g4,Φ,hly]
 have hf:∀x∈es.toList,¬(es.filter (·.hash==x.hash)).size>1:=λx hx hgt=>by
   obtain⟨y,hy,rfl⟩:=ent x hx;have:(es.filter (·.hash==(entryOfKey (tupleKind (Cm X.prog X.w)) y).hash)).size=(ys.filter λz=>decide (z.1=y.1)).length:=by
     rw[<-du,Array.toList_filter,g4,List.filter_map,Φ]
     congr 1
     refine List.filter_congr λz hz=>?_;show (tupleKeyHash (Cm X.prog X.w) z.1==tupleKeyHash (Cm X.prog X.w) y.1)=decide (z.1=y.1);by_cases g:z.1=y.1;rw[g,beq_self_eq_true,xb3 rfl];rw[xb4 g];exact beq_false_of_ne λc=>g (rR (entY z hz).2 (entY y hy).2 c)
   have:=eY nd y.1;lia
 have m:DAt s.heap d es ep:=#[o,g1,g2,g3]
 have tu:∀x∈es.toList,∃b,x.key = .ref b/\s.TypeIs (.ref b) "tuple":=λx hx=>by
   obtain⟨y,hy,rfl⟩:=ent x hx;obtain⟨_,_,⟨ob,f1,f2,_⟩,_⟩:=I.tuple (SqT.of (entY y hy).1);exact#[y.2.1,rfl,ob,f1,f2]
 refine callType_codes (Q₁:=λobj s₁=>obj = .ref s.heap.objs.size/\s₁={ s with heap:=s.heap.push { cls:=.type "dict",data:=.dict (ϋ []) } }) F.kt_called_dict (F.kt_typeCall_dict_1 _) F.entry_dict_init (kt_code_dict_new _ #[rfl,rfl]) ?_;rintro obj s₁ ⟨rfl,rfl⟩;have gn:(s.heap.push { cls:=.type "dict",data:=.dict (ϋ []) }).get? s.heap.objs.size=some { cls:=.type "dict",data:=.dict (ϋ []) }:=ak _ rfl;have kp:∀b ob,s.heap.get? b=some ob->(s.heap.push { cls:=.type "dict",data:=.dict (ϋ []) }).get? b=some ob:=λb ob h=>μ _ h;have T1:Shared.TypeIs { s with heap:=s.heap.push { cls:=.type "dict",data:=.dict (ϋ []) } } (.ref s.heap.objs.size) "dict":=#[_,gn,rfl]
 have T2:Shared.TypeIs { s with heap:=s.heap.push { cls:=.type "dict",data:=.dict (ϋ []) } } (.ref d) "dict":=#[_,kp d _ g1,g2.1]
 have ne:s.heap.objs.size≠d:=λz=>xb0 (af g1) (by rw[z];exact cv _);refine#[T1,F.args_dict_init_2 _ _,?_];unfold Builtin.«dict.__init__» Builtin.Dict.selfAndRest;refine wu (wu (wpAny_notOrdered_dict T1 ?_));refine show wx _ _ (pure (s.heap.objs.size,[Value.ref d])) _ _ _ from wv ?_;show wx _ _ (Builtin.Dict.updateFrom "dict.__init__" s.heap.objs.size (.ref d) [] .none) _ _ _;unfold Builtin.Dict.updateFrom;refine wu (wpAny_typeOf T2 ?_);rw[xb2 m!""];unfold Builtin.Dict.merge Builtin.Dict.readDirectly;refine wu (wu (wu (wpAny_isInstance T2 isSubtype_dict_dict ?_)));simp only [Bool.not_true,fe,if_false];refine wu (wpAny_specialOf T2 F.slot_dict_iter.lookup (wv ?_));simp only [beq_self_eq_true,if_true];refine wu (wv (rT ne lo #[_,gn,#[rfl,rfl,rfl],rfl] (m.keep λob=>kp d ob) (by rw[hsz];exact hz) (λx hx=>?_) hf λh' n dn sb=>?_));obtain⟨b,eb,ob,f1,f2⟩:=tu x hx;exact#[b,eb,ob,kp _ _ f1,f2];refine show wx _ _ (Builtin.Dict.addKeywords s.heap.objs.size [] >>= _) _ _ _ from wu (wv (wv #[rfl,?_]));have kp2:∀b ob,s.heap.get? b=some ob->h'.get? b=some ob:=λb ob h=>(sb.2 b (bi (af h))).trans (kp b ob h);have nD:H s.heap.objs.size=none:=I.hok.fresh (Γ _);obtain⟨on,f1,f2,f3⟩:=dn;refine#[.ref s.heap.objs.size,_,I.laid (t':=s.toks) kp2 (Γ _) (show Bc X.prog X.w _ h' _ (.dT kvs) from #[hz,?_,ys,?_,on,es,n,f1,f2,f3,g4,nd]),rfl,q _ nD];exact beq_false_of_ne (my I.big);exact Paired.mapP rp λp q t=>#[t.1,by rw[AE (λc=>by have:=t.2.1;rw[c,nD] at this;cases this)];exact t.2.1,t.2.2]
section
variable {P:we}{w:wf}{A:wg}{E:vz->wb->Prop}{s:wb}{d:wa}{es:Array DictEntry}{ep:Nat}
theorem rW(lo:(d==sysModules)=false):MeetsIn P w (Builtin.«dict.__len__» #[[.ref d],[]]) (λ_ R s=>DAt s.heap d es ep/\R (.ok (.ret (.int es.size s.toks))) { s with toks:=s.toks+1 }):=
 .of_wp λA R s ⟨⟨o,g1,_,g3⟩,h⟩=>by
   refine show wx _ _ (dictSize d >>= _) _ _ s from ?_;unfold dictSize;refine wu (wu (wpAny_dictEntries g1 g3 (wv (show wx _ _ (Builtin.Dict.pendingCount d >>= _) _ _ s from wu (wpAny_pendingCount_other lo (wpAny_ret_mkInt ?_))))));rw[qz];exact h
theorem fA(lo:(d==sysModules)=false)(m:DAt s.heap d es ep)(hz:es.size<=wt)(q:Q (.int es.size (s.toks+1)) { s with toks:=s.toks+1+1 }):
   wx (xl P w) A (Builtin.«len» #[[.ref d],[]]) (λf s'=>∃r,f = .done (.ret r)/\Q r s') E s:=by
 have hf:(es.size:Int)<2^63:=by rw[sizeLine_eq] at hz;lia
 unfold Builtin.«len»;refine wu (m:=oneArg "len" _) (wv (wu (m:=callSpecial? (.ref d) (iz "__len__")) ?_));refine wpAny_callSpecial?_slot (name:=iz "__len__") m.ty F.slot_dict_len (call_meetsIn F.slot_dict_len m.ty F.entry_dict_len (F.args_dict_len_1 _) (rW lo) #[m,?_]);refine show wx _ _ _ _ _ { s with toks:=s.toks+1 } from wu (wpAny_holding (wv (wu (wpAny_letGo ?_))));refine show wx _ _ (if ((es.size:Nat):Int)<0 then _ else _) _ _ _ from ?_;rw[xb2 ∅];refine show wx _ _ (if ((es.size:Nat):Int)≥2^63 then _ else _) _ _ _ from ?_;rw[xb2 ∅];exact wu (wpAny_mkInt (wv #[_,rfl,q]))
theorem rX{Q:Bool->wb->Prop}(lo:(d==sysModules)=false)(m:DAt s.heap d es ep)(hz:es.size<=wt)(q:Q (decide (es.size≠0)) { s with toks:=s.toks+1+1 }):wx (xl P w) A (truthy (.ref d)) Q E s:=by
 have key:wx (xl P w) A (runValue (.builtin "len" #[[.ref d],[]])) (λr s'=>r = .int es.size (s.toks+1)/\Q (decide (es.size≠0)) s') E s:=by
   refine wpAny_runValue (codeAny_builtin entry_len ?_);rw[Around.under_plainId plain_len _];refine ww (fA (Q:=λr s'=>r = .int es.size (s.toks+1)/\Q (decide (es.size≠0)) s') lo m hz #[rfl,q]) (λf s' h=>?_) λ_ _ e=>e;obtain⟨r,rfl,hq⟩:=h;exact hq
 have e:((es.size:Int) != 0)=decide (es.size≠0):=by cases h:es.size <;> simp <;> lia
 have last:∀{m:vz->xq Bool},(∀t,m (.int es.size t)=pure ((es.size:Int) != 0))->wx (xl P w) A (runValue (.builtin "len" #[[.ref d],[]]) >>= m) Q E s:=λhm=>wu (ww key (λr s' h=>by
   obtain⟨rfl,hq⟩:=h;rw[hm,e];exact wv hq) λ_ _ z=>z)
 unfold truthy
 first
   | refine wu (wpAny_callSpecial?_none (name:=iz "__bool__") m.ty noBool_dict ?_)
   | refine wu (wv (wu (wpAny_callSpecial?_none (name:=iz "__bool__") m.ty noBool_dict ?_)))
 first
   | refine wu (wpAny_specialOf (name:=iz "__len__") m.ty F.slot_dict_len.lookup ?_)
   | refine wu (wv (wu (wpAny_specialOf (name:=iz "__len__") m.ty F.slot_dict_len.lookup ?_)))
 first
   | exact last λ_=>rfl
   | exact wu (wv (last λ_=>rfl))
end
theorem uc8{s:wb}(I:Inv X ϊ σ H s)(e:H d=some (.dT kvs)):∃es ep,DAt s.heap d es ep/\es.size=kvs.length/\(d==sysModules)=false/\es.size<=wt:=by
 obtain⟨z,y,xs,r,o,es,ep,g1,g2,g3,g4,_⟩:=(show Bc X.prog X.w H s.heap d (.dT kvs) from I.hok d _ e)
 have hsz:es.size=kvs.length:=by rw[<-du,g4,Φ,Rr r]
 exact#[es,ep,#[o,g1,g2,g3],hsz,y,by rw[hsz];exact z]
section
variable {X:Cx}{a:wk}{ta:TE}
theorem rY:DN X (.builtin "len") (λxs H Q=>∃a,∃kvs:List (List Key×V),xs=[V.ref a]/\H a=some (.dT kvs)/\Q (.int kvs.length) H):=by
 intro ϊ s σ H xs us Q I r h;obtain⟨a,kvs,rfl,ha,q⟩:=h;obtain⟨u,rfl,ru⟩:=L9 r;cases ru;obtain⟨es,ep,m,hsz,lo,hz⟩:=uc8 I ha;exact ly kind_len plain_len entry_len (args_len1 _) (fA lo m hz #[.int kvs.length,H,I.tok _,#[_,by rw[hsz]],q])
theorem rZ(ha:PE X a ta)(he:∀whole,isTrue a X.env whole=(do let v <-whole;standAt a.pos;holding [v] (truthy v))):
   PT X a (λσ H Q=>ta σ H λx H'=>∃p,∃kvs:List (List Key×V),x = .ref p/\H' p=some (.dT kvs)/\Q (decide (kvs.length≠0)) H'):=by
 intro ϊ s σ H Q I h;refine isTrue_plain (thn (ha ϊ s σ H _ I h) λv s1 hq=>?_) (he _);obtain⟨x,H1,I1,r1,p,kvs,ex,e,q1⟩:=hq;subst ex;obtain rfl:v=Value.ref p:=r1;obtain⟨es,ep,m,hsz,lo,hz⟩:=uc8 I1 e;exact rX lo m hz #[H1,I1.tok _,by rw[hsz];exact q1]
end
section
variable {X:Cx}
theorem Mv{y:Str}{k:Nat}{ys:List Str}{ks:List Nat}(h1:X.N[k]?=some y)(h2:X.env.kindOf y=some .cell)(h3:(relabel scope X.env).names.lookup y=some .cell)(c:EE X scope ys ks):EE X scope (y::ys) (k::ks):=#[by rw[Ψ,Ψ,c.1],λj z i e1 e2=>by
 cases j with
 | zero=>
   have g1:y=z:=by simpa using e1
   have g2:k=i:=by simpa using e2
   subst g1 g2;exact#[h1,h2,h3]
 | succ j=>exact c.2 j z i (by simpa using e1) (by simpa using e2)]
def Kc(X:Cx)(L:List Str):Prop:=∀n∈L,X.env.kindOf n=some .cell
theorem ua9:Kc X []:=λn h=>by cases h
theorem Mw{n:Str}{L:List Str}(h:X.env.kindOf n=some .cell)(k:Kc X L):Kc X (n::L):=λm hm=>by
 rcases Ξ.mp hm with e | e
 rw[e];exact h;exact k m e
theorem sB(L:List Str)(h:∀y∈scope.names,y.2 = .free->y.1∈L)(k:Kc X L):∀y∈scope.names,y.2 = .free->X.env.kindOf y.1=some .cell:=λy hy hf=>k _ (h y hy hf)
end
section
variable {X:Cx}{j k:Nat}{C:W7->wa}{ps:List Str}{sp:W7->Sp}{dvs:List V}{m:Str}{pos apos:Pos}{o:wk}{to:TE}
theorem sC(D:A6 X.prog X.w X.K X.mg X.base C m j ps dvs sp)(hr:Room k X.A)(ho:PE X.nox o to)(hk:j<=k:=by decide)
   (ht:xk (.Call (.Attribute o m apos) [] [] pos) X.env=(do
     let ov <-xk o X.env
     standAt apos.atName
     let (f,first) <-holding [ov] (getMethod ov m pl)
     xi pos f first (wz pos (wo [] X.env)) (backToKw pos (keywordEach [] X.env))):=by rfl):
   PX X (.Call (.Attribute o m apos) [] [] pos) (Mp C m sp dvs to ue1):=by
 intro ϊ s σ H QV EX Qp W I h hv hx;refine methodCall_KW (pl:=pl) (ww (ho ϊ s σ H _ (I.wish _) h) (λu s1 hq=>?_) (λ_ _ z=>z.elim)) ht;obtain⟨x,H1,I1',rx,i,a,dx,fs,ex,ea,l,q⟩:=hq;have I1:=I1'.unwish;subst ex;obtain rfl:u=Value.ref a:=rx;obtain⟨f,fd,ds,F,hm,hb,hd⟩:=(D i).ex;refine K2 I1 ea (D i).cl hm l ?_;exact callWith_K0 (first:=[.ref a]) I1.kIn hm.kp (TK (us:=[.ref a]) (vs:=[.ref a]) F (hr.mono hk) hb hd I1 (.cons rfl .nil) q hv λy s' hq=>hx H1 s1 y s' I1 hq)
end
end Stow
def Stow.wA(l:List Lean.Name):Array (Lean.TSyntax ``Lean.Parser.Tactic.tacticSeq):=Lean.Unhygienic.run (l.toArray.mapM λn=>`(tacticSeq| with_reducible refine $(Lean.mkIdent n) ?_))
local macro_rules | `(tactic| walk_at "D")=>`(tactic| try dsimp only[L2.cxOf,L2.Cx.nox])
local macro_rules
 | `(tactic| walk_at "S")=>`(tactic| first
   | exact Stow.set0_c
   | exact Stow.set0_1
   | exact Stow.set0_0
   | ((refine Stow.setS_c (r:=?r) ?h);(case h=>walk_at "S"))
   | ((refine Stow.setS_1 (r:=?r) ?h);(case h=>walk_at "S"))
   | ((refine Stow.setS_0 (r:=?r) ?h);(case h=>walk_at "S")))
local macro_rules
 | `(tactic| walk_at "k")=>`(tactic| first
   | with_reducible assumption
   | exact L2.upd_same
   | ((with_reducible refine Stow.look_ne ?a ?b);(case a=>(first | assumption | exact Ne.symm (by assumption)));(case b=>walk_at "k"))
   | ((with_reducible refine Stow.look_put ?a ?b);(case a=>(first | assumption | walk_at "k"));(case b=>walk_at "k"))
   | ((with_reducible refine Stow.look_tup (ys:=?ys) ?a ?b);(case a=>walk_at "k");(case b=>walk_at "k"))
   | assumption)
local macro_rules
 | `(tactic| walk_at "q")=>`(tactic| first
   | with_reducible assumption
   | exact L2.SqL.of (by walk_at "k")
   | ((with_reducible refine Stow.seq_put ?a ?b);(case a=>assumption);(case b=>walk_at "q"))
   | assumption)
local macro_rules
 | `(tactic| walk_at "n")=>`(tactic| first | assumption | omega | (simp only [List.length_map,List.length_set,List.length_append,List.length_cons,List.length_nil] <;> omega))
local macro_rules
 | `(tactic| walk_at "z")=>`(tactic| first | exact Stow.small4000 (by first | omega | (simp only [List.length_map,List.length_set,List.length_append,List.length_cons,List.length_nil] <;> omega)))
local macro_rules
 | `(tactic| walk_at "d")=>`(tactic| first
   | (show (0:Int)<_;first | decide | omega)
   | (show (0:Int)<=_;first | decide | omega)
   | exact Or.inr ⟨by decide,by decide⟩
   | exact Or.inl ⟨by decide,by decide⟩
   | exact⟨by decide,by decide⟩
   | exact⟨by decide,by decide,by decide⟩
   | exact⟨by decide,by decide,by assumption⟩
   | exact⟨by decide,by decide,by omega⟩
   | exact⟨by omega,by omega,by decide⟩
   | exact Or.inr ⟨by omega,by omega⟩
   | exact Or.inl ⟨by omega,by omega⟩
   | exact⟨by omega,by omega⟩)
local macro_rules
 | `(tactic| walk_at "ty")=>`(tactic| first | exact L2.TyOf.int _ | exact L2.TyOf.bl _ | exact L2.TyOf.non | ((refine L2.TyOf.lst (xs:=?xs) ?h);(case h=>walk_at "k")) | ((refine L2.TyOf.tup (xs:=?xs) ?h);(case h=>walk_at "k")) | exact L2.TyOf.str _)
local macro_rules
 | `(tactic| walk_at "K")=>`(tactic| first | exact Stow.kit_ii | exact Stow.kit_ib | exact Stow.kit_bb | exact Stow.kit_ll | exact Stow.kit_tt)
local macro_rules
 | `(tactic| walk_at "sp")=>`(tactic| fail "no promise")
def Stow.wq0:=Stow.wA [`Stow.r_seq,`Stow.r_chain,`Stow.r_asg]
def Stow.wq1:=Stow.wA [`Stow.r_gname,`Stow.r_op,`Stow.r_cons,`Stow.r_nil,`Stow.r_c,`Stow.r_rI0,`Stow.r_call,`Stow.r_cb,`Stow.r_test,`Stow.r_tB,`Stow.r_bl,`Stow.r_ifS,`Stow.r_ret,`Stow.r_rt,`Stow.r_drop,`Stow.r_next,`Stow.r_not,`Stow.r_and,`Stow.r_or,`Stow.r_andV,`Stow.r_orV,`Stow.r_notV,`Stow.r_ifE,`Stow.r_ifN,`Stow.r_eqI,`Stow.r_neI,`Stow.r_isN,`Stow.r_int,`Stow.r_eqB,`Stow.r_neB,`Stow.r_tup,`Stow.r_lst,`Stow.r_bm,`Stow.r_bm0,`Stow.r_sl,`Stow.r_part,`Stow.r_nopart,`Stow.r_un,`Stow.r_rU,`Stow.r_intB,`Stow.r_intI,`Stow.r_truB,`Stow.r_gsub,`Stow.r_retN,`Stow.r_ct,`Stow.r_bk,`Stow.r_break,`Stow.r_cont,`L2.iteT,`L2.iteF]
def Stow.wq2:=Stow.wA [`Stow.r_raise,`Stow.r_raiseI,`Stow.r_tryAs,`Stow.r_try,`Stow.r_fldX,`Stow.r_for,`Stow.r_iL,`Stow.r_iR1,`Stow.r_iR2,`Stow.r_comp]
def Stow.wq3:=Stow.wA [`Stow.r_makeX,`Stow.r_makeI,`Stow.r_fldN]
def Stow.wq4:=Stow.wA [`Stow.r_tryE,`Stow.r_tryA,`Stow.r_xCall,`Stow.r_tryS,`Stow.r_xSet,`Stow.r_xIf,`Stow.r_xMeth,`Stow.r_xMethD,`Stow.r_xMake,`Stow.r_methD,`Stow.r_isB]
local macro_rules
 | `(tactic| walk_at "t")=>`(tactic| first
   | ((with_reducible refine Stow.r_var (v:=?v) ?e ?_);(case e=>exact rfl))
   $[| $(Stow.wq0):tacticSeq]*
   | ((with_reducible refine Stow.r_gnameN (σ':=?s) ?e ?_);(case e=>with_reducible (walk_at "S")))
   $[| $(Stow.wq1):tacticSeq]*
   | ((with_reducible refine Stow.r_rI ?c ?_);(case c=>walk_at "d"))
   | ((with_reducible refine Stow.r_tyL (xs:=?xs) ?h ?_);(case h=>walk_at "k"))
   | ((with_reducible refine Stow.r_appendI (ns:=?ns) ?h ?z ?_);(case h=>walk_at "k");(case z=>walk_at "z"))
   | ((with_reducible refine Stow.r_append (xs:=?xs) ?h ?z ?_);(case h=>walk_at "k");(case z=>walk_at "z"))
   | ((with_reducible refine Stow.r_gtup (xs:=?xs) ?h ?l ?_);(case h=>walk_at "k");(case l=>exact rfl))
   | (with_reducible refine Stow.r_gcons ?_)
   | (with_reducible refine Stow.r_gnil ?_)
   | ((with_reducible refine Stow.r_ixI (ns:=?ns) ?h ?a ?b ?_);(case h=>walk_at "q");(case a=>walk_at "n");(case b=>walk_at "n"))
   | ((with_reducible refine Stow.r_ixT (xs:=?xs) (v:=?v) ?h ?e ?_);(case h=>walk_at "k");(case e=>exact rfl))
   | ((with_reducible refine Stow.r_setI (ns:=?ns) ?h ?a ?b ?_);(case h=>walk_at "k");(case a=>walk_at "n");(case b=>walk_at "n"))
   | ((with_reducible refine Stow.r_sllG (ns:=?ns) ?h ?_);(case h=>walk_at "q"))
   | ((with_reducible refine Stow.r_sll (xs:=?xs) ?h ?_);(case h=>walk_at "q"))
   | ((with_reducible refine Stow.r_lenI (ns:=?ns) ?h ?_);(case h=>walk_at "q");(try rw[List.length_map]))
   | ((with_reducible refine Stow.r_lenL (xs:=?xs) ?h ?_);(case h=>walk_at "k"))
   | ((with_reducible refine Stow.r_lenT (xs:=?xs) ?h ?_);(case h=>walk_at "k"))
   | ((with_reducible refine Stow.r_listI (xs:=?xs) ?h ?_);(case h=>walk_at "q"))
   | ((with_reducible refine Stow.r_isi (t:=?t) (b:=?b) ?y ?e ?_);(case y=>walk_at "ty");(case e=>walk_at "K"))
   | ((with_reducible refine Stow.r_new ?h ?_);(case h=>(first | exact Nat.zero_le _ | simp)))
   | ((with_reducible refine Stow.r_truL (xs:=?xs) ?h ?_);(case h=>walk_at "q"))
   | ((with_reducible refine Stow.r_ifdT ?c ?_);(case c=>(first | omega | exact rfl)))
   | ((with_reducible refine Stow.r_ifdF ?c ?_);(case c=>(first | omega | (intro h;cases h;done))))
   $[| $(Stow.wq2):tacticSeq]*
   | ((with_reducible refine Stow.r_isiX (C:=?C) (od:=?od) (b:=?b) ?h ?z ?e ?_);(case h=>walk_at "k");(case z=>assumption);(case e=>assumption))
   | ((with_reducible refine Stow.r_isiN (C:=?C) (od:=?od) (b:=?b) ?h ?z ?n ?e ?_);(case h=>walk_at "k");(case z=>assumption);(case n=>exact λz=>nomatch z);(case e=>assumption))
   $[| $(Stow.wq3):tacticSeq]*
   | ((with_reducible refine Stow.r_catG (xs:=?xs) (zs:=?zs) ?h ?g ?z ?_);(case h=>walk_at "k");(case g=>walk_at "k");(case z=>walk_at "n"))
   | ((with_reducible refine Stow.r_cat (xs:=?xs) (zs:=?zs) ?h ?g ?z ?_);(case h=>walk_at "k");(case g=>walk_at "k");(case z=>(refine Nat.le_of_lt (L2.small1000 ?_);first | omega | simp)))
   | ((with_reducible refine Stow.r_slS ?h ?_);(case h=>decide))
   | (with_reducible refine Stow.r_max ?_)
   | (with_reducible refine Stow.r_fld ?_)
   | ((with_reducible refine Stow.r_at (C:=?C) (dx:=?dx) (fs:=?fs) (v:=?v) ?h ?c ?n ?l ?_);(case h=>walk_at "k");(case c=>assumption);(case n=>assumption);(case l=>exact rfl))
   | (with_reducible refine Stow.r_sfld ?_)
   | ((with_reducible refine Stow.r_sat (C:=?C) (dx:=?dx) (fs:=?fs) ?h ?c ?n ?l ?_);(case h=>walk_at "k");(case c=>assumption);(case n=>assumption);(case l=>(first | decide | simp)))
   | (with_reducible refine Stow.r_meth ?_)
   | ((with_reducible refine Stow.r_mat (dx:=?dx) (fs:=?fs) ?h ?l ?_);(case h=>walk_at "k");(case l=>exact rfl))
   | (with_reducible refine Stow.r_make ?_)
   | (with_reducible refine Stow.r_compG ?_)
   | ((with_reducible refine Stow.r_isiO (C:=?C) (dx:=?dx) (fs:=?fs) (b:=?b) ?h ?z ?e ?_);(case h=>walk_at "k");(case z=>assumption);(case e=>assumption))
   $[| $(Stow.wq4):tacticSeq]*
   | ((with_reducible refine Stow.r_notIn (xs:=?xs) ?h ?f ?g ?_);(case h=>walk_at "k");(case f=>exact rfl);(case g=>exact rfl))
   | (with_reducible refine Stow.r_nx ?_)
   | walk_at "sp")
local macro_rules
 | `(tactic| walk_at "")=>`(tactic| repeat walk_at "t")
local macro_rules
 | `(tactic| walk_at "l")=>`(tactic| first | (rintro ⟨e,_⟩;exact congrArg List.length e) | (rintro ⟨_,h⟩;revert h;walk_at "l"))
local macro_rules
 | `(tactic| walk_at "s")=>`(tactic| repeat (first | (with_reducible refine Stow.r_nx ?_) | ((fail_if_success (with_reducible refine Stow.r_isIf ?_));walk_at "t")))
local macro_rules
 | `(tactic| walk_at "a")=>`(tactic| repeat ((fail_if_success (with_reducible refine Stow.r_isAnd ?_));(fail_if_success (with_reducible refine Stow.r_isOr ?_));walk_at "t"))
local macro_rules
 | `(tactic| walk_at "e")=>`(tactic| repeat (first | (with_reducible refine Stow.r_nx ?_) | ((fail_if_success (with_reducible refine Stow.r_isSeq ?_));walk_at "t")))
local macro_rules
 | `(tactic| walk_at "1")=>`(tactic| ((with_reducible refine Stow.r_seq ?_);walk_at "e"))
def Stow.wq5:=Stow.wA [`Stow.r_dget,`Stow.r_dput,`Stow.r_forD,`Stow.r_forI,`Stow.r_dnew,`Stow.r_xExp]
local macro_rules
 | `(tactic| walk_at "t")=>`(tactic| first
   $[| $(Stow.wq5):tacticSeq]*
   | ((with_reducible refine Stow.r_tyD (kvs:=?kvs) ?h ?_);(case h=>walk_at "k")))
def Stow.wq6:=Stow.wA [`Stow.r_eqSS,`Stow.r_neSS,`Stow.r_eqSt,`Stow.r_neSt,`Stow.r_methF,`Stow.r_methFD,`Stow.r_methS]
local macro_rules
 | `(tactic| walk_at "t")=>`(tactic| first
   | (with_reducible refine Stow.r_dIn ?_)
   | (with_reducible refine Stow.r_dPop ?_)
   | ((with_reducible refine Stow.r_truD (kvs:=?kvs) ?h ?_);(case h=>walk_at "k"))
   $[| $(Stow.wq6):tacticSeq]*
   | ((with_reducible refine Stow.r_matS (i:=?i) (dx:=?dx) (fs:=?fs) ?o ?h ?l ?_);(case h=>walk_at "k");(case o=>(first | assumption | exact True.intro));(case l=>(first | exact Stow.fsF_none (by decide) (by decide) (by decide) | exact rfl)))
   | (with_reducible refine Stow.r_xMethF ?_)
   | (with_reducible refine Stow.r_xMethFD ?_)
   | ((with_reducible refine Stow.r_matF (i:=?i) (dx:=?dx) (fs:=?fs) ?h ?l ?_);(case h=>walk_at "k");(case l=>(first | exact Stow.fsF_none (by decide) (by decide) (by decide) | exact rfl)))
   | ((with_reducible refine Stow.r_at (C:=?C) (dx:=?dx) (fs:=?fs) (v:=?v) ?h ?c ?n ?l ?_);(case h=>walk_at "k");(case c=>assumption);(case n=>assumption);(case l=>exact Stow.fsF_cells))
   | ((with_reducible refine Stow.r_sat (C:=?C) (dx:=?dx) (fs:=?fs) ?h ?c ?n ?l ?_);(case h=>walk_at "k");(case c=>assumption);(case n=>assumption);(case l=>exact Stow.fsF_few)))
def Stow.wq7:=Stow.wA [`Stow.i_long,`Stow.i_live,`Stow.i_whole]
local macro_rules
 | `(tactic| walk_at "sp")=>`(tactic| first
   $[| $(Stow.wq7):tacticSeq]*
   | ((with_reducible refine Stow.i_cell (ns:=?ns) ?h ?a ?_);(case h=>walk_at "q");(case a=>walk_at "nn"))
   | ((with_reducible refine Stow.i_can (ns:=?ns) ?h ?a ?b ?_);(case h=>walk_at "q");(case a=>walk_at "n");(case b=>walk_at "n"))
   | ((with_reducible refine Stow.i_bad (ns:=?ns) ?h ?a ?b ?_);(case h=>walk_at "q");(case a=>walk_at "n");(case b=>walk_at "n")))
local macro_rules
 | `(tactic| walk_at "nn")=>`(tactic| first | decide | omega | exact Int.emod_nonneg _ (by decide) | exact Int.emod_nonneg _ (by omega))
namespace Stow
open PySem L2 PyProof.Rows
abbrev xa8(a:wa):Option V:=some (.ref a)
abbrev xa9(n:Int):Option V:=some (.int n)
abbrev ό:List Str:=["self","place","count","bound"]
abbrev ύ:List Str:=["self","count","bound"]
abbrev ώ:List Str:=["cells","at"]
abbrev Ϗ:List Str:=["at","long","live"]
abbrev ϐ:List Str:=["self","size"]
abbrev ϑ:List Str:=["self","cells"]
abbrev ϒ:List Str:=["self","place"]
abbrev ϓ:List Str:=["_law_known_here","_law_way_here","_law_place","_law_told","_law_k","_law_number_here","_law_least"]
abbrev ϔ:List Str:=["self","long","bound"]
abbrev ϕ:List Str:=["_law_keeper","_law_way_here","_law_place","_law_count","_law_k","_law_number_here"]
abbrev ϖ:List Str:=["self"]
abbrev ϗ:List Str:=["_law_keepers","_law_known_here","_law_kind","_law_cell"]
abbrev Ϙ:List Str:=["cells","shelf","size"]
abbrev ϙ:List Str:=["self","place","k"]
abbrev Ϛ:List Str:=["at","place"]
abbrev ϛ:List Str:=["count","bound"]
abbrev Ϝ:List Str:=["self","behind"]
abbrev ϝ:List Str:=["number"]
abbrev Ϟ:List Str:=["_law_keepers","_law_known_here","_law_cell"]
abbrev ϟ:List Str:=["_law_way_here","_law_count","_law_k","_law_number_here","_law_one"]
abbrev Ϡ:List Str:=["_law_keeper","_law_known_here","_law_cell"]
abbrev ϡ:List Str:=["cells"]
abbrev Ϣ:List Str:=["word","size","shelf"]
abbrev ϣ:List Str:=["cells","begin","shelf"]
abbrev Ϥ:List Str:=["cells","source","goal","count"]
abbrev ϥ:List Str:=["cells","begin","shelf","size"]
abbrev Ϧ:List Str:=["_law_script","_law_k"]
abbrev ϧ:List Str:=["cells","begin","end"]
abbrev Ϩ:List Str:=["pieces","at","long"]
abbrev ϩ:List Str:=["cells","at","place","long"]
abbrev Ϫ:List Str:=["cells","at","long","block"]
abbrev ϫ:List Str:=["self","place","k","number"]
abbrev Ϭ:List Str:=["cells","at","long","live"]
abbrev ϭ:List Str:=["_law_found","_law_cells"]
abbrev Ϯ:List Str:=["_law_found","_law_due"]
abbrev ϯ:List Str:=["_law_kind","_law_cell"]
abbrev ϰ:List Str:=["_law_keeper"]
abbrev ϱ:List Str:=["piece","long","bound"]
abbrev ϲ:List Str:=["cells","long","bound"]
abbrev ϳ:List Str:=["self","size","shelf"]
abbrev ϴ:List Str:=["cells","shelf"]
abbrev ϵ:List Str:=["size","shelf"]
abbrev Ϸ:List Str:=["long","live"]
abbrev ϸ:List Str:=["cells","end"]
abbrev Ϲ:List Str:=["word","size"]
abbrev Ϻ:List Str:=["_law_script"]
abbrev be:List Str:=["self","cell"]
abbrev eC:List Str:=["at","shelf"]
abbrev gs:List Str:=["_law_found"]
abbrev mr:List Str:=["pieces","block"]
abbrev so:List Str:=["_law_cell"]
abbrev xa0:List Str:=["begin","shelf"]
abbrev xa1:List Str:=["cells","cell"]
abbrev xa2:List Str:=["_law_keepers"]
abbrev xa3:List Str:=["cells","at","piece"]
abbrev xa4:List Str:=["_law_cells"]
abbrev xa5:List Str:=["_law_piece"]
abbrev xa6:List Str:=["ranked"]
abbrev xa7:List Str:=["self","long","bound","cells","spots"]
variable{N tn₀ m:Nat}{x p0 p1 p2 wd:Str}{q q':St7}{K:δ}{mg:Str->Option vz}{n k c b L p ct:Int}{f₀ a T₀ dx a' x1:wa}{fd₀:wc}{i:W7}{r:V->List V->Hp->VK->Prop}{cs cs1 cs':List Int}{ps ds:List Pc}{z:Pc}{tk₀:Tok}{tc₀:vz}{td₀:Option wa}{ts₀ E7 Fb Ff Fj Fn Fr Fv Fz:Array (Option vz)}{fs:List (Str×V)}{H H':Hp}{o:HO}{v:V}{C:W7->wa}{kv:List Key×V}{kvs:List (List Key×V)}{D:Ends}{σ:L2.St}{ys us:List V}{xss:List (List V)}{XP:(Str->Option vz)->xt->Prop}{YP:wf->xt->Prop}
theorem fS{N Q:List Str}{sc:wm}(a:sc.kind = .function:=by rfl)(b:sc.isCoroutine=false:=by rfl)(c:sc.isGenerator=false:=by rfl)(d:N.Nodup:=by decide +kernel)(e:N.take Q.length=Q:=by rfl)(f:∀x∈Q,sc.names.lookup x=some .local\/sc.names.lookup x=some .cell:=by decide +kernel)(g:∀y∈sc.names,y.2≠.free:=by decide +kernel):yD N Q sc:=#[a,b,c,d,e,f,g]
abbrev UO:wl:=top 0
theorem Rt:yD ["k"] ["k"] (An UO):=fS
abbrev BiS(x q:Str)(s:wl)(ps:List Str):Prop:=∀(kV doc pm:vz)(an:Option wa)(cdv ct:vz)(us:List vz),us.length=ps.length->wq (fnOf x q (Bb s) (A3 s) (An s) .none kV doc pm an cdv ct) #[us,[]]=pure (ps.zip us)
theorem u_{q:Str}{s}(h:∀kV doc pm an cdv ct u0,wq (fnOf x q (Bb s) (A3 s) (An s) .none kV doc pm an cdv ct) #[[u0],[]]=pure (([p0]:List Str).zip [u0]):=by intros;exact rfl):BiS x q s [p0]:=λ_ _ _ _ _ _ us hl=>by obtain⟨u0,rfl⟩:=c_ hl;exact h _ _ _ _ _ _ u0
theorem v_{q:Str}{s}(h:∀kV doc pm an cdv ct u0 u1,wq (fnOf x q (Bb s) (A3 s) (An s) .none kV doc pm an cdv ct) #[[u0,u1],[]]=pure (([p0,p1]:List Str).zip [u0,u1]):=by intros;exact rfl):BiS x q s [p0,p1]:=λ_ _ _ _ _ _ us hl=>by obtain⟨u0,u1,rfl⟩:=e_ hl;exact h _ _ _ _ _ _ u0 u1
theorem w_{q:Str}{s}(h:∀kV doc pm an cdv ct u0 u1 u2,wq (fnOf x q (Bb s) (A3 s) (An s) .none kV doc pm an cdv ct) #[[u0,u1,u2],[]]=pure (([p0,p1,p2]:List Str).zip [u0,u1,u2]):=by intros;exact rfl):BiS x q s [p0,p1,p2]:=λ_ _ _ _ _ _ us hl=>by obtain⟨u0,u1,u2,rfl⟩:=ad hl;exact h _ _ _ _ _ _ u0 u1 u2
theorem xw{q:Str}{s}{p3:Str}(h:∀kV doc pm an cdv ct u0 u1 u2 u3,wq (fnOf x q (Bb s) (A3 s) (An s) .none kV doc pm an cdv ct) #[[u0,u1,u2,u3],[]]=pure (([p0,p1,p2,p3]:List Str).zip [u0,u1,u2,u3]):=by intros;exact rfl):BiS x q s [p0,p1,p2,p3]:=λ_ _ _ _ _ _ us hl=>by obtain⟨u0,u1,u2,u3,rfl⟩:=zA4 hl;exact h _ _ _ _ _ _ u0 u1 u2 u3
theorem Ru:BiS "_wall" "_wall" UO ["k"]:=u_
abbrev Rv:wl:=top 14
theorem HV:yD ϛ ϛ (An Rv):=fS
theorem HW:BiS "check_ask" "check_ask" Rv ϛ:=v_
abbrev EG:wl:=top 15
theorem Mx:yD ϛ ϛ (An EG):=fS
theorem My:BiS "check_plain_ask" "check_plain_ask" EG ϛ:=v_
abbrev Rw:wl:=top 17
theorem HX:yD Ϸ Ϸ (An Rw):=fS
theorem HY:BiS "mark_of" "mark_of" Rw Ϸ:=v_
abbrev Rx:wl:=top 18
theorem HZ:yD ϝ ϝ (An Rx):=fS
theorem Ia:BiS "long_of" "long_of" Rx ϝ:=u_
abbrev Ry:wl:=top 19
theorem Ib:yD ϝ ϝ (An Ry):=fS
theorem Ic:BiS "live_of" "live_of" Ry ϝ:=u_
abbrev Rz:wl:=top 22
theorem fB:yD ["cells","at","long"] ώ (An Rz):=fS
theorem Id:BiS "can_begin" "can_begin" Rz ώ:=v_
abbrev RA:wl:=top 23
theorem fC:yD ["cells","at","last"] ώ (An RA):=fS
theorem Ie:BiS "bad_of_piece" "bad_of_piece" RA ώ:=v_
abbrev RB:wl:=top 24
theorem Lp:yD ["cells","pieces","at","bad","long"] ϡ (An RB):=fS
theorem Ig:BiS "looked" "looked" RB ϡ:=u_
abbrev RC:wl:=top 25
theorem fE:yD ["count","cells"] ["count"] (An RC):=fS
theorem Ih:BiS "fresh_room" "fresh_room" RC ["count"]:=u_
abbrev RD:wl:=top 27
theorem fF:yD ["cells","at","long","live","row"] Ϭ (An RD):=fS
theorem sD:BiS "laid" "laid" RD Ϭ:=xw
abbrev RE:wl:=top 28
theorem Ii:yD ϧ ϧ (An RE):=fS
theorem Ij:BiS "laid_free" "laid_free" RE ϧ:=w_
abbrev RF:wl:=top 29
theorem fG:yD xa3 ώ (An RF):=fS
theorem Ik:BiS "piece_at" "piece_at" RF ώ:=v_
abbrev RG:wl:=top 30
theorem fH:yD xa3 ώ (An RG):=fS
theorem Il:BiS "live_at" "live_at" RG ώ:=v_
abbrev RH:wl:=top 31
theorem fJ:yD xa3 ώ (An RH):=fS
theorem Im:BiS "free_at" "free_at" RH ώ:=v_
abbrev RI:wl:=top 32
theorem fK:yD ["cells","cell","begins"] xa1 (An RI):=fS
theorem Io:BiS "begin_around" "begin_around" RI xa1:=v_
abbrev RJ:wl:=top 33
theorem Ip:yD ώ ώ (An RJ):=fS
theorem Iq:BiS "free_begin" "free_begin" RJ ώ:=v_
abbrev RK:wl:=top 34
theorem Ir:yD ϸ ϸ (An RK):=fS
theorem Iu:BiS "free_end" "free_end" RK ϸ:=v_
abbrev RL:wl:=top 35
theorem Iv:yD ["cells","at","place","long","begin","free_long","live","end","row"] ϩ (An RL):=fS
theorem Iw:BiS "cut_out" "cut_out" RL ϩ:=xw
abbrev RM:wl:=top 36
theorem RN:yD ["cells","at","begin","long","live"] ώ (An RM):=fS
theorem sE:BiS "freed" "freed" RM ώ:=v_
abbrev RO:wl:=top 37
theorem Mz:yD ["pieces","row","at","long","live"] ["pieces"] (An RO):=fS
theorem Ix:BiS "joined_pieces" "joined_pieces" RO ["pieces"]:=u_
abbrev RP:wl:=top 38
theorem Lq:yD ["cells","row","at","long","live"] ϡ (An RP):=fS
theorem Iy:BiS "joined" "joined" RP ϡ:=u_
abbrev RQ:wl:=top 39
theorem fL:yD ["cells","source","goal","count","row"] Ϥ (An RQ):=fS
theorem Iz:BiS "carried" "carried" RQ Ϥ:=xw
abbrev RS:wl:=top 43
theorem IA:yD ϝ ϝ (An RS):=fS
theorem IC:BiS "is_power" "is_power" RS ϝ:=u_
abbrev RT:wl:=top 44
theorem ID:yD ["need"] ["need"] (An RT):=fS
theorem IE:BiS "block_for" "block_for" RT ["need"]:=u_
abbrev RU:wl:=top 45
theorem RV:yD ["pieces","block","fit","long","at"] mr (An RU):=fS
theorem IF:BiS "least_free" "least_free" RU mr:=v_
abbrev RW:wl:=top 46
theorem RX:yD ["cells","at","long","block","row"] Ϫ (An RW):=fS
theorem IG:BiS "cut_down" "cut_down" RW Ϫ:=xw
abbrev EH:wl:=top 47
theorem D6:yD Ϩ Ϩ (An EH):=fS
theorem MA:BiS "grown_together" "grown_together" EH Ϩ:=w_
abbrev RY:wl:=top 52
theorem IH:yD ϵ ϵ (An RY):=fS
theorem II:BiS "all_whole" "all_whole" RY ϵ:=v_
abbrev RZ:wl:=top 53
theorem IJ:yD eC eC (An RZ):=fS
theorem IK:BiS "begin_of" "begin_of" RZ eC:=v_
abbrev R0:wl:=top 54
theorem IL:yD ϴ ϴ (An R0):=fS
theorem IM:BiS "whole_ones" "whole_ones" R0 ϴ:=v_
abbrev R1:wl:=top 55
theorem fM:yD ["cells","shelf","size","fit"] Ϙ (An R1):=fS
theorem IN:BiS "free_slots" "free_slots" R1 Ϙ:=w_
abbrev R3:wl:=top 56
theorem MB:yD ["cells","begin","shelf","size","row","end","at"] ϥ (An R3):=fS
theorem IO:BiS "cut_for" "cut_for" R3 ϥ:=xw
abbrev R4:wl:=top 57
theorem fN:yD ["cells","shelf","size","begins"] Ϙ (An R4):=fS
theorem IP:BiS "with_slot" "with_slot" R4 Ϙ:=w_
abbrev R5:wl:=top 58
theorem IQ:yD ϣ ϣ (An R5):=fS
theorem IR:BiS "has_live" "has_live" R5 ϣ:=w_
abbrev R6:wl:=top 61
theorem MC:yD ["piece","long","bound","at","piece_long","live","place"] ϱ (An R6):=fS
theorem IS:BiS "first_place" "first_place" R6 ϱ:=w_
abbrev R7:wl:=top 62
theorem R8:yD ["cells","long","bound","spots","piece","place"] ϲ (An R7):=fS
theorem IT:BiS "spots_for" "spots_for" R7 ϲ:=w_
abbrev R9:wl:=top 64
theorem IU:yD xa6 xa6 (An R9):=fS
theorem IV:BiS "least_place" "least_place" R9 xa6:=u_
abbrev Sa:wl:=top 70
theorem IW:yD Ϲ Ϲ (An Sa):=fS
theorem IX:BiS "stretches_of" "stretches_of" Sa Ϲ:=v_
abbrev Ew:wl:=top 72
theorem IY:yD Ϣ Ϣ (An Ew):=fS
abbrev xy(x q:Str)(s:wl)(ps:List Str):Prop:=∀(T:wa)(d1:vz)(kV doc pm:vz)(an:Option wa)(cdv ct:vz)(us:List vz),us.length=ps.length->∃k:Option (Array vz)->xq (List (Str×vz)),wq (fnOf x q (Bb s) (A3 s) (An s) (.ref T) kV doc pm an cdv ct) #[us,[]]=xa (.ref T) >>= k/\k (some [d1].toArray)=pure (ps.zip us)
abbrev xz(x q:Str)(s:wl)(ps:List Str):Prop:=∀(T:wa)(d1:vz)(kV doc pm:vz)(an:Option wa)(cdv ct:vz)(us:List vz),(us++[d1]).length=ps.length->∃k:Option (Array vz)->xq (List (Str×vz)),wq (fnOf x q (Bb s) (A3 s) (An s) (.ref T) kV doc pm an cdv ct) #[us,[]]=xa (.ref T) >>= k/\k (some [d1].toArray)=pure (ps.zip (us++[d1]))
theorem xE{q:Str}{s}(h:∀T d1 kV doc pm an cdv ct u0 u1 u2,∃k:Option (Array vz)->xq (List (Str×vz)),wq (fnOf x q (Bb s) (A3 s) (An s) (.ref T) kV doc pm an cdv ct) #[[u0,u1,u2],[]]=xa (.ref T) >>= k/\k (some [d1].toArray)=pure (([p0,p1,p2]:List Str).zip [u0,u1,u2]):=by intros;exact #[_,rfl,rfl]):xy x q s [p0,p1,p2]:=λ_ _ _ _ _ _ _ _ us hl=>by obtain⟨u0,u1,u2,rfl⟩:=ad hl;exact h _ _ _ _ _ _ _ _ u0 u1 u2
theorem xF{q:Str}{s}(h:∀T d1 kV doc pm an cdv ct u0 u1,∃k:Option (Array vz)->xq (List (Str×vz)),wq (fnOf x q (Bb s) (A3 s) (An s) (.ref T) kV doc pm an cdv ct) #[[u0,u1],[]]=xa (.ref T) >>= k/\k (some [d1].toArray)=pure (([p0,p1,p2]:List Str).zip ([u0,u1]++[d1])):=by intros;exact #[_,rfl,rfl]):xz x q s [p0,p1,p2]:=λ_ _ _ _ _ _ _ _ us hl=>by obtain⟨u0,u1,rfl⟩:=e_ (show us.length=2 by simpa using hl);exact h _ _ _ _ _ _ _ _ u0 u1
theorem xG{q:Str}{s}{p3:Str}(h:∀T d1 kV doc pm an cdv ct u0 u1 u2 u3,∃k:Option (Array vz)->xq (List (Str×vz)),wq (fnOf x q (Bb s) (A3 s) (An s) (.ref T) kV doc pm an cdv ct) #[[u0,u1,u2,u3],[]]=xa (.ref T) >>= k/\k (some [d1].toArray)=pure (([p0,p1,p2,p3]:List Str).zip [u0,u1,u2,u3]):=by intros;exact #[_,rfl,rfl]):xy x q s [p0,p1,p2,p3]:=λ_ _ _ _ _ _ _ _ us hl=>by obtain⟨u0,u1,u2,u3,rfl⟩:=zA4 hl;exact h _ _ _ _ _ _ _ _ u0 u1 u2 u3
theorem xH{q:Str}{s}{p3:Str}(h:∀T d1 kV doc pm an cdv ct u0 u1 u2,∃k:Option (Array vz)->xq (List (Str×vz)),wq (fnOf x q (Bb s) (A3 s) (An s) (.ref T) kV doc pm an cdv ct) #[[u0,u1,u2],[]]=xa (.ref T) >>= k/\k (some [d1].toArray)=pure (([p0,p1,p2,p3]:List Str).zip ([u0,u1,u2]++[d1])):=by intros;exact #[_,rfl,rfl]):xz x q s [p0,p1,p2,p3]:=λ_ _ _ _ _ _ _ _ us hl=>by obtain⟨u0,u1,u2,rfl⟩:=ad (show us.length=3 by simpa using hl);exact h _ _ _ _ _ _ _ _ u0 u1 u2
theorem IZ:xy "keeper_of" "keeper_of" Ew Ϣ:=xE
theorem I0:xz "keeper_of" "keeper_of" Ew Ϣ:=xF
abbrev Sb:wl:=top 74
theorem Ja:yD Ϧ Ϧ (An Sb):=fS
theorem Jb:BiS "_law_cell_at" "_law_cell_at" Sb Ϧ:=v_
abbrev Sc:wl:=top 75
theorem Jc:yD gs gs (An Sc):=fS
theorem Jd:BiS "_law_whole" "_law_whole" Sc gs:=u_
abbrev Sd:wl:=top 76
theorem fO:yD ["_law_found","_law_due","_law_piece"] Ϯ (An Sd):=fS
theorem Je:BiS "_law_alike" "_law_alike" Sd Ϯ:=v_
abbrev Se:wl:=top 77
theorem Lr:yD ["_law_cells","_law_told","_law_at","_law_long","_law_live"] xa4 (An Se):=fS
theorem Jf:BiS "_law_walk" "_law_walk" Se xa4:=u_
abbrev Sg:wl:=top 78
theorem Jg:yD so so (An Sg):=fS
theorem Jh:BiS "_law_number" "_law_number" Sg so:=u_
abbrev Sh:wl:=top 79
theorem EI:yD ["_law_keeper","_law_way_here","_law_place","_law_count","_law_k","_law_number_here","_law_word","_law_told"] ϕ (An Sh):=fS
theorem Ji:BiS "_law_answer" "_law_answer" Sh ϕ:=λ_ _ _ _ _ _ us hl=>by obtain⟨_,_,_,_,_,_,rfl⟩:=zA6 hl;rfl
abbrev Si:wl:=top 80
theorem fP:yD ["_law_kind","_law_cell","_law_way_here"] ϯ (An Si):=fS
theorem sH:BiS "_law_way" "_law_way" Si ϯ:=v_
abbrev Sj:wl:=top 81
theorem UP:yD ["_law_known_here","_law_way_here","_law_place","_law_told","_law_k","_law_number_here","_law_least","_law_new","_law_at"] ϓ (An Sj):=fS
theorem Jj:BiS "_law_known" "_law_known" Sj ϓ:=λ_ _ _ _ _ _ us hl=>by obtain⟨_,_,_,_,_,_,_,rfl⟩:=zA7 hl;rfl
abbrev Sk:wl:=top 82
theorem Ex:yD ["_law_keepers","_law_known_here","_law_kind","_law_cell","_law_pieces","_law_lives","_law_way_here","_law_one","_law_count","_law_k","_law_number_here","_law_told"] ϗ (An Sk):=fS
theorem Jk:BiS "_law_step" "_law_step" Sk ϗ:=xw
abbrev Sl:wl:=top 83
theorem Jl:yD ["_law_keeper","_law_known_here","_law_cell","_law_cells","_law_place","_law_k","_law_at","_law_one","_law_found"] Ϡ (An Sl):=fS
theorem Jm:BiS "_law_holds" "_law_holds" Sl Ϡ:=w_
abbrev Sm:wl:=top 84
theorem UQ:yD ["_law_keepers","_law_known_here","_law_cell","_law_pieces","_law_keeper"] Ϟ (An Sm):=fS
theorem Jn:BiS "_law_seen" "_law_seen" Sm Ϟ:=w_
abbrev Sn:wl:=top 85
theorem MD:yD ["_law_found","_law_cells","_law_pieces","_law_at","_law_long","_law_live"] ϭ (An Sn):=fS
theorem Jo:BiS "_law_like" "_law_like" Sn ϭ:=v_
abbrev So:wl:=top 86
theorem Ey:yD ["_law_keeper","_law_cells","_law_told","_law_handed","_law_flags","e","_law_at"] ϰ (An So):=fS
theorem Jp:BiS "_law_lay_refused" "_law_lay_refused" So ϰ:=u_
abbrev Sq:wl:=top 87
theorem ME:yD ["_law_keepers","_law_cells","_law_handed","_law_others","_law_spoilt"] xa2 (An Sq):=fS
theorem Jq:BiS "_law_laid" "_law_laid" Sq xa2:=u_
abbrev Jr:wl:=top 88
theorem Cp:yD ["_law_script","_law_kind","_law_size","_law_shelf","_law_word","_law_keepers","_law_third","_law_fresh","_law_known_here","_law_cell","_law_early","_law_kept","_law_copies"] Ϻ (An Jr):=fS
theorem bi_law:BiS "law" "law" Jr Ϻ:=u_
abbrev Sr:wl:=As (top 5) 0
theorem sI:yD be be (An Sr):=fS
theorem sJ:BiS "__init__" "Broken.__init__" Sr be:=v_
abbrev EJ:wl:=As (top 41) 0
theorem Ls:yD ϐ ϐ (An EJ):=fS
theorem Lu:BiS "__init__" "Keeper.__init__" EJ ϐ:=v_
abbrev Ss:wl:=As (top 68) 0
theorem sK:yD ϐ ϐ (An Ss):=fS
theorem sL:BiS "__init__" "Next.__init__" Ss ϐ:=v_
abbrev Su:wl:=As (top 48) 0
theorem sM:yD ϐ ϐ (An Su):=fS
theorem sN:BiS "__init__" "Halves.__init__" Su ϐ:=v_
abbrev Sv:wl:=As (top 59) 0
theorem fQ:yD ["self","size","shelf","cells"] ϳ (An Sv):=fS
theorem sO:BiS "__init__" "Shelves.__init__" Sv ϳ:=w_
abbrev EK:wl:=As (top 41) 11
theorem MF:yD ϑ ϑ (An EK):=fS
theorem MG:BiS "room_begin" "Keeper.room_begin" EK ϑ:=v_
abbrev EL:wl:=As (top 65) 4
theorem MH:yD ϑ ϑ (An EL):=fS
theorem MI:BiS "room_begin" "Stretches.room_begin" EL ϑ:=v_
abbrev EM:wl:=As (top 68) 3
theorem MJ:yD ϑ ϑ (An EM):=fS
theorem MK:BiS "room_begin" "Next.room_begin" EM ϑ:=v_
abbrev ML:wl:=As (top 41) 3
theorem fR:yD ϑ ϑ (An ML):=fS
theorem fT:BiS "lay" "Keeper.lay" ML ϑ:=v_
abbrev Sw:wl:=As (top 41) 2
theorem Js:yD ϖ ϖ (An Sw):=fS
theorem Jt:BiS "pieces" "Keeper.pieces" Sw ϖ:=u_
abbrev Sy:wl:=As (top 41) 1
theorem Ju:yD ϖ ϖ (An Sy):=fS
theorem Jv:BiS "cells" "Keeper.cells" Sy ϖ:=u_
abbrev EN:wl:=As (top 48) 1
theorem Sz:yD ["self","count","bound","block","at","long"] ύ (An EN):=fS
theorem Jw:xy "ask" "Halves.ask" EN ύ:=xE
theorem Jx:xz "ask" "Halves.ask" EN ύ:=xF
abbrev EO:wl:=As (top 59) 2
theorem SA:yD ["self","count","bound","size","cells","at"] ύ (An EO):=fS
theorem Jy:xy "ask" "Shelves.ask" EO ύ:=xE
theorem Jz:xz "ask" "Shelves.ask" EO ύ:=xF
abbrev EQ:wl:=As (top 50) 0
theorem SB:yD ["self","count","bound","at","long","live"] ύ (An EQ):=fS
theorem JA:xy "ask" "Row.ask" EQ ύ:=xE
theorem JB:xz "ask" "Row.ask" EQ ύ:=xF
abbrev SC:wl:=As (top 66) 0
theorem fU:yD ["self","long","bound","spots"] ϔ (An SC):=fS
theorem JC:BiS "chosen" "First.chosen" SC ϔ:=w_
abbrev SD:wl:=As (top 67) 0
theorem UR:yD xa7 ϔ (An SD):=fS
theorem JD:BiS "chosen" "Best.chosen" SD ϔ:=w_
abbrev SE:wl:=As (top 68) 2
theorem fV:yD ["self","long","bound","spots"] ϔ (An SE):=fS
theorem JE:BiS "chosen" "Next.chosen" SE ϔ:=w_
abbrev SG:wl:=As (top 69) 0
theorem US:yD xa7 ϔ (An SG):=fS
theorem JF:BiS "chosen" "Likes.chosen" SG ϔ:=w_
abbrev ER:wl:=As (top 65) 5
theorem MM:yD Ϝ Ϝ (An ER):=fS
theorem MN:BiS "room_granted" "Stretches.room_granted" ER Ϝ:=v_
abbrev ES:wl:=As (top 68) 4
theorem MO:yD Ϝ Ϝ (An ES):=fS
theorem MP:BiS "room_granted" "Next.room_granted" ES Ϝ:=v_
abbrev ET:wl:=As (top 65) 1
theorem UT:yD ["self","count","bound","long","at"] ύ (An ET):=fS
theorem JG:xy "ask" "Stretches.ask" ET ύ:=xE
theorem JH:xz "ask" "Stretches.ask" ET ύ:=xF
abbrev SH:wl:=As (top 41) 5
theorem SI:yD ["self","place","at","long","live"] ϒ (An SH):=fS
theorem JI:BiS "many" "Keeper.many" SH ϒ:=v_
abbrev EU:wl:=As (top 41) 12
theorem G9:yD ["self","place","k","many"] ϙ (An EU):=fS
theorem MQ:BiS "room_cell_of" "Keeper.room_cell_of" EU ϙ:=w_
abbrev SJ:wl:=As (top 41) 7
theorem fW:yD ["self","place","k","number","cell"] ϫ (An SJ):=fS
theorem JJ:BiS "put" "Keeper.put" SJ ϫ:=xw
abbrev SK:wl:=As (top 41) 6
theorem JK:yD ϙ ϙ (An SK):=fS
theorem JL:BiS "get" "Keeper.get" SK ϙ:=w_
abbrev EV:wl:=As (top 65) 2
theorem MR:yD ϒ ϒ (An EV):=fS
theorem MS:BiS "give" "Stretches.give" EV ϒ:=v_
abbrev SL:wl:=As (top 50) 1
theorem JM:yD ϒ ϒ (An SL):=fS
theorem JN:BiS "give" "Row.give" SL ϒ:=v_
abbrev SM:wl:=As (top 48) 2
theorem UU:yD ["self","place","at","long"] ϒ (An SM):=fS
theorem JO:BiS "give" "Halves.give" SM ϒ:=v_
abbrev SN:wl:=As (top 59) 3
theorem SO:yD ["self","place","cells","begin"] ϒ (An SN):=fS
theorem JP:BiS "give" "Shelves.give" SN ϒ:=v_
abbrev EW:wl:=As (top 41) 13
theorem Ha:yD ["self","place","count","bound","goal"] ό (An EW):=fS
theorem MT:BiS "room_moved" "Keeper.room_moved" EW ό:=xw
abbrev EY:wl:=As (top 41) 10
theorem fX:yD ["self","place","count","bound","had"] ό (An EY):=fS
theorem JQ:xy "grow" "Keeper.grow" EY ό:=xG
theorem JR:xz "grow" "Keeper.grow" EY ό:=xH
abbrev EZ:wl:=As (top 50) 2
theorem JS:yD ό ό (An EZ):=fS
theorem JT:xy "grow" "Row.grow" EZ ό:=xG
theorem JU:xz "grow" "Row.grow" EZ ό:=xH
abbrev E1:wl:=As (top 65) 3
theorem Lv:yD ["self","place","count","bound","at","had","live","long","end"] ό (An E1):=fS
theorem JV:xy "grow" "Stretches.grow" E1 ό:=xG
theorem JW:xz "grow" "Stretches.grow" E1 ό:=xH
abbrev SQ:wl:=As (top 41) 4
theorem JX:yD ϖ ϖ (An SQ):=fS
theorem JY:BiS "clear" "Keeper.clear" SQ ϖ:=u_
abbrev SR:wl:=As (top 59) 1
theorem JZ:yD ϖ ϖ (An SR):=fS
theorem J0:BiS "clear" "Shelves.clear" SR ϖ:=u_
abbrev nI(K:δ)(m:Str)(f:wa):Prop:=nsIn K xg m=some (some (.ref f))
abbrev fI(K:δ)(C:wa)(m:Str)(f:wa):Prop:=bp K (.ref C) m=some (some (.ref f))
abbrev cI(K:δ)(c:vz)(m:Str):Prop:=codeIn K c m=true
abbrev kI(K:δ)(f:wa):Prop:=keepIn K (.ref f)=true
abbrev iI(K:δ)(f:wa):Prop:=isFn K (.ref f)=true
abbrev tI(K:δ)(a b:wa)(c:Bool):Prop:=kitOne K (.ref a) (.ref b)=some c
structure Txt(K:δ)(mg:Str->Option vz)(Y0 E2 AY Y5 Y9 Y3 Y8 Da Y2 A5 Y7 Y6 Ah Y4 Y1 Ae Af Ac Ag:wa)(m6:Tok)(m7:Tok):Prop where
 n_any:mg "any"=none
 n_bool:mg "bool"=none
 n_dict:mg "dict"=none
 n_int:mg "int"=none
 n_isinstance:mg "isinstance"=none
 n_len:mg "len"=none
 n_list:mg "list"=none
 n_max:mg "max"=none
 n_min:mg "min"=none
 n_range:mg "range"=none
 n_sorted:mg "sorted"=none
 n_tuple:mg "tuple"=none
 sP:mg "LEAST_LIVE"=some (.int 3 m6)
 Hb:mg "MARKS"=some (.int 2 m7)
 sQ:mg "StowError"=some (.ref Y0)
 wY:mg "NoName"=some (.ref E2)
 sR:mg "NoSize"=some (.ref AY)
 fY:mg "Broken"=some (.ref Y5)
 wZ:mg "NoGive"=some (.ref Y9)
 xA:mg "NoPiece"=some (.ref Y3)
 xB:mg "NoCell"=some (.ref Y8)
 xC:mg "NoAsk"=some (.ref Da)
 xD:mg "NoBound"=some (.ref Y2)
 fZ:mg "NoRoom"=some (.ref A5)
 sS:mg "Keeper"=some (.ref Y7)
 sT:mg "Halves"=some (.ref Y6)
 c_Row:mg "Row"=some (.ref Ah)
 sU:mg "Shelves"=some (.ref Y4)
 sV:mg "Stretches"=some (.ref Y1)
 sW:mg "First"=some (.ref Ae)
 c_Best:mg "Best"=some (.ref Af)
 c_Next:mg "Next"=some (.ref Ac)
 sX:mg "Likes"=some (.ref Ag)
 MU:zr K mg "NoSize" AY
 sY:zr K mg "NoName" E2
 UV:zr K mg "NoPiece" Y3
 MV:zr K mg "NoRoom" A5
 sZ:zr K mg "NoAsk" Da
 tE:zr K mg "NoBound" Y2
 tF:zr K mg "NoCell" Y8
 gA:zr K mg "NoGive" Y9
 SS:Cls K Ae
 UW:B1 K Ae "room_cells"
 ST:Cls K Af
 UX:B1 K Af "room_cells"
 Lw:Cls K Ac
 MW:B1 K Ac "room_cells"
 UY:B1 K Ac "room_rover"
 SU:Cls K Ag
 UZ:B1 K Ag "room_cells"
 MX:Cls K Y6
 U0:B1 K Y6 "room_cells"
 J1:Cls K Y4
 MY:B1 K Y4 "room_cells"
 SV:B1 K Y4 "shelf"
 cl_Row:Cls K Ah
 U1:B1 K Ah "room_cells"
 gB:ud3 K Y5 "cell"
 gD:zu K A5 A5 true
 tG:XK0 K AY
 gF:XK0 K Y5
 tH:zu K AY Y0 true
 tJ:zu K Y5 Y0 true
 tK:zu K Y5 Y5 true
 tL:tI K AY AY true
 tM:tI K AY Y5 false
 tN:tI K AY A5 false
 tO:tI K Y5 AY false
 tP:tI K Y5 Y5 true
 tQ:tI K Y5 A5 false
section
variable {K:δ}{mg:Str->Option vz}{Y0 E2 AY Y5 Y9 Y3 Y8 Da Y2 A5 Y7 Y6 Ah Y4 Y1 Ae Af Ac Ag:wa}{m6:Tok}{m7:Tok}
theorem yJ(T:Txt K mg Y0 E2 AY Y5 Y9 Y3 Y8 Da Y2 A5 Y7 Y6 Ah Y4 Y1 Ae Af Ac Ag m6 m7):∀i,Cls K (⋯ i):=Ev T.SS T.ST T.Lw T.SU T.MX T.J1 T.cl_Row
theorem yW(T:Txt K mg Y0 E2 AY Y5 Y9 Y3 Y8 Da Y2 A5 Y7 Y6 Ah Y4 Y1 Ae Af Ac Ag m6 m7):∀i,B1 K (⋯ i) "room_cells":=Ev (Q:=λC=>B1 K C "room_cells") T.UW T.UX T.MW T.UZ T.U0 T.MY T.U1
end
def gG:Sp:=λvs H Q _=>∃(n:Int)(v:Bool),vs=[.int n,.bl v]/\n.natAbs<2^220/\Q (.int (n*2+if v then 1 else 0)) H
section
variable (P:we)(w:wf)(base:xt){K:δ}{mg:Str->Option vz}{Y0 E2 AY Y5 Y9 Y3 Y8 Da Y2 A5 Y7 Y6 Ah Y4 Y1 Ae Af Ac Ag:wa}{m6:Tok}{m7:Tok}
variable (T:Txt K mg Y0 E2 AY Y5 Y9 Y3 Y8 Da Y2 A5 Y7 Y6 Ah Y4 Y1 Ae Af Ac Ag m6 m7)
include T in
theorem MZ(S:Src K mg "mark_of" Rw):∎ "mark_of" 1 Ϸ (gG):=by
 refine S.okx HX HY λf _ A _ s H vs Q E hr h=>#[_,PSs.nox (Ad (AA (Dc mt (λ_=>rfl)) (Aj (Aq (Ao op_or (Ao Ug m_ Ai) Ai))) AB) (Aj (Aq (Ao Ug m_ Ai)))),?_];obtain⟨n,v,rfl,hn,q⟩:=h;ext;refine CM (λhv=>?_) (λhv=>?_);ext;rw[two1,nZ];subst hv;exact q;ext;rw[two1];subst hv;rw[xb2 ξ,kx] at q;exact q
include T in
theorem M0(S:Src K mg "long_of" Rx):∎ "long_of" 1 ϝ (TU):=by
 refine S.okx HZ Ia λf _ A _ s H vs Q E hr h=>#[_,PSs.nox (Aj (Aq (Ao P_ m_ Ai))),?_];obtain⟨n,rfl,q⟩:=h;ext;rw[two1];exact q
include T in
theorem M3(S:Src K mg "live_of" Ry):∎ "live_of" 1 ϝ (TV):=by
 refine S.okx Ib Ic λf _ A _ s H vs Q E hr h=>#[_,PSs.nox (Aj (Aq (Er A8 (Ao ZV m_ Ai) Ai))),?_];obtain⟨n,rfl,q⟩:=h;ext;rw[mZ];exact q
variable (AC:∎ "long_of" 1 ϝ (TU))
variable (AZ:∎ "live_of" 1 ϝ (TV))
include T AC AZ in
theorem M4(S:Src K mg "can_begin" Rz):∎ "can_begin" 2 ώ (TW K):=by
 refine S.okx fB Id λf _ A _ s H vs Q E hr h=>?_;obtain⟨a,ns,k,rfl,hS,h0,h1,q⟩:=h;refine#[_,PSs.nox (Ad (k_ 2 fB (l_ AC hr (Aa (Az AQ m_ mt (λ_ _=>rfl)) Ab))) (Ad (AA (PW.pt (Bf (Ax Db n_ Ai) (BB (Ax HF (Ao AU mt n_) (A7 CG s!"" T.n_len bq (Aa m_ Ab)))))) (Aj (Aq AV)) AB) (Aj (Aq (pe_or (Er K1 n_ (DQ (v:=.int 3) s!"" T.sP #[_,rfl])) (HA (ZT (l_ AZ hr (Aa (Az AQ m_ mt (λ_ _=>rfl)) Ab))))))))),?_];symm;have q':∀c,CL ns k=c->Q (.bl c) H:=λc e=>e▸q;ext;refine AW (λhc=>?_) (λhc=>?_);ext;exact q' false (by unfold CL;rw[xb1 (υ hc)]);ext;refine AW (λhd=>?_) (λhd=>?_);ext;exact q' false (by unfold CL;rw[xb1 (lj hd)]);ext;have ec:CL ns k=(decide (3<=ns.getD k.toNat 0/2)||!decide (ns.getD k.toNat 0%2=1)):=by
   unfold CL;rw[xb2 ∅]
 refine CM (λhe=>?_) (λhe=>?_);ext;exact q' true (by rw[ec,he,uf]);ext;exact q' _ (by rw[ec,he,qf])
variable (Dm:∎ "can_begin" 2 ώ (TW K))
include T AC Dm in
theorem M5(S:Src K mg "bad_of_piece" RA):∎ "bad_of_piece" 3 ώ (TY K):=by
 refine S.okx fC Ie λf _ A _ s H vs Q E hr h=>?_;obtain⟨a,ns,k,rfl,hS,h0,h1,q⟩:=h;refine#[_,PSs.nox (Ad (AA (Bd (BU (l_ Dm hr (Aa m_ (Aa mt Ab))))) (Aj (Aq mt)) AB) (Ad (k_ 2 fC (Ao BY (Ao AU mt (l_ AC hr (Aa (Az AQ m_ mt (λ_ _=>rfl)) Ab))) Ai)) (Ad (AA (Ax Df (Az AQ m_ n_ (λ_ _=>rfl)) (Az AQ m_ mt (λ_ _=>rfl))) (Aj (Aq n_)) AB) (Aj (Aq BH))))),?_];symm;have q':∀c,BZ ns k=c->Q (ue2 c) H:=λc e=>e▸q;ext;refine CM (λhc=>?_) (λhc=>?_);obtain⟨b1,b2,_⟩:=(aM ns k).mp hc;ext;refine AW (λhd=>?_) (λhd=>?_);ext;exact q' none (lT hc hd);ext;exact q' (some _) (lS hc hd);ext;exact q' (some k) (ud1 hc)
theorem tR{P:we}{w:wf}{base:xt}{Y5 Y0:wa}{fI:wa}{fd:wc}(F:Fun K "__init__" "Broken.__init__" Sr fI fd)(XI:ud4 K mg "Broken" Y5 Y0 fI)(Z:ud3 K Y5 "cell"):DefI P w K mg base "Broken" Y5 Y0 1 be (TF Y5 "cell"):=by
 refine#[fI,fd,XI,Ba F sI (λ_ A _ s H vs Q E hr h=>?_),F.binds sJ];obtain⟨y,v,rfl,hy,q⟩:=h;exact#[_,PSs.nox (Aj (mK m_ mt)),_,rfl,_,rfl,y,_,rfl,hy,Z,λdx hd=>q dx hd]
def LkW(H:Hp)(a p:wa)(ns:List Int)(m:Nat)(σ:L2.St)(H':Hp):Prop:=
 ∃(ds:List Pc)(us:List V)(k:Int)(x y:Option V),σ=[xa8 a,xa8 p,xa9 k,x,y]/\m=(ns.length-k).toNat/\0<=k/\k<=ns.length/\(ds.length:Int)<=k/\WPre ns ds k/\Same H H'/\H' p=some (.lst us)/\AJ H' us ds
variable (Dn:∎ "bad_of_piece" 3 ώ (TY K))
variable (D_Broken:DefI P w K mg base "Broken" Y5 Y0 1 be (TF Y5 "cell"))
include T AC AZ Dn D_Broken in
theorem M6(S:Src K mg "looked" RB):∎ "looked" 4 ϡ (bA K Y5):=by
 refine S.okx Lp Ig λf _ A _ s H vs Q E hr h=>?_;obtain⟨a,ns,rfl,hS,hz,qe,q⟩:=h;refine#[_,(Ad (k_ 1 Lp (Cw Ab)) (Ad (k_ 2 Lp Ai) (Ad (QE rb (Ax Db n_ (A7 CG s!"" T.n_len bq (Aa m_ Ab))) (Ad (k_ 3 Lp (l_ Dn hr (Aa m_ (Aa n_ Ab)))) (Ad (AA (Ax QH o_ BH) (Aj (mT D_Broken hr rfl (Aa o_ Ab))) AB) (Ad (k_ 4 Lp (l_ AC hr (Aa (Az AQ m_ n_ (λ_ _=>rfl)) Ab))) (Ad (Bm (HH dh cy db GX mt (Aa (BK (Aa n_ (Aa p_ (Aa (l_ AZ hr (Aa (Az AQ m_ n_ (λ_ _=>rfl)) Ab)) Ab)))) Ab))) (Aj (k_ 2 Lp (Ao AU n_ p_)))))))) (Aj (Aq mt))))),?_];symm;ext;intro p hp;ext;refine#[LkW H a p ns,#[_,[],[],0,none,none,rfl,rfl,∅,∅,m!"",WPre.nil ns,Same.new hp,xb5,AJ.nil],?_];rintro m σ H' ⟨ds,us,k,x,y,rfl,rfl,h0,hkl,hdl,w,s1,hp',pa⟩;have hul:=pa.1;have hS':SqL K H' a (ns.map V.int):=s1.seq hS;ext;refine AW (λhlt=>?_) (λhlt=>?_);refine#[λσ' H''=>∃m',m'<(ns.length-k).toNat/\LkW H a p ns m' σ' H'',λσ' H'' hw=>hw,?_];ext;cases hb:BZ ns k with
 | some b=>
   ext;refine J_ (λdx hd=>?_);exact qe b (by rw[w.bad hlt hb]) dx _ (s1.put (s1.free hd)) xb5
 | none=>
   obtain⟨b1,b2,b3⟩:=QM hb;ext;intro t ht;have hpt:p≠t:=BW hp' ht;ext;obtain⟨g1,g2⟩:=AJ.push (z:=zw ns k) pa hp' ht;dsimp only [zw] at g1 g2;refine#[_,?_,ds++[zw ns k],us++[.ref t],k+ns.getD k.toNat 0/2,_,_,rfl,rfl,∅,∅,?_,w.step hlt hb,(s1.put (s1.free ht)).put hp,g1,g2];lia;rw[Δ,Ω];lia
 ext;exact q (by rw[w.fin hlt]) p us H' hp s1 hp' (by rw[w.fin hlt];exact pa)
def BA(n:Int):List Int:=AS (ω n.toNat 0) 0 n false
theorem D7(h:0<=n):((BA n).length:Int)=n:=by
 unfold BA;rw[B3,ae];lia
theorem tS(n:Nat):(ω n [V.int 0]).flatten=(ω n (0:Int)).map V.int:=by
 induction n with
 | zero=>rfl
 | succ n ih=>rw[cm,dw,ih,cm,cb];rfl
def gH(C:wa):Sp:=λvs H Q E=>∃n:Int,vs=[.int n]/\n<=4000/\(n<1->E (.ref C) none H)/\(1<=n->∀(p:wa)(H':Hp),H p=none->Same H H'->H' p=some (.lst ((BA n).map V.int))->Q (.ref p) H')
variable (Bw:∎ "mark_of" 1 Ϸ (gG))
include T Bw in
theorem M7(S:Src K mg "fresh_room" RC):∎ "fresh_room" 2 ["count"] (gH AY):=by
 refine S.okx fE Ih λf _ A _ s H vs Q E hr h=>?_;obtain⟨n,rfl,h4,qe,q⟩:=h;refine#[_,(Ad (AA (Ax Db m_ Ai) (Aj (Cy T.MU hr.hd rfl (Aa AG Ab))) AB) (Ad (k_ 1 fE (Ao aK (Cw (Aa Ai Ab)) m_)) (Ad (CJ (l_ Bw hr (Aa m_ (Aa AV Ab))) (GS mt Ai GW)) (Ad (CJ (l_ Bw hr (Aa m_ (Aa AV Ab))) (GS mt (Ao BY m_ Ai) GW)) (Aj (Aq mt)))))),?_];symm;ext;refine AW (λhc=>?_) (λhc=>?_);ext;exact qe hc;have hn:n.natAbs<2^220:=jq (show n.natAbs<=4000 by lia) m!"";ext;intro l hl;ext;refine#[l,n,_,rfl,rfl,xb5,∅,∅,(by show 1*n.toNat<=wt;exact gh (small4000 ∅)),λp hp=>?_];rw[tS];have np:=(Same.new hl).free hp;have s1:Same H (upd (upd H l (.lst [.int 0])) p (.lst ((ω n.toNat (0:Int)).map V.int))):=(Same.new hl).put np;have e1:upd (upd H l (.lst [.int 0])) p (.lst ((ω n.toNat (0:Int)).map V.int)) p=some (.lst ((ω n.toNat (0:Int)).map V.int)):=xb5;generalize upd (upd H l (.lst [.int 0])) p (.lst ((ω n.toNat (0:Int)).map V.int))=H1 at s1 e1 ⊢;have hlr:(ω n.toNat (0:Int)).length=n.toNat:=ae;ext;refine#[n,false,rfl,hn,?_];ext;refine#[n,false,rfl,hn,?_];ext;refine q ∅ p _ np ((s1.put np).put np) ?_;unfold BA AS;rw[show (0:Int)+n-1=n-1 by lia];exact xb5
abbrev xK(K:δ)(a:wa)(cs:List Int)(k l:Int)(v:Bool)(H:Hp)(Q:VK):Prop:=∀(p:wa)(H':Hp),H p=none->Same H H'->H' p=some (.lst ((AS cs k l v).map V.int))->Q (.ref p) H'
def gJ(K:δ):Sp:=λvs H Q _=>∃(a:wa)(cs:List Int)(k l:Int)(v:Bool),vs=[.ref a,.int k,.int l,.bl v]/\SqL K H a (cs.map V.int)/\cs.length<=4000/\0<=k/\1<=l/\k+l<=cs.length/\xK K a cs k l v H Q
include T Bw in
theorem J3(S:Src K mg "laid" RD):∎ "laid" 2 Ϭ (gJ K):=by
 refine S.okx fF sD λf _ A _ s H vs Q E hr h=>?_;obtain⟨a,cs,k,l,v,rfl,hS,hz,h0,h1,hl,q⟩:=h;refine#[_,PSs.nox (Ad (k_ 4 fF (DO DS s!"" T.n_list az (Aa m_ Ab))) (Ad (CJ (l_ Bw hr (Aa n_ (Aa o_ Ab))) (GS p_ mt GW)) (Ad (CJ (l_ Bw hr (Aa n_ (Aa o_ Ab))) (GS p_ (Ao BY (Ao AU mt n_) Ai) GW)) (Aj (Aq p_))))),?_];symm;have hn:l.natAbs<2^220:=jq (show l.natAbs<=4000 by lia) m!"";ext;intro p hp;ext;refine#[l,v,rfl,hn,?_];ext;refine#[l,v,rfl,hn,?_];ext;refine q p _ hp (((Same.new hp).put hp).put hp) xb5
abbrev xL(K:δ)(a:wa)(cs:List Int)(b e:Int)(H:Hp)(Q:VK):Prop:=∀(p:wa)(H':Hp),H p=none->Same H H'->H' p=some (.lst ((lfI cs b e).map V.int))->Q (.ref p) H'
def gK(K:δ):Sp:=λvs H Q _=>∃(a:wa)(cs:List Int)(b e:Int),vs=[.ref a,.int b,.int e]/\SqL K H a (cs.map V.int)/\cs.length<=4000/\0<=b/\b<=e/\e<=cs.length/\xL K a cs b e H Q
variable (Ap:∎ "laid" 2 Ϭ (gJ K))
include T Ap in
theorem M8(S:Src K mg "laid_free" RE):∎ "laid_free" 3 ϧ (gK K):=by
 refine S.okx Ii Ij λf _ A _ s H vs Q E hr h=>?_;obtain⟨a,cs,b,e,rfl,hS,hz,h0,h1,hl,q⟩:=h;refine#[_,PSs.nox (Ad (AA (Ax A8 mt n_) (Aj (Aq (DO DS s!"" T.n_list az (Aa m_ Ab)))) AB) (Aj (Aq (l_ Ap hr (Aa m_ (Aa mt (Aa (Ao BY n_ mt) (Aa AV Ab)))))))),?_];symm;ext;refine AW (λhe=>?_) (λhe=>?_);ext;intro p hp;ext;refine q p _ hp (Same.new hp) ?_;unfold lfI;rw[xb1 he];exact xb5;ext;refine#[a,cs,b,e-b,false,rfl,hS,hz,h0,∅,∅,λp H' hp s1 g1=>?_];ext;refine q p H' hp s1 ?_;unfold lfI;rw[xb2 he];exact g1
abbrev xM(K:δ)(b:wa)(us:List V)(ps:List Pc)(H:Hp)(Q:VK):Prop:=∀(p:wa)(ws:List V)(H':Hp),H p=none->Same H H'->H' p=some (.lst ws)->AJ H' ws (BE ps)->Q (.ref p) H'
def gL(K:δ):Sp:=λvs H Q _=>∃(b:wa)(us:List V)(ps:List Pc),vs=[.ref b]/\H b=some (.lst us)/\AJ H us ps/\ps.length<=4000/\xM K b us ps H Q
def JpW(f0:Option V)(p:wa)(ps:List Pc)(H:Hp)(i:Nat)(σ:L2.St)(H':Hp):Prop:=
 ∃(ws:List V)(x2 x3 x4:Option V),σ=[f0,xa8 p,x2,x3,x4]/\Same H H'/\H' p=some (.lst ws)/\AJ H' ws (BE (ps.take i))
include T in
theorem M9(S:Src K mg "joined_pieces" RO):∎ "joined_pieces" 1 ["pieces"] (gL K):=by
 refine S.okx Mz Ix λf _ A _ s H vs Q E hr h=>?_;obtain⟨b,us,ps,rfl,hb,pa,hz,q⟩:=h;refine#[_,PSs.nox (Ad (k_ 1 Mz (Cw Ab)) (Ad (DM cc rfl (BX m_) (De rfl (AO (ld 2 Mz) (AO (ld 3 Mz) (AO (ld 4 Mz) Cn)))) (Aj (AA (PW.pt (DL (Dc mt (λ_=>rfl)) (DL (Bd (Dc p_ (λ_=>rfl))) (DR (Bd (Dc (Az By (Az AQ mt (HC HE Ai) (λ_ _=>rfl)) Ai (λ_ _=>rfl)) (λ_=>rfl))))))) (Aj (CJ (BK (Aa (Az By (Az AQ mt (HC HE Ai) (λ_ _=>rfl)) Ai (λ_ _=>rfl)) (Aa (Ao AU (Az By (Az AQ mt (HC HE Ai) (λ_ _=>rfl)) Ai (λ_ _=>rfl)) o_) (Aa AV Ab)))) (GS mt (HC HE Ai) GW))) (Aj (Bm (HH dh cy db GX mt (Aa (BK (Aa n_ (Aa o_ (Aa p_ Ab)))) Ab))))))) (Aj (Aq mt)))),?_];symm;have hul:=pa.1;ext;intro p hp;ext;refine#[b,rfl,#[_,SqL.of (Same.new hp b _ hb)],D3 (K:=K) (a:=b) (xs:=us) (JpW (some (.ref b)) p ps H) #[[],none,none,none,rfl,Same.new hp,xb5,AJ.nil] (λi σ H2 _ ⟨_,_,_,_,_,s2,_⟩=>SqL.of (s2 b _ hb)) ?_ ?_];rintro i y σ H2 hi ⟨ws,x2,x3,x4,rfl,s2,hp2,pw⟩;have hil:i<us.length:=(γ.mp hi).1;have hip:i<ps.length:=∅;have hz1:ps[i]?=some ps[i]:=by simp [hip]
 obtain⟨t,et,hT⟩:=pa.2 i ps[i] hz1;have ey:y = .ref t:=Θ (hi.symm.trans et);subst ey;have hT2:=s2 t _ hT;have hj:=QZ hz1;have hle:=bJ ps i ∅;generalize ps[i]=z at hT2 hj;have hwl:=pw.1;rcases D5 (BE (ps.take i)) with e | ⟨D,w,e⟩
 rw[e] at pw hj hwl;have ew:ws=[]:=fg.mp hwl;subst ew;ext;refine iteT ?_;ext;intro t2 ht2;ext;obtain⟨g1,g2⟩:=AJ.push (z:=z) pw hp2 ht2;exact#[_,_,_,_,rfl,(s2.put (s2.free ht2)).put hp,g1,by rw[hj];exact g2];rw[e] at pw hj hle;obtain⟨ui,t1,rfl,pi,h1⟩:=pw.unsnoc;have hem:(ui++[V.ref t1]).isEmpty=false:=by simp
 rw[Δ,Ω] at hle;have hpl:=pi.1;have hsz:(ui++[V.ref t1]).length<4000:=by rw[Δ,Ω];lia
 ext;rw[hem];ext;refine CM (λhv=>?_) (λhv=>?_);ext;intro t2 ht2;ext;obtain⟨g1,g2⟩:=AJ.push (z:=z) pw hp2 ht2;exact#[_,_,_,_,rfl,(s2.put (s2.free ht2)).put hp,g1,by rw[hj,G6 hv];exact g2];ext;refine K7 (SqL.of hp2) ?_;ext;refine CM (λhv2=>?_) (λhv2=>?_);ext;intro t2 ht2;ext;obtain⟨g1,g2⟩:=AJ.push (z:=z) pw hp2 ht2;exact#[_,_,_,_,rfl,(s2.put (s2.free ht2)).put hp,g1,by rw[hj,G7 hv2];exact g2];ext;refine K7 (SqL.of hp2) ?_;ext;refine K7 (SqL.of hp2) ?_;ext;intro t2 ht2;ext;refine mX (xs:=ui) (v:=.ref t1) (look_put ht2 hp2) ?_;ext;have g:=AJ.relast (z:=#[w.a,w.l+z.l,false]) pi hp2 ht2;exact#[_,_,_,_,rfl,(s2.put (s2.free ht2)).put hp,xb5,by rw[hj,HL hv2 hv];exact g];rintro σ H2 ⟨ws,x2,x3,x4,rfl,s2,hp2,pw⟩;ext;rw[av ∅] at pw;exact q p ws H2 hp s2 hp2 pw
def gM(K:δ):Sp:=λvs H Q _=>∃(a:wa)(cs:List Int)(ps:List Pc),vs=[.ref a]/\SqL K H a (cs.map V.int)/\cs.length<=4000/\Am 0 ps cs.length/\Bt cs 0=(ps,none) /\
 ∀(p:wa)(H':Hp),H p=none->Same H H'->H' p=some (.lst ((CZ cs (BE ps)).map V.int))->Q (.ref p) H'
def JdW(f0:Option V)(lp:wa)(us:List V)(js:List Pc)(cs:List Int)(H:Hp)(i:Nat)(σ:L2.St)(H':Hp):Prop:=
 ∃(r:wa)(x2 x3 x4:Option V),σ=[f0,xa8 r,x2,x3,x4]/\H r=none/\Same H H'/\H' r=some (.lst ((CZ cs (js.take i)).map V.int))/\H' lp=some (.lst us)/\AJ H' us js
variable (Ay:∎ "looked" 4 ϡ (bA K Y5))
variable (Do:∎ "joined_pieces" 1 ["pieces"] (gL K))
include T Ap Ay Do in
theorem Na(S:Src K mg "joined" RP):∎ "joined" 5 ϡ (gM K):=by
 refine S.okx Lq Iy λf _ A _ s H vs Q E hr h=>?_;obtain⟨a,cs,ps,rfl,hS,hz,hc,hw,q⟩:=h;refine#[_,PSs.nox (Ad (k_ 1 Lq (DO DS s!"" T.n_list az (Aa m_ Ab))) (Ad (DM cc rfl (BX (l_ Do hr (Aa (l_ Ay hr (Aa m_ Ab)) Ab))) (De rfl (AO (ld 2 Lq) (AO (ld 3 Lq) (AO (ld 4 Lq) Cn)))) (Aj (k_ 1 Lq (l_ Ap hr (Aa mt (Aa n_ (Aa o_ (Aa p_ Ab)))))))) (Aj (Aq mt)))),?_];symm;ext;intro r0 hr0;have s0:Same H (upd H r0 (.lst (cs.map V.int))):=Same.new hr0;have e0:upd H r0 (.lst (cs.map V.int)) r0=some (.lst (cs.map V.int)):=xb5;generalize upd H r0 (.lst (cs.map V.int))=H0 at s0 e0 ⊢;ext;refine#[a,cs,rfl,s0.seq hS,hz,(λc hc=>by rw[hw] at hc;cases hc),λ_ lp us H1 nlp s1 hlp pa=>?_];have pa:AJ H1 us ps:=by rw[hw] at pa;exact pa
 have hps:(ps.length:Int)<=cs.length:=by have:=hc.le;lia
 ext;refine#[lp,us,ps,rfl,hlp,pa,∅,λjp js H2 njp s2 hjp pj=>?_];have jc:=bH hc;generalize BE ps=qs at pj jc q;have hjl:=pj.1;have s02:=(s0.trans s1).trans s2;refine#[jp,rfl,#[_,SqL.of hjp],D3 (K:=K) (a:=jp) (xs:=js) (JdW (some (.ref a)) jp js qs cs H) #[r0,none,none,none,rfl,hr0,s02,s2 _ _ (s1 _ _ e0),hjp,pj] (λi σ H2 _ ⟨_,_,_,_,_,_,_,_,h,_⟩=>SqL.of h) ?_ ?_];rintro i y σ H3 hi ⟨r,x2,x3,x4,rfl,nr,s3,hr3,hj3,pj3⟩;have hil:i<js.length:=(γ.mp hi).1;have hip:i<qs.length:=∅;have hz1:qs[i]?=some qs[i]:=by simp [hip]
 obtain⟨t,et,hT⟩:=pj3.2 i qs[i] hz1;have ey:y = .ref t:=Θ (hi.symm.trans et);subst ey;have hj:=nP (cs:=cs) hz1;obtain⟨z0,z1,_,z4⟩:=jc.mem qs[i] f!"";generalize qs[i]=z at hT hj z0 z1 z4;have hll:=T6 (qs.take i) cs;ext;refine#[r,CZ cs (qs.take i),z.a,z.l,z.v,rfl,SqL.of hr3,∅,z0,z1,∅,λp H4 np s4 hp4=>?_];ext;exact#[p,_,_,_,rfl,s3.free np,s3.trans s4,by rw[hj];exact hp4,s4 _ _ hj3,pj3.same s4];rintro σ H3 ⟨r,x2,x3,x4,rfl,nr,s3,hr3,hj3,pj3⟩;ext;rw[av ∅] at hr3;exact q r H3 nr s3 hr3
abbrev xN(K:δ)(C:wa)(a:wa)(cs:List Int)(ps:List Pc)(k:Int)(H:Hp)(Q:VK)(E:XK):Prop:=(∀z∈ps,z.a=k->∀(t:wa)(H':Hp),Same H H'->H' t=some (.tup [.int z.a,.int z.l,.bl z.v])->Q (.ref t) H') /\ ((∀z∈ps,z.a≠k)->∀(H':Hp),Same H H'->E (.ref C) none H')
def gN(K:δ)(C:wa):Sp:=λvs H Q E=>∃(a:wa)(cs:List Int)(ps:List Pc)(k:Int),vs=[.ref a,.int k]/\SqL K H a (cs.map V.int)/\cs.length<=4000/\Bt cs 0=(ps,none)/\xN K C a cs ps k H Q E
def PaW(f0 f1:Option V)(H1:Hp)(ps:List Pc)(k:Int)(i:Nat)(σ:L2.St)(H':Hp):Prop:=H1=H'/\∃x2:Option V,σ=[f0,f1,x2]/\∀z∈ps.take i,z.a≠k
include T Ay in
theorem Nb(S:Src K mg "piece_at" RF):∎ "piece_at" 5 ώ (gN K Y3):=by
 refine S.okx fG Ik λf _ A _ s H vs Q E hr h=>?_;obtain⟨a,cs,ps,k,rfl,hS,hz,hw,q,qe⟩:=h;refine#[_,(Ad (DM rb rfl (BX (Bu Ay hr s!"" (Aa m_ Ab))) (ld 2 fG) (Aj (AA (Ax A8 (Az By n_ Ai (λ_ _=>rfl)) mt) (Aj (Aq n_)) AB))) (Aj (Cy T.UV hr.hd rfl (Aa AG Ab)))),?_];symm;ext;refine#[a,cs,rfl,hS,hz,(λc hc=>by rw[hw] at hc;cases hc),λ_ lp us H1 nlp s1 hlp pa=>?_];have pa:AJ H1 us ps:=by rw[hw] at pa;exact pa
 have hul:=pa.1;refine#[lp,rfl,#[_,SqL.of hlp],D3 (K:=K) (a:=lp) (xs:=us) (PaW (some (.ref a)) (some (.int k)) H1 ps k) #[rfl,none,rfl,λz hz=>by cases hz] (λi σ H2 _ ⟨h,_⟩=>h▸SqL.of hlp) ?_ ?_];rintro i y σ H2 hi ⟨rfl,x2,rfl,hq⟩;have hil:i<us.length:=(γ.mp hi).1;have hip:i<ps.length:=∅;obtain⟨t,et,hT⟩:=pa.2 i ps[i] (by simp [hip]);have ey:y = .ref t:=Θ (hi.symm.trans et);subst ey;ext;refine AW (λhk=>?_) (λhk=>?_);ext;exact q ps[i] f!"" hk t _ s1 hT;ext;refine#[rfl,_,rfl,λz hz=>?_];rw[bj,ρ hip] at hz;rcases ν.mp hz with h | h
 exact hq z h;have:z=ps[i]:=by simpa using h
 rw[this];exact hk;rintro σ H2 ⟨rfl,x2,rfl,hq⟩;rw[av ∅] at hq;ext;exact qe hq _ s1
abbrev xO(K:δ)(C:wa)(v:Bool)(a:wa)(cs:List Int)(ps:List Pc)(k:Int)(H:Hp)(Q:VK)(E:XK):Prop:=(∀z∈ps,z.a=k->z.v=v->∀(t:wa)(H':Hp),Same H H'->H' t=some (.tup [.int z.a,.int z.l,.bl z.v])->Q (.ref t) H') /\ ((∀z∈ps,z.a=k->z.v≠v)->∀(H':Hp),Same H H'->E (.ref C) none H')
def SW(K:δ)(C:wa)(v:Bool):Sp:=λvs H Q E=>∃(a:wa)(cs:List Int)(ps:List Pc)(k:Int),vs=[.ref a,.int k]/\SqL K H a (cs.map V.int)/\cs.length<=4000/\Bt cs 0=(ps,none)/\Am 0 ps cs.length/\xO K C v a cs ps k H Q E
variable (B6:∎ "piece_at" 5 ώ (gN K Y3))
include T B6 in
theorem Nc(S:Src K mg "live_at" RG):∎ "live_at" 6 ώ (SW K Y3 true):=by
 refine S.okx fH Il λf _ A _ s H vs Q E hr h=>?_;obtain⟨a,cs,ps,k,rfl,hS,hz,hw,hc,q,qe⟩:=h;refine#[_,(Ad (k_ 2 fH (Bu B6 hr s!"" (Aa m_ (Aa mt Ab)))) (Ad (AA (Bd (Dc (Az By n_ Ai (λ_ _=>rfl)) (λ_=>rfl))) (Aj (Cy T.UV hr.hd rfl (Aa AG Ab))) AB) (Aj (Aq n_)))),?_];symm;ext;refine#[a,cs,ps,k,rfl,hS,hz,hw,λz hm hk t H1 s1 ht=>?_,λhn H1 s1=>qe (λz hz hk=>xb0 hk (hn z hz)) _ s1];ext;refine CM (λhv=>?_) (λhv=>?_);ext;exact q z hm hk hv t _ s1 ht;ext;refine qe (λy hy hk2=>?_) _ s1;rw[CY hc hy hm ∅,hv];exact λz=>nomatch z
include T B6 in
theorem Nd(S:Src K mg "free_at" RH):∎ "free_at" 6 ώ (SW K Y3 false):=by
 refine S.okx fJ Im λf _ A _ s H vs Q E hr h=>?_;obtain⟨a,cs,ps,k,rfl,hS,hz,hw,hc,q,qe⟩:=h;refine#[_,(Ad (k_ 2 fJ (Bu B6 hr s!"" (Aa m_ (Aa mt Ab)))) (Ad (AA (Dc (Az By n_ Ai (λ_ _=>rfl)) (λ_=>rfl)) (Aj (Cy T.UV hr.hd rfl (Aa AG Ab))) AB) (Aj (Aq n_)))),?_];symm;ext;refine#[a,cs,ps,k,rfl,hS,hz,hw,λz hm hk t H1 s1 ht=>?_,λhn H1 s1=>qe (λz hz hk=>xb0 hk (hn z hz)) _ s1];ext;refine CM (λhv=>?_) (λhv=>?_);ext;refine qe (λy hy hk2=>?_) _ s1;rw[CY hc hy hm ∅,hv];exact λz=>nomatch z;ext;exact q z hm hk hv t _ s1 ht
abbrev xP(K:δ)(CP CR:wa)(a:wa)(cs:List Int)(ps:List Pc)(k s L:Int)(H:Hp)(Q:VK)(E:XK):Prop:=(∀z∈ps,z.a=k->z.v=false->z.a<=s->s+L<=z.a+z.l->∀(p:wa)(H':Hp),H p=none->Same H H'->H' p=some (.lst ((zd cs z.a z.l s L).map V.int))->Q (.ref p) H') /\ (∀z∈ps,z.a=k->z.v=false->¬(z.a<=s/\s+L<=z.a+z.l)->∀(H':Hp),Same H H'->E (.ref CR) none H') /\ ((∀z∈ps,z.a=k->z.v≠false)->∀(H':Hp),Same H H'->E (.ref CP) none H')
def gO(K:δ)(CP CR:wa):Sp:=λvs H Q E=>∃(a:wa)(cs:List Int)(ps:List Pc)(k s L:Int),vs=[.ref a,.int k,.int s,.int L]/\SqL K H a (cs.map V.int)/\cs.length<=4000/\Am 0 ps cs.length/\At cs ps/\1<=L/\xP K CP CR a cs ps k s L H Q E
variable (Dp:∎ "free_at" 6 ώ (SW K Y3 false))
variable (Be:∎ "laid_free" 3 ϧ (gK K))
include T Ap Dp Be in
theorem Nf(S:Src K mg "cut_out" RL):∎ "cut_out" 7 ϩ (gO K Y3 A5):=by
 refine S.okx Iv Iw λf _ A _ s H vs Q E hr h=>?_;obtain⟨a,cs,ps,k,s,L,rfl,hS,hz,hc,mk,hL,q,qr,qe⟩:=h;refine#[_,(Ad (CJ (Bu Dp hr s!"" (Aa m_ (Aa mt Ab))) (De rfl (AO (ld 4 Iv) (AO (ld 5 Iv) (AO (ld 6 Iv) Cn))))) (Ad (k_ 7 Iv (Ao AU p_ q_)) (Ad (AA (PW.pt (Bf (Ax Db n_ p_) (BB (Ax HF (Ao AU n_ o_) r_)))) (Aj (Cy T.MV hr.hd rfl (Aa AG Ab))) AB) (Ad (k_ 8 Iv (l_ Be hr (Aa m_ (Aa p_ (Aa n_ Ab))))) (Ad (k_ 8 Iv (l_ Ap hr (Aa s_ (Aa n_ (Aa o_ (Aa AV Ab)))))) (Aj (Aq (l_ Be hr (Aa s_ (Aa (Ao AU n_ o_) (Aa r_ Ab))))))))))),?_];symm;have hw:=B0 hc mk;ext;refine#[a,cs,ps,k,rfl,hS,∅,hw,hc,λz hm hk hv t H1 s1 ht=>?_,λhn H1 s1=>qe hn _ s1];obtain⟨z0,z1,_,z4⟩:=hc.mem z hm;ext;refine AW (λh1=>?_) (λh1=>?_);ext;exact qr z hm hk hv ∅ _ s1;ext;refine AW (λh2=>?_) (λh2=>?_);ext;exact qr z hm hk hv ∅ _ s1;ext;refine#[a,cs,z.a,s,rfl,s1.seq hS,hz,z0,∅,∅,λp2 H2 n2 s2 g2=>?_];ext;refine#[p2,lfI cs z.a s,s,L,true,rfl,SqL.of g2,by rw[Dj];exact hz,∅,hL,by rw[Dj];lia,λp3 H3 n3 s3 g3=>?_];ext;refine#[p3,AS (lfI cs z.a s) s L true,s+L,z.a+z.l,rfl,SqL.of g3,by rw[B3,Dj];exact hz,∅,∅,by rw[B3,Dj];lia,λp4 H4 n4 s4 g4=>?_];ext;have s13:=(s1.trans s2).trans s3;exact q z hm hk hv ∅ ∅ p4 H4 (s13.free n4) (s13.trans s4) g4
def gP(K:δ):Sp:=λvs H Q _=>∃(a:wa)(cs:List Int)(ps:List Pc)(i:Nat)(z:Pc),vs=[.ref a,.int z.a]/\SqL K H a (cs.map V.int)/\Am 0 ps cs.length/\At cs ps/\ps[i]?=some z/\Q (.int (yP ps i z)) H
def gQ(K:δ):Sp:=λvs H Q _=>∃(a:wa)(cs:List Int)(ps:List Pc)(i:Nat)(z:Pc),vs=[.ref a,.int (z.a+z.l)]/\SqL K H a (cs.map V.int)/\Am 0 ps cs.length/\At cs ps/\ps[i]?=some z/\Q (.int (yH ps i z)) H
include T AC AZ in
theorem Ng(S:Src K mg "free_begin" RJ):∎ "free_begin" 2 ώ (gP K):=by
 refine S.okx Ip Iq λf _ A _ s H vs Q E hr h=>?_;obtain⟨a,cs,ps,i,z,rfl,hS,hc,mk,hi,q⟩:=h;refine#[_,PSs.nox (Ad (AA (PW.pt (Bf (Ax A8 mt Ai) (BB (BU (l_ AZ hr (Aa (Az AQ m_ (Ao BY mt Ai) (λ_ _=>rfl)) Ab)))))) (Aj (Aq mt)) AB) (Aj (Aq (Ao BY mt (l_ AC hr (Aa (Az AQ m_ (Ao BY mt Ai) (λ_ _=>rfl)) Ab)))))),?_];symm;obtain⟨z0,z1,_,z4⟩:=hc.mem z (ζ hi);cases i with
 | zero=>
   have e:=nF hc hi;ext;exact q
 | succ j=>
   have hp:=T3 hc hi;have hj:j<ps.length:=by have:=(γ.mp hi).1;lia
   have hy:ps[j]?=some ps[j]:=by simp [hj]
   have hm:=nJ hc mk hy hi;have hn:=ED hc hy hi;generalize ps[j]=y at hy hm hn;have hm':cs.getD (z.a-1).toNat 0=yQ y.l y.v:=hm;ext;rw[hm',Mc];refine CM (λhv=>?_) (λhv=>?_);ext;rw[QU hy hv] at q;exact q;ext;rw[hm',EB,show z.a-y.l=y.a by lia];rw[QW hy hv] at q;exact q
include T AC AZ in
theorem Nh(S:Src K mg "free_end" RK):∎ "free_end" 2 ϸ (gQ K):=by
 refine S.okx Ir Iu λf _ A _ s H vs Q E hr h=>?_;obtain⟨a,cs,ps,i,z,rfl,hS,hc,mk,hi,q⟩:=h;refine#[_,PSs.nox (Ad (AA (PW.pt (Bf (Ax A8 mt (A7 CG s!"" T.n_len bq (Aa m_ Ab))) (BB (BU (l_ AZ hr (Aa (Az AQ m_ mt (λ_ _=>rfl)) Ab)))))) (Aj (Aq mt)) AB) (Aj (Aq (Ao AU mt (l_ AC hr (Aa (Az AQ m_ mt (λ_ _=>rfl)) Ab)))))),?_];symm;obtain⟨z0,z1,_,z4⟩:=hc.mem z (ζ hi);by_cases hl:ps.length=i+1;have e:=nE hc hi hl;ext;rw[T5 (dz ∅)] at q;exact q;have hj:i+1<ps.length:=by have:=(γ.mp hi).1;lia
 have hy:ps[i+1]?=some ps[i+1]:=by simp [hj]
 have hm:=nK hc mk hi hy;have hn:=ED hc hi hy;generalize ps[i+1]=y at hy hm hn;obtain⟨y0,y1,_,y4⟩:=hc.mem y (ζ hy);have hm':cs.getD (z.a+z.l).toNat 0=yQ y.l y.v:=hm;ext;rw[hm',Mc];refine CM (λhv=>?_) (λhv=>?_);ext;rw[QX hy hv] at q;exact q;ext;rw[hm',EB,<-hn];rw[QY hy hv] at q;exact q
abbrev xQ(K:δ)(C:wa)(a:wa)(cs:List Int)(ps:List Pc)(k:Int)(H:Hp)(Q:VK)(E:XK):Prop:=(∀i z,ps[i]?=some z->z.a=k->z.v=true->∀(p:wa)(H':Hp),H p=none->Same H H'->H' p=some (.lst ((lfI cs (yP ps i z) (yH ps i z)).map V.int))->Q (.ref p) H') /\ ((∀z∈ps,z.a=k->z.v≠true)->∀(H':Hp),Same H H'->E (.ref C) none H')
def gR(K:δ)(C:wa):Sp:=λvs H Q E=>∃(a:wa)(cs:List Int)(ps:List Pc)(k:Int),vs=[.ref a,.int k]/\SqL K H a (cs.map V.int)/\cs.length<=4000/\Am 0 ps cs.length/\At cs ps/\xQ K C a cs ps k H Q E
variable (Bi:∎ "live_at" 6 ώ (SW K Y3 true))
variable (Dq:∎ "free_begin" 2 ώ (gP K))
variable (B7:∎ "free_end" 2 ϸ (gQ K))
include T Be Bi Dq B7 in
theorem J5(S:Src K mg "freed" RM):∎ "freed" 7 ώ (gR K Y3):=by
 refine S.okx RN sE λf _ A _ s H vs Q E hr h=>?_;obtain⟨a,cs,ps,k,rfl,hS,hz,hc,mk,q,qe⟩:=h;refine#[_,(Ad (CJ (Bu Bi hr s!"" (Aa m_ (Aa mt Ab))) (De rfl (AO (ld 2 RN) (AO (ld 3 RN) (AO (ld 4 RN) Cn))))) (Aj (Aq (l_ Be hr (Aa m_ (Aa (l_ Dq hr (Aa m_ (Aa n_ Ab))) (Aa (l_ B7 hr (Aa m_ (Aa (Ao AU n_ o_) Ab))) Ab))))))),?_];symm;have hw:=B0 hc mk;ext;refine#[a,cs,ps,k,rfl,hS,hz,hw,hc,λz hm hk hv t H1 s1 ht=>?_,λhn H1 s1=>qe hn _ s1];obtain⟨i,hi⟩:=aj hm;have b1:=bE hc hi;have b2:=T4 hc hi;have hS1:=s1.seq hS;obtain⟨z0,z1,_,z4⟩:=hc.mem z hm;ext;refine#[a,cs,ps,i,z,rfl,hS1,hc,mk,hi,?_];ext;refine#[a,cs,ps,i,z,rfl,hS1,hc,mk,hi,?_];ext;refine#[a,cs,_,_,rfl,hS1,hz,b1.1,∅,∅,λp H2 n2 s2 g2=>?_];ext;exact q i z hi hk hv p H2 (s1.free n2) (s1.trans s2) g2
abbrev xR(K:δ)(a:wa)(cs:List Int)(s g c:Int)(H:Hp)(Q:VK):Prop:=∀(p:wa)(H':Hp),H p=none->Same H H'->H' p=some (.lst ((zf cs s.toNat g.toNat c.toNat).map V.int))->Q (.ref p) H'
def gS(K:δ):Sp:=λvs H Q _=>∃(a:wa)(cs:List Int)(s g c:Int),vs=[.ref a,.int s,.int g,.int c]/\SqL K H a (cs.map V.int)/\cs.length<=1200/\0<=s/\0<=g/\0<=c/\s+c<=cs.length/\g+c<=cs.length/\xR K a cs s g c H Q
include T in
theorem Ni(S:Src K mg "carried" RQ):∎ "carried" 1 Ϥ (gS K):=by
 refine S.okx fL Iz λf _ A _ s H vs Q E hr h=>?_;obtain⟨a,cs,s,g,c,rfl,hS,hz,h0,h1,h2,h3,h4,q⟩:=h;refine#[_,PSs.nox (Ad (k_ 4 fL (DO DS s!"" T.n_list az (Aa m_ Ab))) (Aj (Aq (Ao K3 (Ao K3 (Dg Dh p_ GU (Cq n_)) (Dg Dh p_ (Cq mt) (Cq (Ao AU mt o_)))) (Dg Dh p_ (Cq (Ao AU n_ o_)) GU))))),?_];symm;have n1:=TQ cs none (some g);have n2:=TQ cs (some s) (some (s+c));have n3:=TQ cs (some (g+c)) none;ext;intro p0 m0;have s0:Same H (upd H p0 (.lst (cs.map V.int))):=Same.new m0;have e0:upd H p0 (.lst (cs.map V.int)) p0=some (.lst (cs.map V.int)):=xb5;generalize upd H p0 (.lst (cs.map V.int))=H0 at s0 e0 ⊢;have hS0:SqL K H0 p0 (cs.map V.int):=SqL.of e0;clear hS;ext;intro p1 H1 m1 s1 hh1;have hS1:=s1.seq hS0;ext;intro p2 H2 m2 s2 hh2;have h1':=s2 p1 _ hh1;have hS2:=s2.seq hS1;ext;intro p3 H3 m3 s3 hh3;have hS3:=s3.seq hS2;ext;intro p4 H4 m4 s4 hh4;have h3':=s4 p3 _ hh3;have n4:(yR cs none (some g)++yR cs (some s) (some (s+c))).length+(yR cs (some (g+c)) none).length<=4000:=by rw[Δ];lia
 ext;intro p5 H5 m5 s5 h5;ext;have s14:=(((s0.trans s1).trans s2).trans s3).trans s4;refine q p5 H5 (s14.free m5) (s14.trans s5) ?_;rw[h5,pH h1 ∅,pI h0 h2 h3,Ur ∅ h4];unfold zf;rw[show (g+c).toNat=g.toNat+c.toNat by lia]
def gT(CA:wa):Sp:=λvs H Q E=>∃c b:Int,vs=[.int c,.int b]/\(c<1\/b<1->E (.ref CA) none H)/\(1<=c->1<=b->Q .non H)
include T in
theorem Nj(S:Src K mg "check_ask" Rv):∎ "check_ask" 1 ϛ (gT Da):=by
 refine S.okx HV HW λf _ A _ s H vs Q E hr h=>?_;obtain⟨c,b,rfl,qe,q⟩:=h;refine#[_,(Aj (AA (PW.pt (Bf (Ax Db m_ Ai) (BB (Ax Db mt Ai)))) (Aj (Cy T.sZ hr.hd rfl (Aa AG Ab))) AB)),?_];symm;ext;refine AW (λh1=>?_) (λh1=>?_);ext;exact qe (.inl h1);ext;refine AW (λh2=>?_) (λh2=>?_);ext;exact qe (.inr h2);ext;exact q ∅ ∅
def BgW(H1:Hp)(ps:List Pc)(s:Int)(D:wa)(i:Nat)(ys:List V)(H2:Hp):Prop:=Same H1 H2/\H2 D=some (.lst ys)/\ys=(((ps.take i).filter λz=>decide (z.a<=s)).map λz=>V.int z.a)
def gU(CA CB:wa):Sp:=λvs H Q E=>∃c b:Int,vs=[.int c,.int b]/\(c<1\/b<1->E (.ref CA) none H)/\(1<=c->1<=b->b≠1->E (.ref CB) none H)/\(1<=c->b=1->Q .non H)
variable (Bj:∎ "check_ask" 1 ϛ (gT Da))
include T Bj in
theorem U2(S:Src K mg "check_plain_ask" EG):∎ "check_plain_ask" 2 ϛ (gU Da Y2):=by
 refine S.okx Mx My λf _ A _ s H vs Q E hr h=>?_;obtain⟨c,b,rfl,qa,qb,q⟩:=h;refine#[_,(Ad (Bm (Bu Bj hr s!"" (Aa m_ (Aa mt Ab)))) (Aj (AA (Ax Df mt Ai) (Aj (Cy T.tE hr.hd rfl (Aa AG Ab))) AB))),?_];symm;ext;refine#[c,b,rfl,qa,λh1 h2=>?_];ext;refine AW (λh3=>?_) (λh3=>?_);ext;exact q h1 h3;ext;exact qb h1 h2 h3
structure BS(C:W7->wa)(i:W7)(x dx a:wa)(r:Int)(cs:List Int)(ps:List Pc)(H:Hp):Prop where
 hx:H x=some (.ins (C i) dx (fsF i a r))
 ha:H a=some (.lst (cs.map V.int))
 hz:cs.length<=1200
 hc:Am 0 ps cs.length
 mm:At cs ps
structure KS(C:W7->wa)(x dx a:wa)(q:St7)(cs:List Int)(H:Hp):Prop where
 hx:H x=some (.ins (C q.let3) dx (fsF q.let3 a q.s))
 ha:H a=some (.lst (cs.map V.int))
 hl:(cs.length:Int)=q.n
 hz:cs.length<=1200
 ok:q.ok
 mm:At cs q.ps
section
variable {C:W7->wa}{x dx a:wa}{q:St7}{cs:List Int}{H H':Hp}
theorem KS.same(S:KS C x dx a q cs H)(s:Same H H'):KS C x dx a q cs H':=#[s x _ S.hx,s a _ S.ha,S.hl,S.hz,S.ok,S.mm]
theorem KS.ch(S:KS C x dx a q cs H):Am 0 q.ps cs.length:=by rw[S.hl];exact St7.ch S.ok
theorem KS.bs(S:KS C x dx a q cs H):BS C q.let3 x dx a q.s cs q.ps H:=#[S.hx,S.ha,S.hz,S.ch,S.mm]
end
abbrev xS(C:W7->wa)(i:W7)(x dx:wa)(n:Int)(H:Hp)(Q:VK):Prop:=∀(a:wa)(H':Hp),H a=none->Aw x H H'->H' x=some (.ins (C i) dx [("room_cells",.ref a)])->H' a=some (.lst ((BA n).map V.int))->Q .non H'
def gW(C:W7->wa):Sp:=λvs H Q _=>∃(i:W7)(x dx:wa)(n:Int),vs=[.ref x,.int n]/\H x=some (.ins (C i) dx [])/\1<=n/\n<=4000/\xS C i x dx n H Q
variable (AD:∎ "fresh_room" 2 ["count"] (gH AY))
include T AD in
theorem Nk(F:Fun K "__init__" "Keeper.__init__" EJ f₀ fd₀)(M:ClsM K Y7 "__init__" f₀):zj P w K mg base "Keeper" "__init__" 3 ϐ (gW ⋯):=by
 refine#[#[Y7,f₀,fd₀,Ba F Ls (λ_ A _ s H vs Q E hr h=>?_),M,F.binds Lu,T.sS]];obtain⟨i,x,dx,n,rfl,hx,h1,h4,q⟩:=h;refine#[_,PSs.nox (Aj (CK m_ (l_ AD hr (Aa mt Ab)) rfl)),?_];symm;have cl:=yJ T i;have na:=yW T i;ext;refine#[n,rfl,h4,λz=>xb0 z ∅,λ_ p H1 np s1 hp=>?_];have hx1:=s1 x _ hx;have hne:p≠x:=λz=>by rw[z,hx] at np;cases np
 ext;exact q p _ np (Aw.of s1).put xb5 (look_ne hne hp)
abbrev xT(C CS:wa)(x dx:wa)(n:Int)(H:Hp)(Q:VK)(E:XK):Prop:=(n<1->E (.ref CS) none H) /\ (1<=n->∀(a:wa)(H':Hp),H a=none->Aw x H H'->H' x=some (.ins C dx [("room_cells",.ref a)])->H' a=some (.lst ((BA n).map V.int))->Q .non H')
def zm(C CS:wa):Sp:=λvs H Q E=>∃(x dx:wa)(n:Int),vs=[.ref x,.int n]/\H x=some (.ins C dx [])/\n<=4000/\xT C CS x dx n H Q E
include T AD in
theorem tT(F:Fun K "__init__" "Keeper.__init__" EJ f₀ fd₀)(M:Mk K Ae f₀):yM P w K mg base "First" Ae 3 ϐ [] (zm Ae AY):=by
 refine#[#[f₀,fd₀,[],Ba F Ls (λ_ A _ s H vs Q E hr h=>?_),M,F.binds Lu,.nil],T.sW];obtain⟨x,dx,n,rfl,hx,h4,qe,q⟩:=h;refine#[_,(Aj (CK m_ (Bu AD hr s!"" (Aa mt Ab)) rfl)),?_];symm;have cl:=T.SS;have na:=T.UW;ext;refine#[n,rfl,h4,λz=>qe z,λh1 p H1 np s1 hp=>?_];have hx1:=s1 x _ hx;have hne:p≠x:=λz=>by rw[z,hx] at np;cases np
 ext;exact q h1 p _ np (Aw.of s1).put xb5 (look_ne hne hp)
include T AD in
theorem uc7(F:Fun K "__init__" "Keeper.__init__" EJ f₀ fd₀)(M:Mk K Af f₀):yM P w K mg base "Best" Af 3 ϐ [] (zm Af AY):=by
 refine#[#[f₀,fd₀,[],Ba F Ls (λ_ A _ s H vs Q E hr h=>?_),M,F.binds Lu,.nil],T.c_Best];obtain⟨x,dx,n,rfl,hx,h4,qe,q⟩:=h;refine#[_,(Aj (CK m_ (Bu AD hr s!"" (Aa mt Ab)) rfl)),?_];symm;have cl:=T.ST;have na:=T.UX;ext;refine#[n,rfl,h4,λz=>qe z,λh1 p H1 np s1 hp=>?_];have hx1:=s1 x _ hx;have hne:p≠x:=λz=>by rw[z,hx] at np;cases np
 ext;exact q h1 p _ np (Aw.of s1).put xb5 (look_ne hne hp)
include T AD in
theorem tU(F:Fun K "__init__" "Keeper.__init__" EJ f₀ fd₀)(M:Mk K Ag f₀):yM P w K mg base "Likes" Ag 3 ϐ [] (zm Ag AY):=by
 refine#[#[f₀,fd₀,[],Ba F Ls (λ_ A _ s H vs Q E hr h=>?_),M,F.binds Lu,.nil],T.sX];obtain⟨x,dx,n,rfl,hx,h4,qe,q⟩:=h;refine#[_,(Aj (CK m_ (Bu AD hr s!"" (Aa mt Ab)) rfl)),?_];symm;have cl:=T.SU;have na:=T.UZ;ext;refine#[n,rfl,h4,λz=>qe z,λh1 p H1 np s1 hp=>?_];have hx1:=s1 x _ hx;have hne:p≠x:=λz=>by rw[z,hx] at np;cases np
 ext;exact q h1 p _ np (Aw.of s1).put xb5 (look_ne hne hp)
include T AD in
theorem d_Row(F:Fun K "__init__" "Keeper.__init__" EJ f₀ fd₀)(M:Mk K Ah f₀):yM P w K mg base "Row" Ah 3 ϐ [] (zm Ah AY):=by
 refine#[#[f₀,fd₀,[],Ba F Ls (λ_ A _ s H vs Q E hr h=>?_),M,F.binds Lu,.nil],T.c_Row];obtain⟨x,dx,n,rfl,hx,h4,qe,q⟩:=h;refine#[_,(Aj (CK m_ (Bu AD hr s!"" (Aa mt Ab)) rfl)),?_];symm;have cl:=T.cl_Row;have na:=T.U1;ext;refine#[n,rfl,h4,λz=>qe z,λh1 p H1 np s1 hp=>?_];have hx1:=s1 x _ hx;have hne:p≠x:=λz=>by rw[z,hx] at np;cases np
 ext;exact q h1 p _ np (Aw.of s1).put xb5 (look_ne hne hp)
include T AD in
theorem Nl(F:Fun K "__init__" "Keeper.__init__" EJ f₀ fd₀)(M:ClsM K Y1 "__init__" f₀):zj P w K mg base "Stretches" "__init__" 3 ϐ (zm Ac AY):=by
 refine#[#[Y1,f₀,fd₀,Ba F Ls (λ_ A _ s H vs Q E hr h=>?_),M,F.binds Lu,T.sV]];obtain⟨x,dx,n,rfl,hx,h4,qe,q⟩:=h;refine#[_,(Aj (CK m_ (Bu AD hr s!"" (Aa mt Ab)) rfl)),?_];symm;have cl:=T.Lw;have na:=T.MW;ext;refine#[n,rfl,h4,λz=>qe z,λh1 p H1 np s1 hp=>?_];have hx1:=s1 x _ hx;have hne:p≠x:=λz=>by rw[z,hx] at np;cases np
 ext;exact q h1 p _ np (Aw.of s1).put xb5 (look_ne hne hp)
abbrev xU(C CS:wa)(x dx:wa)(n:Int)(H:Hp)(Q:VK)(E:XK):Prop:=(n<1->E (.ref CS) none H) /\ (1<=n->∀(a:wa)(H':Hp),H a=none->Aw x H H'->H' x=some (.ins C dx [("room_cells",.ref a),("room_rover",.int 0)])->H' a=some (.lst ((BA n).map V.int))->Q .non H')
def D_(C CS:wa):Sp:=λvs H Q E=>∃(x dx:wa)(n:Int),vs=[.ref x,.int n]/\H x=some (.ins C dx [])/\n<=4000/\xU C CS x dx n H Q E
variable (Dr:zj P w K mg base "Stretches" "__init__" 3 ϐ (zm Ac AY))
include T Dr in
theorem uc6(F:Fun K "__init__" "Next.__init__" Ss f₀ fd₀)(M:Mk K Ac f₀):yM P w K mg base "Next" Ac 4 ϐ [] (D_ Ac AY):=by
 refine#[#[f₀,fd₀,[],Ba F sK (λ_ A _ s H vs Q E hr h=>?_),M,F.binds sL,.nil],T.c_Next];obtain⟨x,dx,n,rfl,hx,h4,qe,q⟩:=h;refine#[_,(Ad (Bm (TN Dr BV hr s!"" (Aa m_ (Aa mt Ab)))) (Aj (CK m_ Ai rfl))),?_];symm;have cl:=T.Lw;have na:=T.MW;have nr:=T.UY;ext;refine#[x,dx,n,rfl,hx,h4,λz=>qe z,λh1 a H1 na1 k1 hx1 ha1=>?_];have hne:a≠x:=λz=>by rw[z,hx1] at ha1;cases ha1
 ext;exact q h1 a _ na1 (k1.trans Aw.refl.put) xb5 (look_ne hne ha1)
def fsB(i:W7)(r:Int):Int:=match i with
 | .shel=>r
 | _=>0
def bgC(i:W7)(cs:List Int)(ps:List Pc):List Int:=match i with
 | .half=>cs
 | .shel=>cs
 | .row=>cs
 | _=>CZ cs (BE ps)
theorem U3{r:Int}(h:i≠W7.next):fsF i a r=fsF i a (fsB i r):=by cases i <;> first | rfl | exact xb0 rfl h
theorem bgC_3(h:ok3 i):bgC i cs ps=cs:=by cases i <;> first | rfl | exact h.elim
theorem U4(h:ok4 i):bgC i cs ps=CZ cs (BE ps):=by cases i <;> first | rfl | exact h.elim
def okS:W7->Prop
 | .first=>True
 | .best=>True
 | .likes=>True
 | _=>False
theorem okS.four(h:okS i):ok4 i:=by cases i <;> first | exact trivial | exact h.elim
theorem okS.ne(h:okS i):i≠.next:=by rintro rfl;exact h
abbrev xV(K:δ)(C:W7->wa)(i:W7)(r:Int)(x h dx a:wa)(cs:List Int)(ps:List Pc)(H:Hp)(Q:VK):Prop:=∀(a':wa)(H':Hp),H a'=none->Aw x H H'->H' x=some (.ins (C i) dx (fsF i a' (fsB i r)))->H' a'=some (.lst ((bgC i cs ps).map V.int))->Q .non H'
def Nm(K:δ)(C:W7->wa)(i:W7):Sp:=λvs H Q _=>∃(r:Int)(x h dx a:wa)(cs:List Int)(ps:List Pc),vs=[.ref x,.ref h]/\H x=some (.ins (C i) dx (fsF i a r))/\SqL K H h (cs.map V.int)/\cs.length<=4000/\Am 0 ps cs.length/\Bt cs 0=(ps,none)/\xV K C i r x h dx a cs ps H Q
include T in
theorem J6(F:Fun K "room_begin" "Keeper.room_begin" EK f₀ fd₀)(M:∀i,(ok3) i->yI K (⋯ i) "room_begin" f₀):Bz P w K mg base (ok3) ⋯ "room_begin" 1 ϑ [] (Nm K ⋯):=by
 refine Bz.made (Ba F MF (λ_ A _ s H vs Q E hr h=>?_)) M (F.binds MG) (yJ T);refine#[_,PSs.nox (Aj (CK m_ (DO DS s!"" T.n_list az (Aa mt Ab)) rfl)),?_];obtain⟨i,hi,r,x,h,dx,a,cs,ps,rfl,hx,hS,hz,hc,hw,q⟩:=h;have hi:ok3 i:=hi;have cl:=yJ T i;have na:=yW T i;ext;intro p np;have s1:Same H (upd H p (.lst (cs.map V.int))):=Same.new np;have hx1:=s1 x _ hx;have hp:upd H p (.lst (cs.map V.int)) p=some (.lst (cs.map V.int)):=xb5;have hne:p≠x:=λz=>by rw[z,hx] at np;cases np
 generalize upd H p (.lst (cs.map V.int))=H1 at s1 hx1 hp ⊢;ext;refine q p _ np (Aw.of s1).put (by rw[xb5,Ld,<-U3 (λe=>by rw[e] at hi;exact hi)]) (by rw[bgC_3 hi];exact look_ne hne hp)
variable (B8:∎ "joined" 5 ϡ (gM K))
include T B8 in
theorem J7(F:Fun K "room_begin" "Stretches.room_begin" EL f₀ fd₀)(M:∀i,(okS) i->yI K (⋯ i) "room_begin" f₀):Bz P w K mg base (okS) ⋯ "room_begin" 6 ϑ [] (Nm K ⋯):=by
 refine Bz.made (Ba F MH (λ_ A _ s H vs Q E hr h=>?_)) M (F.binds MI) (yJ T);obtain⟨i,hi,r,x,h,dx,a,cs,ps,rfl,hx,hS,hz,hc,hw,q⟩:=h;refine#[_,PSs.nox (Aj (CK m_ (l_ B8 hr (Aa mt Ab)) rfl)),?_];symm;have hi:okS i:=hi;have cl:=yJ T i;have na:=yW T i;ext;refine#[h,cs,ps,rfl,hS,hz,hc,hw,λp H1 np s1 hp=>?_];have hx1:=s1 x _ hx;have hne:p≠x:=λz=>by rw[z,hx] at np;cases np
 ext;exact q p _ np (Aw.of s1).put (by rw[xb5,Ld,<-U3 hi.ne]) (by rw[U4 hi.four];exact look_ne hne hp)
include T B8 in
theorem J8(F:Fun K "room_begin" "Next.room_begin" EM f₀ fd₀)(M:∀i,(λi=>i=W7.next) i->yI K (⋯ i) "room_begin" f₀):Bz P w K mg base (λi=>i=W7.next) ⋯ "room_begin" 6 ϑ [] (Nm K ⋯):=by
 refine Bz.made (Ba F MJ (λ_ A _ s H vs Q E hr h=>?_)) M (F.binds MK) (yJ T);obtain⟨i,hi,r,x,h,dx,a,cs,ps,rfl,hx,hS,hz,hc,hw,q⟩:=h;refine#[_,PSs.nox (Ad (CK m_ (l_ B8 hr (Aa mt Ab)) rfl) (Aj (CK m_ Ai rfl))),?_];symm;have hi:i=W7.next:=hi;subst hi;have hx:H x=some (.ins Ac dx [("room_cells",.ref a),("room_rover",.int r)]):=hx;have cl:=T.Lw;have na:=T.MW;have nr:=T.UY;ext;refine#[h,cs,ps,rfl,hS,hz,hc,hw,λp H1 np s1 hp=>?_];have hx1:=s1 x _ hx;have hne:p≠x:=λz=>by rw[z,hx] at np;cases np
 ext;generalize hH:upd H1 x _=H2;have hx2:H2 x=some (.ins Ac dx [("room_cells",.ref p),("room_rover",.int r)]):=by rw[<-hH];exact xb5
 have hp2:H2 p=some (.lst ((CZ cs (BE ps)).map V.int)):=by rw[<-hH];exact look_ne hne hp
 have k2:Aw x H H2:=by rw[<-hH];exact(Aw.of s1).put
 ext;exact q p _ np k2.put xb5 (look_ne hne hp2)
abbrev xW(K:δ)(C:W7->wa)(i:W7)(r:Int)(x h dx a:wa)(cs0 cs:List Int)(ps:List Pc)(H:Hp)(Q:VK):Prop:=∀(a':wa)(H':Hp),H a'=none->Aw x H H'->H' x=some (.ins (C i) dx (fsF i a' (fsB i r)))->H' a'=some (.lst ((bgC i cs ps).map V.int))->Q .non H'
def gX(K:δ)(C:W7->wa)(i:W7):Sp:=λvs H Q _=>∃(r:Int)(x h dx a:wa)(cs0 cs:List Int)(ps:List Pc),vs=[.ref x,.ref h]/\H x=some (.ins (C i) dx (fsF i a r))/\H a=some (.lst (cs0.map V.int))/\cs.length=cs0.length/\SqL K H h (cs.map V.int)/\cs.length<=4000/\Am 0 ps cs.length/\Bt cs 0=(ps,none)/\xW K C i r x h dx a cs0 cs ps H Q
variable (D_room_begin:A6 P w K mg base ⋯ "room_begin" 6 ϑ [] (Nm K ⋯))
include T Ay D_room_begin in
theorem d_lay(F:Fun K "lay" "Keeper.lay" ML f₀ fd₀)(M:∀i,yI K (⋯ i) "lay" f₀):A6 P w K mg base ⋯ "lay" 7 ϑ [] (gX K ⋯):=by
 refine A6.made (Ba F fR (λ_ A _ s H vs Q E hr h=>?_)) M (F.binds fT) (yJ T);obtain⟨i,r,x,h,dx,a,cs0,cs,ps,rfl,hx,ha,hl,hS,hz,hc,hw,q⟩:=h;refine#[_,(Ad (AA (Ax Df (A7 CG s!"" T.n_len bq (Aa mt Ab)) (A7 CG s!"" T.n_len bq (Aa (BJ m_ rfl) Ab))) (Aj (Cy T.MU hr.hd rfl (Aa AG Ab))) AB) (Ad (Bm (Bu Ay hr s!"" (Aa mt Ab))) (Aj (Bm (B5 D_room_begin AX hr m_ (Aa mt Ab)))))),?_];symm;have cl:=yJ T i;have na:=yW T i;ext;refine#[h,cs,rfl,hS,hz,(λc hc=>by rw[hw] at hc;cases hc),λ_ lp us H1 nlp s1 hlp pa=>?_];have hx1:=s1 x _ hx;ext;refine#[r,x,h,dx,a,cs,ps,rfl,hx1,s1.seq hS,hz,hc,hw,λa' H2 na2 k2 hx2 ha2=>?_];ext;exact q a' H2 (s1.free na2) ((Aw.of s1).trans k2) hx2 ha2
abbrev xX(C:W7->wa)(i:W7)(r:Int)(x dx a:wa)(cs:List Int)(ps:List Pc)(H:Hp)(Q:VK):Prop:=∀(p:wa)(us:List V)(H':Hp),H p=none->Same H H'->H' p=some (.lst us)->AJ H' us ps->Q (.ref p) H'
def gY(C:W7->wa)(i:W7):Sp:=λvs H Q _=>∃(r:Int)(x dx a:wa)(cs:List Int)(ps:List Pc),vs=[.ref x]/\BS C i x dx a r cs ps H/\xX C i r x dx a cs ps H Q
include T Ay in
theorem Nn(F:Fun K "pieces" "Keeper.pieces" Sw f₀ fd₀)(M:∀i,yI K (⋯ i) "pieces" f₀):A6 P w K mg base ⋯ "pieces" 5 ϖ [] (gY ⋯):=by
 refine A6.made (Ba F Js (λ_ A _ s H vs Q E hr h=>?_)) M (F.binds Jt) (yJ T);obtain⟨i,r,x,dx,a,cs,ps,rfl,⟨hx,ha,hz,hc,mk⟩,q⟩:=h;refine#[_,PSs.nox (Aj (Aq (l_ Ay hr (Aa (BJ m_ rfl) Ab)))),?_];symm;have cl:=yJ T i;have na:=yW T i;have hw:=B0 hc mk;ext;refine#[a,cs,rfl,SqL.of ha,∅,(λc hc=>by rw[hw] at hc;cases hc),λ_ lp us H1 nlp s1 hlp pa=>?_];ext;exact q lp us H1 nlp s1 hlp (by rw[hw] at pa;exact pa)
abbrev xY(C:W7->wa)(k:W7)(r:Int)(x dx a:wa)(cs:List Int)(H:Hp)(Q:VK):Prop:=∀(p:wa)(H':Hp),H p=none->Same H H'->H' p=some (.lst (cs.map V.int))->Q (.ref p) H'
def gZ(C:W7->wa)(k:W7):Sp:=λvs H Q _=>∃(r:Int)(x dx a:wa)(cs:List Int),vs=[.ref x]/\H x=some (.ins (C k) dx (fsF k a r))/\H a=some (.lst (cs.map V.int))/\xY C k r x dx a cs H Q
include T in
theorem J9(F:Fun K "cells" "Keeper.cells" Sy f₀ fd₀)(M:∀i,yI K (⋯ i) "cells" f₀):A6 P w K mg base ⋯ "cells" 1 ϖ [] (gZ ⋯):=by
 refine A6.made (Ba F Ju (λ_ A _ s H vs Q E hr h=>?_)) M (F.binds Jv) (yJ T);refine#[_,PSs.nox (Aj (Aq (DO DS s!"" T.n_list az (Aa (BJ m_ rfl) Ab)))),?_];obtain⟨k,r,x,dx,a,cs,rfl,hx,ha,q⟩:=h;have cl:=yJ T k;have na:=yW T k;ext;intro p np;ext;exact q p _ np (Same.new np) xb5
def bl(n:Int):Int:=((Builtin.Int.intBits n:Nat):Int)
section
variable {X:Cx}
def tV:V->List V->Hp->VK->Prop:=λx xs H Q=>∃i,x = .int i/\xs=[]/\Q (.int (bl i)) H
theorem hI:MtM X "int.bit_length" tV:=by
 intro ϊ s σ H x xs v us Q I rx rs h;obtain⟨i,rfl,rfl,q⟩:=h;obtain⟨t,rfl⟩:=rx;cases rs;exact rc #[.int (bl i),H,I.tok _,#[_,rfl],q]
end
theorem tW{k:Nat}(h2:2<=n)(h3:n<2^220)(hk:C8 k n):bl (n-1)=(k:Int)/\(k:Int)<=1000:=by
 have e0:(n-1).natAbs=(n-1).toNat:=∅;have h1:=cE (c:=(n-1).toNat) ∅;have e1:(((n-1).toNat:Nat):Int)+1=n:=∅;rw[e1] at h1;have e2:Builtin.Int.intBits (n-1)=(n-1).toNat.log2+1:=by
   unfold Builtin.Int.intBits;rw[xb2 (by simp;lia),e0]
 have e3:=h1.uniq hk;unfold bl;rw[e2,e3];refine#[rfl,?_];rcases kq 220 k with g | g
 have:=hk.2 220 g;lia;lia
theorem C8.two{k:Nat}(h:C8 k c)(hc:3<=c):2<=k:=by
 match k,h with
 | 0,h=>have:=h.1;simp at this;lia
 | 1,h=>have:=h.1;simp at this;lia
 | k+2,_=>lia
def Ez(n:Int):Bool:=decide (1<=n)&&decide (Builtin.bitAnd n (n-1)=0)
def A_:Sp:=λvs H Q _=>∃n:Int,vs=[.int n]/\Q (.bl (Ez n)) H
include T in
theorem No(S:Src K mg "is_power" RS):∎ "is_power" 1 ϝ (A_):=by
 refine S.okx IA IC λf _ A _ s H vs Q E hr h=>#[_,PSs.nox (Aj (Aq (K0 (Er K1 m_ Ai) (HA (Er A8 (Ao ZV m_ (Ao BY m_ Ai)) Ai))))),?_];obtain⟨n,rfl,q⟩:=h;unfold Ez at q;ext;refine AW (λh1=>?_) (λh1=>?_);ext;rw[xb3 h1,Bool.true_and] at q;exact q;ext;rw[xb4 h1,si] at q;exact q
abbrev xZ(C CN:wa)(x dx:wa)(n:Int)(H:Hp)(Q:VK)(E:XK):Prop:=(Ez n=false->E (.ref CN) none H) /\ (Ez n=true->∀(a:wa)(H':Hp),H a=none->Aw x H H'->H' x=some (.ins C dx [("room_cells",.ref a)])->H' a=some (.lst ((BA n).map V.int))->Q .non H')
def E_(C CN:wa):Sp:=λvs H Q E=>∃(x dx:wa)(n:Int),vs=[.ref x,.int n]/\H x=some (.ins C dx [])/\n<=4000/\xZ C CN x dx n H Q E
variable (Ds:∎ "is_power" 1 ϝ (A_))
variable (B9:zj P w K mg base "Keeper" "__init__" 3 ϐ (gW ⋯))
include T Ds B9 in
theorem tX(F:Fun K "__init__" "Halves.__init__" Su f₀ fd₀)(M:Mk K Y6 f₀):yM P w K mg base "Halves" Y6 4 ϐ [] (E_ Y6 AY):=by
 refine#[#[f₀,fd₀,[],Ba F sM (λ_ A _ s H vs Q E hr h=>?_),M,F.binds sN,.nil],T.sT];obtain⟨x,dx,n,rfl,hx,h4,qe,q⟩:=h;refine#[_,(Ad (AA (Bd (BU (l_ Ds hr (Aa mt Ab)))) (Aj (Cy T.MU hr.hd rfl (Aa AG Ab))) AB) (Aj (Bm (TN B9 AX hr s!"" (Aa m_ (Aa mt Ab)))))),?_];symm;ext;refine#[n,rfl,?_];ext;refine CM (λhp=>?_) (λhp=>?_);have h1:1<=n:=by
   unfold Ez at hp;rw[dm,decide_eq_true_eq] at hp;exact hp.1
 ext;refine#[W7.half,x,dx,n,rfl,hx,h1,h4,λa H1 na k1 hx1 ha1=>?_];ext;exact q hp a H1 na k1 hx1 ha1;ext;exact qe hp
def hU:Sp:=λvs H Q _=>∃(n:Int)(k:Nat),vs=[.int n]/\2<=n/\n<2^220/\C8 k n/\Q (.int (2^k)) H
include T in
theorem Np(S:Src K mg "block_for" RT):∎ "block_for" 1 ["need"] (hU):=by
 refine S.okx ID IE λf _ A _ s H vs Q E hr h=>#[_,PSs.nox (Aj (Aq (Ao Ug Ai (aH nq kz la hI (Ao BY m_ Ai))))),?_];obtain⟨n,k,rfl,h2,h3,hk,q⟩:=h;obtain⟨e,hb⟩:=tW (n:=n) (k:=k) h2 h3 hk;ext;refine#[rfl,_,rfl,rfl,?_];rw[e];ext;rw[show (1:Int)*2^(k:Int).toNat=2^k by rw[Int.one_mul];rfl];exact q
def yO(b:Int)(ps:List Pc):List (List Int):=(ps.filter λz=>!z.v&&decide (b<=z.l)).map λz=>[z.l,z.a]
theorem tY{i:Nat}(h:i<ps.length):yO b (ps.take (i+1))=yO b (ps.take i)++(if (!ps[i].v&&decide (b<=ps[i].l))=true then [[ps[i].l,ps[i].a]] else []):=by
 unfold yO;rw[bj,ρ h,gc,ay]
 congr 1
 simp only [iy,gf,se]
 split <;> rfl
theorem U5{k:Nat}(h:k<(yO b ps).length):∃z∈ps,z.v=false/\b<=z.l/\(yO b ps).getD k []=[z.l,z.a]:=by
 have e:(yO b ps).getD k []=(yO b ps)[k]:=by rw[ao,ρ h];rfl
 have hm:(yO b ps)[k]∈yO b ps:=bz h;rw[<-e] at hm;unfold yO at hm;obtain⟨z,hz,ez⟩:=ce.mp hm;obtain⟨h1,h2⟩:=ib.mp hz;obtain⟨h3,h4⟩:=gr.mp h2;exact#[z,h1,by simpa using h3,of_decide_eq_true h4,by unfold yO;exact ez.symm]
theorem tZ(hz:z∈ps)(hv:z.v=false)(hl:b<=z.l):∃k,k<(yO b ps).length/\(yO b ps).getD k []=[z.l,z.a]:=by
 have:[z.l,z.a]∈yO b ps:=by
   unfold yO;exact ce.mpr #[z,ib.mpr #[hz,by rw[hv,xb3 hl];rfl],rfl]
 obtain⟨k,hk⟩:=aj this;exact#[k,(γ.mp hk).1,by rw[ao,hk];rfl]
theorem uA(h:Bst b ps z):0<(yO b ps).length/\(yO b ps).getD (B4 (yO b ps) ((yO b ps).length-1)) []=[z.l,z.a]:=by
 obtain⟨h1,h2,h3,h4⟩:=h;obtain⟨k,hk,ek⟩:=tZ h1 h2 h3;have hm:=K9 (yO b ps) ((yO b ps).length-1);obtain⟨y,hy,hyv,hyl,ey⟩:=U5 (ps:=ps) (b:=b) (k:=B4 (yO b ps) ((yO b ps).length-1)) ∅;refine#[∅,?_];have hmin:=Uw (xs:=yO b ps) (λk hk=>let ⟨z,_,_,_,e⟩:=U5 hk;#[_,_,e]) ((yO b ps).length-1) ∅ k ∅;rw[ek,ey,lex2] at hmin;rw[ey];rcases h4 y hy hyv hyl with g | ⟨g1,g2⟩
 rw[xb2 ∅] at hmin;exact xb0 g (of_decide_eq_false hmin);rw[xb1 g1] at hmin;have:=of_decide_eq_false hmin;rw[g1,show y.a=z.a by lia]
abbrev x_(CN:wa)(p:wa)(us:List V)(ps:List Pc)(b:Int)(H:Hp)(Q:VK)(E:XK):Prop:=(((∀z∈ps,z.v=false->z.l<b)/\∀(H':Hp),Same H H'->E (.ref CN) none H')\/(∃z,Bst b ps z/\∀(u:wa)(H':Hp),Same H H'->H' u=some (.tup [.int z.a,.int z.l])->Q (.ref u) H'))
def hV(CN:wa):Sp:=λvs H Q E=>∃(p:wa)(us:List V)(ps:List Pc)(b:Int),vs=[.ref p,.int b]/\H p=some (.lst us)/\AJ H us ps/\ps.length<=1200/\x_ CN p us ps b H Q E
def LfW(H1:Hp)(ps:List Pc)(b:Int)(D:wa)(i:Nat)(ys:List V)(H2:Hp):Prop:=Same H1 H2/\H1 D=none/\H2 D=some (.lst ys)/\Cr H2 ys ((yO b (ps.take i)).map λx=>x.map V.int)/\ys.length<=i
include T in
theorem Nq(S:Src K mg "least_free" RU):∎ "least_free" 1 mr (hV A5):=by
 refine S.okx RV IF λf _ A _ s H vs Q E hr h=>?_;obtain⟨p,us,ps,b,rfl,hp,pa,hz,hq⟩:=h;refine#[_,(Ad (Mg (i:=2) Ϗ ["block"] [1] RV.nd rfl (υ rfl) rfl (BX m_) (λ_ _ _ _ _=>(EF (K:=K) (n:=3) rfl rfl (AO (AF (i:=0) (show ((Ϗ:List Str)++(["block"]:List Str)).Nodup by decide +kernel) rfl (υ rfl)) (AO (AF (i:=1) (show ((Ϗ:List Str)++(["block"]:List Str)).Nodup by decide +kernel) rfl (υ rfl)) (AO (AF (i:=2) (show ((Ϗ:List Str)++(["block"]:List Str)).Nodup by decide +kernel) rfl (υ rfl)) Cn))))) (λ_ _ _ _ _=>(HI (PW.pt (DL (Bd (Q4 (K:=K) rfl n_ (λ_=>rfl))) (DR (Ax K1 mt o_)))))) (λ_ _ _ _ _=>(BK (Aa mt (Aa m_ Ab)))) (HN rfl rfl rfl) (HP (n:="block") (by decide +kernel) rfl) (λy h=>DW (by decide +kernel) h)) (Ad (AA (Bd (Dc n_ (λ_=>rfl))) (Aj (Cy T.MV hr.hd rfl (Aa AG Ab))) AB) (Ad (CJ (A7 (cA rfl hr.units) s!"" T.n_min fw (Aa n_ Ab)) (De rfl (AO (ld 3 RV) (AO (ld 4 RV) Cn)))) (Aj (Aq (BK (Aa p_ (Aa o_ Ab)))))))),?_];symm;have hul:=pa.1;ext;refine#[p,rfl,#[_,SqL.of hp],DX (K:=K) (a:=p) (xs:=us) (LfW H ps b) (λD hD=>#[Same.new hD,hD,xb5,Cr.nil,Γ _]) (λD i ys H2 _ h=>SqL.of (h.1 p _ hp)) ?_ ?_];rintro D i y ys H2 hD hi ⟨s2,_,hD2,ta,hyl⟩ τ hτ;have hil:i<us.length:=(γ.mp hi).1;have hip:i<ps.length:=∅;obtain⟨t,et,hT⟩:=pa.2 i ps[i] (by simp [hip]);have ey:y = .ref t:=Θ (hi.symm.trans et);subst ey;have hT2:=s2 t _ hT;have ef:=tY (b:=b) hip;generalize ps[i]=z at hT2 ef;obtain⟨τ0,τ1,τ2,rfl⟩:=ad hτ;ext;refine#[#[[_,_,_],rfl,rfl],?_];ext;refine CM (λhv=>?_) (λhv=>?_);ext;rw[xb2 (by rw[hv];simp),aq] at ef;exact Co hil #[s2,hD,hD2,by rw[ef];exact ta,∅];ext;refine AW (λhc=>?_) (λhc=>?_);ext;intro t2 ht2;rw[xb1 (by rw[hv,xb3 (show b<=z.l by lia)];rfl)] at ef;refine#[look_put ht2 hD2,small4000 ∅,Co hil #[(s2.put (s2.free ht2)).put hD,hD,xb5,?_,by rw[Δ,Ω];lia]];rw[ef,ay];exact ta.push hD2 ht2;ext;rw[xb2 (by rw[xb4 (show ¬b<=z.l by lia)];simp),aq] at ef;exact Co hil #[s2,hD,hD2,by rw[ef];exact ta,∅];rintro D ys H2 hD ⟨s2,_,hD2,ta,hyl⟩;rw[av ∅] at ta;rcases hq with ⟨hno,qe⟩ | ⟨z,hb,q⟩
 have e0:yO b ps=[]:=by
   cases e:yO b ps with
   | nil=>rfl
   | cons x r=>
     obtain⟨z,h1,h2,h3,_⟩:=U5 (ps:=ps) (b:=b) (k:=0) (by rw[e];simp);have:=hno z h1 h2;lia
 rw[e0] at ta;have hys:ys=[]:=fg.mp ta.1;subst hys;ext;refine iteT ?_;ext;exact qe H2 s2;obtain⟨f1,f2⟩:=uA hb;have hyl2:=ta.1;rw[Φ] at hyl2;cases ys with
 | nil=>rw[eo] at hyl2;lia
 | cons y0 yr=>
   ext;refine iteF ?_;ext;refine#[D,y0::yr,yO b ps,rfl,hD2,ta,f1,λt' et ht'=>?_];rw[f2] at ht';have ht3:H2 t'=some (.tup [.int z.l,.int z.a]):=ht';clear ht';ext;intro w hw;ext;exact q w _ (s2.put (s2.free hw)) xb5
abbrev ya(K:δ)(a:wa)(cs:List Int)(b:Int)(B M:Nat)(ds rs:List Pc)(H:Hp)(Q:VK):Prop:=∀(p:wa)(cs':List Int)(H':Hp),H p=none->Same H H'->H' p=some (.lst (cs'.map V.int))->cs'.length=cs.length->At cs' (ds++(hcP b B M++rs))->(∀j:Nat,(j:Int)<b\/b+2^M<=j->cs'[j]?=cs[j]?)->Q (.ref p) H'
def hZ(K:δ):Sp:=λvs H Q _=>∃(a:wa)(cs:List Int)(b:Int)(B M:Nat)(ds rs:List Pc),vs=[.ref a,.int b,.int (2^M),.int (2^B)]/\SqL K H a (cs.map V.int)/\cs.length<=1200/\B<=M/\0<=b/\Cs ds b/\Et rs (b+2^M)/\b+2^M<=cs.length/\At cs (ds++rs)/\ya K a cs b B M ds rs H Q
def CdW(a:wa)(b:Int)(B M:Nat)(ds rs:List Pc)(cs:List Int)(H:Hp)(k:Nat)(σ:L2.St)(H':Hp):Prop:=
 ∃(r:wa)(cs':List Int),B+k<=M/\σ=[xa8 a,xa9 b,some (.int (2^(B+k))),some (.int (2^B)),xa8 r]/\Same H H'/\H r=none/\H' r=some (.lst (cs'.map V.int))/\cs'.length=cs.length/\At cs' (ds++(spl b (B+k) (M-(B+k))++rs))/\∀j:Nat,(j:Int)<b\/b+2^M<=j->cs'[j]?=cs[j]?
include T Ap in
theorem Nr(S:Src K mg "cut_down" RW):∎ "cut_down" 3 Ϫ (hZ K):=by
 refine S.okx RX IG λf _ A _ s H vs Q E hr h=>#[_,PSs.nox (Ad (k_ 4 RX (DO DS s!"" T.n_list az (Aa m_ Ab))) (Ad (QE cc (Ax HF n_ o_) (Ad (k_ 2 RX (Ao HD n_ Ai)) (Aj (k_ 4 RX (l_ Ap hr (Aa p_ (Aa (Ao AU mt n_) (Aa n_ (Aa AV Ab))))))))) (Aj (Aq (l_ Ap hr (Aa p_ (Aa mt (Aa o_ (Aa AV Ab))))))))),?_];symm;obtain⟨a,cs,b,B,M,ds,rs,rfl,hS,hz,hBM,h0,hd,hr,hl,mk0,q⟩:=h;ext;intro r hr0;ext;refine#[CdW a b B M ds rs cs H,#[M-B,r,cs,∅,(by rw[show B+(M-B)=M by lia];rfl),Same.new hr0,hr0,xb5,rfl,(by rw[show B+(M-B)=M by lia,gp];exact mk0),λ_ _=>rfl],?_];rintro k σ H' ⟨r,cs',hk,rfl,s1,nr,hr',hl',mk,ho⟩;have pB:=pw1 B;ext;refine AW (λhlt=>?_) (λhlt=>?_);refine#[λσ' H''=>∃k',k'<k/\CdW a b B M ds rs cs H k' σ' H'',λσ' H'' hw=>hw,?_];obtain⟨k1,rfl⟩:∃k1,k=k1+1:=#[k-1,by
   cases k with
   | zero=>rw[qz] at hlt;lia
   | succ k=>rfl]
 have p2:=pw2 (B+k1);have p1:=pw1 (B+k1);have e1:(2:Int)^(B+(k1+1))/2=2^(B+k1):=by rw[show B+(k1+1)=B+k1+1 by lia,p2];lia
 obtain⟨g1,mk3⟩:=pU (L:=B+k1) (e:=M-(B+(k1+1))) h0 hd (by rw[show B+k1+1+(M-(B+(k1+1)))=M by lia];exact hr) (by rw[show B+k1+1+(M-(B+(k1+1)))=M by lia];lia) mk;ext;rw[e1];generalize hg:(2:Int)^(B+k1)=L at p1 g1;ext;refine#[r,cs',b+L,L,false,rfl,SqL.of hr',∅,∅,p1,g1,λp H2 np s2 hp=>?_];ext;subst hg;refine#[k1,∅,p,_,∅,rfl,s1.trans s2,s1.free np,hp,by rw[B3];exact hl',?_,λj hj=>?_];rw[show M-(B+k1)=M-(B+(k1+1))+1 by lia];exact mk3;have pm:=Eu (show B+k1+1<=M by lia);rw[Di ∅ p1 ∅];exact ho j hj;have e0:k=0:=by
   cases k with
   | zero=>rfl
   | succ k=>
     have:=Eu (show B+1<=B+(k+1) by lia);have:=pw2 B;lia
 subst e0;obtain⟨g1,mk3⟩:=pV (B:=B) (e:=M-B) h0 hd (by rw[show B+(M-B)=M by lia];exact hr) (by rw[show B+(M-B)=M by lia];lia) mk;ext;refine#[r,cs',b,2^B,true,rfl,SqL.of hr',∅,h0,pB,g1,λp H2 np s2 hp=>?_];ext;have pm:=Eu hBM;exact q p _ H2 (s1.free np) (s1.trans s2) hp (by rw[B3];exact hl') mk3 (λj hj=>by rw[Di h0 pB ∅];exact ho j hj)
def rkF(i:W7)(l:Int):Int:=match i with
 | .best=>l
 | .likes=>bl l
 | _=>0
def rkO(i:W7)(L b:Int)(z:Pc):Option (List Int):=if z.v=true then none else (fp z.a z.l L b).map λp=>[rkF i z.l,z.a,p]
def chL(i:W7)(ps:List Pc)(L b:Int):List (List Int):=ps.filterMap (rkO i L b)
def chS(xs:List (List Int)):Int:=(xs.getD (B4 xs (xs.length-1)) []).getD 2 0
theorem SX{x:List Int}(h:x∈chL i ps L b):∃z∈ps,∃p,x=[rkF i z.l,z.a,p]/\z.v=false/\fp z.a z.l L b=some p:=by
 obtain⟨z,hz,e⟩:=lg.mp h;unfold rkO at e
 split at e
 cases e;rename_i hv;obtain⟨p,e1,rfl⟩:=cj.mp e;exact#[z,hz,p,rfl,by simpa using hv,e1]
theorem ud0(h:chL i ps L b≠[]):∃z∈ps,z.v=false/\fp z.a z.l L b=some (chS (chL i ps L b)):=by
 have hp:0<(chL i ps L b).length:=io.mpr h;have hm:=K9 (chL i ps L b) ((chL i ps L b).length-1);have hl:B4 (chL i ps L b) ((chL i ps L b).length-1)<(chL i ps L b).length:=∅;obtain⟨z,hz,p,e,hv,hf⟩:=SX (bz hl);refine#[z,hz,hv,?_];unfold chS;rw[ao (l:=chL i ps L b),ρ hl,Option.getD_some,e];exact hf
def NoD(c:Int):St7->Prop
 | .st k _ _ ps=>chL k ps (c+2) 1=[]
 | .half N ps=>No7 c 1 (.half N ps)
 | .shel s fs=>No7 c 1 (.shel s fs)
 | .row n ls=>No7 c 1 (.row n ls)
inductive AskD(c:Int):St7->Int->St7->Prop
 | st {k:W7} {r n s:Int} {ds rs:List Pc} {z:Pc}:z.v=false->fp z.a z.l (c+2) 1=some s->s=chS (chL k (ds++z::rs) (c+2) 1)->chL k (ds++z::rs) (c+2) 1≠[]->AskD c (.st k r n (ds++z::rs)) (s+1) (.st k (s+(c+2)) n (zq ds rs z.a z.l s (c+2)))
 | of {q q':St7} {p:Int}:ok3 q.let3->Ask7 c q p q'->AskD c q p q'
theorem zE(h:ok3 i)(g:ok4 i):False:=by cases i <;> first | exact h | exact g
theorem noD3(ok:q.ok)(o:ok3 q.let3)(h:NoD c q):No7 c 1 q:=by
 cases q with
 | st k _ _ _=>exact(zE o ok.1).elim
 | half _ _=>exact h
 | shel _ _=>exact h
 | row _ _=>exact h
theorem U6(ok:q.ok)(o:ok3 q.let3)(h:AskD c q p q'):Ask7 c q p q':=by
 cases h with
 | st=>exact(zE o ok.1).elim
 | of _ h=>exact h
theorem uB{r:Int}{k:W7}(o:ok4 k)(h:AskD c (.st k r n ps) p q'):chL k ps (c+2) 1≠[]:=by
 cases h with
 | st _ _ _ h=>exact h
 | of h _=>exact(zE h o).elim
theorem uC(ok:q.ok)(c1:1<=c):NoD c q\/∃p q',AskD c q p q':=by
 have go:ok3 q.let3->(No7 c 1 q->NoD c q)->NoD c q\/∃p q',AskD c q p q':=λo f=>(qU 1 ok o c1).imp f λ⟨p,q',h⟩=>#[p,q',.of o h]
 cases q with
 | st k r n ps=>
   by_cases h:chL k ps (c+2) 1=[];exact .inl h;obtain⟨z,hz,hv,hf⟩:=ud0 h;obtain⟨ds,rs,rfl⟩:=List.append_of_mem hz;exact .inr #[_,_,.st hv hf rfl h]
 | half _ _=>exact go trivial id
 | shel _ _=>exact go trivial id
 | row _ _=>exact go trivial id
abbrev yb(C:W7->wa)(CN:wa)(i:W7)(x dx a:wa)(q:St7)(cs:List Int)(c b:Int)(H:Hp)(Q:VK)(E:XK):Prop:=((NoD c q/\∀H',Same H H'->E (.ref CN) none H')\/∃p q',AskD c q p q'/\∀(a':wa)(cs':List Int)(H':Hp),zk q c 1 p q' cs cs'->H a'=none->Aw x H H'->cs'.length=cs.length->KS C x dx a' q' cs' H'->Q (.int p) H')
def Lx(C:W7->wa)(CN:wa)(i:W7):Sp:=λvs H Q E=>∃(x dx a:wa)(q:St7)(cs:List Int)(c b:Int),vs=[.ref x,.int c,.int b]/\b=1/\i=q.let3/\i≠.next/\KS C x dx a q cs H/\1<=c/\c<=30/\yb C CN i x dx a q cs c b H Q E
theorem c220(h:c<=30):c+2<2^220:=by
 have:(32:Int)<2^220:=by decide
 lia
variable (BF:∎ "check_plain_ask" 2 ϛ (gU Da Y2))
variable (Dt:∎ "block_for" 1 ["need"] (hU))
variable (AI:A6 P w K mg base ⋯ "pieces" 5 ϖ [] (gY ⋯))
variable (Du:∎ "least_free" 1 mr (hV A5))
variable (Ak:A6 P w K mg base ⋯ "cells" 1 ϖ [] (gZ ⋯))
variable (Dv:∎ "cut_down" 3 Ϫ (hZ K))
variable (D_lay:A6 P w K mg base ⋯ "lay" 7 ϑ [] (gX K ⋯))
include T BF Dt AI Du Ak Dv D_lay in
set_option tactic.hygienic true in
theorem Ka(F:FunD K "ask" "Halves.ask" EN (.ref T₀) f₀ fd₀)(LT:K.lookup T₀=some #[tc₀,td₀,.seq [.int 1 tk₀].toArray tn₀,ts₀])(M:yI K Y6 "ask" f₀):MethD P w K mg base Y6 "ask" 8 ύ [.int 1] (Lx ⋯ A5 W7.half):=by
 refine MethD.made (fd:=fd₀) ?_ M (F.bindsA LT (Jw T₀ _)) (F.bindsD LT (Jx T₀ _)) (.cons #[tk₀,rfl] .nil) T.MX;refine G5 F Sz (λvs H Q E h=>by revert h;walk_at "l") (λ_ A _ s H vs Q E hr h=>?_);obtain⟨x,dx,a,q3,cs,c,b0,rfl,hb0,hi,_,S,c1',c30,hq0⟩:=h;refine#[_,(Ad (Bm (Bu BF hr s!"" (Aa mt (Aa n_ Ab)))) (Ad (k_ 3 Sz (l_ Dt hr (Aa (Ao AU mt (DQ (v:=.int 2) s!"" T.Hb #[_,rfl])) Ab))) (Ad (CJ (Bu Du hr s!"" (Aa (Bv AI AX hr m_) (Aa o_ Ab))) (De rfl (AO (ld 4 Sz) (AO (ld 5 Sz) Cn)))) (Ad (Bm (B5 D_lay BV hr m_ (Aa (l_ Dv hr (Aa (Bv Ak AX hr m_) (Aa p_ (Aa q_ (Aa o_ Ab))))) Ab))) (Aj (Aq (Ao AU p_ Ai))))))),?_];symm;have o3:ok3 q3.let3:=by rw[<-hi];exact trivial
 have hc2:c+2<2^220/\(1:Int)=1:=#[c220 c30,rfl]
 have qa:c<1\/b0<1->∀H',Same H H'->E (.ref Da) none H':=λh=>xb0 h ∅;have qb:1<=c->1<=b0->b0≠1->∀H',Same H H'->E (.ref Y2) none H':=λ_ _ h=>xb0 hb0 h;have hq:1<=c->b0=1->((No7 c b0 q3/\∀H',Same H H'->E (.ref A5) none H')\/∃p q',Ask7 c q3 p q'/\∀(a':wa)(cs':List Int)(H':Hp),zk q3 c 1 p q' cs cs'->H a'=none->Aw x H H'->cs'.length=cs.length->KS ⋯ x dx a' q' cs' H'->Q (.int p) H'):=λ_ b1=>by
   rw[b1];exact hq0.imp (λh=>#[noD3 S.ok o3 h.1,h.2]) λ⟨p,q',hA,k⟩=>#[p,q',U6 S.ok o3 hA,k]
 cases q3 with
 | shel _ _=>cases hi
 | row _ _=>cases hi
 | st i0 _ _ _=>
   have hi0:W7.half=i0:=hi;subst hi0;exact(show False from S.ok.1).elim
 | half N ps=>
 have hx:H x=some (.ins (⋯ W7.half) dx (fsF W7.half a (2^N))):=S.hx;have ha:=S.ha;have hl:(cs.length:Int)=2^N:=S.hl;obtain⟨hN,hc,al,nb⟩:=id S.ok;have mk:At cs ps:=S.mm;have cl:=T.MX;have na:=T.U0;have hz:=S.hz;have hple:0+(ps.length:Int)<=cs.length:=S.ch.le;ext;refine#[c,b0,rfl,λh=>qa h H (Same.refl _),λh1 h2 h3=>qb h1 h2 h3 H (Same.refl _),λhc1 hb1=>?_];obtain⟨B,hB⟩:=dQ c hc1;have B2:=hB.two' ∅;ext;refine#[c+2,B,rfl,∅,hc2.1,hB,?_];ext;refine#[2^N,x,dx,a,cs,ps,rfl,#[hx,ha,hz,by rw[hl];exact hc,mk],λlp us H1 nlp s1 hlp pa=>?_];ext;refine#[lp,us,ps,2^B,rfl,hlp,pa,∅,?_];rcases hq hc1 hb1 with ⟨g,qe⟩ | ⟨p0,q0,G0,q⟩
 exact .inl #[g B hB,λH2 s2=>qe H2 (s1.trans s2)];cases G0 with
 | half hB' G=>
 rename_i B' M ds rs b;have eB:=hB.uniq hB';subst eB;refine .inr #[_,G.2,λu H2 s2 hu=>?_];obtain⟨hBM,hMN,b0,c1,c3,c4,al4,_⟩:=G.lie B2 hc al;have hu:H2 u=some (.tup [.int b,.int (2^M)]):=hu;have s12:=s1.trans s2;have hx2:=s12 x _ hx;have ha2:=s12 a _ ha;have l3:=c3.le;ext;refine#[2^N,x,dx,a,cs,rfl,hx2,ha2,λp H3 np s3 hp=>?_];ext;refine#[p,cs,b,B,M,ds,rs,rfl,SqL.of hp,∅,hBM,b0,c1.endBy (ar 0),c3.fromOn,∅,mk.sub (λy hy=>?_),λp2 cs' H4 np2 s4 hp2 hl' mk' ho=>?_];rw[G.1];rcases ν.mp hy with g | g
 exact π _ g;exact ε _ (ι _ g);have s34:=s3.trans s4;have hw':=B0 (by rw[hl',hl];exact c4) mk';ext;refine#[2^N,x,p2,dx,a,cs,cs',_,rfl,s34 x _ hx2,s34 a _ ha2,hl',SqL.of hp2,∅,by rw[hl',hl];exact c4,hw',λa' H5 na5 k5 hx5 ha5=>?_];ext;have s14:=s12.trans s34;exact q a' cs' H5 (qV hB B2 G hc al ho) (s14.free na5) ((Aw.of s14).trans k5) hl' #[hx5,ha5,by rw[hl'];exact hl,∅,#[hN,c4,al4,nb.ask G.1 al hBM c4],mk']
def zh(s:Int)(m:Nat):List Int:=(ω m (BA s)).flatten
theorem U7{s:Int}(h:1<=s):At (BA s) [#[0,s,false]]:=by
 unfold BA;exact At.lay (ds:=[]) (rs:=[]) ∅ h (by rw[ae];lia) (λp hp=>by cases hp) (λp hp=>by cases hp) (At.nil _)
theorem Nt{s:Int}(h:1<=s)(m:Nat):((zh s m).length:Int)=s*(m:Int):=(Q7 h (D7 ∅) (U7 h) m).2
theorem iA{s:Int}(h:1<=s)(m:Nat):Bt (zh s m) 0=(DY s 0 m,none):=by
 obtain⟨h1,h2⟩:=Q7 h (D7 ∅) (U7 h) m;have c:=Q6 h m 0;rw[show s*((0:Nat):Int)=0 by simp,ng] at c;exact B0 (by unfold zh;rw[h2];exact c) h1
theorem iB(one:List Int):∀m:Nat,(ω m (one.map V.int)).flatten=((ω m one).flatten).map V.int
 | 0=>rfl
 | m+1=>by rw[cm,dw,iB one m,cm,dw,ay]
abbrev yc(C:wa)(z s:Int)(H:Hp)(Q:VK)(E:XK):Prop:=((z<1\/s<1\/(1<=s/\z%s≠0))->E (.ref C) none H) /\ (∀m:Nat,1<=s->1<=m->z=s*(m:Int)->∀(p:wa)(H':Hp),H p=none->Same H H'->H' p=some (.lst ((zh s m).map V.int))->Q (.ref p) H')
def iC(C:wa):Sp:=λvs H Q E=>∃(z s:Int),vs=[.int z,.int s]/\z<=4000/\s<=4000/\yc C z s H Q E
include T AD in
theorem Nu(S:Src K mg "all_whole" RY):∎ "all_whole" 3 ϵ (iC AY):=by
 refine S.okx IH II λf _ A _ s H vs Q E hr h=>?_;obtain⟨z,s,rfl,hz,hs,qe,q⟩:=h;refine#[_,(Ad (AA (PW.pt (Bf (Ax Db m_ Ai) (Bf (Ax Db mt Ai) (BB (Ax Df (Ao BI m_ mt) Ai))))) (Aj (Cy T.MU hr.hd rfl (Aa AG Ab))) AB) (Aj (Aq (Ao aK (Bu AD hr s!"" (Aa mt Ab)) (Ao HD m_ mt))))),?_];symm;ext;refine AW (λh1=>?_) (λh1=>?_);ext;exact qe (.inl h1);ext;refine AW (λh2=>?_) (λh2=>?_);ext;exact qe (.inr (.inl h2));ext;refine AW (λh3=>?_) (λh3=>?_);ext;obtain⟨m,em⟩:∃m:Nat,z=s*(m:Int):=#[(z/s).toNat,by
   have h4:=gz z s;have h5:0<=z/s:=oi ∅ ∅;rw[bc h5];lia]
 have m1:1<=m:=by
   cases m with
   | zero=>simp at em;lia
   | succ m=>lia
 have ed:z/s=(m:Int):=by rw[em];exact mi _ ∅
 refine#[s,rfl,hs,λz=>xb0 z ∅,λ_ p1 H1 np s1 hp=>?_];ext;rw[ed];have hf:=D7 (n:=s) ∅;have hm4:(m:Int)<=4000:=by
   have h6:=kg (show (1:Int)<=s by lia) (show (0:Int)<=(m:Int) by lia);lia
 have hsz:(BA s).length*m<=4000:=by
   have e2:(((BA s).length*m:Nat):Int)=z:=by rw[jb,hf,em]
   lia
 refine#[p1,(m:Int),_,rfl,rfl,hp,∅,∅,(by show ((BA s).map V.int).length*(m:Int).toNat<=wt;rw[Φ,jh];exact gh (small4000 hsz)),λp2 np2=>?_];rw[jh,iB];ext;exact q m ∅ m1 em p2 _ (s1.free np2) (s1.put (s1.free np2)) xb5;ext;exact qe (.inr (.inr #[∅,h3]))
def iD:Sp:=λvs H Q _=>∃(a s:Int),vs=[.int a,.int s]/\1<=s/\Q (.int (a-a%s)) H
include T in
theorem Nv(S:Src K mg "begin_of" RZ):∎ "begin_of" 1 eC (iD):=by
 refine S.okx IJ IK λf _ A _ s H vs Q E hr h=>#[_,PSs.nox (Aj (Aq (Ao BY m_ (Ao BI m_ mt)))),?_];obtain⟨a,s,rfl,hs,q⟩:=h;ext;exact q
theorem turns{A s:Int}(h1:1<=k)(h2:k<=s):(aw A (A+s) k).toNat=(s/k).toNat+(if k*((s/k).toNat:Int)=s then 0 else 1):=by
 have h3:=gz s k;have h4:=br s (show k≠0 by lia);have h5:=bg s (show 0<k by lia);have h6:1<=s/k:=(Int.le_ediv_iff_mul_le ∅).mpr ∅;have e:((s/k).toNat:Int)=s/k:=bc ∅;rw[e];unfold aw;rw[xb1 ∅,xb1 ∅,show A+s-A-1=s-1 by lia]
 split
 rename_i h;have:(s-1)/k=s/k-1:=by
   have:s-1=(k-1)+k*(s/k-1):=by rw[va];lia
   rw[this,oz _ _ ∅,nt ∅ ∅];lia
 rw[this];lia;rename_i h;have:(s-1)/k=s/k:=by
   have:s-1=(s%k-1)+k*(s/k):=∅;rw[this,oz _ _ ∅,nt ∅ ∅];lia
 rw[this];lia
theorem iE{s:Int}(h:1<=s):∀(m j:Nat),alP s (s*(j:Int)) (ω m #[0,[]])=DY s j m
 | 0,j=>rfl
 | m+1,j=>by
   rw[cG,cm];show shP s (s*(j:Int)) #[0,[]]++alP s (s*(j:Int)+s) (ω m #[0,[]])=_;rw[Lj h,<-Dd,iE h m (j+1)];rfl
theorem Ly{s:Int}{fs:List Sf}(hs:1<=s)(w:∀f∈fs,SfW s f)(hl:(cs.length:Int)=s*(fs.length:Int)):Am 0 (alP s 0 fs) cs.length:=by
 have:=G8 hs fs 0 w;rw[gq,<-hl] at this;exact this
def FtW(H1:Hp)(ps:List Pc)(k:Int)(D:wa)(i:Nat)(ys:List V)(H2:Hp):Prop:=Same H1 H2/\H2 D=some (.lst ys)/\H1 D=none/\ys=(yK (ps.take i) k).map V.int/\ys.length<=i
abbrev yd(K:δ)(c:wa)(cs:List Int)(ps:List Pc)(k:Int)(H:Hp)(Q:VK):Prop:=∀(p:wa)(H':Hp),H p=none->Same H H'->H' p=some (.lst ((yK ps k).map V.int))->Q (.ref p) H'
def iF(K:δ):Sp:=λvs H Q _=>∃(c:wa)(cs:List Int)(ps:List Pc)(k:Int),vs=[.ref c,.int k]/\SqL K H c (cs.map V.int)/\cs.length<=4000/\Bt cs 0=(ps,none)/\ps.length<=4000/\yd K c cs ps k H Q
include T Ay in
theorem Nw(S:Src K mg "whole_ones" R0):∎ "whole_ones" 5 ϴ (iF K):=by
 refine S.okx IL IM λf _ A _ s H vs Q E hr h=>?_;obtain⟨c,cs,ps,k,rfl,hS,hz,hw,hpz,q⟩:=h;refine#[_,PSs.nox (Aj (Aq (HM Ϗ ["shelf"] [1] rfl (BX (l_ Ay hr (Aa m_ Ab))) (λ_ _ _ _ _=>(EF (K:=K) (n:=3) rfl rfl (AO (AF (i:=0) (show ((Ϗ:List Str)++(["shelf"]:List Str)).Nodup by decide +kernel) rfl (υ rfl)) (AO (AF (i:=1) (show ((Ϗ:List Str)++(["shelf"]:List Str)).Nodup by decide +kernel) rfl (υ rfl)) (AO (AF (i:=2) (show ((Ϗ:List Str)++(["shelf"]:List Str)).Nodup by decide +kernel) rfl (υ rfl)) Cn))))) (λ_ _ _ _ _=>(HI (PW.pt (DL (Bd (Q4 (K:=K) rfl n_ (λ_=>rfl))) (DR (Ax A8 mt o_)))))) (λ_ _ _ _ _=>m_) (HN rfl rfl rfl) (HP (n:="shelf") (by decide +kernel) rfl) (λy h=>DW (by decide +kernel) h)))),?_];symm;ext;refine#[c,cs,rfl,hS,hz,(λc hc=>by rw[hw] at hc;cases hc),λ_ lp us H1 nlp s1 hlp pa=>?_];have pa:AJ H1 us ps:=by rw[hw] at pa;exact pa
 have hul:=pa.1;ext;refine#[lp,rfl,#[_,SqL.of hlp],DX (K:=K) (a:=lp) (xs:=us) (FtW H1 ps k) (λD hD=>#[Same.new hD,xb5,hD,rfl,Γ _]) (λD i ys H2 _ h=>SqL.of (h.1 lp _ hlp)) ?_ ?_];rintro D i y ys H2 hD hi ⟨s2,hD2,_,ey,hyl⟩ τ hτ;have hil:i<us.length:=(γ.mp hi).1;have hip:i<ps.length:=∅;obtain⟨t,et,hT⟩:=pa.2 i ps[i] (by simp [hip]);have ey2:y = .ref t:=Θ (hi.symm.trans et);subst ey2;have hT2:=s2 t _ hT;have ef:=dA (k:=k) hip;generalize ps[i]=z at hT2 ef;obtain⟨τ0,τ1,τ2,rfl⟩:=ad hτ;ext;refine#[#[[_,_,_],rfl,rfl],?_];ext;refine CM (λhv=>?_) (λhv=>?_);ext;rw[hv] at ef;refine Co hil #[s2,hD2,hD,?_,∅];rw[ey,ef];simp;ext;rw[hv] at ef;refine AW (λhl=>?_) (λhl=>?_);ext;rw[xb1 (by simp [hl])] at ef;refine#[hD2,small4000 ∅,Co hil #[s2.put hD,xb5,hD,?_,by rw[Δ,Ω];lia]];rw[ey,ef,ay];rfl;ext;rw[xb2 (by simp [hl])] at ef;exact Co hil #[s2,hD2,hD,by rw[ey,ef,aq],∅];rintro D ys H2 hD ⟨s2,hD2,_,ey,hyl⟩;rw[av ∅] at ey;ext;exact q D H2 (s1.free hD) (s1.trans s2) (by rw[hD2,ey])
def SlW(H1:Hp)(cs:List Int)(xs:List Int)(k s:Int)(D:wa)(i:Nat)(ys:List V)(H2:Hp):Prop:=Same H1 H2/\H2 D=some (.lst ys)/\H1 D=none/\ys=((xs.take i).filter λa=>decide (cs.getD (a-a%s).toNat 0/2=k)).map V.int/\ys.length<=i
abbrev ye(K:δ)(c:wa)(cs:List Int)(ps:List Pc)(s k:Int)(H:Hp)(Q:VK):Prop:=∀(p:wa)(H':Hp),H p=none->Same H H'->H' p=some (.lst ((C9 cs ps k s).map V.int))->Q (.ref p) H'
def iG(K:δ):Sp:=λvs H Q _=>∃(c:wa)(cs:List Int)(ps:List Pc)(s k:Int),vs=[.ref c,.int s,.int k]/\SqL K H c (cs.map V.int)/\cs.length<=4000/\Bt cs 0=(ps,none)/\ps.length<=4000/\Am 0 ps cs.length/\1<=s/\ye K c cs ps s k H Q
variable (Bk:∎ "begin_of" 1 eC (iD))
include T AC Ay Bk in
theorem Ny(S:Src K mg "free_slots" R1):∎ "free_slots" 5 Ϙ (iG K):=by
 refine S.okx fM IN λf _ A _ s H vs Q E hr h=>?_;obtain⟨c,cs,ps,s,k,rfl,hS,hz,hw,hpz,hc,hs,q⟩:=h;refine#[_,PSs.nox (Ad (Mg (i:=3) Ϗ ["size"] [2] fM.nd rfl (υ rfl) rfl (BX (l_ Ay hr (Aa m_ Ab))) (λ_ _ _ _ _=>(EF (K:=K) (n:=3) rfl rfl (AO (AF (i:=0) (show ((Ϗ:List Str)++(["size"]:List Str)).Nodup by decide +kernel) rfl (υ rfl)) (AO (AF (i:=1) (show ((Ϗ:List Str)++(["size"]:List Str)).Nodup by decide +kernel) rfl (υ rfl)) (AO (AF (i:=2) (show ((Ϗ:List Str)++(["size"]:List Str)).Nodup by decide +kernel) rfl (υ rfl)) Cn))))) (λ_ _ _ _ _=>(HI (PW.pt (DL (Bd (Q4 (K:=K) rfl n_ (λ_=>rfl))) (DR (Ax A8 mt o_)))))) (λ_ _ _ _ _=>m_) (HN rfl rfl rfl) (HP (n:="size") (by decide +kernel) rfl) (λy h=>DW (by decide +kernel) h)) (Aj (Aq (HM ["at"] ["size","cells","shelf"] [2,0,1] rfl (BX o_) (λ_ _ _ _ _=>(AF (i:=0) (show ((["at"]:List Str)++(["size","cells","shelf"]:List Str)).Nodup by decide +kernel) rfl (υ rfl))) (λ_ _ _ _ _=>(HI (Ax A8 (l_ AC hr (Aa (Az (Uj (K:=K) rfl) n_ (l_ Bk hr (Aa m_ (Aa o_ Ab))) (λ_ _=>rfl)) Ab)) mt))) (λ_ _ _ _ _=>m_) (oN rfl rfl rfl rfl rfl rfl rfl rfl rfl) (oO (n:="size") (m:="cells") (o:="shelf") (by decide +kernel) rfl rfl rfl) (λy h=>DW (by decide +kernel) h))))),?_];symm;ext;refine#[c,cs,rfl,hS,hz,(λc hc=>by rw[hw] at hc;cases hc),λ_ lp us H1 nlp s1 hlp pa=>?_];have pa:AJ H1 us ps:=by rw[hw] at pa;exact pa
 have hul:=pa.1;ext;refine#[lp,rfl,#[_,SqL.of hlp],DX (K:=K) (a:=lp) (xs:=us) (FtW H1 ps k) (λD hD=>#[Same.new hD,xb5,hD,rfl,Γ _]) (λD i ys H2 _ h=>SqL.of (h.1 lp _ hlp)) ?_ ?_];rintro D i y ys H2 hD hi ⟨s2,hD2,_,ey,hyl⟩ τ hτ;have hil:i<us.length:=(γ.mp hi).1;have hip:i<ps.length:=∅;obtain⟨t,et,hT⟩:=pa.2 i ps[i] (by simp [hip]);have ey2:y = .ref t:=Θ (hi.symm.trans et);subst ey2;have hT2:=s2 t _ hT;have ef:=dA (k:=k) hip;generalize ps[i]=z at hT2 ef;obtain⟨τ0,τ1,τ2,rfl⟩:=ad hτ;ext;refine#[#[[_,_,_],rfl,rfl],?_];ext;refine CM (λhv=>?_) (λhv=>?_);ext;rw[hv] at ef;refine Co hil #[s2,hD2,hD,?_,∅];rw[ey,ef];simp;ext;rw[hv] at ef;refine AW (λhl=>?_) (λhl=>?_);ext;rw[xb1 (by simp [hl])] at ef;refine#[hD2,small4000 ∅,Co hil #[s2.put hD,xb5,hD,?_,by rw[Δ,Ω];lia]];rw[ey,ef,ay];rfl;ext;rw[xb2 (by simp [hl])] at ef;exact Co hil #[s2,hD2,hD,by rw[ey,ef,aq],∅];rintro D ys H2 hD ⟨s2,hD2,_,ey,hyl⟩;rw[av ∅] at ey;subst ey;rw[Φ] at hyl;have hS2:=(s1.trans s2).seq hS;have hfi:∀a∈yK ps k,0<=a/\a<cs.length:=λa h=>qB hc h;have hsl:C9 cs ps k s=(yK ps k).filter λa=>decide (cs.getD (a-a%s).toNat 0/2=k):=rfl;generalize yK ps k=xs at hD2 hyl hfi hsl;ext;refine#[D,rfl,#[_,SqL.of hD2],DX (K:=K) (a:=D) (xs:=xs.map V.int) (SlW H2 cs xs k s) (λD' hD'=>#[Same.new hD',xb5,hD',rfl,Γ _]) (λD' i ys H3 _ h=>SqL.of (h.1 D _ hD2)) ?_ ?_];rintro D' i y ys H3 hD' hi ⟨s3,hD3,_,ey,hyl2⟩ τ hτ;obtain⟨a,ea,rfl⟩:∃a,xs[i]?=some a/\y = .int a:=by
   rw[bh] at hi;obtain⟨a,h1,h2⟩:=cj.mp hi;exact#[a,h1,h2.symm]
 have hil:i<xs.length:=(γ.mp ea).1;have hil2:i<(xs.map V.int).length:=by rw[Φ];exact hil
 obtain⟨a0,a1⟩:=hfi a (ζ ea);obtain⟨b0,b1⟩:=qC a0 hs;have hS3:=s3.seq hS2;have et:xs.take (i+1)=xs.take i++[a]:=by rw[bj,ea];rfl
 obtain⟨τ0,rfl⟩:=c_ hτ;ext;refine#[#[[_],rfl,rfl],?_];ext;refine#[a,s,rfl,hs,?_];ext;refine AW (λhl=>?_) (λhl=>?_);ext;refine#[hD3,small4000 ∅,Co hil2 #[s3.put hD',xb5,hD',?_,by rw[Δ,Ω];lia]];rw[et,gc,ay,ey,show ([a].filter λa=>decide (cs.getD (a-a%s).toNat 0/2=k))=[a] by rw[gf,xb1 (xb3 hl)];rfl];rfl;ext;refine Co hil2 #[s3,hD3,hD',?_,∅];rw[et,gc,ay,ey,show ([a].filter λa=>decide (cs.getD (a-a%s).toNat 0/2=k))=[] by rw[gf,xb2 (λz=>hl (of_decide_eq_true z))];rfl];simp;rintro D' ys H3 hD' ⟨s3,hD3,_,ey,hyl2⟩;rw[Φ,av (Γ _),<-hsl] at ey;ext;exact q D' H3 ((s1.trans s2).free hD') ((s1.trans s2).trans s3) (by rw[hD3,ey])
abbrev yf(K:δ)(c:wa)(cs:List Int)(A s k:Int)(ds rs:List Pc)(H:Hp)(Q:VK):Prop:=∀(p:wa)(cs':List Int)(H':Hp),H p=none->Same H H'->H' p=some (.lst (cs'.map V.int))->cs'.length=cs.length->At cs' (ds++(shP s A #[k,ω (s/k).toNat false]++rs))->(∀m:Nat,(m:Int)<A\/A+s<=m->cs'[m]?=cs[m]?)->Q (.ref p) H'
def iH(K:δ):Sp:=λvs H Q _=>∃(c:wa)(cs:List Int)(A s k:Int)(ds rs:List Pc),vs=[.ref c,.int A,.int s,.int k]/\SqL K H c (cs.map V.int)/\cs.length<=1200/\0<=A/\A+s<=cs.length/\1<=k/\k<=s/\Cs ds A/\Et rs (A+s)/\At cs (ds++rs)/\yf K c cs A s k ds rs H Q
def CfW(c:wa)(A s k:Int)(ds rs:List Pc)(cs:List Int)(H:Hp)(i:Nat)(σ:L2.St)(H':Hp):Prop:=
 ∃(r:wa)(cs':List Int)(x6:Option V),σ=[xa8 c,xa9 A,xa9 s,xa9 k,xa8 r,some (.int (A+s)),x6]/\Same H H'/\H r=none/\H' r=some (.lst (cs'.map V.int))/\cs'.length=cs.length/\At cs' (ds++ctP A (A+s) k i++rs)/\∀m:Nat,(m:Int)<A\/A+s<=m->cs'[m]?=cs[m]?
include T Ap in
theorem Nz(S:Src K mg "cut_for" R3):∎ "cut_for" 3 ϥ (iH K):=by
 refine S.okx MB IO λf _ A _ s H vs Q E hr h=>#[_,PSs.nox (Ad (k_ 4 MB (DO DS s!"" T.n_list az (Aa m_ Ab))) (Ad (k_ 5 MB (Ao AU mt n_)) (Ad (DM cc rfl (oS s!"" T.n_range (Aa mt (Aa q_ (Aa o_ Ab)))) (ld 6 MB) (Aj (k_ 4 MB (l_ Ap hr (Aa p_ (Aa t_ (Aa (A7 (QJ rfl) s!"" T.n_min fw (Aa o_ (Aa (Ao BY q_ t_) Ab))) (Aa AV Ab)))))))) (Aj (Aq p_))))),?_];symm;obtain⟨c,cs,A,s,k,ds,rs,rfl,hS,hz,h0,hl,h1,h2,hd,hr,mk,q⟩:=h;obtain⟨d1,d2,d3⟩:=Rm h1 h2;have ht:=turns (A:=A) h1 h2;ext;intro r nr;ext;refine r_iR3 ?_;ext;refine#[A,A+s,k,rfl,#[∅,∅,∅,∅,∅,∅],?_];rw[ht];refine oV (CfW c A s k ds rs cs H) #[r,cs,none,rfl,Same.new nr,nr,xb5,rfl,(by show At cs (ds++[]++rs);rw[aq];exact mk),λ_ _=>rfl] ?_ ?_;rintro i σ H2 hi ⟨r2,cs2,x6,rfl,s2,nr2,hr2,hl2,mk2,Eo⟩;have hlt:∀j:Nat,j<i+1->A+k*(j:Int)<A+s:=λj hj=>by
   by_cases e:k*((s/k).toNat:Int)=s;rw[xb1 e] at hi;have:=au (show ((j:Int)+1)<=((s/k).toNat:Int) by lia) (show 0<=k by lia);rw[dy,uz] at this;lia;rw[xb2 e] at hi;have:=au (show (j:Int)<=((s/k).toNat:Int) by lia) (show 0<=k by lia);lia
 obtain⟨l0,l1,l2,mk3⟩:=qA h0 h1 hd hr ∅ hlt mk2;have ei:A+(i:Int)*k=A+k*(i:Int):=by rw[Int.mul_comm]
 have hbA:A<=A+k*(i:Int):=by
   have:=jk (show 0<=k by lia) (show (0:Int)<=(i:Int) by lia);lia
 have hbE:A+k*(i:Int)+min k (A+s-(A+k*(i:Int)))<=A+s:=∅;rw[ei];have el:(if A+s-(A+k*(i:Int))<k then A+s-(A+k*(i:Int)) else k)=min k (A+s-(A+k*(i:Int))):=∅;ext;rw[el];generalize min k (A+s-(A+k*(i:Int)))=l at l1 l2 mk3 hbE ⊢;generalize A+k*(i:Int)=b at l0 l2 mk3 hbA hbE ⊢;ext;refine#[r2,cs2,b,l,false,rfl,SqL.of hr2,∅,l0,l1,∅,λp H3 np s3 hp=>?_];ext;exact#[p,_,_,rfl,s2.trans s3,s2.free np,hp,(by rw[B3];exact hl2),mk3,λm hm=>by rw[Di l0 l1 ∅];exact Eo m hm];rintro σ H2 ⟨r2,cs2,x6,rfl,s2,nr2,hr2,hl2,mk2,Eo⟩;ext;refine q r2 cs2 H2 nr2 s2 hr2 hl2 ?_ Eo;rw[pZ (q:=(s/k).toNat) h1 d1 d2 rfl,am] at mk2;exact mk2
abbrev yg(K:δ)(CN:wa)(c:wa)(cs:List Int)(s k:Int)(fs:List Sf)(H:Hp)(Q:VK)(E:XK):Prop:=((NoGr s k fs/\∀(H':Hp),Same H H'->E (.ref CN) none H') \/ (∃(j i:Nat)(b:List Bool)(fs1:List Sf),Gs s k fs j i b fs1/\∀(p:wa)(cs':List Int)(H':Hp),Same H H'->SqL K H' p (cs'.map V.int)->cs'.length=cs.length->fs1.length=fs.length->At cs' (alP s 0 fs1)->(∀y∈alP s 0 fs,y.v=true->∀m:Nat,Inn y m->cs'[m]?=cs[m]?)->Q (.ref p) H'))
def iJ(K:δ)(CN:wa):Sp:=λvs H Q E=>∃(c:wa)(cs:List Int)(s k:Int)(fs:List Sf),vs=[.ref c,.int s,.int k]/\SqL K H c (cs.map V.int)/\cs.length<=1200/\(cs.length:Int)=s*(fs.length:Int)/\1<=s/\3<=k/\(∀f∈fs,yX s f)/\At cs (alP s 0 fs)/\yg K CN c cs s k fs H Q E
variable (Ca:∎ "free_slots" 5 Ϙ (iG K))
variable (Dw:∎ "whole_ones" 5 ϴ (iF K))
variable (Dx:∎ "cut_for" 3 ϥ (iH K))
include T Ca Dw Dx in
theorem NA(S:Src K mg "with_slot" R4):∎ "with_slot" 6 Ϙ (iJ K A5):=by
 refine S.okx fN IP λf _ A _ s H vs Q E hr h=>?_;obtain⟨c,cs,s,k,fs,rfl,hS,hz,hl,hs,hk,ok,mk,hq⟩:=h;refine#[_,(Ad (AA (Dc (l_ Ca hr (Aa m_ (Aa mt (Aa n_ Ab)))) (λ_=>rfl)) (Aj (Aq m_)) AB) (Ad (k_ 3 fN (l_ Dw hr (Aa m_ (Aa mt Ab)))) (Ad (AA (PW.pt (Bf (Ax HF n_ mt) (BB (Bd (Dc o_ (λ_=>rfl)))))) (Aj (Cy T.MV hr.hd rfl (Aa AG Ab))) AB) (Aj (Aq (l_ Dx hr (Aa m_ (Aa (Az AQ o_ Ai (λ_ _=>rfl)) (Aa mt (Aa n_ Ab)))))))))),?_];symm;have W:∀f∈fs,SfW s f:=λf hf=>(ok f hf).1;have ch:=Ly hs W hl;have hw:=B0 ch mk;have hle:=ch.le;ext;refine#[c,cs,_,s,k,rfl,hS,∅,hw,∅,ch,hs,λp H1 np s1 hp=>?_];have hS1:=s1.seq hS;have none1:(∀f∈fs,¬(f.n=k/\false∈f.b))->¬(k=s/\∃f∈fs,f.n=0)->C9 cs (alP s 0 fs) k s=[]:=λg1 g2=>by
   have:=UE (cs:=cs) (fs:=fs) (j:=0) hs (show 1<=k by lia) W (by rw[show s*((0:Nat):Int)=0 by simp];exact mk) (λf hf=>#[g1 f hf,λh=>g2 #[h.1,f,hf,h.2]]);rw[show s*((0:Nat):Int)=0 by simp] at this;exact this
 rcases hq with ⟨⟨g1,g2⟩,qe⟩ | ⟨j,i,b,fs1,G,q⟩
 have esl:=none1 g1 (by
   rintro⟨e,f,hf,e0⟩;rcases g2 with g2 | g2
   lia;exact g2 f hf e0)
 rw[esl,ix] at hp;ext;refine iteT ?_;ext;refine#[c,cs,_,s,rfl,hS1,∅,hw,∅,λp2 H2 np2 s2 hp2=>?_];ext;refine AW (λhlt=>?_) (λhlt=>?_);ext;exact qe H2 (s1.trans s2);have ef:=UG (A:=0) hs ok (g2.resolve_left ∅);rw[ef,ix] at hp2;ext;refine iteT ?_;ext;exact qe H2 (s1.trans s2);obtain⟨c1,c2,c3,c4,c5⟩:=id G;rcases c5 with e | ⟨c6,ks,i0,eb,⟨f0,c8,c9⟩,c10,e⟩
 obtain⟨ys,esl⟩:=G.slot (cs:=cs) hs hk ok (by rw[e];exact mk);rw[e] at esl;rw[esl,cb] at hp;ext;refine iteF ?_;ext;exact q c cs H1 s1 hS1 rfl (by rw[e]) (by rw[e];exact mk) (λ_ _ _ _ _=>rfl);have ln:fs1.length=fs.length:=by rw[e];exact ax
 by_cases hsk:k=s;have e1:(s/s).toNat=1:=by rw[Int.ediv_self ∅];rfl
 have ea:alP s 0 fs1=alP s 0 fs:=by
   obtain⟨ds,rs,e3,_,_⟩:=Lh hs W c8;have e4:=e3 f0;rw[Li c8] at e4;rw[e,e3,e4,eb,hsk,e1];have hf0:f0=#[0,[]]:=by
     rcases(ok f0 (ζ c8)).1 with ⟨z1,z2⟩ | ⟨z3,_⟩
     obtain⟨n0,b0⟩:=f0;have z1:n0=0:=z1;have z2:b0=[]:=z2;rw[z1,z2];lia
   rw[hf0,Lj hs];unfold shP fr;show ds++((#[s*(j:Int),s,false]::slP s (s*(j:Int)+s) []++if s*(j:Int)+s*((1:Nat):Int)=s*(j:Int)+s then [] else [#[s*(j:Int)+s*((1:Nat):Int),_,false]])++rs)=_;rw[xb1 f!""];rfl
 obtain⟨ys,esl⟩:=G.slot (cs:=cs) hs hk ok (by rw[ea];exact mk);rw[ea] at esl;rw[esl,cb] at hp;ext;refine iteF ?_;ext;exact q c cs H1 s1 hS1 rfl ln (by rw[ea];exact mk) (λ_ _ _ _ _=>rfl);have esl:=none1 c6 (λh=>hsk h.1);rw[esl,ix] at hp;ext;refine iteT ?_;ext;refine#[c,cs,_,s,rfl,hS1,∅,hw,∅,λp2 H2 np2 s2 hp2=>?_];obtain⟨zs,ef⟩:=qG hs ok c8 c9 c10;rw[ef,cb] at hp2;have hS2:=s2.seq hS1;ext;refine iteF ?_;ext;refine Bh (v:=V.int (s*(j:Int))) (SqL.of hp2) (show atI (V.int _::_) ((0:Nat):Int)=some (V.int _) from Bs rfl) ?_;ext;obtain⟨ds,rs,e3,k1,k2⟩:=Lh hs W c8;have l1:=k1.le;have l2:=k2.le;have mk2:=mk;rw[<-Li c8,e3 f0] at mk2;refine#[c,cs,s*(j:Int),s,k,ds,rs,rfl,hS2,hz,∅,∅,∅,∅,k1.endBy (ar 0),k2.fromOn,mk2.sub (λp hp=>?_),λp3 cs' H3 np3 s3 hp3 hl3 mk3 D2=>?_];rcases ν.mp hp with g | g
 exact π _ g;exact ε _ (ε _ g);ext;refine q p3 cs' H3 ((s1.trans s2).trans s3) (SqL.of hp3) hl3 ln (by rw[e,e3,eb];exact mk3) (λy hy hv m hm=>D2 m ?_);obtain⟨m1,m2⟩:=hm;rw[<-Li c8,e3 f0] at hy;rcases ν.mp hy with g | g
 have:=(k1.mem y g).2.2.2;lia;rcases ν.mp g with g | g
 obtain⟨i1,g1,_⟩:=dJ g hv;rcases W f0 (ζ c8) with ⟨_,z2⟩ | ⟨z3,_⟩
 rw[z2] at g1;simp at g1;lia;have:=(k2.mem y g).1;lia
theorem Aw.free{x:wa}(k:Aw x H H')(hx:H' x≠none)(n:H' a=none):H a=none:=by
 cases e:H a with
 | none=>rfl
 | some o=>
   by_cases w:a=x;rw[w] at n;exact xb0 n hx;rw[k a o w e] at n;cases n
theorem iK{s:Int}(h:1<=s)(m:Nat):Am 0 (DY s 0 m) (zh s m).length:=by
 have c:=Q6 h m 0;rw[show s*((0:Nat):Int)=0 by simp,ng] at c;rw[Nt h m];exact c
abbrev yh(C CN:wa)(x dx:wa)(z s:Int)(H:Hp)(Q:VK)(E:XK):Prop:=((z<1\/s<1\/(1<=s/\z%s≠0))->E (.ref CN) none H) /\ (∀m:Nat,1<=s->1<=m->z=s*(m:Int)->∀(a:wa)(H':Hp),H a=none->Aw x H H'->H' x=some (.ins C dx [("room_cells",.ref a),("shelf",.int s)])->H' a=some (.lst ((zh s m).map V.int))->Q .non H')
def C_(C CN:wa):Sp:=λvs H Q E=>∃(x dx:wa)(z s:Int),vs=[.ref x,.int z,.int s]/\H x=some (.ins C dx [])/\z<=1200/\s<=4000/\yh C CN x dx z s H Q E
theorem iL{s:Int}(h:1<=s)(m:Nat):((zh s m).length:Int)=s*((ω m (#[0,[]]:Sf)).length:Int)/\(∀f∈ω m (#[0,[]]:Sf),yX s f)/\At (zh s m) (alP s 0 (ω m #[0,[]])):=by
 refine#[by rw[ae];exact Nt h m,λf hf=>?_,?_];rw[(gw.mp hf).2];exact#[.inl #[rfl,rfl],λh0=>xb0 rfl h0];have:=iE h m 0;rw[show s*((0:Nat):Int)=0 by simp] at this;rw[this];exact(Q7 h (D7 ∅) (U7 h) m).1
variable (Cb:∎ "all_whole" 3 ϵ (iC AY))
include T B9 D_lay Cb in
theorem uD(F:Fun K "__init__" "Shelves.__init__" Sv f₀ fd₀)(M:Mk K Y4 f₀):yM P w K mg base "Shelves" Y4 8 ϳ [] (C_ Y4 AY):=by
 refine#[#[f₀,fd₀,[],Ba F fQ (λ_ A _ s H vs Q E hr h=>?_),M,F.binds sO,.nil],T.sU];obtain⟨x,dx,z,s,rfl,hx,hz,hs4,qe,q⟩:=h;refine#[_,(Ad (k_ 3 fQ (Bu Cb hr s!"" (Aa mt (Aa n_ Ab)))) (Ad (Bm (TN B9 AX hr s!"" (Aa m_ (Aa mt Ab)))) (Ad (CK m_ n_ rfl) (Aj (Bm (B5 D_lay BV hr m_ (Aa o_ Ab))))))),?_];symm;have cl:=T.J1;have na:=T.MY;have nb:=T.SV;ext;refine#[z,s,rfl,∅,∅,qe,λm' h1 m1 ez p H1 np s1 hp=>?_];have q:=q m' h1 m1 ez;have z1:s<=s*(m':Int):=by
   have:=au (show (1:Int)<=(m':Int) by lia) (show 0<=s by lia);lia
 rw[<-ez] at z1;have hx1:=s1 x _ hx;have hpx:p≠x:=λw=>by rw[w,hx] at np;cases np
 ext;refine#[W7.shel,x,dx,z,rfl,hx1,∅,∅,λa H2 na2 k2 hx2 ha2=>?_];have hx2:H2 x=some (.ins Y4 dx [("room_cells",.ref a)]):=hx2;have hp2:=k2 p _ hpx hp;have hax:a≠x:=λw=>by rw[w,hx1] at na2;cases na2
 have e1:=Nt h1 m';have hl1:(zh s m').length=(BA z).length:=by
   have e2:=D7 (n:=z) ∅;lia
 ext;have hxF:upd H2 x (.ins Y4 dx (yT "shelf" (.int s) [("room_cells",.ref a)])) x=some (.ins (⋯ W7.shel) dx (fsF W7.shel a s)):=xb5;refine#[W7.shel,x,dx,_,rfl,hxF,rfl,?_];ext;refine#[s,x,p,dx,a,BA z,zh s m',_,rfl,hxF,look_ne hax ha2,hl1,SqL.of (look_ne hpx hp2),∅,iK h1 m',iA h1 m',λa' H4 na4 k4 hx4 ha4=>?_];ext;exact q a' H4 (Aw.free ((Aw.of s1).trans k2).put (by rw[hxF];exact λw=>nomatch w) na4) (((Aw.of s1).trans k2).put.trans k4) hx4 ha4
variable (Dy:∎ "with_slot" 6 Ϙ (iJ K A5))
include T Ap BF Ak D_lay Ca Dy in
set_option tactic.hygienic true in
theorem NB(F:FunD K "ask" "Shelves.ask" EO (.ref T₀) f₀ fd₀)(LT:K.lookup T₀=some #[tc₀,td₀,.seq [.int 1 tk₀].toArray tn₀,ts₀])(M:yI K Y4 "ask" f₀):MethD P w K mg base Y4 "ask" 8 ύ [.int 1] (Lx ⋯ A5 W7.shel):=by
 refine MethD.made (fd:=fd₀) ?_ M (F.bindsA LT (Jy T₀ _)) (F.bindsD LT (Jz T₀ _)) (.cons #[tk₀,rfl] .nil) T.J1;refine G5 F SA (λvs H Q E h=>by revert h;walk_at "l") (λ_ A _ s H vs Q E hr h=>?_);obtain⟨x,dx,a,q3,cs,c,b0,rfl,hb0,hi,_,S,c1',c30,hq0⟩:=h;refine#[_,(Ad (Bm (Bu BF hr s!"" (Aa mt (Aa n_ Ab)))) (Ad (k_ 3 SA (Ao AU mt (DQ (v:=.int 2) s!"" T.Hb #[_,rfl]))) (Ad (k_ 4 SA (Bu Dy hr s!"" (Aa (Bv Ak AX hr m_) (Aa (BJ m_ rfl) (Aa o_ Ab))))) (Ad (k_ 5 SA (Az AQ (l_ Ca hr (Aa p_ (Aa (BJ m_ rfl) (Aa o_ Ab)))) Ai (λ_ _=>rfl))) (Ad (Bm (B5 D_lay BV hr m_ (Aa (l_ Ap hr (Aa p_ (Aa q_ (Aa o_ (Aa AV Ab))))) Ab))) (Aj (Aq (Ao AU q_ Ai)))))))),?_];symm;have o3:ok3 q3.let3:=by rw[<-hi];exact trivial
 have hc2:c+2<2^220/\(1:Int)=1:=#[c220 c30,rfl]
 have qa:c<1\/b0<1->∀H',Same H H'->E (.ref Da) none H':=λh=>xb0 h ∅;have qb:1<=c->1<=b0->b0≠1->∀H',Same H H'->E (.ref Y2) none H':=λ_ _ h=>xb0 hb0 h;have hq:1<=c->b0=1->((No7 c b0 q3/\∀H',Same H H'->E (.ref A5) none H')\/∃p q',Ask7 c q3 p q'/\∀(a':wa)(cs':List Int)(H':Hp),zk q3 c 1 p q' cs cs'->H a'=none->Aw x H H'->cs'.length=cs.length->KS ⋯ x dx a' q' cs' H'->Q (.int p) H'):=λ_ b1=>by
   rw[b1];exact hq0.imp (λh=>#[noD3 S.ok o3 h.1,h.2]) λ⟨p,q',hA,k⟩=>#[p,q',U6 S.ok o3 hA,k]
 cases q3 with
 | half _ _=>cases hi
 | row _ _=>cases hi
 | st i0 _ _ _=>
   have hi0:W7.shel=i0:=hi;subst hi0;exact(show False from S.ok.1).elim
 | shel s fs=>
 have hx:H x=some (.ins (⋯ W7.shel) dx (fsF W7.shel a s)):=S.hx;have hx0:H x=some (.ins Y4 dx [("room_cells",.ref a),("shelf",.int s)]):=S.hx;have ha:=S.ha;have hl:(cs.length:Int)=s*(fs.length:Int):=S.hl;have hz:=S.hz;obtain⟨hs3,hf1,ok⟩:=id S.ok;have hs:1<=s:=∅;have mk:At cs (alP s 0 fs):=S.mm;have cl:=T.J1;have na:=T.MY;have nb:=T.SV;ext;refine#[c,b0,rfl,λh=>qa h H (Same.refl _),λh1 h2 h3=>qb h1 h2 h3 H (Same.refl _),λhc hb1=>?_];ext;refine#[s,x,dx,a,cs,rfl,hx,ha,λp H1 np s1 hp=>?_];have hx1:=s1 x _ hx;have hx01:=s1 x _ hx0;have ha1:=s1 a _ ha;ext;refine#[p,cs,s,c+2,fs,rfl,SqL.of hp,hz,hl,hs,∅,ok,mk,?_];rcases hq hc hb1 with ⟨g,qe⟩ | ⟨p0,q0,G0,q⟩
 exact .inl #[g,λH2 s2=>qe H2 (s1.trans s2)];cases G0 with
 | shel G ln0=>
 rename_i fs1 j i b;refine .inr #[j,i,b,fs1,G,λp2 cs2 H2 s2 hp2 hl2 ln mk2 Eo=>?_];obtain⟨pt1,_,pt3,_⟩:=G.parts hs ∅ ok;have W1:=G.W ∅ ok;have hl3:(cs2.length:Int)=s*(fs1.length:Int):=by rw[hl2,ln];exact hl
 have ch2:=Ly hs W1 hl3;have hw2:=B0 ch2 mk2;have hle2:=ch2.le;have hx2:=s2 x _ hx1;have hx02:=s2 x _ hx01;have ha2:=s2 a _ ha1;obtain⟨ys,esl⟩:=G.slot hs ∅ ok mk2;ext;refine#[p2,cs2,_,s,c+2,rfl,hp2,∅,hw2,∅,ch2,hs,λp3 H3 np3 s3 hp3=>?_];rw[esl,cb] at hp3;have hp23:=s3.seq hp2;have hx3:=s3 x _ hx2;have ha3:=s3 a _ ha2;obtain⟨g0,_,g4,_,mk4⟩:=cW (v:=true) hs W1 G.1 G.2.1 hl3 mk2;have ok4:=G.ok ∅ ok;ext;refine Bh (SqL.of hp3) (show atI (V.int _::_) ((0:Nat):Int)=some (V.int _) from Bs rfl) ?_;generalize eat:s*(j:Int)+(c+2)*(i:Int)=at0 at g0 g4 mk4 q pt3;ext;refine#[p2,cs2,at0,c+2,true,rfl,hp23,∅,g0,∅,g4,λp4 H4 np4 s4 hp4=>?_];have hl4:(AS cs2 at0 (c+2) true).length=cs.length:=by rw[B3];exact hl2
 have hl5:((AS cs2 at0 (c+2) true).length:Int)=s*((fs1.set j #[c+2,b.set i true]).length:Int):=by rw[B3,ax];exact hl3
 have hw4:=B0 (Ly hs (λf hf=>(ok4 f hf).1) hl5) mk4;ext;refine#[s,x,p4,dx,a,cs,_,_,rfl,s4 x _ hx3,s4 a _ ha3,hl4,SqL.of hp4,∅,Ly hs (λf hf=>(ok4 f hf).1) hl5,hw4,λa' H5 na5 k5 hx5 ha5=>?_];ext;have s14:=((s1.trans s2).trans s3).trans s4;have ho:∀y∈alP s 0 fs,y.v=true->∀m:Nat,Inn y m->(AS cs2 at0 (c+2) true)[m]?=cs[m]?:=λy hy hv m hm=>by
   have ha:(m:Int)<at0\/at0+(c+2)<=m:=UL ch2 (pt1 y hy hv).1 pt3 (λe=>by rw[e] at hv;cases hv) hm;rw[Di g0 ∅ ha];exact Eo y hy hv m hm
 exact q a' _ H5 (by rw[<-eat];exact qW G hs ok hc (by rw[eat];exact ho)) (s14.free na5) ((Aw.of s14).trans k5) hl4 #[hx5,ha5,hl5,∅,#[hs3,by rw[ax,ln];exact hf1,ok4],mk4]
theorem uE(l:List Int):l=[]\/∃D y,l=D++[y]:=by
 rcases ot l with h | ⟨D,y,h⟩
 exact .inl h;exact .inr #[D,y,by simpa using h]
variable (Cc:∎ "cut_out" 7 ϩ (gO K Y3 A5))
include T BF AI Ak D_lay Cc in
theorem NC(F:FunD K "ask" "Row.ask" EQ (.ref T₀) f₀ fd₀)(LT:K.lookup T₀=some #[tc₀,td₀,.seq [.int 1 tk₀].toArray tn₀,ts₀])(M:yI K Ah "ask" f₀):MethD P w K mg base Ah "ask" 8 ύ [.int 1] (Lx ⋯ A5 W7.row):=by
 refine MethD.made (fd:=fd₀) ?_ M (F.bindsA LT (JA T₀ _)) (F.bindsD LT (JB T₀ _)) (.cons #[tk₀,rfl] .nil) T.cl_Row;refine G5 F SB (λvs H Q E h=>by revert h;walk_at "l") (λ_ A _ s H vs Q E hr h=>?_);obtain⟨x,dx,a,q3,cs,c,b0,rfl,hb0,hi,_,S,c1',c30,hq0⟩:=h;refine#[_,(Ad (Bm (Bu BF hr s!"" (Aa mt (Aa n_ Ab)))) (Ad (CJ (Az AQ (Bv AI AX hr m_) (HC HE Ai) (λ_ _=>rfl)) (De rfl (AO (ld 3 SB) (AO (ld 4 SB) (AO (ld 5 SB) Cn))))) (Ad (AA (Dc q_ (λ_=>rfl)) (Aj (Cy T.MV hr.hd rfl (Aa AG Ab))) AB) (Ad (Bm (B5 D_lay BV hr m_ (Aa (Bu Cc hr s!"" (Aa (Bv Ak AX hr m_) (Aa o_ (Aa o_ (Aa (Ao AU mt (DQ (v:=.int 2) s!"" T.Hb #[_,rfl])) Ab))))) Ab))) (Aj (Aq (Ao AU o_ Ai))))))),?_];symm;have o3:ok3 q3.let3:=by rw[<-hi];exact trivial
 have hc2:c+2<2^220/\(1:Int)=1:=#[c220 c30,rfl]
 have qa:c<1\/b0<1->∀H',Same H H'->E (.ref Da) none H':=λh=>xb0 h ∅;have qb:1<=c->1<=b0->b0≠1->∀H',Same H H'->E (.ref Y2) none H':=λ_ _ h=>xb0 hb0 h;have hq:1<=c->b0=1->((No7 c b0 q3/\∀H',Same H H'->E (.ref A5) none H')\/∃p q',Ask7 c q3 p q'/\∀(a':wa)(cs':List Int)(H':Hp),zk q3 c 1 p q' cs cs'->H a'=none->Aw x H H'->cs'.length=cs.length->KS ⋯ x dx a' q' cs' H'->Q (.int p) H'):=λ_ b1=>by
   rw[b1];exact hq0.imp (λh=>#[noD3 S.ok o3 h.1,h.2]) λ⟨p,q',hA,k⟩=>#[p,q',U6 S.ok o3 hA,k]
 cases q3 with
 | half _ _=>cases hi
 | shel _ _=>cases hi
 | st i0 _ _ _=>
   have hi0:W7.row=i0:=hi;subst hi0;exact(show False from S.ok.1).elim
 | row n ls=>
 have hl:(cs.length:Int)=n:=S.hl;subst hl;obtain⟨hn3,h3,hs⟩:=id S.ok;have cl:=T.cl_Row;have na:=T.U1;have hx:H x=some (.ins (⋯ W7.row) dx (fsF W7.row a cs.length)):=S.hx;have ha:=S.ha;have hz:=S.hz;have hc:Am 0 (rwP ls cs.length) cs.length:=S.ch;have mk:At cs (rwP ls cs.length):=S.mm;have h0:=qR h3;ext;refine#[c,b0,rfl,λh=>qa h H (Same.refl _),λh1 h2 h3=>qb h1 h2 h3 H (Same.refl _),λh1 hb1=>?_];have qe:(cs.length:Int)<yF ls+(c+2)->∀H',Same H H'->E (.ref A5) none H':=λhlt=>by
   rcases hq h1 hb1 with ⟨_,qe⟩ | ⟨p0,q0,G0,_⟩
   exact qe;cases G0 with
   | row g=>lia
 have q:yF ls+(c+2)<=cs.length->∀(a':wa)(cs':List Int)(H':Hp),zk (.row cs.length ls) c 1 (yF ls+1) (.row cs.length (ls++[c+2])) cs cs'->H a'=none->Aw x H H'->cs'.length=cs.length->KS ⋯ x dx a' (.row cs.length (ls++[c+2])) cs' H'->Q (.int (yF ls+1)) H':=λhle=>by
   rcases hq h1 hb1 with ⟨g,_⟩ | ⟨p0,q0,G0,q⟩
   have g:(cs.length:Int)<yF ls+(c+2):=g;lia;cases G0 with
   | row g=>exact q
 ext;refine#[_,x,dx,a,cs,_,rfl,S.bs,λlp us H1 nlp s1 hlp pa=>?_];have pa:AJ H1 us (rwP ls cs.length):=pa;have hx1:=s1 x _ hx;have ha1:=s1 a _ ha;by_cases hf:yF ls<cs.length;rw[Rn hf] at pa;obtain⟨ui,t,rfl,pi,hT⟩:=pa.unsnoc;have hT:H1 t=some (.tup [.int (yF ls),.int (cs.length-yF ls),.bl false]):=hT;ext;refine K7 (SqL.of hlp) ?_;ext;refine#[_,x,dx,a,cs,rfl,hx1,ha1,λp H2 np s2 hp=>?_];have hx2:=s2 x _ hx1;have ha2:=s2 a _ ha1;have s12:=s1.trans s2;have hfm:(#[yF ls,cs.length-yF ls,false]:Pc)∈rwP ls cs.length:=by rw[Rn hf];simp
 ext;refine#[p,cs,rwP ls cs.length,yF ls,yF ls,c+2,rfl,SqL.of hp,∅,hc,mk,∅,λz hzm hk hv e1 e2 p2 H3 np2 s3 hp2=>?_,λz hzm hk hv hno H3 s3=>?_,λhno=>xb0 rfl (hno _ hfm rfl)];have ez:=CY hc hzm hfm hk;subst ez;have e2:yF ls+(c+2)<=yF ls+(cs.length-yF ls):=e2;have hle:yF ls+(c+2)<=cs.length:=∅;have hp2:H3 p2=some (.lst ((zd cs (yF ls) (cs.length-yF ls) (yF ls) (c+2)).map V.int)):=hp2;have s13:=s12.trans s3;have m2:=qP h3 rfl h0 (show 1<=c+2 by lia) hle mk;have g3:∀l∈ls++[c+2],3<=l:=λl hl=>(ν.mp hl).elim (h3 l) λhl=>by rw[χ.mp hl];lia
 have c2:=dO g3 (show yF (ls++[c+2])<=cs.length by rw[UI];lia);have lc:=QT cs (yF ls) (cs.length-yF ls) (yF ls) (c+2);have c2':Am 0 (rwP (ls++[c+2]) cs.length) (zd cs (yF ls) (cs.length-yF ls) (yF ls) (c+2)).length:=by rw[lc];exact c2
 have out:True:=trivial;have ho:∀y∈rwP ls cs.length,y.v=true->∀m:Nat,Inn y m->(zd cs (yF ls) (cs.length-yF ls) (yF ls) (c+2))[m]?=cs[m]?:=λy hy hv m hm=>cM (z:=#[yF ls,cs.length-yF ls,false]) hc hfm rfl ∅ (ar _) e2 hy hv hm;generalize zd cs (yF ls) (cs.length-yF ls) (yF ls) (c+2)=cs' at hp2 m2 lc c2' ho;ext;refine#[_,x,p2,dx,a,cs,cs',_,rfl,s3 x _ hx2,s3 a _ ha2,lc,SqL.of hp2,∅,c2',B0 c2' m2,λa' H4 na4 k4 hx4 ha4=>?_];ext;exact q hle a' cs' H4 (qX h3 ho) (s13.free na4) ((Aw.of s13).trans k4) lc #[hx4,ha4,by rw[lc];rfl,∅,#[hn3,g3,by rw[UI];lia],m2];have ez:=CY hc hzm hfm hk;subst ez;have hno:¬(yF ls<=yF ls/\yF ls+(c+2)<=yF ls+(cs.length-yF ls)):=hno;exact qe ∅ H3 (s12.trans s3);have ef:yF ls=cs.length:=∅;rw[qO ef] at pa;rcases uE ls with e0 | ⟨D,l,e0⟩
 rw[e0] at ef;have:(0:Int)=cs.length:=ef;lia;rw[e0,Lm] at pa;obtain⟨ui,t,rfl,pi,hT⟩:=pa.unsnoc;have hT:H1 t=some (.tup [.int (0+yF D),.int l,.bl true]):=hT;ext;refine K7 (SqL.of hlp) ?_;ext;exact qe ∅ H1 s1
def D1(L b:Int)(z:Pc):Option (List V):=if z.v=true then none else (fp z.a z.l L b).map λp=>[V.int z.a,V.int p]
def CI(ps:List Pc)(L b:Int):List (List V):=ps.filterMap (D1 L b)
theorem uF{i:Nat}(h:ps[i]?=some z):CI (ps.take (i+1)) L b=CI (ps.take i) L b++(D1 L b z).toList:=by
 unfold CI;rw[bj,h,List.filterMap_append];cases e:D1 L b z <;> simp [e]
theorem SY(ps:List Pc)(L b:Int):(CI ps L b).length<=ps.length:=List.length_filterMap_le _ _
def iM:Sp:=λvs H Q _=>∃(t:wa)(a n L b:Int)(v:Bool),vs=[.ref t,.int L,.int b]/\H t=some (.tup [.int a,.int n,.bl v])/\1<=b/\Q (ue2 (fp a n L b)) H
abbrev yi(K:δ)(a:wa)(cs:List Int)(ps:List Pc)(L b:Int)(H:Hp)(Q:VK):Prop:=∀(p:wa)(us:List V)(H':Hp),H p=none->Same H H'->H' p=some (.lst us)->Cr H' us (CI ps L b)->Q (.ref p) H'
def iN(K:δ):Sp:=λvs H Q _=>∃(a:wa)(cs:List Int)(ps:List Pc)(L b:Int),vs=[.ref a,.int L,.int b]/\SqL K H a (cs.map V.int)/\cs.length<=4000/\Bt cs 0=(ps,none)/\1<=b/\yi K a cs ps L b H Q
include T in
theorem ND(S:Src K mg "first_place" R6):∎ "first_place" 1 ϱ (iM):=by
 refine S.okx MC IS λf _ A _ s H vs Q E hr h=>?_;obtain⟨t,a,n,L,b,v,rfl,ht,hb,q⟩:=h;refine#[_,PSs.nox (Ad (CJ m_ (De rfl (AO (ld 3 MC) (AO (ld 4 MC) (AO (ld 5 MC) Cn))))) (Ad (k_ 6 MC (Ao AU o_ (Ao BI (HC HE (Ao AU o_ Ai)) n_))) (Ad (AA (Ax HF (Ao AU t_ mt) (Ao AU o_ p_)) (Aj (Aq BH)) AB) (Aj (Aq t_))))),?_];symm;have e:a + -(a+1)%b=fpl a b:=by unfold fpl;rw[nL hb]
 ext;rw[e];refine AW (λhc=>?_) (λhc=>?_);ext;unfold fp at q;rw[xb2 ∅] at q;exact q;ext;unfold fp at q;rw[xb1 ∅] at q;exact q
def SpW(f0 f1 f2:Option V)(sp lp:wa)(us:List V)(ps:List Pc)(L b:Int)(H:Hp)(i:Nat)(σ:L2.St)(H':Hp):Prop:=
 ∃(ws:List V)(x4 x5:Option V),σ=[f0,f1,f2,xa8 sp,x4,x5]/\Same H H'/\H' lp=some (.lst us)/\AJ H' us ps/\H' sp=some (.lst ws)/\Cr H' ws (CI (ps.take i) L b)
variable (Dz:∎ "first_place" 1 ϱ (iM))
include T Ay Dz in
theorem NE(S:Src K mg "spots_for" R7):∎ "spots_for" 5 ϲ (iN K):=by
 refine S.okx R8 IT λf _ A _ s H vs Q E hr h=>?_;obtain⟨a,cs,ps,L,b,rfl,hS,hz,hw,hb,q⟩:=h;refine#[_,PSs.nox (Ad (k_ 3 R8 (Cw Ab)) (Ad (DM cc rfl (BX (l_ Ay hr (Aa m_ Ab))) (ld 4 R8) (Ad (k_ 5 R8 (l_ Dz hr (Aa p_ (Aa mt (Aa n_ Ab))))) (Aj (AA (PW.pt (DL (Bd (Dc (Az By p_ Ai (λ_ _=>rfl)) (λ_=>rfl))) (DR (Ax QH q_ BH)))) (Aj (Bm (HH dh cy db GX o_ (Aa (BK (Aa (Az By p_ Ai (λ_ _=>rfl)) (Aa q_ Ab))) Ab)))) AB)))) (Aj (Aq o_)))),?_];symm;ext;intro sp hsp;ext;refine#[a,cs,rfl,(Same.new hsp).seq hS,hz,(λc hc=>by rw[hw] at hc;cases hc),λ_ lp us H1 nlp s1 hlp pa=>?_];have pa:AJ H1 us ps:=by rw[hw] at pa;exact pa
 have hps:(ps.length:Int)<=cs.length:=by
   have:=aO cs cs.length 0 ∅ ∅;rw[hw] at this;exact this
 have hul:=pa.1;have hsp1:=s1 sp _ xb5;have hne:lp≠sp:=λz=>by rw[z,xb5] at nlp;cases nlp
 have s01:Same H H1:=(Same.new hsp).trans s1;refine#[lp,rfl,#[_,SqL.of hlp],D3 (K:=K) (a:=lp) (xs:=us) (SpW (some (.ref a)) (some (.int L)) (some (.int b)) sp lp us ps L b H) #[[],none,none,rfl,s01,hlp,pa,hsp1,Cr.nil] (λi σ H2 _ ⟨_,_,_,_,_,h,_⟩=>SqL.of h) ?_ ?_];rintro i y σ H2 hi ⟨ws,x4,x5,rfl,s2,hlp2,pa2,hsp2,ta⟩;have hil:i<us.length:=(γ.mp hi).1;have hip:i<ps.length:=∅;obtain⟨t,et,hT⟩:=pa2.2 i ps[i] (by simp [hip]);have ey:y = .ref t:=Θ (hi.symm.trans et);subst ey;have ht:=uF (L:=L) (b:=b) (show ps[i]?=some ps[i] by simp [hip]);have hwl:ws.length<=4000:=by
   have h1:=ta.1;have h2:=SY (ps.take i) L b;rw[bx] at h2;lia
 generalize ps[i]=z at hT ht;ext;refine#[t,z.a,z.l,L,b,z.v,rfl,hT,hb,?_];cases ef:fp z.a z.l L b with
 | none=>
   ext;have e:D1 L b z=none:=by
     unfold D1
     split
     rfl;rw[ef];rfl
   rw[e,qu,aq] at ht;refine CM (λhv=>?_) (λhv=>?_);ext;exact#[ws,_,_,rfl,s2,hlp2,pa2,hsp2,by rw[ht];exact ta];ext;exact#[ws,_,_,rfl,s2,hlp2,pa2,hsp2,by rw[ht];exact ta]
 | some p=>
   ext;refine CM (λhv=>?_) (λhv=>?_);ext;have e:D1 L b z=none:=by unfold D1;rw[xb1 hv]
   rw[e,qu,aq] at ht;exact#[ws,_,_,rfl,s2,hlp2,pa2,hsp2,by rw[ht];exact ta];ext;intro t2 ht2;have hst:sp≠t2:=BW hsp2 ht2;have hlt:lp≠t2:=BW hlp2 ht2;ext;have e:D1 L b z=some [V.int z.a,V.int p]:=by unfold D1;rw[hv,xb2 ξ,ef];rfl
   rw[e] at ht;exact#[ws++[.ref t2],_,_,rfl,(s2.put (s2.free ht2)).put hsp,look_ne hne (look_ne hlt hlp2),(pa2.mono (DV (.inl ht2))).mono (DV (.inr #[ws,look_ne hst hsp2])),xb5,by rw[ht];exact ta.push hsp2 ht2]
 rintro σ H2 ⟨ws,x4,x5,rfl,s2,hlp2,pa2,hsp2,ta⟩;ext;rw[av ∅] at ta;exact q sp ws H2 hsp s2 hsp2 ta
def iO:Sp:=λvs H Q _=>∃(p:wa)(us:List V) (xs:List (List Int)),vs=[.ref p]/\H p=some (.lst us)/\Cr H us (xs.map λx=>x.map V.int)/\(∀x∈xs,x.length=3) /\
 (xs=[]->Q .non H)/\(0<xs.length->Q (.int ((xs.getD (B4 xs (xs.length-1)) []).getD 2 0)) H)
include T in
theorem NG(S:Src K mg "least_place" R9):∎ "least_place" 1 xa6 (iO):=by
 refine S.okx IU IV λf _ A _ s H vs Q E hr h=>?_;obtain⟨p,us,xs,rfl,hp,ta,h3,q0,q⟩:=h;refine#[_,PSs.nox (Ad (AA (Bd (Dc m_ (λ_=>rfl))) (Aj (Aq BH)) AB) (Aj (Aq (Az By (A7 (cA rfl hr.units) s!"" T.n_min fw (Aa m_ Ab)) Ai (λ_ _=>rfl))))),?_];symm;have hl:=ta.1;rw[Φ] at hl;cases hx:us with
 | nil=>
   rw[hx] at hp hl;ext;refine iteT ?_;ext;exact q0 (fg.mp hl.symm)
 | cons u r=>
   have hpos:0<xs.length:=by rw[<-hl,hx,Ψ];lia
   have hm:B4 xs (xs.length-1)<xs.length:=by have:=K9 xs (xs.length-1);lia
   rw[hx] at hp ta;ext;refine iteF ?_;ext;refine#[p,_,xs,rfl,hp,ta,hpos,λt _ ht=>?_];have q1:=q hpos;have hm3:(xs.getD (B4 xs (xs.length-1)) []).length=3:=by
     have:xs.getD (B4 xs (xs.length-1)) []=xs[B4 xs (xs.length-1)]:=by simp [hm]
     rw[this];exact h3 _ (bz hm)
   generalize xs.getD (B4 xs (xs.length-1)) []=m at ht q1 hm3
   match m,hm3 with
   | [m0,m1,m2],_=>
     ext;exact q1
def BaW(H1:Hp)(ps:List Pc)(s:Int)(D:wa)(i:Nat)(ys:List V)(H2:Hp):Prop:=Same H1 H2/\H2 D=some (.lst ys)/\ys=(((ps.take i).filter λz=>decide (z.a<=s)).map λz=>V.int z.a)
def iP(K:δ):Sp:=λvs H Q _=>∃(a:wa)(cs:List Int)(ps:List Pc)(i:Nat)(z:Pc)(s:Int),vs=[.ref a,.int s]/\SqL K H a (cs.map V.int)/\cs.length<=4000/\Am 0 ps cs.length/\At cs ps/\ps[i]?=some z/\z.a<=s/\s<z.a+z.l/\∀(H':Hp),Same H H'->Q (.int z.a) H'
theorem uG{s:Int}{i:Nat}(hc:Am 0 ps n)(hi:ps[i]?=some z)(h1:z.a<=s)(h2:s<z.a+z.l):∃D,(ps.filter λz=>decide (z.a<=s))=D++[z]:=by
 obtain⟨ds,rs,e1,e2,k1,k2⟩:=CW hc hi;subst e1;refine#[ds.filter λz=>decide (z.a<=s),?_];have e:(rs.filter λz=>decide (z.a<=s))=[]:=ka.mpr λp hp=>by
   have:=k2.fromOn p hp;rw[xb4 ∅];exact ξ
 rw[gc,gf,xb1 (xb3 h1),e]
include T Ay in
theorem NH(S:Src K mg "begin_around" RI):∎ "begin_around" 5 xa1 (iP K):=by
 refine S.okx fK Io λf _ A _ s H vs Q E hr h=>?_;obtain⟨a,cs,ps,i,z,s,rfl,hS,hz,hc,mk,hi,h1,h2,q⟩:=h;refine#[_,PSs.nox (Ad (Mg (i:=2) Ϗ ["cell"] [1] fK.nd rfl (υ rfl) rfl (BX (l_ Ay hr (Aa m_ Ab))) (λ_ _ _ _ _=>(EF (K:=K) (n:=3) rfl rfl (AO (AF (i:=0) (show ((Ϗ:List Str)++(["cell"]:List Str)).Nodup by decide +kernel) rfl (υ rfl)) (AO (AF (i:=1) (show ((Ϗ:List Str)++(["cell"]:List Str)).Nodup by decide +kernel) rfl (υ rfl)) (AO (AF (i:=2) (show ((Ϗ:List Str)++(["cell"]:List Str)).Nodup by decide +kernel) rfl (υ rfl)) Cn))))) (λ_ _ _ _ _=>(HI (Ax R_ m_ o_))) (λ_ _ _ _ _=>m_) (HN rfl rfl rfl) (HP (n:="cell") (by decide +kernel) rfl) (λy h=>DW (by decide +kernel) h)) (Aj (Aq (Az AQ n_ (HC HE Ai) (λ_ _=>rfl))))),?_];symm;have hw:=B0 hc mk;have hple:=hc.le;ext;refine#[a,cs,rfl,hS,hz,(λc hc=>by rw[hw] at hc;cases hc),λ_ lp us H1 nlp s1 hlp pa=>?_];have pa:AJ H1 us ps:=by rw[hw] at pa;exact pa
 have hul:=pa.1;ext;refine#[lp,rfl,#[_,SqL.of hlp],DX (K:=K) (a:=lp) (xs:=us) (fs:=[xa9 s]) (BaW H1 ps s) (λD hD=>#[Same.new hD,xb5,rfl]) (λD i ys H2 _ h=>SqL.of (h.1 lp _ hlp)) ?_ ?_];rintro D i y ys H2 hD hi ⟨s2,hD2,hy⟩ τ hτ;have hil:i<us.length:=(γ.mp hi).1;obtain⟨t,w,rfl,hw1,hT⟩:=La (pa.same s2) hi;have hfl:=take_succ_filter (λp:Pc=>decide (p.a<=s)) ps i w hw1;have hyl:ys.length<=i:=by
   rw[hy,Φ];refine cr (List.length_filter_le _ _) ?_;rw[bx];lia
 obtain⟨τ0,τ1,τ2,rfl⟩:=ad hτ;ext;refine#[#[[_,_,_],rfl,rfl],?_];ext;refine AW (λhle=>?_) (λhle=>?_);rw[xb1 (xb3 hle)] at hfl;ext;refine#[hD2,small4000 ∅,Co hil #[s2.put hD,xb5,?_]];rw[hfl,ay,<-hy];rfl;rw[xb2 (by rw[xb4 hle];exact ξ),aq] at hfl;exact Co hil #[s2,hD2,by rw[hfl];exact hy];rintro D ys H2 hD ⟨s2,hD2,hy⟩;rw[av ∅] at hy;obtain⟨D0,e0⟩:=uG hc hi h1 h2;rw[e0,ay] at hy;subst hy;ext;refine K7 (SqL.of hD2) ?_;ext;exact q H2 (s1.trans s2)
theorem uH{X:Cx}{e:wk}{f:Str}{pos:Pos}{ta:TE}(hK:X.K=K)(he:PE X e ta)(hb:attributeBase e f X.env (xk e X.env)=xk e X.env):PE X (.Attribute e f pos) (tFld K ta f):=hK▸BJ he hb
theorem uI{X:Cx}{T:String}{name:Str}{id:String}{o:wk}{to:TE}{apos cpos:Pos}(hK:X.K=K)(pa:PlainAttrs T)(slot:Slot T name id)(hty:typeOf (.builtin id)=pure (.type "method_descriptor"))(hm:MtR X id r)(ho:PE X o to)
   (hbase:attributeBase o name X.env (xk o X.env)=xk o X.env:=by rfl) (hline:(apos.endLine==cpos.line)=true:=by rfl):PE X (.Call (.Attribute o name apos) [] [] cpos) (tBM0 K T r to):=hK▸aH pa slot hty hm ho hbase hline
def SpI(ps:List Pc)(L b a p:Int):Prop:=∃z∈ps,z.v=false/\z.a=a/\fp z.a z.l L b=some p
theorem fp_is{a l:Int}(hb:1<=b)(h:fp a l L b=some p):a<=p/\p+L<=a+l/\(p+1)%b=0:=by
 unfold fp at h
 split at h
 cases h;exact#[uc3 hb,by assumption,mY hb];cases h
def ChW(H1:Hp)(ps:List Pc)(L bd:Int)(D:wa)(i:Nat)(ys:List V)(H2:Hp):Prop:=Same H1 H2/\H2 D=some (.lst ys)/\∃xs:List (List Int),Cr H2 ys (xs.map λx=>x.map V.int)/\xs.length=i/\∀x∈xs,∃k a p,x=[k,a,p]/\SpI ps L bd a p
theorem SZ(i:W7)(L b:Int):∀ps:List Pc,(chL i ps L b).length=(CI ps L b).length/\∀(j:Nat)(q:List V),(CI ps L b)[j]?=some q->∃z∈ps,∃p,z.v=false/\fp z.a z.l L b=some p/\q=[.int z.a,.int p]/\(chL i ps L b)[j]?=some [rkF i z.l,z.a,p]
 | []=>#[rfl,λj q h=>by cases h]
 | z::r=>by
   obtain⟨h1,h2⟩:=SZ i L b r;have up:∀(j:Nat)(q:List V),(CI r L b)[j]?=some q->∃y∈z::r,∃p,y.v=false/\fp y.a y.l L b=some p/\q=[.int y.a,.int p]/\(chL i r L b)[j]?=some [rkF i y.l,y.a,p]:=λj q h=>by
     obtain⟨y,hy,p,g⟩:=h2 j q h;exact#[y,ι _ hy,p,g]
   cases hv:z.v with
   | true=>
     have e1:CI (z::r) L b=CI r L b:=il (by unfold D1;rw[xb1 hv]);have e2:chL i (z::r) L b=chL i r L b:=il (by unfold rkO;rw[xb1 hv]);rw[e1,e2];exact#[h1,up]
   | false=>
     have nv:¬z.v=true:=by rw[hv];exact ξ
     cases hf:fp z.a z.l L b with
     | none=>
       have e1:CI (z::r) L b=CI r L b:=il (by unfold D1;rw[xb2 nv,hf];rfl);have e2:chL i (z::r) L b=chL i r L b:=il (by unfold rkO;rw[xb2 nv,hf];rfl);rw[e1,e2];exact#[h1,up]
     | some p=>
       have e1:CI (z::r) L b=[.int z.a,.int p]::CI r L b:=jn (by unfold D1;rw[xb2 nv,hf];rfl);have e2:chL i (z::r) L b=[rkF i z.l,z.a,p]::chL i r L b:=jn (by unfold rkO;rw[xb2 nv,hf];rfl);rw[e1,e2];refine#[by rw[Ψ,Ψ,h1],λj q h=>?_];cases j with
       | zero=>
         rw[List.getElem?_cons_zero] at h ⊢;exact#[z,η,p,hv,hf,(Θ h).symm,rfl]
       | succ j=>
         rw[mw] at h ⊢;exact up j q h
def ChX(H1:Hp)(xs:List (List Int))(D:wa)(i:Nat)(ys:List V)(H2:Hp):Prop:=Same H1 H2/\H2 D=some (.lst ys)/\Cr H2 ys ((xs.take i).map λx=>x.map V.int)
abbrev yj(C:W7->wa)(i:W7)(r:Int)(x dx a:wa)(cs:List Int)(ps:List Pc)(L bd:Int)(H:Hp)(Q:VK):Prop:=(chL i ps L bd=[]->∀H',Same H H'->Q .non H')/\(i≠.next->chL i ps L bd≠[]->∀H',Same H H'->Q (.int (chS (chL i ps L bd))) H')/\i≠.next
def Lz(C:W7->wa)(i:W7):Sp:=λvs H Q _=>∃(r:Int)(x dx a:wa)(cs:List Int)(ps:List Pc)(L bd:Int),vs=[.ref x,.int L,.int bd]/\H x=some (.ins (C i) dx (fsF i a r))/\H a=some (.lst (cs.map V.int))/\cs.length<=1200/\Am 0 ps cs.length/\At cs ps/\1<=bd/\yj C i r x dx a cs ps L bd H Q
variable (A0:∎ "spots_for" 5 ϲ (iN K))
variable (A1:∎ "least_place" 1 xa6 (iO))
include T A0 A1 in
theorem NI(F:Fun K "chosen" "First.chosen" SC f₀ fd₀)(M:yI K Ae "chosen" f₀):Methx P w K mg base Ae "chosen" 6 ϔ [] (Lz ⋯ W7.first):=by
 refine#[#[f₀,fd₀,[],Ba F fU (λ_ A _ s H vs Q E hr h=>?_),M,F.binds JC,.nil],T.SS];obtain⟨r,x,dx,a,cs,ps,L,bd,rfl,hx,ha,hz,hc,mk,hbd,qn,qs,_⟩:=h;refine#[_,PSs.nox (Ad (k_ 3 fU (l_ A0 hr (Aa (BJ m_ rfl) (Aa mt (Aa n_ Ab))))) (Aj (Aq (l_ A1 hr (Aa (bY Ϛ rfl (BX o_) (λ_ _ _ _ _=>(EF (K:=K) (n:=2) rfl rfl (AO (AF (i:=0) (show ((Ϛ:List Str)++([]:List Str)).Nodup by decide +kernel) rfl (υ rfl)) (AO (AF (i:=1) (show ((Ϛ:List Str)++([]:List Str)).Nodup by decide +kernel) rfl (υ rfl)) Cn)))) (λ_ _ _ _ _=>K6) (λ_ _ _ _ _=>(BK (Aa Ai (Aa m_ (Aa mt Ab))))) ) Ab))))),?_];symm;have hx:H x=some (.ins Ae dx [("room_cells",.ref a)]):=hx;have cl:=T.SS;have na:=T.UW;ext;refine#[a,cs,ps,L,bd,rfl,SqL.of ha,∅,B0 hc mk,hbd,λsp us H1 nsp s1 hsp tsp=>?_];obtain⟨hxl,hsx⟩:=SZ W7.first L bd ps
 have h3:∀x∈chL W7.first ps L bd,x.length=3:=λx hx=>by obtain⟨_,_,_,e,_⟩:=SX hx;rw[e];rfl
 have hsl:=SY ps L bd;have hple:=hc.le;generalize CI ps L bd=ql at tsp hsl hxl hsx;generalize chL W7.first ps L bd=xs at hxl hsx h3 qn qs
 have htl:=tsp.1;have ha1:=s1 a _ ha;have hx1:=s1 x _ hx;ext;refine#[sp,rfl,#[_,SqL.of hsp],DX (K:=K) (a:=sp) (xs:=us) (fs:=[]) (ChX H1 xs) (λD hD=>#[Same.new hD,xb5,Cr.nil]) (λD i ys H2 _ h=>SqL.of (h.1 sp _ hsp)) ?_ ?_];rintro D i y ys H2 hD hi ⟨s2,hD2,ta⟩ τ hτ;have hil:i<us.length:=(γ.mp hi).1;have hiq:i<ql.length:=∅;obtain⟨t,et,hT⟩:=tsp.2 i ql[i] (by simp [hiq]);obtain⟨z,hzm,pp,hzv,_,eq0,hxi⟩:=hsx i _ (ρ hiq);rw[eq0] at hT;have ey:y = .ref t:=Θ (hi.symm.trans et);subst ey;have hT2:=s2 t _ hT;have ha2:=s2 a _ ha1;have hx2:=s2 x _ hx1;have hyl:=ta.1;rw[Φ,bx] at hyl;have e1:cs.getD z.a.toNat 0=yQ z.l z.v:=DT (mk z hzm).1;obtain⟨z0,z1,_,z4⟩:=hc.mem z hzm;obtain⟨τ0,τ1,rfl⟩:=e_ hτ;ext;refine#[#[[_,_],rfl,rfl],?_];ext;intro t2 ht2;exact#[look_put ht2 hD2,small4000 ∅,Co hil #[(s2.put (s2.free ht2)).put hD,xb5,by rw[bj,hxi,iy,ay];exact ta.push hD2 ht2]];rintro D ys H2 hD ⟨s2,hD2,ta⟩;rw[av ∅] at ta;have s12:=s1.trans s2;ext;refine#[D,ys,xs,rfl,hD2,ta,h3,λz=>?_,λhp=>?_];ext;exact qn z H2 s12;ext;exact qs (λe=>by cases e) (io.mp hp) H2 s12
include T AC A0 A1 in
theorem NJ(F:Fun K "chosen" "Best.chosen" SD f₀ fd₀)(M:yI K Af "chosen" f₀):Methx P w K mg base Af "chosen" 6 ϔ [] (Lz ⋯ W7.best):=by
 refine#[#[f₀,fd₀,[],Ba F UR (λ_ A _ s H vs Q E hr h=>?_),M,F.binds JD,.nil],T.ST];obtain⟨r,x,dx,a,cs,ps,L,bd,rfl,hx,ha,hz,hc,mk,hbd,qn,qs,_⟩:=h;refine#[_,PSs.nox (Ad (Au (i:=3) UR.nd rfl (lj rfl) (BJ m_ rfl)) (Ad (k_ 4 UR (l_ A0 hr (Aa o_ (Aa mt (Aa n_ Ab))))) (Aj (Aq (l_ A1 hr (Aa (HM Ϛ ϡ [3] rfl (BX p_) (λ_ _ _ _ _=>(EF (K:=K) (n:=2) rfl rfl (AO (AF (i:=0) (show ((Ϛ:List Str)++(ϡ:List Str)).Nodup by decide +kernel) rfl (υ rfl)) (AO (AF (i:=1) (show ((Ϛ:List Str)++(ϡ:List Str)).Nodup by decide +kernel) rfl (υ rfl)) Cn)))) (λ_ _ _ _ _=>K6) (λ_ _ _ _ _=>(BK (Aa (l_ AC hr (Aa (Az (Uj (K:=K) rfl) n_ m_ (λ_ _=>rfl)) Ab)) (Aa m_ (Aa mt Ab))))) (HN rfl rfl rfl) (HP (n:="cells") (by decide +kernel) rfl) (λy h=>DW (by decide +kernel) h)) Ab)))))),?_];symm;have hx:H x=some (.ins Af dx [("room_cells",.ref a)]):=hx;have cl:=T.ST;have na:=T.UX;ext;refine#[a,cs,ps,L,bd,rfl,SqL.of ha,∅,B0 hc mk,hbd,λsp us H1 nsp s1 hsp tsp=>?_];obtain⟨hxl,hsx⟩:=SZ W7.best L bd ps;have h3:∀x∈chL W7.best ps L bd,x.length=3:=λx hx=>by obtain⟨_,_,_,e,_⟩:=SX hx;rw[e];rfl
 have hsl:=SY ps L bd;have hple:=hc.le;generalize CI ps L bd=ql at tsp hsl hxl hsx;generalize chL W7.best ps L bd=xs at hxl hsx h3 qn qs;have htl:=tsp.1;have ha1:=s1 a _ ha;have hx1:=s1 x _ hx;ext;refine#[sp,rfl,#[_,SqL.of hsp],DX (K:=K) (a:=sp) (xs:=us) (fs:=[xa8 a]) (ChX H1 xs) (λD hD=>#[Same.new hD,xb5,Cr.nil]) (λD i ys H2 _ h=>SqL.of (h.1 sp _ hsp)) ?_ ?_];rintro D i y ys H2 hD hi ⟨s2,hD2,ta⟩ τ hτ;have hil:i<us.length:=(γ.mp hi).1;have hiq:i<ql.length:=∅;obtain⟨t,et,hT⟩:=tsp.2 i ql[i] (by simp [hiq]);obtain⟨z,hzm,pp,hzv,_,eq0,hxi⟩:=hsx i _ (ρ hiq);rw[eq0] at hT;have ey:y = .ref t:=Θ (hi.symm.trans et);subst ey;have hT2:=s2 t _ hT;have ha2:=s2 a _ ha1;have hx2:=s2 x _ hx1;have hyl:=ta.1;rw[Φ,bx] at hyl;have e1:cs.getD z.a.toNat 0=yQ z.l z.v:=DT (mk z hzm).1;obtain⟨z0,z1,_,z4⟩:=hc.mem z hzm;obtain⟨τ0,τ1,rfl⟩:=e_ hτ;ext;refine#[#[[_,_],rfl,rfl],?_];ext;rw[e1,EB];intro t2 ht2;exact#[look_put ht2 hD2,small4000 ∅,Co hil #[(s2.put (s2.free ht2)).put hD,xb5,by rw[bj,hxi,iy,ay];exact ta.push hD2 ht2]];rintro D ys H2 hD ⟨s2,hD2,ta⟩;rw[av ∅] at ta;have s12:=s1.trans s2;ext;refine#[D,ys,xs,rfl,hD2,ta,h3,λz=>?_,λhp=>?_];ext;exact qn z H2 s12;ext;exact qs (λe=>by cases e) (io.mp hp) H2 s12
include T A0 A1 in
theorem NK(F:Fun K "chosen" "Next.chosen" SE f₀ fd₀)(M:yI K Ac "chosen" f₀):Methx P w K mg base Ac "chosen" 6 ϔ [] (Lz ⋯ W7.next):=by
 refine#[#[f₀,fd₀,[],Ba F fV (λ_ A _ s H vs Q E hr h=>?_),M,F.binds JE,.nil],T.Lw];obtain⟨r,x,dx,a,cs,ps,L,bd,rfl,hx,ha,hz,hc,mk,hbd,qn,_,nx⟩:=h;refine#[_,PSs.nox (Ad (k_ 3 fV (l_ A0 hr (Aa (BJ m_ rfl) (Aa mt (Aa n_ Ab))))) (Aj (Aq (l_ A1 hr (Aa (HM Ϛ ϖ [0] rfl (BX o_) (λ_ _ _ _ _=>(EF (K:=K) (n:=2) rfl rfl (AO (AF (i:=0) (show ((Ϛ:List Str)++(ϖ:List Str)).Nodup by decide +kernel) rfl (υ rfl)) (AO (AF (i:=1) (show ((Ϛ:List Str)++(ϖ:List Str)).Nodup by decide +kernel) rfl (υ rfl)) Cn)))) (λ_ _ _ _ _=>K6) (λ_ _ _ _ _=>(BK (Aa (kB (Ax K1 m_ (uH (K:=K) rfl n_ rfl)) Ai Ai) (Aa m_ (Aa mt Ab))))) (HN rfl rfl rfl) (HP (n:="self") (by decide +kernel) rfl) (λy h=>DW (by decide +kernel) h)) Ab))))),?_];symm;exact xb0 rfl nx
include T AC A0 A1 in
theorem NL(F:Fun K "chosen" "Likes.chosen" SG f₀ fd₀)(M:yI K Ag "chosen" f₀):Methx P w K mg base Ag "chosen" 6 ϔ [] (Lz ⋯ W7.likes):=by
 refine#[#[f₀,fd₀,[],Ba F US (λ_ A _ s H vs Q E hr h=>?_),M,F.binds JF,.nil],T.SU];obtain⟨r,x,dx,a,cs,ps,L,bd,rfl,hx,ha,hz,hc,mk,hbd,qn,qs,_⟩:=h;refine#[_,PSs.nox (Ad (Au (i:=3) US.nd rfl (lj rfl) (BJ m_ rfl)) (Ad (k_ 4 US (l_ A0 hr (Aa o_ (Aa mt (Aa n_ Ab))))) (Aj (Aq (l_ A1 hr (Aa (HM Ϛ ϡ [3] rfl (BX p_) (λ_ _ _ _ _=>(EF (K:=K) (n:=2) rfl rfl (AO (AF (i:=0) (show ((Ϛ:List Str)++(ϡ:List Str)).Nodup by decide +kernel) rfl (υ rfl)) (AO (AF (i:=1) (show ((Ϛ:List Str)++(ϡ:List Str)).Nodup by decide +kernel) rfl (υ rfl)) Cn)))) (λ_ _ _ _ _=>K6) (λ_ _ _ _ _=>(BK (Aa (uI (K:=K) rfl nq kz la hI (l_ AC hr (Aa (Az (Uj (K:=K) rfl) n_ m_ (λ_ _=>rfl)) Ab))) (Aa m_ (Aa mt Ab))))) (HN rfl rfl rfl) (HP (n:="cells") (by decide +kernel) rfl) (λy h=>DW (by decide +kernel) h)) Ab)))))),?_];symm;have hx:H x=some (.ins Ag dx [("room_cells",.ref a)]):=hx;have cl:=T.SU;have na:=T.UZ;ext;refine#[a,cs,ps,L,bd,rfl,SqL.of ha,∅,B0 hc mk,hbd,λsp us H1 nsp s1 hsp tsp=>?_];obtain⟨hxl,hsx⟩:=SZ W7.likes L bd ps;have h3:∀x∈chL W7.likes ps L bd,x.length=3:=λx hx=>by obtain⟨_,_,_,e,_⟩:=SX hx;rw[e];rfl
 have hsl:=SY ps L bd;have hple:=hc.le;generalize CI ps L bd=ql at tsp hsl hxl hsx;generalize chL W7.likes ps L bd=xs at hxl hsx h3 qn qs;have htl:=tsp.1;have ha1:=s1 a _ ha;have hx1:=s1 x _ hx;ext;refine#[sp,rfl,#[_,SqL.of hsp],DX (K:=K) (a:=sp) (xs:=us) (fs:=[xa8 a]) (ChX H1 xs) (λD hD=>#[Same.new hD,xb5,Cr.nil]) (λD i ys H2 _ h=>SqL.of (h.1 sp _ hsp)) ?_ ?_];rintro D i y ys H2 hD hi ⟨s2,hD2,ta⟩ τ hτ;have hil:i<us.length:=(γ.mp hi).1;have hiq:i<ql.length:=∅;obtain⟨t,et,hT⟩:=tsp.2 i ql[i] (by simp [hiq]);obtain⟨z,hzm,pp,hzv,_,eq0,hxi⟩:=hsx i _ (ρ hiq);rw[eq0] at hT;have ey:y = .ref t:=Θ (hi.symm.trans et);subst ey;have hT2:=s2 t _ hT;have ha2:=s2 a _ ha1;have hx2:=s2 x _ hx1;have hyl:=ta.1;rw[Φ,bx] at hyl;have e1:cs.getD z.a.toNat 0=yQ z.l z.v:=DT (mk z hzm).1;obtain⟨z0,z1,_,z4⟩:=hc.mem z hzm;obtain⟨τ0,τ1,rfl⟩:=e_ hτ;ext;refine#[#[[_,_],rfl,rfl],?_];ext;refine#[rfl,_,rfl,rfl,?_];ext;rw[e1,EB];intro t2 ht2;exact#[look_put ht2 hD2,small4000 ∅,Co hil #[(s2.put (s2.free ht2)).put hD,xb5,by rw[bj,hxi,iy,ay];exact ta.push hD2 ht2]];rintro D ys H2 hD ⟨s2,hD2,ta⟩;rw[av ∅] at ta;have s12:=s1.trans s2;ext;refine#[D,ys,xs,rfl,hD2,ta,h3,λz=>?_,λhp=>?_];ext;exact qn z H2 s12;ext;exact qs (λe=>by cases e) (io.mp hp) H2 s12
def S9(C:W7->wa)(i:W7):Sp:=λvs H Q _=>∃(r r':Int)(x dx a:wa),vs=[.ref x,.int r']/\H x=some (.ins (C i) dx (fsF i a r))/\∀H',Aw x H H'->H' x=some (.ins (C i) dx (fsF i a r'))->Q .non H'
include T in
theorem Kb(F:Fun K "room_granted" "Stretches.room_granted" ER f₀ fd₀)(M:∀i,(okS) i->yI K (⋯ i) "room_granted" f₀):Bz P w K mg base (okS) ⋯ "room_granted" 1 Ϝ [] (S9 ⋯):=by
 refine Bz.made (Ba F MM (λ_ A _ s H vs Q E hr h=>?_)) M (F.binds MN) (yJ T);refine#[_,PSs.nox (Aj kC),?_];obtain⟨i,hi,r,r',x,dx,a,rfl,hx,q⟩:=h;ext;refine q _ Aw.refl ?_;cases i <;> first | exact hx | exact(show False from hi).elim
include T in
theorem Kd(F:Fun K "room_granted" "Next.room_granted" ES f₀ fd₀)(M:∀i,(λi=>i=W7.next) i->yI K (⋯ i) "room_granted" f₀):Bz P w K mg base (λi=>i=W7.next) ⋯ "room_granted" 1 Ϝ [] (S9 ⋯):=by
 refine Bz.made (Ba F MO (λ_ A _ s H vs Q E hr h=>?_)) M (F.binds MP) (yJ T);refine#[_,PSs.nox (Aj (CK m_ mt rfl)),?_];obtain⟨i,hi,r,r',x,dx,a,rfl,hx,q⟩:=h;have hi:i=W7.next:=hi;subst hi;have hx:H x=some (.ins Ac dx [("room_cells",.ref a),("room_rover",.int r)]):=hx;have cl:=T.Lw;have na:=T.MW;have nr:=T.UY;ext;exact q _ Aw.refl.put xb5
variable (D_chosen:Bz P w K mg base (ok4) ⋯ "chosen" 6 ϔ [] (Lz ⋯))
variable (DA:∎ "begin_around" 5 xa1 (iP K))
variable (D_room_granted:Bz P w K mg base (ok4) ⋯ "room_granted" 1 Ϝ [] (S9 ⋯))
include T Bj Cc D_chosen DA D_room_granted in
theorem Ke(F:FunD K "ask" "Stretches.ask" ET (.ref T₀) f₀ fd₀)(LT:K.lookup T₀=some #[tc₀,td₀,.seq [.int 1 tk₀].toArray tn₀,ts₀])(M:∀i,(ok4) i->yI K (⋯ i) "ask" f₀):MethSD P w K mg base (ok4) ⋯ "ask" 8 ύ [.int 1] (Lx ⋯ A5):=by
 refine MethSD.made (fd:=fd₀) ?_ M (F.bindsA LT (JG T₀ _)) (F.bindsD LT (JH T₀ _)) (.cons #[tk₀,rfl] .nil) (yJ T);refine G5 F UT (λvs H Q E h=>by obtain⟨_,_,h⟩:=h;revert h;walk_at "l") (λ_ A _ s H vs Q E hr h=>?_);obtain⟨i,hi,x,dx,a,q3,cs,c,bd,rfl,hb1,rfl,nx,S,c1',c30,hq⟩:=h;refine#[_,(Ad (Bm (Bu Bj hr s!"" (Aa mt (Aa n_ Ab)))) (Ad (k_ 3 UT (Ao AU mt (DQ (v:=.int 2) s!"" T.Hb #[_,rfl]))) (Ad (k_ 4 UT (Rc D_chosen AX hr m_ (Aa o_ (Aa n_ Ab)))) (Ad (AA (Ax HG p_ BH) (Aj (Cy T.MV hr.hd rfl (Aa AG Ab))) AB) (Ad (CK m_ (Bu Cc hr s!"" (Aa (BJ m_ rfl) (Aa (l_ DA hr (Aa (BJ m_ rfl) (Aa p_ Ab))) (Aa p_ (Aa o_ Ab))))) rfl) (Ad (Bm (Rc D_room_granted AX hr m_ (Aa (Ao AU p_ o_) Ab))) (Aj (Aq (Ao AU p_ Ai))))))))),?_];symm;subst hb1;cases q3 with
 | half _ _=>exact(show False from hi).elim
 | shel _ _=>exact(show False from hi).elim
 | row _ _=>exact(show False from hi).elim
 | st k r n ps=>
 have hi:ok4 k:=hi;have hx:H x=some (.ins (⋯ k) dx (fsF k a r)):=S.hx;have ha:=S.ha;have hl:(cs.length:Int)=n:=S.hl;have hz:=S.hz;have hc:Am 0 ps cs.length:=by rw[hl];exact S.ok.2.1
 have nj:AK ps:=S.ok.2.2;have mk:At cs ps:=S.mm;have cl:=yJ T k;have na:=yW T k;ext;refine#[c,1,rfl,λh=>xb0 h ∅,λh1 _=>?_];ext;refine#[r,x,dx,a,cs,ps,c+2,1,rfl,hx,ha,hz,hc,mk,ar 1,λhno H1 s1=>?_,λ_ hne0 H1 s1=>?_,nx];have qe:∀H',Same H H'->E (.ref A5) none H':=hq.elim (λh=>h.2) λ⟨_,_,hA,_⟩=>xb0 hno (uB hi hA);ext;exact qe H1 s1;rcases hq with ⟨hno,_⟩ | ⟨p0,q0,hA,qQ⟩
 exact xb0 hno hne0;cases hA with
 | of h _=>exact(zE h hi).elim
 | @st _ _ _ s ds rs z hv hfp es _=>
 rw[<-es];clear es hne0;have hx1:=s1 x _ hx;have ha1:=s1 a _ ha;obtain⟨g1,g2,g3⟩:=fp_is (ar 1) hfp;have hzm:z∈ds++z::rs:=ε _ η;have hi2:(ds++z::rs)[ds.length]?=some z:=by rw[θ (Γ _),gp];rfl
 obtain⟨ds2,rs2,e3,e4,c1,c2⟩:=CW hc hi2;obtain⟨e5,e6⟩:=rq e3 e4.symm;subst e5;obtain⟨_,e7⟩:=jt.inj e6;subst e7;clear e3 e4 e6;generalize eps:ds++z::rs=ps at hc hzm hi2 mk nj;ext;refine#[a,cs,ps,ds.length,z,s,rfl,SqL.of ha1,∅,hc,mk,hi2,g1,∅,λH2 s2=>?_];have hx2:=s2 x _ hx1;have ha2:=s2 a _ ha1;ext;refine#[a,cs,ps,z.a,s,c+2,rfl,SqL.of ha2,∅,hc,mk,∅,λy hy hk hv' e1 e2 p H3 np s3 hp=>?_,λy hy hk hv' hn'=>?_,λhn'=>xb0 hv (hn' z hzm rfl)];have ey:=CY hc hy hzm hk;subst ey;have hx3:=s3 x _ hx2;have hne:p≠x:=λz=>by rw[z,hx2] at np;cases np
 have s13:=(s1.trans s2).trans s3;ext;generalize hH:upd H3 x _=H4;have hx4:H4 x=some (.ins (⋯ k) dx (fsF k p r)):=by rw[<-hH,xb5,Ld]
 have hp4:H4 p=some (.lst ((zd cs y.a y.l s (c+2)).map V.int)):=by rw[<-hH];exact look_ne hne hp
 have k4:Aw x H H4:=by rw[<-hH];exact(Aw.of s13).put
 ext;refine#[r,s+(c+2),x,dx,p,rfl,hx4,λH5 k5 hx5=>?_];ext;obtain⟨y0,y1,y3,y4⟩:=hc.mem y hzm;subst eps;have hcn:Am 0 (ds++y::rs) n:=by rw[<-hl];exact hc
 refine qQ p _ H5 (qY hcn hv ∅ g1 g2 g3 λy' hy' hv' j hj=>cM hc hzm hv ∅ g1 g2 hy' hv' hj) ((s1.trans s2).free np) (k4.trans k5) (by rw[QT]) #[hx5,k5 p _ hne hp4,by rw[QT];exact hl,by rw[QT];exact hz,#[hi,?_,pE nj hv],?_];rw[<-hl];exact nA ∅ g1 g2 c1 c2;exact bD y0 ∅ g1 g2 ∅ (c1.endBy (ar 0)) c2.fromOn mk;have ey:=CY hc hy hzm hk;subst ey;exact xb0 #[g1,g2] hn'
def iQ(C:W7->wa)(k:W7):Sp:=λvs H Q _=>∃(x dx a:wa)(q:St7)(cs:List Int)(z:Pc),vs=[.ref x,.int (z.a+1)]/\k=q.let3/\KS C x dx a q cs H/\z∈q.ps/\z.v=true /\
 ∀(H':Hp),Same H H'->Q (.int (z.l-2)) H'
include T Bi in
theorem Kf(F:Fun K "many" "Keeper.many" SH f₀ fd₀)(M:∀i,yI K (⋯ i) "many" f₀):A6 P w K mg base ⋯ "many" 7 ϒ [] (iQ ⋯):=by
 refine A6.made (Ba F SI (λ_ A _ s H vs Q E hr h=>?_)) M (F.binds JI) (yJ T);obtain⟨i,x,dx,a,q3,cs,z,rfl,rfl,S,hm,hv,q⟩:=h;refine#[_,(Ad (CJ (Bu Bi hr s!"" (Aa (BJ m_ rfl) (Aa (Ao BY mt Ai) Ab))) (De rfl (AO (ld 2 SI) (AO (ld 3 SI) (AO (ld 4 SI) Cn))))) (Aj (Aq (Ao BY o_ (DQ (v:=.int 2) s!"" T.Hb #[_,rfl]))))),?_];symm;have hx:=S.hx;have ha:=S.ha;have cl:=yJ T q3.let3;have na:=yW T q3.let3;have hc:=S.ch;have hw:=B0 hc S.mm;have hz:=S.hz;ext;refine#[a,cs,q3.ps,z.a,by rw[di],SqL.of ha,∅,hw,hc,λy hy hk hv' t H1 s1 ht=>?_,λhn=>xb0 hv (hn z hm rfl)];have ey:=CY hc hy hm ∅;subst ey;ext;exact q _ s1
def iR(C:W7->wa)(k:W7):Sp:=λvs H Q _=>∃(x dx a:wa)(q:St7)(cs:List Int)(z:Pc)(j:Int),vs=[.ref x,.int (z.a+1),.int j]/\k=q.let3/\KS C x dx a q cs H/\z∈q.ps/\z.v=true/\0<=j/\j<z.l-2 /\
 ∀(H':Hp),Same H H'->Q (.int (z.a+1+j)) H'
variable (AH:A6 P w K mg base ⋯ "many" 7 ϒ [] (iQ ⋯))
include T AH in
theorem NM(F:Fun K "room_cell_of" "Keeper.room_cell_of" EU f₀ fd₀)(M:∀i,yI K (⋯ i) "room_cell_of" f₀):A6 P w K mg base ⋯ "room_cell_of" 8 ϙ [] (iR ⋯):=by
 refine A6.made (Ba F G9 (λ_ A _ s H vs Q E hr h=>?_)) M (F.binds MQ) (yJ T);obtain⟨k,x,dx,a,q3,cs,z,j,rfl,rfl,S,hm,hv,k0,k1,q⟩:=h;refine#[_,(Ad (k_ 3 G9 (B5 AH BV hr m_ (Aa mt Ab))) (Ad (AA (PW.pt (Bf (Ax Db n_ Ai) (BB (Ax K1 n_ o_)))) (Aj (Cy T.tF hr.hd rfl (Aa AG Ab))) AB) (Aj (Aq (Ao AU mt n_))))),?_];symm;have hx:=S.hx;ext;refine#[x,dx,a,q3,cs,z,rfl,rfl,S,hm,hv,λH1 s1=>?_];ext;exact q H1 s1
theorem uJ{x:Int}(c:Am 0 ps n)(m:At cs ps)(hz:z∈ps)(hv:z.v=true)(k0:0<=k)(k1:k<z.l-2):At (cs.set (z.a+1+k).toNat x) ps:=λp hp=>by
 obtain⟨z0,z1,z3,z4⟩:=c.mem z hz;obtain⟨p0,p1,p3,p4⟩:=c.mem p hp;obtain⟨m1,m2⟩:=m p hp;have far:p.a≠z.a+1+k/\p.a+p.l-1≠z.a+1+k:=by
   by_cases e:p=z;subst e;lia;constructor;intro h;exact e (HQ c hp hz (ar _) ∅ ∅ ∅);intro h;exact e (HQ c hp hz (p:=p.a+p.l-1) ∅ ∅ ∅ ∅)
 exact#[by rw[ag ∅];exact m1,by rw[ag ∅];exact m2]
abbrev yk(C:W7->wa)(k:W7)(x dx a:wa)(q:St7)(cs:List Int)(z:Pc)(j n:Int)(H:Hp)(Q:VK):Prop:=∀(H':Hp),Aw a H H'->KS C x dx a q (cs.set (z.a+1+j).toNat n) H'->Q .non H'
def z_(C:W7->wa)(k:W7):Sp:=λvs H Q _=>∃(x dx a:wa)(q:St7)(cs:List Int)(z:Pc)(j n:Int),vs=[.ref x,.int (z.a+1),.int j,.int n]/\k=q.let3/\KS C x dx a q cs H/\z∈q.ps/\z.v=true/\0<=j/\j<z.l-2/\yk C k x dx a q cs z j n H Q
variable (Cd:A6 P w K mg base ⋯ "room_cell_of" 8 ϙ [] (iR ⋯))
include T Cd in
theorem d_put(F:Fun K "put" "Keeper.put" SJ f₀ fd₀)(M:∀i,yI K (⋯ i) "put" f₀):A6 P w K mg base ⋯ "put" 9 ϫ [] (z_ ⋯):=by
 refine A6.made (Ba F fW (λ_ A _ s H vs Q E hr h=>?_)) M (F.binds JJ) (yJ T);obtain⟨k,x,dx,a,q3,cs,z,j,n,rfl,rfl,S,hm,hv,k0,k1,q⟩:=h;refine#[_,(Ad (k_ 4 fW (B5 Cd BV hr m_ (Aa mt (Aa n_ Ab)))) (Aj (CJ o_ (GS (BJ m_ rfl) p_ GW)))),?_];symm;have hx:=S.hx;have cl:=yJ T q3.let3;have na:=yW T q3.let3;obtain⟨z0,z1,z3,z4⟩:=S.ch.mem z hm;ext;refine#[x,dx,a,q3,cs,z,j,rfl,rfl,S,hm,hv,k0,k1,λH1 s1=>?_];have hx1:=s1 x _ hx;have ha1:=s1 a _ S.ha;have hxa:x≠a:=λe=>by rw[e,ha1] at hx1;cases hx1
 have ls:(cs.set (z.a+1+j).toNat n).length=cs.length:=ax;ext;exact q _ (Aw.of s1).put #[look_ne hxa hx1,xb5,by rw[ls];exact S.hl,by rw[ls];exact S.hz,S.ok,uJ S.ch S.mm hm hv k0 k1]
def G_(C:W7->wa)(k:W7):Sp:=λvs H Q _=>∃(x dx a:wa)(q:St7)(cs:List Int)(z:Pc)(j:Int),vs=[.ref x,.int (z.a+1),.int j]/\k=q.let3/\KS C x dx a q cs H/\z∈q.ps/\z.v=true/\0<=j/\j<z.l-2 /\
 ∀(H':Hp),Same H H'->Q (.int (cs.getD (z.a+1+j).toNat 0)) H'
include T Cd in
theorem d_get(F:Fun K "get" "Keeper.get" SK f₀ fd₀)(M:∀i,yI K (⋯ i) "get" f₀):A6 P w K mg base ⋯ "get" 9 ϙ [] (G_ ⋯):=by
 refine A6.made (Ba F JK (λ_ A _ s H vs Q E hr h=>?_)) M (F.binds JL) (yJ T);obtain⟨k,x,dx,a,q3,cs,z,j,rfl,rfl,S,hm,hv,k0,k1,q⟩:=h;refine#[_,PSs.nox (Aj (Aq (Az AQ (BJ m_ rfl) (B5 Cd AX hr m_ (Aa mt (Aa n_ Ab))) (λ_ _=>rfl)))),?_];symm;have hx:=S.hx;have ha:=S.ha;have cl:=yJ T q3.let3;have na:=yW T q3.let3;obtain⟨z0,z1,z3,z4⟩:=S.ch.mem z hm;ext;refine#[x,dx,a,q3,cs,z,j,rfl,rfl,S,hm,hv,k0,k1,λH1 s1=>?_];have ha1:=s1 a _ ha;ext;exact q H1 s1
inductive GvD:St7->Pc->St7->Prop
 | st {k:W7} {r n:Int} {ps:List Pc} {z:Pc}:GvD (.st k r n ps) z (.st k r n (BE (zx ps z.a)))
 | half {N m q m' q':Nat} {ds rs ds' rs':List Pc}:Lie N (ds++⟨2^m*(q:Int),2^m,true⟩::rs) ds rs m q->Lie N (ds++⟨2^m*(q:Int),2^m,true⟩::rs) ds' rs' m' q'->MgTo (ds++⟨2^m*(q:Int),2^m,true⟩::rs) ds rs m q ds' rs' m' q'->GvD (.half N (ds++⟨2^m*(q:Int),2^m,true⟩::rs)) ⟨2^m*(q:Int),2^m,true⟩ (.half N (ds'++⟨2^m'*(q':Int),2^m',false⟩::rs'))
 | shel {s n:Int} {fs:List Sf} {j i:Nat} {b:List Bool}:fs[j]?=some ⟨n,b⟩->b[i]?=some true->GvD (.shel s fs) ⟨s*(j:Int)+n*(i:Int),n,true⟩ (.shel s (giv fs j i n b))
abbrev yl(C:W7->wa)(i:W7)(x dx a:wa)(q:St7)(cs:List Int)(z:Pc)(H:Hp)(Q:VK):Prop:=∃q',GvD q z q'/\∀(a':wa)(cs':List Int)(H':Hp),Gvn q z q' cs cs'->H a'=none->Aw x H H'->cs'.length=cs.length->KS C x dx a' q' cs' H'->Q .non H'
def LA(C:W7->wa)(i:W7):Sp:=λvs H Q _=>∃(x dx a:wa)(q:St7)(cs:List Int)(z:Pc),vs=[.ref x,.int (z.a+1)]/\i=q.let3/\i≠.row/\KS C x dx a q cs H/\z∈q.ps/\z.v=true/\yl C i x dx a q cs z H Q
variable (Cz:∎ "freed" 7 ώ (gR K Y3))
include T Cz in
theorem NO(F:Fun K "give" "Stretches.give" EV f₀ fd₀)(M:∀i,(ok4) i->yI K (⋯ i) "give" f₀):Bz P w K mg base (ok4) ⋯ "give" 8 ϒ [] (LA ⋯):=by
 refine Bz.made (Ba F MR (λ_ A _ s H vs Q E hr h=>?_)) M (F.binds MS) (yJ T);obtain⟨i0,hi,x,dx,a,q3,cs,z,rfl,rfl,_,S,hm,hv,q9,hG,qQ⟩:=h;refine#[_,(Aj (CK m_ (Bu Cz hr s!"" (Aa (BJ m_ rfl) (Aa (Ao BY mt Ai) Ab))) rfl)),?_];symm;cases q3 with
 | half _ _=>exact(show False from hi).elim
 | shel _ _=>exact(show False from hi).elim
 | row _ _=>exact(show False from hi).elim
 | st k r n ps=>
 cases hG;have hi:ok4 k:=hi;have hx:H x=some (.ins (⋯ k) dx (fsF k a r)):=S.hx;have ha:=S.ha;have hl:(cs.length:Int)=n:=S.hl;have hz:=S.hz;have hc:Am 0 ps cs.length:=by rw[hl];exact S.ok.2.1
 have nj:AK ps:=S.ok.2.2;have mk:At cs ps:=S.mm;have hm:z∈ps:=hm;have cl:=yJ T k;have na:=yW T k;obtain⟨i,hi2⟩:=aj hm;ext;refine#[a,cs,ps,z.a,by rw[di],SqL.of ha,∅,hc,mk,λj y hj hk hv' p H1 np s1 hp=>?_,λhn=>xb0 hv (hn z hm rfl)];have ej:=K8 hc hj hi2 ∅;subst ej;have ey:y=z:=Θ (hj.symm.trans hi2);subst ey;have hx1:=s1 x _ hx;have hne:p≠x:=λz=>by rw[z,hx] at np;cases np
 ext;obtain⟨ds,rs,e1,e2,_,_⟩:=CW hc hi2;subst e1 e2;obtain⟨k1,k3,k4⟩:=pA hc mk nj hv;exact qQ p _ _ (ub8 S.ok.1 S.ok.2.1 hm λy' hy' hv' hne' j hj=>pK hc hi2 hy' hv' hne' hj) np (Aw.of s1).put (by rw[Dj]) #[by rw[xb5,Ld];rfl,look_ne hne hp,by rw[Dj];exact hl,by rw[Dj];exact hz,#[hi,by rw[<-hl];exact k1,k3],k4]
include T in
theorem NP(F:Fun K "give" "Row.give" SL f₀ fd₀)(M:yI K Ah "give" f₀):Methx P w K mg base Ah "give" 1 ϒ [] (LA ⋯ W7.row):=by
 refine#[#[f₀,fd₀,[],Ba F JM (λ_ A _ s H vs Q E hr h=>?_),M,F.binds JN,.nil],T.cl_Row];obtain⟨x,dx,a,q3,cs,z,rfl,hi,nr,_⟩:=h;refine#[_,(Aj (Cy T.gA hr.hd rfl (Aa AG Ab))),?_];symm;exact xb0 rfl nr
theorem ub2:(ps.any λy=>eqP y z)=decide (z∈ps):=by
 rw[dj,cw,decide_eq_true_iff];constructor;rintro⟨y,hy,e⟩;rw[<-Lf.mp e];exact hy;exact λh=>#[z,h,Lf.mpr rfl]
theorem uK{q:Nat}{rs:List Pc}(hN:N<=8)(hm:m<=N)(c:Am (2^m*(q:Int)+2^m) rs (2^N)):m<9/\q<257/\0<=(2:Int)^m*(q:Int)/\(2:Int)^m*(q:Int)+2^m<=256:=by
 have h1:=c.le;have h2:=Eu hN;have h3:(2:Int)^8=256:=by decide
 have p1:=pw1 m;have h4:(q:Int)<=2^m*(q:Int):=by
   have:=kg p1 (show (0:Int)<=(q:Int) by lia);lia
 lia
theorem MgTo.lie{rs ds' rs':List Pc}{q m' q':Nat}(h:MgTo ps ds rs m q ds' rs' m' q'):Lie N ps ds rs m q->Lie N ps ds' rs' m' q':=by
 induction h with
 | stop _=>exact id
 | right hq hb k ih=>
   intro L;obtain⟨rs1,e,L1⟩:=L.right hq hb;rw[(jt.inj e).2] at ih;exact ih L1
 | left hq hb k ih=>
   intro L;obtain⟨ds1,e,L1⟩:=L.left hq hb;rw[(rm e rfl).1] at ih;exact ih L1
abbrev ym(p:wa)(us:List V)(ps ds rs ds' rs':List Pc)(N m q m' q':Nat)(H:Hp)(Q:VK):Prop:=∀(t:wa)(H':Hp),Same H H'->H' t=some (.tup [.int (2^m'*(q':Int)),.int (2^m')])->Q (.ref t) H'
def iS:Sp:=λvs H Q _=>∃(p:wa)(us:List V)(ps ds rs ds' rs':List Pc)(N m q m' q':Nat),vs=[.ref p,.int (2^m*(q:Int)),.int (2^m)]/\H p=some (.lst us)/\AJ H us ps/\N<=8/\Lie N ps ds rs m q/\MgTo ps ds rs m q ds' rs' m' q'/\ym p us ps ds rs ds' rs' N m q m' q' H Q
def GtW(p:wa)(N:Nat)(ps ds' rs':List Pc)(m' q':Nat)(H:Hp)(k:Nat)(σ:L2.St)(H':Hp):Prop:=
 ∃(ds rs:List Pc)(m q:Nat),k=N-m/\σ=[xa8 p,some (.int (2^m*(q:Int))),some (.int (2^m))]/\Same H H'/\Lie N ps ds rs m q/\MgTo ps ds rs m q ds' rs' m' q'
include T in
theorem U8(S:Src K mg "grown_together" EH):∎ "grown_together" 1 Ϩ (iS):=by
 refine S.okx D6 MA λf _ A _ s H vs Q E hr h=>?_;obtain⟨p,us,ps,ds,rs,ds',rs',N,m,q,m',q',rfl,hp,pa,hN,L,G,Q1⟩:=h;refine#[_,PSs.nox (Ad (QE cc (Ax (S_ hr.units) (BK (Aa (Ao ZW mt n_) (Aa n_ (Aa AV Ab)))) m_ rfl) (Ad (k_ 1 D6 (A7 (QJ rfl) s!"" T.n_min fw (Aa mt (Aa (Ao ZW mt n_) Ab)))) (Aj (k_ 2 D6 (Ao GT n_ Ai))))) (Aj (Aq (BK (Aa mt (Aa n_ Ab)))))),?_];symm;ext;refine#[GtW p N ps ds' rs' m' q' H,#[_,ds,rs,m,q,rfl,rfl,Same.refl _,L,G],?_];rintro k σ H1 ⟨ds,rs,m,q,rfl,rfl,s1,L,G⟩;obtain⟨m9,q9,a0,a1⟩:=uK hN L.le L.c2;have p1:=pw1 m;have p2:=pw2 m;have ex:=pW m m9 q q9;ext;rw[ex];intro t ht;have s2:=s1.put (o:=.tup [.int (bud m q),.int (2^m),.bl false]) (s1.free ht);have ht2:upd H1 t (.tup [.int (bud m q),.int (2^m),.bl false]) t=some (.tup [.int (bud m q),.int (2^m),.bl false]):=xb5;generalize upd H1 t (.tup [.int (bud m q),.int (2^m),.bl false])=H2 at s2 ht2 ⊢;ext;refine#[t,p,us,ps,#[bud m q,2^m,false],rfl,rfl,ht2,s2 p _ hp,pa.same s2,?_];rw[ub2];by_cases hin:(#[bud m q,2^m,false]:Pc)∈ps
 . rw[xb3 hin];ext;refine#[λσ' H''=>∃k',k'<N-m/\GtW p N ps ds' rs' m' q' H k' σ' H'',λσ' H'' hw=>hw,?_];have emul:(2:Int)^m*2=2^(m+1):=by rw[p2];lia
   cases G with
   | stop hno=>exact xb0 hin hno
   | right hq hb G1=>
     obtain⟨rs1,e,L1⟩:=L.right hq hb;have er:=(jt.inj e).2;subst er;have ea:=cQ (m:=m) hq;have eb:bud m q=2^m*(q:Int)+2^m:=by unfold bud;rw[xb1 hq]
     ext;rw[ex,xb2 ∅];ext;rw[emul];exact#[_,by have:=L1.le;lia,ds,_,m+1,q/2,rfl,by rw[ea],s2,L1,G1]
   | left hq hb G1=>
     obtain⟨ds1,e,L1⟩:=L.left hq hb;have er:=(rm e rfl).1;subst er;have ea:=cR (m:=m) hq;have eb:bud m q=2^m*(q:Int)-2^m:=by unfold bud;rw[xb2 ∅]
     ext;rw[ex,xb1 ∅];ext;rw[emul];exact#[_,by have:=L1.le;lia,_,rs,m+1,q/2,rfl,by rw[ea,<-eb],s2,L1,G1]
 . rw[xb4 hin];ext;cases G with
   | stop hno=>
     intro w hw;exact Q1 w _ (s2.trans (Same.new hw)) xb5
   | right hq hb G1=>exact xb0 hb hin
   | left hq hb G1=>exact xb0 hb hin
theorem uL{q:Nat}{rs:List Pc}{v:Bool}(hm:m<=N)(c:Am 0 (ds++#[2^m*(q:Int),2^m,v]::rs) (2^N)):Lie N (ds++#[2^m*(q:Int),2^m,v]::rs) ds rs m q:=by
 obtain⟨k,c1,c2⟩:=Lb c;obtain⟨ea,_,_,c3⟩:=c2;have ea:2^m*(q:Int)=k:=ea;have c3:Am (k+2^m) rs (2^N):=c3;have p1:=pw1 m;refine#[hm,by rw[ea];exact c1,by rw[ea];exact c3,λz hz=>?_];constructor;intro h;rcases ν.mp h with g | g
 exact .inl g;rcases Ξ.mp g with e | e
 rw[e] at hz;have hz:2^m*(q:Int)+2^m<=2^m*(q:Int)\/2^m*(q:Int)+2^m<=2^m*(q:Int):=hz;lia;exact .inr e;rintro(g | g);exact π _ g;exact ε _ (ι _ g)
theorem uM{q m' q':Nat}{rs ds' rs':List Pc}(hl:(cs.length:Int)=2^N)(mk:At cs ps)(al:∀z∈ps,Al z)(hin:∀y,y∈ds\/y∈rs->y∈ps)(L:Lie N ps ds rs m q)(G:MgTo ps ds rs m q ds' rs' m' q'):
   0<=(2:Int)^m'*(q':Int)/\(2:Int)^m'*(q':Int)+2^m'<=cs.length/\Am 0 (ds'++#[2^m'*(q':Int),2^m',false]::rs') (2^N)/\At (AS cs (2^m'*(q':Int)) (2^m') false) (ds'++#[2^m'*(q':Int),2^m',false]::rs')/\∀z∈ds'++(#[2^m'*(q':Int),2^m',false]::rs':List Pc),Al z:=by
 have L':=G.lie L;obtain⟨_,_,_,f4⟩:=G.facts;have p1:=pw1 m';have l1:=L'.c1.le;have l2:=L'.c2.le;refine#[∅,∅,L'.c1.app #[rfl,p1,(λh=>by cases h),L'.c2],At.lay ∅ p1 ∅ (L'.c1.endBy (ar 0)) L'.c2.fromOn (mk.sub λp hp=>?_),λz hz=>?_];rcases ν.mp hp with g | g
 exact hin p (f4 p (.inl g));exact hin p (f4 p (.inr g));rcases ν.mp hz with g | g
 exact al z (hin z (f4 z (.inl g)));rcases Ξ.mp g with e | e
 rw[e];exact#[m',q',rfl,rfl];exact al z (hin z (f4 z (.inr e)))
variable (E3:∎ "grown_together" 1 Ϩ (iS))
include T Ap AI Ak D_lay AH E3 in
theorem NQ(F:Fun K "give" "Halves.give" SM f₀ fd₀)(M:yI K Y6 "give" f₀):Methx P w K mg base Y6 "give" 8 ϒ [] (LA ⋯ W7.half):=by
 refine#[#[f₀,fd₀,[],Ba F UU (λ_ A _ s H vs Q E hr h=>?_),M,F.binds JO,.nil],T.MX];obtain⟨x,dx,a,q3,cs,z,rfl,hi,_,S,hzm,hv,hq⟩:=h;refine#[_,(Ad (CJ (l_ E3 hr (Aa (Bv AI AX hr m_) (Aa (Ao BY mt Ai) (Aa (Ao AU (B5 AH BV hr m_ (Aa mt Ab)) (DQ (v:=.int 2) s!"" T.Hb #[_,rfl])) Ab)))) (De rfl (AO (ld 2 UU) (AO (ld 3 UU) Cn)))) (Aj (Bm (B5 D_lay BV hr m_ (Aa (l_ Ap hr (Aa (Bv Ak AX hr m_) (Aa n_ (Aa o_ (Aa AV Ab))))) Ab))))),?_];symm;cases q3 with
 | shel _ _=>cases hi
 | row _ _=>cases hi
 | st i0 _ _ _=>
   have hi0:W7.half=i0:=hi;subst hi0;exact(show False from S.ok.1).elim
 | half N ps=>
 have hx:H x=some (.ins (⋯ W7.half) dx (fsF W7.half a (2^N))):=S.hx;have ha:=S.ha;have hl:(cs.length:Int)=2^N:=S.hl;obtain⟨hN,hc,al,nb⟩:=id S.ok;have mk:At cs ps:=S.mm;have hzm:z∈ps:=hzm;have cl:=T.MX;have na:=T.U0;have hz:=S.hz;have hw:=B0 S.ch mk;obtain⟨q9,hG,qQ⟩:=hq;cases hG with
 | @half _ m q m' q' ds rs ds' rs' L L' G=>
 generalize eps0:ds++(#[2^m*(q:Int),2^m,true]:Pc)::rs=ps at *;have eps:=eps0.symm;have q0:(0:Int)<=2^m*(q:Int):=(hc.mem _ hzm).1;have hm:m<=N:=L.le;have hin:∀y,y∈ds\/y∈rs->y∈ps:=λy hy=>by
   rw[eps];rcases hy with g | g
   exact π _ g;exact ε _ (ι _ g)
 have nb':=nb.give (N:=N) G hin;have GV:∀cs':List Int,(∀j:Nat,(j:Int)<2^m'*(q':Int)\/2^m'*(q':Int)+2^m'<=j->cs'[j]?=cs[j]?)->Gvn _ _ _ cs cs':=λcs'=>rC hc eps L L' G;obtain⟨g0,g1,g2,g3,g4⟩:=uM hl mk al (λy hy=>by
   rw[eps];rcases hy with g | g
   exact π _ g;exact ε _ (ι _ g)) L G
 have p1:=pw1 m';ext;refine#[2^N,x,dx,a,cs,ps,rfl,#[hx,ha,hz,by rw[hl];exact hc,mk],λlp us H1 nlp s1 hlp pa=>?_];have S1:=S.same s1;have hx1:H1 x=some (.ins (⋯ W7.half) dx (fsF W7.half a (2^N))):=S1.hx;have ha1:=S1.ha;ext;refine#[x,dx,a,.half N ps,cs,#[2^m*(q:Int),2^m,true],rfl,rfl,S1,hzm,rfl,λH2 s2=>?_];have hx2:=s2 x _ hx1;have ha2:=s2 a _ ha1;ext;refine#[lp,us,ps,ds,rs,ds',rs',N,m,q,m',q',by rw[show (2:Int)^m*(q:Int)+1-1=2^m*(q:Int) by lia,show (2:Int)^m-2+2=2^m by lia],s2 lp _ hlp,pa.same s2,hN,L,G,λt H3 s3 ht=>?_];have hx3:=s3 x _ hx2;have ha3:=s3 a _ ha2;generalize ea:(2:Int)^m'*(q':Int)=at0 at *;generalize el:(2:Int)^m'=lo at *;ext;refine#[2^N,x,dx,a,cs,rfl,hx3,ha3,λp H4 np s4 hp=>?_];have hx4:=s4 x _ hx3;have ha4:=s4 a _ ha3;ext;refine#[p,cs,at0,lo,false,rfl,SqL.of hp,∅,g0,p1,g1,λp5 H5 np5 s5 hp5=>?_];have hl5:(AS cs at0 lo false).length=cs.length:=B3 _ _ _ _;have hw5:=B0 (by rw[hl5,hl];exact g2) g3;ext;refine#[2^N,x,p5,dx,a,cs,_,_,rfl,s5 x _ hx4,s5 a _ ha4,hl5,SqL.of hp5,∅,by rw[hl5,hl];exact g2,hw5,λa' H6 na6 k6 hx6 ha6=>?_];ext;have s15:=(((s1.trans s2).trans s3).trans s4).trans s5;exact qQ a' _ H6 (GV _ λj hj=>Di g0 p1 hj) (s15.free na6) ((Aw.of s15).trans k6) hl5 #[hx6,ha6,by rw[hl5];exact hl,∅,#[hN,g2,g4,nb'],g3]
def HvW(H1:Hp)(B s:Int)(ps:List Pc)(D:wa)(i:Nat)(ys:List V)(H2:Hp):Prop:=Same H1 H2/\H2 D=some (.lst ys)/\H1 D=none/\ys.length<=i/\∃bs:List Bool,ys=bs.map V.bl/\bs.any id=(ps.take i).any λz=>decide (z.a-z.a%s=B)&&z.v
abbrev yo(K:δ)(c:wa)(cs:List Int)(ps:List Pc)(b s:Int)(H:Hp)(Q:VK):Prop:=∀(H':Hp),Same H H'->Q (.bl (ps.any λz=>decide (z.a-z.a%s=b)&&z.v)) H'
def F_(K:δ):Sp:=λvs H Q _=>∃(c:wa)(cs:List Int)(ps:List Pc)(b s:Int),vs=[.ref c,.int b,.int s]/\SqL K H c (cs.map V.int)/\cs.length<=4000/\Bt cs 0=(ps,none)/\ps.length<=4000/\1<=s/\yo K c cs ps b s H Q
include T Ay Bk in
theorem NR(S:Src K mg "has_live" R5):∎ "has_live" 5 ϣ (F_ K):=by
 refine S.okx IQ IR λf _ A _ s H vs Q E hr h=>?_;obtain⟨c,cs,ps,b,s,rfl,hS,hz,hw,hpz,hs,q⟩:=h;refine#[_,PSs.nox (Aj (Aq (A7 (oU rfl) s!"" T.n_any uo (Aa (HM Ϗ xa0 [1,2] rfl (BX (l_ Ay hr (Aa m_ Ab))) (λ_ _ _ _ _=>(EF (K:=K) (n:=3) rfl rfl (AO (AF (i:=0) (show ((Ϗ:List Str)++(xa0:List Str)).Nodup by decide +kernel) rfl (υ rfl)) (AO (AF (i:=1) (show ((Ϗ:List Str)++(xa0:List Str)).Nodup by decide +kernel) rfl (υ rfl)) (AO (AF (i:=2) (show ((Ϗ:List Str)++(xa0:List Str)).Nodup by decide +kernel) rfl (υ rfl)) Cn))))) (λ_ _ _ _ _=>(HI (Ax A8 (l_ Bk hr (Aa m_ (Aa p_ Ab))) o_))) (λ_ _ _ _ _=>n_) (oC rfl rfl rfl rfl rfl rfl) (oE (n:="begin") (m:="shelf") (by decide +kernel) rfl rfl) (λy h=>DW (by decide +kernel) h)) Ab)))),?_];symm;ext;refine#[c,cs,rfl,hS,hz,(λc hc=>by rw[hw] at hc;cases hc),λ_ lp us H1 nlp s1 hlp pa=>?_];have pa:AJ H1 us ps:=by rw[hw] at pa;exact pa
 have hul:=pa.1;ext;refine#[lp,rfl,#[_,SqL.of hlp],DX (K:=K) (a:=lp) (xs:=us) (HvW H1 b s ps) (λD hD=>#[Same.new hD,xb5,hD,Γ _,[],rfl,rfl]) (λD i ys H2 _ h=>SqL.of (h.1 lp _ hlp)) ?_ ?_];rintro D i y ys H2 hD hi ⟨s2,hD2,_,hyl,bs,ey,eb⟩ τ hτ;have hil:i<us.length:=(γ.mp hi).1;have hip:i<ps.length:=∅;obtain⟨t,et,hT⟩:=pa.2 i ps[i] (by simp [hip]);have ey2:y = .ref t:=Θ (hi.symm.trans et);subst ey2;have hT2:=s2 t _ hT;have etk:ps.take (i+1)=ps.take i++[ps[i]]:=by rw[bj,ρ hip];rfl
 generalize ps[i]=z at hT2 etk;obtain⟨τ0,τ1,τ2,rfl⟩:=ad hτ;ext;refine#[#[[_,_,_],rfl,rfl],?_];ext;refine#[z.a,s,rfl,hs,?_];ext;refine AW (λhl=>?_) (λhl=>?_);ext;refine#[hD2,small4000 ∅,Co hil #[s2.put hD,xb5,hD,by rw[Δ,Ω];lia,bs++[z.v],by rw[ey,ay];rfl,?_]];rw[etk,jd,jd,eb,gj,re,gj,re,xb3 hl];simp;ext;refine Co hil #[s2,hD2,hD,∅,bs,ey,?_];rw[etk,jd,eb,gj,re,xb4 hl];simp;rintro D ys H2 hD ⟨s2,hD2,_,hyl,bs,ey,eb⟩;subst ey;rw[av ∅] at eb;ext;refine#[D,bs,rfl,hD2,?_];rw[eb];ext;exact q _ (s1.trans s2)
variable (DB:∎ "has_live" 5 ϣ (F_ K))
include T Ap Ak D_lay Bk AH DB in
theorem NS(F:Fun K "give" "Shelves.give" SN f₀ fd₀)(M:yI K Y4 "give" f₀):Methx P w K mg base Y4 "give" 8 ϒ [] (LA ⋯ W7.shel):=by
 refine#[#[f₀,fd₀,[],Ba F SO (λ_ A _ s H vs Q E hr h=>?_),M,F.binds JP,.nil],T.J1];obtain⟨x,dx,a,q3,cs,z,rfl,hi,_,S,hzm,hv,hq⟩:=h;refine#[_,(Ad (k_ 2 SO (l_ Ap hr (Aa (Bv Ak AX hr m_) (Aa (Ao BY mt Ai) (Aa (Ao AU (B5 AH BV hr m_ (Aa mt Ab)) (DQ (v:=.int 2) s!"" T.Hb #[_,rfl])) (Aa AV Ab)))))) (Ad (k_ 3 SO (l_ Bk hr (Aa (Ao BY mt Ai) (Aa (BJ m_ rfl) Ab)))) (Ad (AA (Bd (BU (l_ DB hr (Aa n_ (Aa o_ (Aa (BJ m_ rfl) Ab)))))) (Aj (k_ 2 SO (l_ Ap hr (Aa n_ (Aa o_ (Aa (BJ m_ rfl) (Aa AV Ab))))))) AB) (Aj (Bm (B5 D_lay BV hr m_ (Aa n_ Ab))))))),?_];symm;cases q3 with
 | half _ _=>cases hi
 | row _ _=>cases hi
 | st i0 _ _ _=>
   have hi0:W7.shel=i0:=hi;subst hi0;exact(show False from S.ok.1).elim
 | shel s fs=>
 have hx:H x=some (.ins (⋯ W7.shel) dx (fsF W7.shel a s)):=S.hx;have ha:=S.ha;have hl:(cs.length:Int)=s*(fs.length:Int):=S.hl;have hz:=S.hz;obtain⟨hs,hf1,ok⟩:=id S.ok;have mk:At cs (alP s 0 fs):=S.mm;have hzm:z∈alP s 0 fs:=hzm;have cl:=T.J1;have na:=T.MY;have nb:=T.SV;have ch:=S.ch;have hw:=B0 ch mk;have W:∀f∈fs,SfW s f:=λf hf=>(ok f hf).1;obtain⟨q9,hG,qQ⟩:=hq;cases hG with
 | @shel _ n _ j i b hj hi=>
 have q:∀(a':wa)(cs':List Int)(H':Hp),(∀y∈alP s 0 fs,y.v=true->y≠#[s*(j:Int)+n*(i:Int),n,true]->∀m:Nat,Inn y m->cs'[m]?=cs[m]?)->H a'=none->Aw x H H'->cs'.length=cs.length->KS ⋯ x dx a' (.shel s (giv fs j i n b)) cs' H'->Q .non H':=λa' cs' H' ho=>qQ a' cs' H' (rD hs ok hj hi ho);clear qQ;have hib:i<b.length:=(γ.mp hi).1;obtain⟨g0,g3,g4,gm,mk3⟩:=cW (v:=false) hs W hj hi hl mk;obtain⟨w0,w4,_⟩:=cY hs W hj hl mk;have hfl:=(dL hs W hj hi).2.2.1;have gp3:=(dM hs ok hj hi).2.2;generalize eat:s*(j:Int)+n*(i:Int)=at0 at g0 g4 gm mk3 hfl q gp3 ⊢;have Bl:∀y∈alP s 0 fs,y.v=true->y≠#[at0,n,true]->∀m:Nat,Inn y m->(AS cs at0 n false)[m]?=cs[m]?:=λy hy hv hne m hm=>Di g0 ∅ (show (m:Int)<at0\/at0+n<=m from UL ch hy gm hne hm);ext;refine#[s,x,dx,a,cs,rfl,hx,ha,λp H1 np s1 hp=>?_];have hx1:=s1 x _ hx;have ha1:=s1 a _ ha;ext;refine#[x,dx,a,.shel s fs,cs,#[at0,n,true],rfl,rfl,S.same s1,gm,rfl,λH2 s2=>?_];have hx2:=s2 x _ hx1;have ha2:=s2 a _ ha1;have hp2:=s2 p _ hp;ext;refine#[p,cs,at0+1-1,n-2+2,false,rfl,SqL.of hp2,∅,∅,∅,∅,λp3 H3 np3 s3 hp3=>?_];rw[show at0+1-1=at0 by lia,show n-2+2=n by lia] at hp3;have hx3:=s3 x _ hx2;have ha3:=s3 a _ ha2;ext;refine#[at0+1-1,s,rfl,hs,?_];rw[show at0+1-1=at0 by lia,hfl];ext;have hl3:(AS cs at0 n false).length=cs.length:=B3 _ _ _ _;have hl4:((AS cs at0 n false).length:Int)=s*((fs.set j #[n,b.set i false]).length:Int):=by rw[hl3,ax];exact hl
 have W3:∀f∈fs.set j #[n,b.set i false],SfW s f:=ud5 W (Rj (W _ (ζ hj)) hib);have ch3:=Ly hs W3 hl4;have hw3:=B0 ch3 mk3;have hle3:=ch3.le;have hj3:(fs.set j #[n,b.set i false])[j]?=some #[n,b.set i false]:=ai (γ.mp hj).1;have hany:=qI hs W3 hj3;have gok:=dF ok hj hib;have glen:=dE fs j i n b;refine#[p3,_,_,s*(j:Int),s,rfl,SqL.of hp3,∅,hw3,∅,hs,λH4 s4=>?_];rw[hany];have hp4:=s4 p3 _ hp3;have hx4:=s4 x _ hx3;have ha4:=s4 a _ ha3;have s14:=((s1.trans s2).trans s3).trans s4;cases hb:(b.set i false).any id with
 | true=>
   have eg:giv fs j i n b=fs.set j #[n,b.set i false]:=by unfold giv;rw[xb1 hb]
   rw[eg] at gok q;ext;refine#[s,x,p3,dx,a,cs,_,_,rfl,hx4,ha4,hl3,SqL.of hp4,∅,ch3,hw3,λa' H6 na6 k6 hx6 ha6=>?_];ext;exact q a' _ H6 Bl (s14.free na6) ((Aw.of s14).trans k6) hl3 #[hx6,ha6,hl4,∅,#[hs,by rw[ax];exact hf1,gok],mk3]
 | false=>
   have eg:giv fs j i n b=fs.set j #[0,[]]:=by unfold giv;rw[xb2 (by rw[hb];exact ξ)]
   rw[eg] at gok q;obtain⟨_,w5,mk5⟩:=cY hs W3 hj3 hl4 mk3;rw[uk] at mk5;ext;refine#[p3,_,s*(j:Int),s,false,rfl,SqL.of hp4,∅,w0,hs,w5,λp5 H5 np5 s5 hp5=>?_];have hl5:(AS (AS cs at0 n false) (s*(j:Int)) s false).length=cs.length:=by rw[B3];exact hl3
   have hl6:((AS (AS cs at0 n false) (s*(j:Int)) s false).length:Int)=s*((fs.set j #[0,[]]).length:Int):=by rw[hl5,ax];exact hl
   have ch5:=Ly hs (λf hf=>(gok f hf).1) hl6;have hw5:=B0 ch5 mk5;have hx5:=s5 x _ hx4;have ha5:=s5 a _ ha4;ext;refine#[s,x,p5,dx,a,cs,_,_,rfl,hx5,ha5,hl5,SqL.of hp5,∅,ch5,hw5,λa' H6 na6 k6 hx6 ha6=>?_];ext;have s15:=s14.trans s5;exact q a' _ H6 (λy hy hv hne m hm=>by
     have:=gp3 hb y hy hv hne;rw[Di w0 hs (by obtain⟨m1,m2⟩:=hm;lia)];exact Bl y hy hv hne m hm) (s15.free na6) ((Aw.of s15).trans k6) hl5 #[hx6,ha6,hl6,∅,#[hs,by rw[ax];exact hf1,gok],mk5]
def okM:W7->Prop
 | .row=>False
 | _=>True
theorem U9(h:lnF c q L):c+2<=L:=by
 cases q with
 | half N ps=>
   obtain⟨B,hB,rfl⟩:=h;exact hB.1
 | shel _ _=>exact rf (vt h)
 | row _ _=>exact rf (vt h)
 | st _ _ _ _=>exact rf (vt h)
structure ue5(q:St7)(z:Pc)(c b p:Int)(q':St7)(cs cs':List Int):Prop where
 n:q'.n=q.n
 lt:q'.let3=q.let3
 sh:q'.sh=q.sh
 bd:p%b=0
 lf:∃L,(lnF c q L\/(ok3 q.let3/\L=z.l/\c+2<=z.l))/\ud8 q.ps q'.ps cs cs' #[p-1,L,true] λy=>y=z
 own:∀j:Nat,(j:Int)<c->(j:Int)<z.l-2->cs'[p.toNat+j]?=cs[(z.a+1).toNat+j]?
def zt(c b:Int)(z:Pc):St7->Prop
 | .st _ _ _ ps=>(z.a+1)%b=0/\∃i,ps[i]?=some z/\z.a+(c+2)<=yH ps i z
 | _=>c+2<=z.l
theorem ub9(ok:q.ok)(hz:z∈q.ps)(hv:z.v=true)(nr:q.let3≠.row):∃q',GvD q z q':=by
 cases q with
 | st k r n ps=>exact#[_,.st]
 | row _ _=>exact xb0 rfl nr
 | shel s fs=>
   obtain⟨j,i,n,b,hj,hi,rfl⟩:=Ll (show z∈alP s 0 fs from hz) hv;exact#[_,.shel hj hi]
 | half N ps=>
   obtain⟨_,hc,al,_⟩:=id ok;have hz:z∈ps:=hz;obtain⟨m,q,em,ea⟩:=al z hz;obtain⟨i0,hi0⟩:=aj hz;obtain⟨ds,rs,eps,_,_,_⟩:=CW hc hi0;obtain⟨_,_,_,z4⟩:=hc.mem z hz;obtain⟨za,zl,zv⟩:=z;have em:zl=2^m:=em;have ea:za=2^m*(q:Int):=ea;have hv:zv=true:=hv;subst em ea hv eps;have q0:(0:Int)<=2^m*(q:Int):=(hc.mem _ hz).1;have hm:m<=N:=UJ (by have z4:(2:Int)^m*(q:Int)+2^m<=2^N:=z4;lia);have L:=uL (v:=true) hm hc;obtain⟨ds',rs',m',q',G,L'⟩:=MgTo.ex (N-m) (Γ _) L;exact#[_,.half L L' G]
noncomputable def yZ(c:Int)(q:St7):Option (Int×St7):=@dite _ (∃r:Int×St7,AskD c q r.1 r.2) (ju _) (λh=>some h.choose) λ_=>none
noncomputable def gvF(q:St7)(z:Pc):St7:=@dite _ (∃q',GvD q z q') (ju _) (λh=>h.choose) λ_=>q
theorem iT(h:yZ c q=some (p,q')):AskD c q p q':=by
 unfold yZ at h;by_cases g:∃r:Int×St7,AskD c q r.1 r.2;rw[dif_pos g] at h;have:=g.choose_spec;rw[Θ h] at this;exact this;rw[dif_neg g] at h;cases h
theorem iU(ok:q.ok)(c1:1<=c)(h:yZ c q=none):NoD c q:=by
 unfold yZ at h;by_cases g:∃r:Int×St7,AskD c q r.1 r.2;rw[dif_pos g] at h;cases h;exact(uC ok c1).resolve_right λ⟨p,q',w⟩=>g #[(p,q'),w]
theorem iV(ok:q.ok)(hz:z∈q.ps)(hv:z.v=true)(nr:q.let3≠.row):GvD q z (gvF q z):=by
 unfold gvF;have g:=ub9 ok hz hv nr;rw[dif_pos g];exact g.choose_spec
inductive GrD(c:Int)(z:Pc):St7->Int->St7->Prop
 | keep {q:St7}:ok3 q.let3->c+2<=z.l->GrD c z q (z.a+1) q
 | stay {k:W7} {r n:Int} {ps:List Pc} {i:Nat}:ps[i]?=some z->z.a+(c+2)<=yH ps i z->GrD c z (.st k r n ps) (z.a+1) (.st k r n (yN ps z.a (c+2) (yH ps i z)))
 | move {q q1:St7} {p:Int}:¬zt c 1 z q->yZ c q=some (p,q1)->GrD c z q p (gvF q1 z)
abbrev yp(C:W7->wa)(CN:wa)(i:W7)(x dx a:wa)(q:St7)(cs:List Int)(z:Pc)(c b:Int)(H:Hp)(Q:VK)(E:XK):Prop:=(yZ c q=none->∀H',Same H H'->E (.ref CN) none H') /\ ∀(p:Int)(q1:St7),yZ c q=some (p,q1)->∀(a':wa)(cs':List Int)(H':Hp),ue5 q z c 1 p (gvF q1 z) cs cs'->H a'=none->Aw x H H'->cs'.length=cs.length->KS C x dx a' (gvF q1 z) cs' H'->Q (.int p) H'
def Va(C:W7->wa)(CN:wa)(i:W7):Sp:=λvs H Q E=>∃(x dx a:wa)(q:St7)(cs:List Int)(z:Pc)(c b:Int),vs=[.ref x,.int (z.a+1),.int c,.int b]/\b=1/\i=q.let3/\i≠.next/\KS C x dx a q cs H/\z∈q.ps/\z.v=true/\1<=c/\c<=30/\yp C CN i x dx a q cs z c b H Q E
theorem Gvn.new{q1 q2:St7}{cs2 cs3:List Int}(A:zk q c b p q1 cs cs1)(hm:z∈q.ps)(hv:z.v=true)(ch:Am 0 q1.ps cs1.length)(off:∀j:Nat,(j:Int)<p-1\/(∀L,(#[p-1,L,true]:Pc)∈q1.ps->p-1+L<=j)->cs2[j]?=cs1[j]?)(inn:∀j:Nat,(j:Int)<c->(j:Int)<z.l-2->cs2[p.toNat+j]?=cs1[(z.a+1).toNat+j]?)(G:Gvn q1 z q2 cs2 cs3):ue5 q z c b p q2 cs cs3:=by
 obtain⟨L,hL,hnew,hvn,hkp,hbk⟩:=A.lf;have h2:=U9 hL;obtain⟨hzc,hzp,hzin⟩:=hkp z hm hv id;have hzp:z.a≠p-1:=hzp;have nz:(#[p-1,L,true]:Pc)≠z:=λe=>hzp (by rw[<-e]);obtain⟨n1,_,_,_⟩:=ch.mem _ hnew;have n1:0<=p-1:=n1;obtain⟨z1,_,_,_⟩:=ch.mem z hzc;have one:∀L',(#[p-1,L',true]:Pc)∈q1.ps->L'=L:=λL' h=>congrArg Pc.l (CY ch h hnew rfl);have e1:(p.toNat:Int)=p:=bc ∅;have e2:((z.a+1).toNat:Int)=z.a+1:=bc ∅;refine#[G.n.trans A.n,G.lt.trans A.lt,G.sh.trans A.sh,A.bd,#[L,.inl hL,(G.kp _ hnew rfl nz).1,rfl,λy hy yv hyz=>?_,λy hy yv=>?_],λj hj1 hj2=>?_];obtain⟨k1,k2,k3⟩:=hkp y hy yv id;obtain⟨k4,k5⟩:=G.kp y k1 yv hyz;refine#[k4,k2,λj hj=>?_];have ha:=UL ch k1 hnew (λe=>k2 (by rw[e])) hj;have ha:(j:Int)<p-1\/p-1+L<=j:=ha;rw[k5 j hj,off j (ha.imp id λh L' hL'=>by rw[one L' hL'];exact h),k3 j hj];obtain⟨k1,k2⟩:=G.bk y hy yv;exact(hbk y k1 yv).imp id λh=>#[h.1,k2]
 rw[(G.kp _ hnew rfl nz).2 (p.toNat+j) #[by show p-1+1<=_;lia,by show _<p-1+L-1;lia],inn j hj1 hj2];exact hzin _ #[∅,∅]
variable (D_ask:ze P w K mg base ⋯ "ask" 8 ύ [.int 1] (Lx ⋯ A5))
variable (DC:∎ "carried" 1 Ϥ (gS K))
variable (D_give:A6 P w K mg base ⋯ "give" 8 ϒ [] (LA ⋯))
include T AH D_ask DC D_give in
theorem NT(F:Fun K "room_moved" "Keeper.room_moved" EW f₀ fd₀)(M:∀i,(okM) i->yI K (⋯ i) "room_moved" f₀):Bz P w K mg base (okM) ⋯ "room_moved" 9 ό [] (Va ⋯ A5):=by
 refine Bz.made (Ba F Ha (λ_ A _ s H vs Q E hr h=>?_)) M (F.binds MT) (yJ T);obtain⟨i,hi,x,dx,a,q,cs,z,c,b,rfl,hb1,rfl,nx,S,hm,hv,c1,c30,qN,qQ⟩:=h;refine#[_,(Ad (k_ 4 Ha (B5 D_ask.all BV hr m_ (Aa n_ (Aa o_ Ab)))) (Ad (CK m_ (l_ DC hr (Aa (BJ m_ rfl) (Aa mt (Aa p_ (Aa (A7 (QJ rfl) s!"" T.n_min fw (Aa (B5 AH BV hr m_ (Aa mt Ab)) (Aa n_ Ab))) Ab))))) rfl) (Ad (Bm (B5 D_give BV hr m_ (Aa mt Ab))) (Aj (Aq p_))))),?_];symm;have nr:q.let3≠.row:=λe=>by have hi:okM q.let3:=hi;rw[e] at hi;exact hi
 have cl:=yJ T q.let3;have na:=yW T q.let3;have hx:=S.hx;ext;refine#[x,dx,a,q,cs,c,b,rfl,hb1,rfl,nx,S,c1,c30,?_];cases hF:yZ c q with
 | none=>exact .inl #[iU S.ok c1 hF,λH1 s1=>qN hF H1 s1]
 | some r=>
 obtain⟨p,q1⟩:=r;refine .inr #[p,q1,iT hF,λa1 cs1 H1 A na1 k1 l1 S1=>?_];obtain⟨L,hL,hnew,hvn,hkp,hbk⟩:=A.lf;have Lc:=U9 hL;obtain⟨hzc,hzp,hzin⟩:=hkp z hm hv id;have hz:=S1.hz;obtain⟨z1,z2,z3,z4⟩:=S1.ch.mem z hzc;have z3:=z3 hv;obtain⟨n1,n2,n3,n4⟩:=S1.ch.mem _ hnew;have n4:p-1+L<=cs1.length:=n4;have n1:0<=p-1:=n1;have hx1:=S1.hx;have ha1:=S1.ha;have cl1:=yJ T q1.let3;have na1':=yW T q1.let3;have ok1:okM q1.let3:=by rw[A.lt];exact hi
 ext;refine#[x,dx,a1,q1,cs1,z,rfl,rfl,S1,hzc,hv,λH2 s2=>?_];have hx2:=s2 x _ hx1;have ha2:=s2 a1 _ ha1;ext;have hmj:∀j:Nat,(j:Int)<c->(j:Int)<z.l-2->(j:Int)<(if c<z.l-2 then c else z.l-2):=λj h1 h2=>by split <;> lia
 have b1:(if c<z.l-2 then c else z.l-2)<=c:=by split <;> lia
 have b2:(if c<z.l-2 then c else z.l-2)<=z.l-2:=by split <;> lia
 have b3:0<=(if c<z.l-2 then c else z.l-2):=by split <;> lia
 generalize (if c<z.l-2 then c else z.l-2)=m at b1 b2 b3 hmj ⊢;refine#[a1,cs1,z.a+1,p,m,rfl,SqL.of ha2,hz,∅,∅,b3,∅,∅,λw H3 nw s3 hw=>?_];have hx3:=s3 x _ hx2;have hne:w≠x:=λz=>by rw[z,hx2] at nw;cases nw
 have e1:(p.toNat:Int)=p:=bc ∅;have e2:((z.a+1).toNat:Int)=z.a+1:=bc ∅;have e3:(m.toNat:Int)=m:=bc b3;have lc:(zf cs1 (z.a+1).toNat p.toNat m.toNat).length=cs1.length:=pF ∅ ∅;have mc:=pG (s:=(z.a+1).toNat) (c:=m.toNat) S1.ch rfl S1.mm hnew rfl ∅ (show (m.toNat:Int)<=L-2 by lia);have mc:At (zf cs1 (z.a+1).toNat p.toNat m.toNat) q1.ps:=by rw[show (#[p-1,L,true]:Pc).a+1=p from lw _ _] at mc;exact mc
 ext;generalize hH:upd H3 x _=H4;have S4:KS ⋯ x dx w q1 (zf cs1 (z.a+1).toNat p.toNat m.toNat) H4:=#[by rw[<-hH,xb5,Ld],by rw[<-hH];exact look_ne hne hw,by rw[lc];exact S1.hl,by rw[lc];exact hz,S1.ok,mc]
 have k4:Aw x H H4:=by rw[<-hH];exact(k1.trans (Aw.of (s2.trans s3))).put
 have hx4:=S4.hx;ext;refine#[x,dx,w,q1,_,z,rfl,rfl,by rw[A.lt];exact nr,S4,hzc,hv,gvF q1 z,iV S1.ok hzc hv (by rw[A.lt];exact nr),λa' cs' H5 G na5 k5 l5 S5=>?_];ext;refine qQ p q1 hF a' cs' H5 (Gvn.new A hm hv S1.ch (λj hj=>cL ∅ ∅ (by rcases hj with h | h;exact .inl ∅;have:=h L hnew;exact .inr ∅)) (λj hj1 hj2=>by have:=hmj j hj1 hj2;exact pN ∅ ∅ ∅) G) (k4.free (by rw[S4.hx];exact λe=>by cases e) na5) (k4.trans k5) ∅ S5
theorem uN{e:Int}(h:z∈ps):(#[z.a,L,true]:Pc)∈yN ps z.a L e:=by
 unfold yN;refine mx.mpr #[rg1 z.a L e z,ce.mpr #[z,h,rfl],?_];unfold rg1;rw[xb1 rfl];exact π _ (ε _ (χ.mpr rfl))
def okG:W7->Prop
 | .half=>True
 | .shel=>True
 | _=>False
theorem okG.three(h:okG i):ok3 i:=by cases i <;> first | exact trivial | exact h.elim
theorem okG.moved(h:okG i):okM i:=by cases i <;> first | exact trivial | exact h.elim
theorem okG.row(h:okG i):i≠.row:=by rintro rfl;exact h
theorem ok4.moved(h:ok4 i):okM i:=by cases i <;> first | exact trivial | exact h.elim
theorem ok4.three(h:ok4 i)(h3:ok3 i):False:=by cases i <;> first | exact h | exact h3
theorem ok4.row(h:ok4 i):i≠.row:=by rintro rfl;exact h
abbrev yq(C:W7->wa)(CN:wa)(i:W7)(x dx a:wa)(q:St7)(cs:List Int)(z:Pc)(c b:Int)(H:Hp)(Q:VK)(E:XK):Prop:=(¬zt c 1 z q->yZ c q=none->∀H',Same H H'->E (.ref CN) none H') /\ ∀(p:Int)(q':St7)(a':wa)(cs':List Int)(H':Hp),GrD c z q p q'->ue5 q z c 1 p q' cs cs'->(a'=a\/H a'=none)->Aw x H H'->cs'.length=cs.length->KS C x dx a' q' cs' H'->Q (.int p) H'
def NU(C:W7->wa)(CN:wa)(i:W7):Sp:=λvs H Q E=>∃(x dx a:wa)(q:St7)(cs:List Int)(z:Pc)(c b:Int),vs=[.ref x,.int (z.a+1),.int c,.int b]/\b=1/\i=q.let3/\i≠.row/\i≠.next/\KS C x dx a q cs H/\z∈q.ps/\z.v=true/\1<=c/\c<=30/\yq C CN i x dx a q cs z c b H Q E
variable (Ce:Bz P w K mg base (okM) ⋯ "room_moved" 9 ό [] (Va ⋯ A5))
include T BF AH Ce in
theorem NV(F:FunD K "grow" "Keeper.grow" EY (.ref T₀) f₀ fd₀)(LT:K.lookup T₀=some #[tc₀,td₀,.seq [.int 1 tk₀].toArray tn₀,ts₀])(M:∀i,(okG) i->yI K (⋯ i) "grow" f₀):MethSD P w K mg base (okG) ⋯ "grow" 10 ό [.int 1] (NU ⋯ A5):=by
 refine MethSD.made (fd:=fd₀) ?_ M (F.bindsA LT (JQ T₀ _)) (F.bindsD LT (JR T₀ _)) (.cons #[tk₀,rfl] .nil) (yJ T);refine G5 F fX (λvs H Q E h=>by obtain⟨_,_,h⟩:=h;revert h;walk_at "l") (λ_ A _ s H vs Q E hr h=>?_);obtain⟨i,hi,x,dx,a,q,cs,z,c,b,rfl,hb1,rfl,nr,nx,S,hm,hv,c1,c30,qN,qQ⟩:=h;refine#[_,(Ad (k_ 4 fX (B5 AH BV hr m_ (Aa mt Ab))) (Ad (Bm (Bu BF hr s!"" (Aa n_ (Aa o_ Ab)))) (Ad (AA (Ax K1 p_ n_) (Aj (Aq mt)) AB) (Aj (Aq (Rc Ce BV hr m_ (Aa mt (Aa n_ (Aa o_ Ab))))))))),?_];symm;subst hb1;have hi:okG q.let3:=hi;have cl:=yJ T q.let3;have na:=yW T q.let3;have hx:=S.hx;have om:=hi.moved;have es:zt c 1 z q↔c+2<=z.l:=by
   cases q with
   | st k _ _ _=>cases k <;> first | exact(show False from hi).elim | exact(show False from S.ok.1).elim
   | half _ _=>exact vx
   | shel _ _=>exact vx
   | row _ _=>exact(show False from hi).elim
 obtain⟨z0,_,z3,_⟩:=S.ch.mem z hm;have z3:=z3 hv;ext;refine#[x,dx,a,q,cs,z,rfl,rfl,S,hm,hv,λH1 s1=>?_];have S1:=S.same s1;have hx1:=S1.hx;ext;refine#[c,1,rfl,λh=>xb0 h ∅,λ_ _ h=>xb0 rfl h,λ_ _=>?_];ext;refine AW (λh1=>?_) (λh1=>?_);ext;refine qQ (z.a+1) q a cs H1 (.keep hi.three ∅) #[rfl,rfl,rfl,Mu _,#[z.l,.inr #[hi.three,rfl,∅],?_],λ_ _ _=>rfl] (.inl rfl) (Aw.of s1) rfl S1;have ez:(#[z.a+1-1,z.l,true]:Pc)=z:=by rw[di,<-hv]
 rw[ez];exact#[hm,hv,λy hy _ hne=>#[hy,λe=>hne (CY S.ch hy hm e),λ_ _=>rfl],λy hy _=>(vy (y=z)).imp id λh=>#[hy,h]];ext;refine#[x,dx,a,q,cs,z,c,1,rfl,rfl,rfl,nx,S1,hm,hv,c1,c30,λhn H2 s2=>qN (by rw[es];lia) hn H2 (s1.trans s2),λp q1 hF a' cs' H2 G na2 k2 l2 S2=>qQ p _ a' cs' H2 (.move (by rw[es];lia) hF) G (.inr (s1.free na2)) ((Aw.of s1).trans k2) l2 S2]
include T in
theorem NW(F:FunD K "grow" "Row.grow" EZ (.ref T₀) f₀ fd₀)(LT:K.lookup T₀=some #[tc₀,td₀,.seq [.int 1 tk₀].toArray tn₀,ts₀])(M:∀i,(λi=>i=W7.row) i->yI K (⋯ i) "grow" f₀):MethSD P w K mg base (λi=>i=W7.row) ⋯ "grow" 1 ό [.int 1] (NU ⋯ A5):=by
 refine MethSD.made (fd:=fd₀) ?_ M (F.bindsA LT (JT T₀ _)) (F.bindsD LT (JU T₀ _)) (.cons #[tk₀,rfl] .nil) (yJ T);refine G5 F JS (λvs H Q E h=>by obtain⟨_,_,h⟩:=h;revert h;walk_at "l") (λ_ A _ s H vs Q E hr h=>?_);obtain⟨i,hi,x,dx,a,q,cs,z,c,b,rfl,hb1,rfl,nr,_⟩:=h;refine#[_,(Aj (Cy T.gA hr.hd rfl (Aa AG Ab))),?_];symm;exact xb0 hi nr
include T Ap Be Bi B7 Bj Ce in
theorem NX(F:FunD K "grow" "Stretches.grow" E1 (.ref T₀) f₀ fd₀)(LT:K.lookup T₀=some #[tc₀,td₀,.seq [.int 1 tk₀].toArray tn₀,ts₀])(M:∀i,(ok4) i->yI K (⋯ i) "grow" f₀):MethSD P w K mg base (ok4) ⋯ "grow" 10 ό [.int 1] (NU ⋯ A5):=by
 refine MethSD.made (fd:=fd₀) ?_ M (F.bindsA LT (JV T₀ _)) (F.bindsD LT (JW T₀ _)) (.cons #[tk₀,rfl] .nil) (yJ T);refine G5 F Lv (λvs H Q E h=>by obtain⟨_,_,h⟩:=h;revert h;walk_at "l") (λ_ A _ s H vs Q E hr h=>?_);obtain⟨i0,hi,x,dx,a,q,cs,z,c,b,rfl,hb1,rfl,nr,nx,S,hm,hv,h1,c30,qN,qQ⟩:=h;refine#[_,(Ad (CJ (Bu Bi hr s!"" (Aa (BJ m_ rfl) (Aa (Ao BY mt Ai) Ab))) (De rfl (AO (ld 4 Lv) (AO (ld 5 Lv) (AO (ld 6 Lv) Cn))))) (Ad (Bm (Bu Bj hr s!"" (Aa n_ (Aa o_ Ab)))) (Ad (k_ 7 Lv (Ao AU n_ (DQ (v:=.int 2) s!"" T.Hb #[_,rfl]))) (Ad (k_ 8 Lv (l_ B7 hr (Aa (BJ m_ rfl) (Aa (Ao AU p_ q_) Ab)))) (Ad (AA (PW.pt (Bf (Ax Df (Ao BI mt o_) Ai) (BB (Ax HF (Ao AU p_ r_) s_)))) (Aj (Aq (Rc Ce BV hr m_ (Aa mt (Aa n_ (Aa o_ Ab)))))) AB) (Ad (CK m_ (l_ Be hr (Aa (l_ Ap hr (Aa (BJ m_ rfl) (Aa p_ (Aa r_ (Aa AV Ab))))) (Aa (Ao AU p_ r_) (Aa s_ Ab)))) rfl) (Aj (Aq mt)))))))),?_];symm;have h2:1<=b:=∅;cases q with
 | half _ _=>exact(show False from hi).elim
 | shel _ _=>exact(show False from hi).elim
 | row _ _=>exact(show False from hi).elim
 | st k r n ps=>
 have hi:ok4 k:=hi;have om:=hi.moved;have hm:z∈ps:=hm;have cl:=yJ T k;have na:=yW T k;have hx:H x=some (.ins (⋯ k) dx (fsF k a r)):=S.hx;have ha:=S.ha;have hl:(cs.length:Int)=n:=S.hl;have hz:=S.hz;have hc:Am 0 ps cs.length:=by rw[hl];exact S.ok.2.1
 have nj:AK ps:=S.ok.2.2;have mk:At cs ps:=S.mm;have hw:=B0 hc mk;obtain⟨i,hi2⟩:=aj hm;obtain⟨z0,z1,z3,z4⟩:=hc.mem z hm;obtain⟨f1,f2⟩:=T4 hc hi2;have sty:¬((z.a+1)%b=0/\z.a+(c+2)<=yH ps i z)->¬zt c 1 z (.st k r n ps):=λhn ⟨g1,j,hj,g2⟩=>by
   have g1:(z.a+1)%b=0:=by rw[hb1];exact g1
   rw[K8 hc hj hi2 rfl] at g2;exact hn #[g1,g2]
 ext;refine#[a,cs,ps,z.a,by rw[di],SqL.of ha,∅,hw,hc,λy hy hk hv' t H1 s1 ht=>?_,λhn=>xb0 hv (hn z hm rfl)];have ey:=CY hc hy hm ∅;subst ey;have S1:=S.same s1;have hx1:H1 x=some (.ins (⋯ k) dx (fsF k a r)):=S1.hx;have ha1:=S1.ha;ext;refine#[c,b,rfl,λh=>xb0 h ∅,λ_ _=>?_];ext;refine#[a,cs,ps,i,y,rfl,SqL.of ha1,hc,mk,hi2,?_];have mv:¬((y.a+1)%b=0/\y.a+(c+2)<=yH ps i y)->Va ⋯ A5 k [.ref x,.int (y.a+1),.int c,.int b] H1 Q E:=λhs=>#[x,dx,a,.st k r n ps,cs,y,c,b,rfl,hb1,rfl,nx,S1,hm,hv,h1,c30,λhn H2 s2=>qN (sty hs) hn H2 (s1.trans s2),λp q1 hF a' cs' H2 G na2 k2 l2 S2=>qQ p _ a' cs' H2 (.move (sty hs) hF) G (.inr (s1.free na2)) ((Aw.of s1).trans k2) l2 S2]
 ext;refine AW (λh3=>?_) (λh3=>?_);ext;refine AW (λh4=>?_) (λh4=>?_);ext;exact mv ∅;ext;refine#[a,cs,y.a,c+2,true,rfl,SqL.of ha1,∅,z0,∅,∅,λp H2 np s2 hp=>?_];ext;refine#[p,_,_,_,rfl,SqL.of hp,by rw[B3];lia,∅,∅,by rw[B3];lia,λp2 H3 np2 s3 hp2=>?_];have s13:=(s1.trans s2).trans s3;have hx3:=s13 x _ hx;have hne:p2≠x:=λz=>by rw[z,(s1.trans s2) x _ hx] at np2;cases np2
 ext;have gi:Am 0 (yN ps y.a (c+2) (yH ps i y)) cs.length/\AK (yN ps y.a (c+2) (yH ps i y))/\At (lfI (AS cs y.a (c+2) true) (y.a+(c+2)) (yH ps i y)) (yN ps y.a (c+2) (yH ps i y)):=by
   obtain⟨ds,rs,e1,e2,_,_⟩:=CW hc hi2;subst e1 e2;exact pD hc mk nj (show 3<=c+2 by lia) ∅
 obtain⟨k1,k3,k4⟩:=gi;refine qQ (y.a+1) (.st k r n (yN ps y.a (c+2) (yH ps i y))) p2 _ _ (.stay hi2 ∅) #[rfl,rfl,rfl,∅,#[c+2,.inl rfl,?_],λj hj1 hj2=>by have e:=bc (show 0<=y.a+1 by lia);exact pM (j:=(y.a+1).toNat+j) z0 ∅ ∅ ∅] (.inr ((s1.trans s2).free np2)) (Aw.of s13).put (by rw[Dj,B3]) #[by rw[xb5,Ld];rfl,look_ne hne hp2,by rw[Dj,B3];exact hl,by rw[Dj,B3];exact hz,#[hi,by rw[<-hl];exact k1,k3],k4];rw[di];refine#[uN hm,rfl,λy' hy' hv' hne'=>#[?_,λe=>hne' (CY hc hy' hm e),λj hj=>pL hc hi2 ∅ ∅ hy' hv' hne' hj],λy' hy' hv'=>(qT hy' hv').imp id λg=>#[g.1,λe=>by rw[e] at g;lia]];have hy':y'∈ps:=hy';refine pO hy' ?_;obtain⟨_,y1,_,_⟩:=hc.mem y' hy';have a1:=apart hc hm hy' (λe=>hne' e.symm) (i:=y'.a) (ar _) ∅;rcases Ut hc hi2 with e | ⟨p,hp,hpv,hpa,e⟩
 lia;have hyp:p≠y':=λw=>by rw[w,hv'] at hpv;cases hpv
 have a2:=apart hc hp hy' hyp (i:=y'.a) (ar _) ∅;lia;ext;exact mv ∅
theorem Vb(h:1<=n):Am 0 [#[0,n,false]] n:=#[rfl,h,(λh=>by cases h),by show (0:Int)+n=n;lia]
def Hc:W7->Str
 | .first=>"first"
 | .best=>"best"
 | .next=>"next"
 | .likes=>"likes"
 | .half=>"halves"
 | .shel=>"shelves"
 | .row=>"row"
def gdF(n s:Int):W7->Prop
 | .half=>Ez n=true
 | .shel=>1<=n/\1<=s/\n%s=0
 | _=>1<=n
inductive Fr7(n s:Int):W7->St7->Prop
 | st {i:W7}:ok4 i->Fr7 n s i (.st i 0 n [⟨0,n,false⟩])
 | half {N:Nat}:N<=8->n=2^N->Fr7 n s .half (.half N [⟨0,2^N,false⟩])
 | shel {m:Nat}:1<=m->1<=s->n=s*(m:Int)->Fr7 n s .shel (.shel s (ω m ⟨0,[]⟩))
 | row:1<=n->Fr7 n s .row (.row n [])
theorem NY(h:1<=n):Am 0 [#[0,n,false]] ((BA n).length:Int)/\At (BA n) [#[0,n,false]]:=by
 have hl:=D7 (show 0<=n by lia);refine#[#[rfl,h,(λh=>by cases h),?_],λp hp=>?_];show (0:Int)+n=_;rw[hl];lia;rw[χ.mp hp];unfold BA at hl ⊢;rw[B3] at hl;exact#[bB (ar 0) h ∅,bC (ar 0) h ∅]
theorem Vc{x:wa}{H1 H2:Hp}(h4:ok4 i)(n1:1<=n)(n2:n<=1200)(nx:H x=none)(s:Same H H1)(k:Aw x H1 H2)(hx:H2 x=some (.ins (C i) dx (fsF i a 0)))(ha:H2 a=some (.lst ((BA n).map V.int))):Same H H2/\KS C x dx a (.st i 0 n [#[0,n,false]]) (BA n) H2:=by
 have fl:=D7 (show 0<=n by lia);obtain⟨f1,f2⟩:=NY n1;exact#[λb o h=>k b o (λe=>by rw[e,nx] at h;cases h) (s b o h),#[hx,ha,fl,∅,#[h4,Vb n1,bM _],f2]]
abbrev yt(C:W7->wa)(i:W7)(n:Int)(H:Hp)(Q:VK):Prop:=∀(x dx a:wa)(H':Hp),H x=none->H a=none->Same H H'->KS C x dx a (.st i 0 n [#[0,n,false]]) (BA n) H'->Q (.ref x) H'
def spOf(C:W7->wa):Sp:=λvs H Q _=>∃(i:W7)(n:Int),vs=[.str (Hc i),.int n]/\ok4 i/\i≠.next/\1<=n/\n<=1200/\yt C i n H Q
variable (D_First:yM P w K mg base "First" Ae 3 ϐ [] (zm Ae AY))
variable (D_Best:yM P w K mg base "Best" Af 3 ϐ [] (zm Af AY))
variable (D_Next:yM P w K mg base "Next" Ac 4 ϐ [] (D_ Ac AY))
variable (D_Likes:yM P w K mg base "Likes" Ag 3 ϐ [] (zm Ag AY))
include T D_First D_Best D_Next D_Likes in
theorem NZ(S:Src K mg "stretches_of" Sa):∎ "stretches_of" 6 Ϲ (spOf ⋯):=by
 refine S.okx IW IX λf _ A _ s H vs Q E hr h=>?_;obtain⟨i,n,rfl,h4,nn,n1,n4,q⟩:=h;refine#[_,(Ad (AA (Ax A8 m_ AG) (Aj (Aq (HJ D_First BV hr s!"" (Aa mt Ab)))) AB) (Ad (AA (Ax A8 m_ AG) (Aj (Aq (HJ D_Best BV hr s!"" (Aa mt Ab)))) AB) (Ad (AA (Ax A8 m_ AG) (Aj (Aq (HJ D_Next BV hr s!"" (Aa mt Ab)))) AB) (Ad (AA (Ax A8 m_ AG) (Aj (Aq (HJ D_Likes BV hr s!"" (Aa mt Ab)))) AB) (Aj (Cy T.sY hr.hd rfl (Aa AG Ab))))))),?_];symm;have s6:∀{x dx:wa}{o o':HO},H x=none->H dx=none->Same H (upd (upd H dx o) x o'):=λnx ndx=>(Same.new ndx).put nx;cases i with
 | first=>
   ext;intro x dx nx ndx nex;refine#[x,dx,n,rfl,xb5,∅,λh=>xb0 h ∅,λh1 a H7 na7 k7 hx7 ha7=>#[rfl,?_]];obtain⟨s7,S7⟩:=Vc (C:=⋯) (i:=W7.first) trivial h1 n4 nx (s6 nx ndx) k7 hx7 ha7;ext;exact q x dx a H7 nx ((s6 nx ndx).free na7) s7 S7
 | best=>
   ext;intro x dx nx ndx nex;refine#[x,dx,n,rfl,xb5,∅,λh=>xb0 h ∅,λh1 a H7 na7 k7 hx7 ha7=>#[rfl,?_]];obtain⟨s7,S7⟩:=Vc (C:=⋯) (i:=W7.best) trivial h1 n4 nx (s6 nx ndx) k7 hx7 ha7;ext;exact q x dx a H7 nx ((s6 nx ndx).free na7) s7 S7
 | likes=>
   ext;intro x dx nx ndx nex;refine#[x,dx,n,rfl,xb5,∅,λh=>xb0 h ∅,λh1 a H7 na7 k7 hx7 ha7=>#[rfl,?_]];obtain⟨s7,S7⟩:=Vc (C:=⋯) (i:=W7.likes) trivial h1 n4 nx (s6 nx ndx) k7 hx7 ha7;ext;exact q x dx a H7 nx ((s6 nx ndx).free na7) s7 S7
 | next=>exact xb0 rfl nn
 | _=>exact(show False from h4).elim
theorem uO:∀n:Nat,n<401->Ez (n:Int)=true->∃N,N<9/\(n:Int)=2^N:=by decide +kernel
theorem N_(h:Ez n=true)(h4:n<=400):∃N:Nat,N<=8/\n=2^N:=by
 have h1:1<=n:=by
   unfold Ez at h;rw[dm,decide_eq_true_eq] at h;exact h.1
 have e:((n.toNat:Nat):Int)=n:=∅;obtain⟨N,hN,eN⟩:=uO n.toNat ∅ (by rw[e];exact h);exact#[N,∅,by rw[<-e];exact eN]
theorem iW(h:1<=n):rwP [] n=[#[0,n,false]]:=by
 rw[Rn (ls:=[]) (show yF []<n from (by show (0:Int)<n;lia))];show [(#[0,n-0,false]:Pc)]=_;rw[Int.sub_zero]
abbrev yu(C:W7->wa)(i:W7)(n s:Int)(H:Hp)(Q:VK):Prop:=∀(x dx a:wa)(q:St7)(cs:List Int)(H':Hp),H x=none->H a=none->Same H H'->Fr7 n s i q->KS C x dx a q cs H'->Q (.ref x) H'
def Vd(C:W7->wa):Sp:=λvs H Q _=>∃(i:W7)(n s:Int),vs=[.str (Hc i),.int n,.int s]/\i≠.next/\n<=400/\s<=4000/\gdF n s i/\yu C i n s H Q
variable (D_Halves:yM P w K mg base "Halves" Y6 4 ϐ [] (E_ Y6 AY))
variable (D_Shelves:yM P w K mg base "Shelves" Y4 8 ϳ [] (C_ Y4 AY))
variable (D_Row:yM P w K mg base "Row" Ah 3 ϐ [] (zm Ah AY))
variable (DD:∎ "stretches_of" 6 Ϲ (spOf ⋯))
include T D_Halves D_Shelves D_Row DD in
theorem N1(S:SrcD K mg "keeper_of" Ew T₀)(LT:K.lookup T₀=some #[tc₀,td₀,.seq [.int 8 tk₀].toArray tn₀,ts₀]):DefD P w K mg base "keeper_of" 10 Ϣ [.int 8] (Vd ⋯):=by
 refine S.okx LT IY (IZ T₀ _) (I0 T₀ _) (.cons #[tk₀,rfl] .nil) (λvs H Q E h=>by revert h;walk_at "l") (λf _ A _ s H vs Q E hr h=>?_);obtain⟨i,n,s,rfl,nn,h4,h40,gd,q⟩:=h;refine#[_,(Ad (AA (Ax A8 m_ AG) (Aj (Aq (HJ D_Halves BV hr s!"" (Aa mt Ab)))) AB) (Ad (AA (Ax A8 m_ AG) (Aj (Aq (HJ D_Shelves BV hr s!"" (Aa mt (Aa n_ Ab))))) AB) (Ad (AA (Ax A8 m_ AG) (Aj (Aq (HJ D_Row BV hr s!"" (Aa mt Ab)))) AB) (Aj (Aq (Bu DD hr s!"" (Aa m_ (Aa mt Ab)))))))),?_];symm;have sm:∀{x:wa}{H1 H2:Hp},H x=none->Same H H1->Aw x H1 H2->Same H H2:=λnx s k b o h=>k b o (λe=>by rw[e,nx] at h;cases h) (s b o h);have s6:∀{x dx:wa}{o o':HO},H x=none->H dx=none->Same H (upd (upd H dx o) x o'):=λnx ndx=>(Same.new ndx).put nx;cases i with
 | half=>
   ext;intro x dx nx ndx nex;refine#[x,dx,n,rfl,xb5,∅,λhp=>xb0 (hp.symm.trans gd) ξ,λhp a H7 na7 k7 hx7 ha7=>#[rfl,?_]];obtain⟨N,hN,rfl⟩:=N_ hp h4;have p1:=pw1 N;have fl:=D7 (show 0<=(2:Int)^N by lia);ext;exact q x dx a _ _ H7 nx ((s6 nx ndx).free na7) (sm nx (s6 nx ndx) k7) (.half hN rfl) #[hx7,ha7,fl,∅,#[hN,Vb p1,λz hz=>by rw[χ.mp hz];exact#[N,0,rfl,f!""],NbF.one N],(NY p1).2]
 | shel=>
   obtain⟨g1,g2,g3⟩:=(show 1<=n/\1<=s/\n%s=0 from gd)
   ext;intro x dx nx ndx nex;refine#[x,dx,n,s,rfl,xb5,∅,h40,λhb=>xb0 hb ∅,λm s1 m1 ez a H7 na7 k7 hx7 ha7=>#[rfl,?_]];obtain⟨r1,r2,r3⟩:=iL s1 m;have r4:=Nt s1 m;have z1:s<=s*(m:Int):=by
     have:=au (show (1:Int)<=(m:Int) by lia) (show 0<=s by lia);lia
   ext;exact q x dx a _ _ H7 nx ((s6 nx ndx).free na7) (sm nx (s6 nx ndx) k7) (.shel m1 s1 ez) #[hx7,ha7,r1,∅,#[s1,by rw[ae];exact m1,r2],r3]
 | row=>
   ext;intro x dx nx ndx nex;refine#[x,dx,n,rfl,xb5,∅,λhn=>xb0 hn (by have gd:1<=n:=gd;lia),λn1 a H7 na7 k7 hx7 ha7=>#[rfl,?_]];have fl:=D7 (show 0<=n by lia);ext;exact q x dx a _ _ H7 nx ((s6 nx ndx).free na7) (sm nx (s6 nx ndx) k7) (.row n1) #[hx7,ha7,fl,∅,#[n1,(λl hl=>by cases hl),by show (0:Int)<=n;lia],by show At (BA n) (rwP [] n);rw[iW n1];exact(NY n1).2]
 | next=>exact xb0 rfl nn
 | _=>
   ext;exact#[_,n,rfl,trivial,nn,gd,∅,λx dx a H' nx na s' S=>q x dx a _ _ H' nx na s' (.st trivial) S]
abbrev yw(C:W7->wa)(i:W7)(x dx a:wa)(q:St7)(cs:List Int)(H:Hp)(Q:VK):Prop:=∀(q0:St7)(a':wa)(cs':List Int)(H':Hp),Fr7 q.n q.s q.let3 q0->H a'=none->Aw x H H'->cs'.length=cs.length->KS C x dx a' q0 cs' H'->Q .non H'
def Ta(C:W7->wa)(i:W7):Sp:=λvs H Q _=>∃(x dx a:wa)(q:St7)(cs:List Int),vs=[.ref x]/\i=q.let3/\KS C x dx a q cs H/\1<=q.n/\yw C i x dx a q cs H Q
theorem uP{x:wa}(ok:q.ok)(hi:q.let3≠.shel)(n1:1<=q.n)(n2:q.n<=1200)(hx:H x=some (.ins (C q.let3) dx (fsF q.let3 a' (fsB q.let3 q.s))))(ha:H a'=some (.lst ((bgC q.let3 (BA q.n) [#[0,q.n,false]]).map V.int))):∃(q0:St7)(cs0:List Int),Fr7 q.n q.s q.let3 q0/\(cs0.length:Int)=q.n/\KS C x dx a' q0 cs0 H:=by
 have fl:=D7 (show 0<=q.n by lia);have f2:=(NY n1).2;have oc:=Vb n1;cases q with
 | shel _ _=>exact xb0 rfl hi
 | half N ps=>exact#[_,_,.half ok.1 rfl,fl,hx,ha,fl,∅,#[ok.1,oc,λz hz=>by rw[χ.mp hz];exact#[N,0,rfl,by simp [St7.n]],NbF.one N],f2]
 | row n ls=>exact#[_,_,.row n1,fl,hx,ha,fl,∅,#[n1,(λl hl=>by cases hl),by show (0:Int)<=n;have n1:1<=n:=n1;lia],by show At (BA n) (rwP [] n);rw[iW (show 1<=n from n1)];exact f2]
 | st i r n ps=>
   have h4:ok4 i:=ok.1;have hl:=T6 (BE [#[0,n,false]]) (BA n);have ha:H a'=some (.lst ((bgC i (BA n) [#[0,n,false]]).map V.int)):=ha;rw[U4 h4] at ha;have oc:Am 0 [#[0,n,false]] n:=oc;have fl:((BA n).length:Int)=n:=fl;refine#[_,_,.st h4,by rw[hl];exact fl,?_,ha,by rw[hl];exact fl,by have n2:n<=1200:=n2;lia,#[h4,oc,bM _],bI (ds:=[]) (m:=0) rfl (by rw[fl];exact oc) (At.nil _)];cases i <;> first | exact hx | exact h4.elim
include T AD D_room_begin in
theorem N2(F:Fun K "clear" "Keeper.clear" SQ f₀ fd₀)(M:∀i,(λi=>i≠W7.shel) i->yI K (⋯ i) "clear" f₀):Bz P w K mg base (λi=>i≠W7.shel) ⋯ "clear" 7 ϖ [] (Ta ⋯):=by
 refine Bz.made (Ba F JX (λ_ A _ s H vs Q E hr h=>?_)) M (F.binds JY) (yJ T);obtain⟨i,hi,x,dx,a,q,cs,rfl,rfl,S,n1,qq⟩:=h;refine#[_,PSs.nox (Aj (Bm (B5 D_room_begin AX hr m_ (Aa (l_ AD hr (Aa (A7 CG s!"" T.n_len bq (Aa (BJ m_ rfl) Ab)) Ab)) Ab)))),?_];symm;have hx:=S.hx;have ha:=S.ha;have cl:=yJ T q.let3;have na:=yW T q.let3;have hz:=S.hz;have hl:=S.hl;have fl:=D7 (show 0<=q.n by lia);obtain⟨f1,f2⟩:=NY n1;ext;rw[hl];refine#[q.n,rfl,∅,λz=>xb0 z ∅,λ_ p H1 np s1 hp=>?_];have hx1:=s1 x _ hx;ext;refine#[q.s,x,p,dx,a,_,_,rfl,hx1,SqL.of hp,∅,f1,B0 f1 f2,λa' H2 na2 k2 hx2 ha2=>?_];obtain⟨q0,cs0,F0,l0,S0⟩:=uP S.ok hi n1 ∅ hx2 ha2;ext;exact qq q0 a' cs0 H2 F0 (s1.free na2) ((Aw.of s1).trans k2) ∅ S0
include T Ak D_lay Cb in
theorem N3(F:Fun K "clear" "Shelves.clear" SR f₀ fd₀)(M:∀i,(λi=>i=W7.shel) i->yI K (⋯ i) "clear" f₀):Bz P w K mg base (λi=>i=W7.shel) ⋯ "clear" 8 ϖ [] (Ta ⋯):=by
 refine Bz.made (Ba F JZ (λ_ A _ s H vs Q E hr h=>?_)) M (F.binds J0) (yJ T);obtain⟨i,hi,x,dx,a,q3,cs,rfl,hq3,S,n1,qq⟩:=h;refine#[_,PSs.nox (Aj (Bm (B5 D_lay AX hr m_ (Aa (l_ Cb hr (Aa (A7 CG s!"" T.n_len bq (Aa (Bv Ak AX hr m_) Ab)) (Aa (BJ m_ rfl) Ab))) Ab)))),?_];symm;have hi:i=W7.shel:=hi;subst hi;cases q3 with
 | half _ _=>cases hq3
 | row _ _=>cases hq3
 | st i0 _ _ _=>
   have hi0:W7.shel=i0:=hq3;subst hi0;exact(show False from S.ok.1).elim
 | shel s fs=>
 have hx:H x=some (.ins (⋯ W7.shel) dx (fsF W7.shel a s)):=S.hx;have hx0:H x=some (.ins Y4 dx [("room_cells",.ref a),("shelf",.int s)]):=S.hx;have ha:=S.ha;have hl:(cs.length:Int)=s*(fs.length:Int):=S.hl;have hz:=S.hz;obtain⟨hs,m1,ok⟩:=id S.ok;have cl:=T.J1;have na:=T.MY;have nb:=T.SV;have z1:s<=s*(fs.length:Int):=by
   have:=au (show (1:Int)<=(fs.length:Int) by lia) (show 0<=s by lia);lia
 have em:(s*(fs.length:Int))%s=0:=ll _ _;rw[<-hl] at em;ext;refine#[s,x,dx,a,cs,rfl,hx,ha,λp H1 np s1 hp=>?_];have hx1:=s1 x _ hx;have hx01:=s1 x _ hx0;have ha1:=s1 a _ ha;ext;refine#[(cs.length:Int),s,rfl,∅,∅,λh=>xb0 h ∅,λm' _ _ e p2 H2 np2 s2 hp2=>?_];have emm:m'=fs.length:=by
   have:=fu (show s≠0 by lia) (e.symm.trans hl);lia
 subst emm;have e1:=Nt hs fs.length;have hx2:=s2 x _ hx1;have ha2:=s2 a _ ha1;ext;refine#[s,x,p2,dx,a,cs,zh s fs.length,_,rfl,hx2,ha2,∅,SqL.of hp2,∅,iK hs _,iA hs _,λa' H4 na4 k4 hx4 ha4=>?_];ext;obtain⟨r1,r2,r3⟩:=iL hs fs.length;have s12:=s1.trans s2;exact qq (.shel s (ω fs.length #[0,[]])) a' (zh s fs.length) H4 (.shel m1 hs rfl) (s12.free na4) ((Aw.of s12).trans k4) ∅ #[hx4,ha4,r1,∅,#[hs,by rw[ae];exact m1,r2],r3]
abbrev yx(K:δ)(C:W7->wa)(CS CB:wa)(k:W7)(r:Int)(x h dx a:wa)(cs0 cs:List Int)(H:Hp)(Q:VK)(E:XK):Prop:=(cs.length≠cs0.length->∀H',Same H H'->E (.ref CS) none H') /\ (cs.length=cs0.length->∃b,(Bt cs 0).2=some b/\∀(d:wa)(H':Hp),Same H H'->H' d=some (.xd [("cell",.int b)])->E (.ref CB) (some d) H')
def iX(K:δ)(C:W7->wa)(CS CB:wa)(k:W7):Sp:=λvs H Q E=>∃(r:Int)(x h dx a:wa)(cs0 cs:List Int),vs=[.ref x,.ref h]/\H x=some (.ins (C k) dx (fsF k a r))/\H a=some (.lst (cs0.map V.int))/\SqL K H h (cs.map V.int)/\cs.length<=4000/\cs0.length<=4000/\yx K C CS CB k r x h dx a cs0 cs H Q E
include T Ay D_room_begin in
theorem Kg(F:Fun K "lay" "Keeper.lay" ML f₀ fd₀)(M:∀i,yI K (⋯ i) "lay" f₀):A6 P w K mg base ⋯ "lay" 7 ϑ [] (iX K ⋯ AY Y5):=by
 refine A6.made (Ba F fR (λ_ A _ s H vs Q E hr h=>?_)) M (F.binds fT) (yJ T);obtain⟨k,r,x,h,dx,a,cs0,cs,rfl,hx,ha,hS,hz,hz0,qs,qb⟩:=h;refine#[_,(Ad (AA (Ax Df (A7 CG s!"" T.n_len bq (Aa mt Ab)) (A7 CG s!"" T.n_len bq (Aa (BJ m_ rfl) Ab))) (Aj (Cy T.MU hr.hd rfl (Aa AG Ab))) AB) (Ad (Bm (Bu Ay hr s!"" (Aa mt Ab))) (Aj (Bm (B5 D_room_begin AX hr m_ (Aa mt Ab)))))),?_];symm;have cl:=yJ T k;have na:=yW T k;by_cases hl:cs.length=cs0.length;obtain⟨b,hb,qb⟩:=qb hl;ext;refine#[h,cs,rfl,hS,hz,λb' hb' d H1 s1 hd=>qb d H1 s1 (by rw[hb] at hb';cases hb';exact hd),λhn=>(by rw[hb] at hn;cases hn)];have hl':(cs.length:Int)≠cs0.length:=∅;ext;exact qs hl _ (Same.refl _)
include T in
theorem N4(S:Src K mg "_law_cell_at" Sb):∎ "_law_cell_at" 1 Ϧ (TZ K):=by
 refine S.okx Ja Jb λf _ A _ s H vs Q E hr h=>#[_,PSs.nox (Ad (AA (Ax Db mt (A7 CG s!"" T.n_len bq (Aa m_ Ab))) (Aj (Aq (Az AQ m_ mt (λ_ _=>rfl)))) AB) (Aj (Aq Ai))),?_];obtain⟨a,ns,k,rfl,hS,h0,q⟩:=h;ext;refine AW (λhc=>?_) (λhc=>?_);ext;exact q;ext;have e:ns.getD k.toNat 0=0:=by
   rw[ao,dz ∅];rfl
 rw[e] at q;exact q
include T in
theorem N5(S:Src K mg "_law_whole" Sc):∎ "_law_whole" 1 gs (T0):=by
 refine S.okx Jc Jd λf _ A _ s H vs Q E hr h=>#[_,PSs.nox (Aj (Aq (K0 (A7 K4 s!"" T.n_isinstance bo (Aa m_ (Aa (KZ (v:=.ty "int") s!"" T.n_int uq rfl) Ab))) (HA (ZT (A7 K4 s!"" T.n_isinstance bo (Aa m_ (Aa (KZ (v:=.ty "bool") s!"" T.n_bool oa rfl) Ab)))))))),?_];obtain⟨n,rfl,q⟩:=h;ext;exact q
def iY:Sp:=λvs H Q _=>∃(b c:wa)(us ws:List V)(ps:List Pc),vs=[.ref b,.ref c]/\H b=some (.lst us)/\H c=some (.lst ws)/\AJ H us ps/\AJ H ws ps/\Q (.bl true) H
def AlW(b c:wa)(H:Hp)(i:Nat)(σ:L2.St)(H':Hp):Prop:=∃x2:Option V,σ=[xa8 b,xa8 c,x2]/\H'=H
variable (AL:∎ "_law_whole" 1 gs (T0))
include T AL in
theorem N6(S:Src K mg "_law_alike" Sd):∎ "_law_alike" 2 Ϯ (iY):=by
 refine S.okx fO Je λf _ A _ s H vs Q E hr h=>?_;obtain⟨b,c,us,ws,ps,rfl,hb,hc,pb,pc,q⟩:=h;refine#[_,PSs.nox (Ad (AA (PW.pt (Bf (Bd (BU (A7 K4 s!"" T.n_isinstance bo (Aa m_ (Aa (KZ (v:=.ty "list") s!"" T.n_list az rfl) Ab))))) (BB (Ax Df (A7 CG s!"" T.n_len bq (Aa m_ Ab)) (A7 CG s!"" T.n_len bq (Aa mt Ab)))))) (Aj (Aq AV)) AB) (Ad (DM cc rfl (BX m_) (ld 2 fO) (Ad (AA (PW.pt (Bf (Bd (BU (A7 K4 s!"" T.n_isinstance bo (Aa n_ (Aa (KZ (v:=.ty "tuple") s!"" T.n_tuple uc rfl) Ab))))) (Bf (Ax Df (A7 CG s!"" T.n_len bq (Aa n_ Ab)) Ai) (BB (Bd (BU (A7 K4 s!"" T.n_isinstance bo (Aa (Az By n_ Ai (λ_ _=>rfl)) (Aa (KZ (v:=.ty "bool") s!"" T.n_bool oa rfl) Ab))))))))) (Aj (Aq AV)) AB) (Aj (AA (PW.pt (Bf (Bd (BU (l_ AL hr (Aa (Az By n_ Ai (λ_ _=>rfl)) Ab)))) (BB (Bd (BU (l_ AL hr (Aa (Az By n_ Ai (λ_ _=>rfl)) Ab))))))) (Aj (Aq AV)) AB)))) (Aj (Aq (Er (Um hr.units) m_ mt))))),?_];symm;have l1:=pb.1;have l2:=pc.1;ext;refine#[b,rfl,#[_,SqL.of hb],D3 (K:=K) (a:=b) (xs:=us) (AlW b c H) #[none,rfl,rfl] (λi σ H2 _ ⟨_,_,h⟩=>by rw[h];exact SqL.of hb) ?_ ?_];rintro i y σ H2 hi ⟨x2,rfl,rfl⟩;have hil:i<us.length:=(γ.mp hi).1;have hip:i<ps.length:=∅;obtain⟨t,et,hT⟩:=pb.2 i ps[i] (by simp [hip]);have ey:y = .ref t:=Θ (hi.symm.trans et);subst ey;generalize ps[i]=z at hT;ext;exact#[_,rfl,rfl];rintro σ H2 ⟨x2,rfl,rfl⟩;ext;refine#[b,c,us,ws,ps,rfl,rfl,hb,hc,pb,pc,?_];ext;exact q
abbrev yy(K:δ)(r:wa)(cs:List Int)(ps:List Pc)(H:Hp)(Q:VK):Prop:=∀(p:wa)(us:List V)(H':Hp),H p=none->Same H H'->H' p=some (.lst us)->AJ H' us ps->Q (.ref p) H'
def iZ(K:δ):Sp:=λvs H Q _=>∃(r:wa)(cs:List Int)(ps:List Pc),vs=[.ref r]/\H r=some (.lst (cs.map V.int))/\Am 0 ps cs.length/\At cs ps/\cs.length<=1200/\yy K r cs ps H Q
def WkW(r p:wa)(n:Int)(ps:List Pc)(H:Hp)(m:Nat)(σ:L2.St)(H':Hp):Prop:=
 ∃(ds rs:List Pc)(us:List V)(k:Int)(x3 x4:Option V),σ=[xa8 r,xa8 p,xa9 k,x3,x4]/\m=(n-k).toNat/\ps=ds++rs/\Am 0 ds k/\Am k rs n/\Same H H'/\H' p=some (.lst us)/\AJ H' us ds
include T AL in
theorem N7(S:Src K mg "_law_walk" Se):∎ "_law_walk" 2 xa4 (iZ K):=by
 refine S.okx Lr Jf λf _ A _ s H vs Q E hr h=>?_;obtain⟨r,cs,ps,rfl,hR,hc,mk,hz,q⟩:=h;refine#[_,PSs.nox (Ad (AA (Bd (BU (A7 K4 s!"" T.n_isinstance bo (Aa m_ (Aa (KZ (v:=.ty "list") s!"" T.n_list az rfl) Ab))))) (Aj (Aq BH)) AB) (Ad (k_ 1 Lr (Cw Ab)) (Ad (k_ 2 Lr Ai) (Ad (QE cc (Ax Db n_ (A7 CG s!"" T.n_len bq (Aa m_ Ab))) (Ad (AA (Bd (BU (l_ AL hr (Aa (Az AQ m_ n_ (λ_ _=>rfl)) Ab)))) (Aj (Aq BH)) AB) (Ad (k_ 3 Lr (Ao HD (Az AQ m_ n_ (λ_ _=>rfl)) Ai)) (Ad (k_ 4 Lr (Er A8 (Ao BI (Az AQ m_ n_ (λ_ _=>rfl)) Ai) Ai)) (Ad (AA (PW.pt (Bf (Ax Db o_ Ai) (Bf (Ax HF (Ao AU n_ o_) (A7 CG s!"" T.n_len bq (Aa m_ Ab))) (BB (PW.pt (DL (Dc p_ (λ_=>rfl)) (DR (Ax Db o_ Ai)))))))) (Aj (Aq BH)) AB) (Ad (AA (PW.pt (Bf (Bd (BU (l_ AL hr (Aa (Az AQ m_ (Ao BY (Ao AU n_ o_) Ai) (λ_ _=>rfl)) Ab)))) (BB (Ax Df (Az AQ m_ (Ao BY (Ao AU n_ o_) Ai) (λ_ _=>rfl)) (Az AQ m_ n_ (λ_ _=>rfl)))))) (Aj (Aq BH)) AB) (Ad (Bm (HH dh cy db GX mt (Aa (BK (Aa n_ (Aa o_ (Aa p_ Ab)))) Ab))) (Aj (k_ 2 Lr (Ao AU n_ o_)))))))))) (Aj (Aq mt)))))),?_];symm;ext;intro p hp;ext;refine#[WkW r p cs.length ps H,#[_,[],ps,[],0,none,none,rfl,rfl,rfl,rfl,hc,Same.new hp,xb5,AJ.nil],?_];rintro m σ H1 ⟨ds,rs,us,k,x3,x4,rfl,rfl,eps,c1,c2,s1,hp1,pu⟩;have hul:=pu.1;have hS1:SqL K H1 r (cs.map V.int):=SqL.of (s1 r _ hR);have k0:=c1.le;ext;refine AW (λhlt=>?_) (λhlt=>?_)
 . refine#[λσ' H''=>∃m',m'<((cs.length:Int)-k).toNat/\WkW r p cs.length ps H m' σ' H'',λσ' H'' hw=>hw,?_];cases rs with
   | nil=>
     have:k=cs.length:=c2;lia
   | cons z r2=>
     obtain⟨ea,z1,z3,c3⟩:=c2;have hle:=c3.le;obtain⟨m1,m2⟩:=mk z (by rw[eps];simp);have g1:=DT m1;have g2:=DT m2;rw[ea] at g1 g2;have e1:cs.getD k.toNat 0=yQ z.l z.v:=g1;have e2:cs.getD (k+z.l-1).toNat 0=yQ z.l z.v:=g2;have hkl:ds.length<=1200:=∅;walk_at "1";walk_at "1";rw[e1,EB];walk_at "1";rw[e1,Mc];ext;refine CM (λhv=>?_) (λhv=>?_)
     all_goals
       try have z3:=z3 hv
       ext;intro t ht;ext;obtain⟨g1,g2⟩:=AJ.push (z:=z) pu hp1 ht;rw[ea] at g2;refine#[_,?_,ds++[z],r2,_,k+z.l,_,_,rfl,rfl,by rw[eps];simp,?_,c3,(s1.put (s1.free ht)).put hp,xb5,g2];lia;have:=Am.snoc (p:=z) (by rw[ea];exact c1) z1 (λh=>by first | exact z3 h | exact z3)
       rwa [ea] at this
 have er:rs=[]:=by
   cases rs with
   | nil=>rfl
   | cons z r2=>
     have:=c2.le;rw[Ψ] at this;lia
 rw[er,aq] at eps;ext;rw[<-eps] at pu;exact q p us H1 hp s1 hp1 pu
def B_:Sp:=λvs H Q _=>∃c:Int,vs=[.int c]/\∀n:Int,Q (.int n) H
include T in
theorem N8(S:Src K mg "_law_number" Sg):∎ "_law_number" 1 so (B_):=by
 refine S.okx Jg Jh λf _ A _ s H vs Q E hr h=>#[_,PSs.nox (Ad (AA (Ax A8 (Ao BI m_ Ai) Ai) (Aj (Aq (Ao BI (Ao HD m_ Ai) Ai))) AB) (Aj (Aq (Ao BY (Ao BI (Ao GT m_ Ai) (Ao ZU Ai Ai)) (Ao ZU Ai Ai))))),?_];obtain⟨c,rfl,q⟩:=h;ext;refine AW (λh1=>?_) (λh1=>?_);ext;exact q _;ext;exact q _
def spTodo:Sp:=λ_ _ _ _=>False
inductive Wy where
 | ask | put | give | grow | all
def Wy.s:Wy->Str
 | .ask=>"ask"
 | .put=>"put"
 | .give=>"give"
 | .grow=>"grow"
 | .all=>"all"
def wyL:List Wy:=[.ask,.ask,.ask,.ask,.put,.put,.put,.give,.give,.grow,.grow,.all]
def zZ:Sp:=λvs H Q _=>∃kd c:Int,vs=[.int kd,.int c]/\∀w:Wy,(kd=5->w≠.give/\w≠.grow)->∀H',Same H H'->Q (.str w.s) H'
seal L2.PSs L2.PS L2.PE L2.PA in
include T in
theorem Kh(S:Src K mg "_law_way" Si):∎ "_law_way" 1 ϯ (zZ):=by
 refine S.okx fP sH λf _ A _ s H vs Q E hr h=>?_;obtain⟨kd,c,rfl,q⟩:=h;refine#[_,PSs.nox (Ad (k_ 2 fP (Az AQ (Cw (Aa AG (Aa AG (Aa AG (Aa AG (Aa AG (Aa AG (Aa AG (Aa AG (Aa AG (Aa AG (Aa AG (Aa AG Ab))))))))))))) (Ao BI mt Ai) (λ_ _=>rfl))) (Ad (AA (PW.pt (DL (Ax A8 n_ AG) (DR (Ax Df (Ao BI (Ao HD mt Ai) Ai) Ai)))) (Aj (Aq AG)) AB) (Ad (AA (PW.pt (DL (Ax A8 m_ Ai) (DR (Ax Tt n_ (BK (Aa AG (Aa AG Ab))) rfl)))) (Aj (Aq AG)) AB) (Aj (Aq n_))))),?_];symm;have m0:=br c (show (12:Int)≠0 by decide);have m1:=bg c (show (0:Int)<12 by decide);obtain⟨m,hm⟩:∃m:Nat,c%12=(m:Int):=#[(c%12).toNat,(bc m0).symm]
 have hn:m<wyL.length:=by show m<12;lia
 ext;intro p1 np1;ext;have e:atI (wyL.map λw=>V.str w.s) (c%12)=some (.str (wyL[m]).s):=by rw[hm];exact Bs (by rw[bh,ρ hn];rfl)
 refine Bh (xs:=wyL.map λw=>V.str w.s) (SqL.of xb5) e ?_;generalize wyL[m]=w;have s1:Same H (upd H p1 (.lst [.str "ask",.str "ask",.str "ask",.str "ask",.str "put",.str "put",.str "put",.str "give",.str "give",.str "grow",.str "grow",.str "all"])):=Same.new np1;generalize upd H p1 _=H1 at s1 ⊢;have put:∀H',Same H H'->Q (.str "put") H':=q .put λ_=>#[(λe=>by cases e),(λe=>by cases e)]
 have ask:∀H',Same H H'->Q (.str "ask") H':=q .ask λ_=>#[(λe=>by cases e),(λe=>by cases e)]
 have all:∀H',Same H H'->Q (.str "all") H':=q .all λ_=>#[(λe=>by cases e),(λe=>by cases e)]
 cases w with
 | all=>
   ext;refine AW (λh1=>?_) (λh1=>?_);ext;refine AW (λh2=>?_) (λh2=>?_);ext;intro p2 np2;refine#[p2,_,rfl,.inr (SqT.of xb5),rfl,rfl,false,by first | rfl | decide,?_];ext;exact all _ (s1.trans (Same.new np2));ext;exact all H1 s1;ext;exact put H1 s1
 | ask=>
   ext;refine AW (λh2=>?_) (λh2=>?_);ext;intro p2 np2;refine#[p2,_,rfl,.inr (SqT.of xb5),rfl,rfl,false,by first | rfl | decide,?_];ext;exact ask _ (s1.trans (Same.new np2));ext;exact ask H1 s1
 | put=>
   ext;refine AW (λh2=>?_) (λh2=>?_);ext;intro p2 np2;refine#[p2,_,rfl,.inr (SqT.of xb5),rfl,rfl,false,by first | rfl | decide,?_];ext;exact put _ (s1.trans (Same.new np2));ext;exact put H1 s1
 | give=>
   ext;refine AW (λh2=>?_) (λh2=>?_);ext;intro p2 np2;refine#[p2,_,rfl,.inr (SqT.of xb5),rfl,rfl,true,by first | rfl | decide,?_];ext;exact ask _ (s1.trans (Same.new np2));ext;exact q .give (λe=>xb0 e h2) H1 s1
 | grow=>
   ext;refine AW (λh2=>?_) (λh2=>?_);ext;intro p2 np2;refine#[p2,_,rfl,.inr (SqT.of xb5),rfl,rfl,true,by first | rfl | decide,?_];ext;exact ask _ (s1.trans (Same.new np2));ext;exact q .grow (λe=>xb0 e h2) H1 s1
def shF:W7->Int->Int
 | .shel,s=>s
 | _,_=>0
theorem Fr7.is{s:Int}(F:Fr7 n s i q):q.n=n/\q.let3=i/\(i = .shel->q.sh=s)/\(∀z∈q.ps,z.v=false)/\q.sh=shF i s:=by
 cases F with
 | @st i h=>exact#[rfl,rfl,(λe=>by subst e;exact h.elim),(λz hz=>by rw[χ.mp hz]),by cases i <;> first | rfl | exact h.elim]
 | half h e=>exact#[e.symm,rfl,(λe=>by cases e),(λz hz=>by rw[χ.mp hz]),rfl]
 | shel h1 h2 e=>
   refine#[by rw[e];show s*((ω _ _).length:Int)=_;rw[ae],rfl,λ_=>rfl,λz hz=>?_,rfl];obtain⟨j,f,hj,hm⟩:=ud2 hz;rw[(gw.mp (ζ hj)).2,Lj h2] at hm;rw[χ.mp hm]
 | row h=>
   refine#[rfl,rfl,(λe=>by cases e),λz hz=>?_,rfl];cases hv:z.v with
   | false=>rfl
   | true=>cases Ro hz hv
theorem Fr7.one{s:Int}(F:Fr7 n s i q)(G:Fr7 n s i q'):q=q':=by
 cases F with
 | st h=>
   cases G with
   | st _=>rfl
   | half _ _=>exact h.elim
   | shel _ _ _=>exact h.elim
   | row _=>exact h.elim
 | half _ e=>
   cases G with
   | st h=>exact h.elim
   | half _ e'=>
     rw[HS (e.symm.trans e')]
 | shel _ h e=>
   cases G with
   | st h=>exact h.elim
   | shel _ _ e'=>
     have:=fu ∅ (e.symm.trans e');rw[Int.ofNat.inj this]
 | row _=>
   cases G with
   | st h=>exact h.elim
   | row _=>rfl
theorem uc2(ok:q.ok)(n1:1<=q.n):∃q0,Fr7 q.n q.s q.let3 q0:=by
 cases q with
 | st i r n ps=>
   obtain⟨h4,_⟩:=ok;cases i <;> first | exact h4.elim | exact#[_,.st trivial]
 | half N ps=>exact#[_,.half ok.1 rfl]
 | shel s fs=>exact#[_,.shel ok.2.1 ok.1 rfl]
 | row n ls=>exact#[_,.row n1]
inductive yY(ct:Int)(z:Pc)(q:St7):Wy->Str->V->St7->Prop
 | askY {p:Int} {q':St7}:yZ ct q=some (p,q')->yY ct z q .ask "at" (.int p) q'
 | askN:yZ ct q=none->yY ct z q .ask "no" .non q
 | growY {p:Int} {q':St7}:GrD ct z q p q'->yY ct z q .grow "at" (.int p) q'
 | growN:¬zt ct 1 z q->yZ ct q=none->yY ct z q .grow "no" .non q
 | give:yY ct z q .give "at" .non (gvF q z)
 | put:yY ct z q .put "at" .non q
 | all {q0:St7}:Fr7 q.n q.s q.let3 q0->yY ct z q .all "at" .non q0
theorem Tb(ok:q.ok)(h:GrD c z q p q')(n:¬zt c 1 z q):∃q1,yZ c q=some (p,q1)/\q'=gvF q1 z:=by
 cases h with
 | keep o h=>
   refine xb0 ?_ n;cases q with
   | st k _ _ _=>exact(zE o ok.1).elim
   | half _ _=>exact h
   | shel _ _=>exact h
   | row _ _=>exact h
 | stay hi h=>exact xb0 #[Mu _,_,hi,h] n
 | move _ h=>exact#[_,h,rfl]
theorem jA(ok:q.ok)(h:GrD c z q p q')(s:zt c 1 z q):p=z.a+1/\((ok3 q.let3/\q'=q)\/∃k r n ps i,q = .st k r n ps/\ps[i]?=some z/\q' = .st k r n (yN ps z.a (c+2) (yH ps i z))):=by
 cases h with
 | keep o h=>exact#[rfl,.inl #[o,rfl]]
 | stay hi h=>exact#[rfl,.inr #[_,_,_,_,_,rfl,hi,rfl]]
 | move n _=>exact xb0 s n
theorem uQ{p2:Int}{q2:St7}(ok:q.ok)(h:GrD c z q p q')(g:GrD c z q p2 q2):p=p2/\q'=q2:=by
 by_cases s:zt c 1 z q;obtain⟨e1,h⟩:=jA ok h s;obtain⟨e2,g⟩:=jA ok g s;refine#[e1.trans e2.symm,?_];rcases h with ⟨o,h⟩ | ⟨k,r,n,ps,i,e,hi,h⟩
 rcases g with ⟨_,g⟩ | ⟨k,r,n,ps,i,e,hi,g⟩
 rw[h,g];rw[e] at o ok;exact(zE o ok.1).elim;rcases g with ⟨o,g⟩ | ⟨k2,r2,n2,ps2,i2,e3,hi2,g⟩
 rw[e] at o ok;exact(zE o ok.1).elim;rw[e] at e3 ok;cases e3;rw[h,g,K8 ok.2.1 hi hi2 rfl];obtain⟨q3,e1,h⟩:=Tb ok h s;obtain⟨q4,e2,g⟩:=Tb ok g s;rw[e1] at e2;cases e2;exact#[rfl,h.trans g.symm]
theorem uR{q2:St7}{w:Wy}{wd2:Str}{v2:V}(ok:q.ok)(h:yY ct z q w wd v q')(g:yY ct z q w wd2 v2 q2):wd=wd2/\v=v2/\q'=q2:=by
 cases h with
 | askY h=>
   cases g with
   | askY g=>
     rw[h] at g;cases g;exact#[rfl,rfl,rfl]
   | askN g=>
     rw[h] at g;cases g
 | askN h=>
   cases g with
   | askY g=>
     rw[h] at g;cases g
   | askN g=>exact#[rfl,rfl,rfl]
 | growY h=>
   cases g with
   | growY g=>
     obtain⟨e1,e2⟩:=uQ ok h g;rw[e1,e2];exact#[rfl,rfl,rfl]
   | growN g1 g2=>
     obtain⟨_,e,_⟩:=Tb ok h g1;rw[e] at g2;cases g2
 | growN h1 h2=>
   cases g with
   | growY g=>
     obtain⟨_,e,_⟩:=Tb ok g h1;rw[e] at h2;cases h2
   | growN _ _=>exact#[rfl,rfl,rfl]
 | give=>
   cases g;exact#[rfl,rfl,rfl]
 | put=>
   cases g;exact#[rfl,rfl,rfl]
 | all h=>
   cases g with
   | all g=>exact#[rfl,rfl,h.one g]
theorem uS(w:Wy)(ok:q.ok)(n1:1<=q.n):∃wd v q',yY ct z q w wd v q':=by
 cases w with
 | ask=>
   cases h:yZ ct q with
   | none=>exact#[_,_,_,.askN h]
   | some r=>exact#[_,_,_,.askY (p:=r.1) (q':=r.2) h]
 | put=>exact#[_,_,_,.put]
 | give=>exact#[_,_,_,.give]
 | all=>
   obtain⟨q0,h⟩:=uc2 ok n1;exact#[_,_,_,.all h]
 | grow=>
   by_cases s:zt ct 1 z q;cases q with
   | st k r n ps=>
     obtain⟨_,i,hi,hf⟩:=s;exact#[_,_,_,.growY (.stay hi hf)]
   | half N ps=>exact#[_,_,_,.growY (.keep trivial s)]
   | shel _ fs=>exact#[_,_,_,.growY (.keep trivial s)]
   | row n ls=>exact#[_,_,_,.growY (.keep trivial s)]
   cases h:yZ ct q with
   | none=>exact#[_,_,_,.growN s h]
   | some r=>exact#[_,_,_,.growY (.move (p:=r.1) (q1:=r.2) s h)]
def zy(ct k n:Int)(z:Pc)(q:St7)(w:Wy)(v:V)(q':St7)(cs cs':List Int):Prop:=match w with
 | .ask=>∀p,v = .int p->zk q ct 1 p q' cs cs'
 | .grow=>∀p,v = .int p->ue5 q z ct 1 p q' cs cs'
 | .give=>Gvn q z q' cs cs'
 | .put=>cs'=cs.set (z.a+1+k).toNat n
 | .all=>True
def KnE(q:St7)(cs:List Int)(kv:List Key×V):Prop:=∃z∈q.ps,z.v=true/\∃j n:Int,kv=(pk (z.a+1,j),.int n)/\0<=j/\j<z.l-2/\cs[(z.a+1+j).toNat]?=some n
def KnR(w:Wy)(pl k n least:Int)(wd:Str)(v:V)(kvs:List (List Key×V))(kv:List Key×V):Prop:=
 (w≠.all/\kv∈kvs/\((∀j,kv.1≠pk (pl,j))\/(w = .put/\kv.1≠pk (pl,k))\/wd=("no":Str)))\/(w = .grow/\∃p j m,v = .int p/\(pk (pl,j),m)∈kvs/\j<least/\kv=(pk (p,j),m))\/(w = .put/\kv=(pk (pl,k),.int n))
theorem Tc{a d:Int}(h:pk (a,b)=pk (c,d)):a=c/\b=d:=by
 cases h;exact#[rfl,rfl]
theorem KnE.left(h:KnE q cs kv)(f:∀y∈q.ps,y.v=true->(∃j,kv.1=pk (y.a+1,j))->y∈q'.ps/\∀j:Nat,Inn y j->cs'[j]?=cs[j]?)(c:Am 0 q.ps cs.length):KnE q' cs' kv:=by
 obtain⟨y,hy,yv,j,n,rfl,j0,j1,hc⟩:=h;obtain⟨g1,g2⟩:=f y hy yv #[j,rfl];obtain⟨y0,_,_,_⟩:=c.mem y hy;refine#[y,g1,yv,j,n,rfl,j0,j1,?_];rw[g2 _ #[∅,∅]];exact hc
theorem uU{w:Wy}(ok:q.ok)(hl:(cs.length:Int)=q.n)(ok':q'.ok)(hz:z∈q.ps)(hv:z.v=true)(k0:0<=k)(k1:k<z.l-2)(A:yY ct z q w wd v q')(no:wd="no"->cs'=cs)(Cl:zy ct k n z q w v q' cs cs')(hk:∀kv∈kvs,KnE q cs kv)
   (hr:KnR w (z.a+1) k n (min ct (z.l-2)) wd v kvs kv) (nw:w≠.ask):KnE q' cs' kv:=by
 have ch:Am 0 q.ps cs.length:=by rw[hl];exact St7.ch ok
 have z4:=ch.mem z hz;have stay:∀kv∈kvs,(∀y∈q.ps,y.v=true->(∃j,kv.1=pk (y.a+1,j))->y∈q'.ps/\∀j:Nat,Inn y j->cs'[j]?=cs[j]?)->KnE q' cs' kv:=λkv h f=>(hk kv h).left f ch;have hne:∀y,(∀j,kv.1≠pk (z.a+1,j))->(∃j,kv.1=pk (y.a+1,j))->y≠z:=λy h ⟨j,e⟩ e2=>h j (by rw[e,e2]);rcases hr with ⟨_,hm,hd⟩ | ⟨rfl,p,j,m,rfl,hm,hj,rfl⟩ | ⟨rfl,rfl⟩
 by_cases hno:wd="no";rw[no hno];cases A <;> first | exact hk kv hm | exact xb0 hno m!""
 have hd2:(∀j,kv.1≠pk (z.a+1,j))\/(w = .put/\kv.1≠pk (z.a+1,k)):=hd.elim .inl λh=>.inr (h.resolve_right hno);clear hd;cases A with
 | askY _=>exact xb0 rfl nw
 | askN _=>exact xb0 rfl nw
 | growN _ _=>exact xb0 rfl hno
 | growY _=>
   obtain⟨_,_,L⟩:=(Cl _ rfl).lf;have hd:=hd2.resolve_right λh=>by cases h.1
   exact stay kv hm λy hy yv he=>by
     obtain⟨g1,_,g2⟩:=L.2.2.1 y hy yv (hne y hd he);exact#[g1,g2]
 | give=>
   have hd:=hd2.resolve_right λh=>by cases h.1
   have Cl:Gvn q z (gvF q z) cs cs':=Cl;exact stay kv hm λy hy yv he=>Cl.kp y hy yv (hne y hd he)
 | all _=>exact xb0 rfl (by assumption)
 | put=>
   have Cl:cs'=cs.set (z.a+1+k).toNat n:=Cl;obtain⟨y,hy,yv,j,m,rfl,j0,j1,hc⟩:=hk kv hm;obtain⟨y0,y1,_,_⟩:=ch.mem y hy;refine#[y,hy,yv,j,m,rfl,j0,j1,?_];rw[Cl,ag ?_];exact hc;intro e;have e:z.a+1+k=y.a+1+j:=∅;have ey:y=z:=HQ ch hy hz (p:=y.a+1+j) ∅ ∅ ∅ ∅;subst ey;rcases hd2 with h | ⟨_,h⟩
   exact h j rfl;exact h (by rw[show j=k by lia])
 cases A with
 | growY _=>
   have G:=Cl p rfl;obtain⟨L,hL,hl2⟩:=G.lf;obtain⟨y,hy,yv,j2,n2,e,j0,j1,hc⟩:=hk _ hm;obtain⟨e1,e2⟩:=Prod.mk.inj e;obtain⟨e3,rfl⟩:=Tc e1;have ey:y=z:=CY ch hy hz ∅;subst ey;have lL:ct+2<=L:=hL.elim U9 λh=>by lia
   have hp:=(St7.ch ok').mem _ hl2.1;have hp0:0<=p-1:=hp.1;refine#[#[p-1,L,true],hl2.1,rfl,j,n2,by rw[e2,lw],j0,by show j<L-2;lia,?_];have:=G.own j.toNat ∅ ∅;rw[show (#[p-1,L,true]:Pc).a+1+j=p+j by show p-1+1+j=p+j;lia,show (p+j).toNat=p.toNat+j.toNat by lia,this,show (y.a+1).toNat+j.toNat=(y.a+1+j).toNat by lia];exact hc
 cases A with
 | put=>
   have Cl:cs'=cs.set (z.a+1+k).toNat n:=Cl;refine#[z,hz,hv,k,n,rfl,k0,k1,?_];rw[Cl,ai ∅]
theorem ua3(ok:q.ok)(hl:(cs.length:Int)=q.n)(A:yY ct z q .ask wd v q')(no:wd="no"->cs'=cs)(Cl:zy ct k n z q .ask v q' cs cs')(hk:KnE q cs kv):KnE q' cs' kv:=by
 cases A with
 | askY _=>
   obtain⟨_,_,L⟩:=(Cl _ rfl).lf;exact hk.left (λy hy yv _=>by
     obtain⟨g1,_,g2⟩:=L.2.2.1 y hy yv id;exact#[g1,g2]) (by rw[hl];exact St7.ch ok)
 | askN _=>rw[no rfl];exact hk
theorem uV{w:Wy}(ok:q.ok)(A:yY ct z q w wd v q')(Cl:zy ct k n z q w v q' cs cs'):q'.n=q.n/\q'.let3=q.let3/\q'.sh=q.sh:=by
 cases A with
 | askY _=>exact#[(Cl _ rfl).n,(Cl _ rfl).lt,(Cl _ rfl).sh]
 | growY _=>exact#[(Cl _ rfl).n,(Cl _ rfl).lt,(Cl _ rfl).sh]
 | askN _=>exact#[rfl,rfl,rfl]
 | growN _ _=>exact#[rfl,rfl,rfl]
 | put=>exact#[rfl,rfl,rfl]
 | give=>
   have Cl:Gvn q z (gvF q z) cs cs':=Cl;exact#[Cl.n,Cl.lt,Cl.sh]
 | all F=>
   obtain⟨e1,e2,_,_,e3⟩:=F.is;refine#[e1,e2,?_];rw[e3];cases q with
   | st i _ _ _=>
     have h4:=ok.1;cases i <;> first | rfl | exact h4.elim
   | half _ _=>rfl
   | shel _ _=>rfl
   | row _ _=>rfl
def LB(x a:wa)(H H':Hp):Prop:=∀b o,b≠x->b≠a->H b=some o->H' b=some o
abbrev yz(C:W7->wa)(x dx a:wa)(q:St7)(cs:List Int)(z:Pc)(w:Wy)(ct k n:Int)(H:Hp)(Q:VK):Prop:=∀(wd:Str)(v:V)(q':St7)(a' t:wa)(cs':List Int)(H':Hp),yY ct z q w wd v q'->(wd="no"->cs'=cs)->zy ct k n z q w v q' cs cs'->(a'=a\/H a'=none)->H t=none->LB x a H H'->cs'.length=cs.length->KS C x dx a' q' cs' H'->H' t=some (.tup [.str wd,v])->Q (.ref t) H'
def jB(C:W7->wa):Sp:=λvs H Q _=>∃(x dx a:wa)(q:St7)(cs:List Int)(z:Pc)(w:Wy)(ct k n:Int),vs=[.ref x,.str w.s,.int (z.a+1),.int ct,.int k,.int n]/\KS C x dx a q cs H/\q.let3≠.next/\1<=q.n/\(w = .ask\/w = .all\/z∈q.ps/\z.v=true)/\(w = .give\/w = .grow->q.let3≠.row)/\1<=ct/\ct<=30/\0<=k/\k<z.l-2/\yz C x dx a q cs z w ct k n H Q
theorem jC{x t:wa}(k:Aw x H H')(ht:H' t=none):LB x a H (upd H' t o):=λb o n _ h=>look_put ht (k b o n h)
theorem uW{x t:wa}{u v:HO}(k:LB x a H H')(hx:H' x=some u)(ha:H' a=some v)(ht:H' t=none):H t=none:=by
 cases h:H t with
 | none=>rfl
 | some o=>
   have:=k t o (λe=>by rw[e,hx] at ht;cases ht) (λe=>by rw[e,ha] at ht;cases ht) h;rw[ht] at this;cases this
variable (D_grow:ze P w K mg base ⋯ "grow" 10 ό [.int 1] (NU ⋯ A5))
variable (D_put:A6 P w K mg base ⋯ "put" 9 ϫ [] (z_ ⋯))
variable (D_clear:A6 P w K mg base ⋯ "clear" 8 ϖ [] (Ta ⋯))
include T D_ask D_give D_grow D_put D_clear in
theorem N9(S:Src K mg "_law_answer" Sh):∎ "_law_answer" 11 ϕ (jB ⋯):=by
 refine S.okx EI Ji λf _ A _ s H vs Q E hr h=>#[_,PSs.nox (Ad (k_ 6 EI AG) (Ad (k_ 7 EI BH) (Ad (oK (Q5 (Ax A8 mt AG) (Mh (i:=7) EI.nd rfl (υ rfl) (Le D_ask.less hr m_ (Aa o_ Ab))) (Q5 (Ax A8 mt AG) (Mh (i:=7) EI.nd rfl (υ rfl) (Le D_grow.less hr m_ (Aa n_ (Aa o_ Ab)))) (Q5 (Ax A8 mt AG) (Mh (i:=7) EI.nd rfl (υ rfl) (Le D_give hr m_ (Aa n_ Ab))) (Q5 (Ax A8 mt AG) (Mh (i:=7) EI.nd rfl (υ rfl) (Le D_put hr m_ (Aa n_ (Aa p_ (Aa q_ Ab))))) (Mh (i:=7) EI.nd rfl (υ rfl) (sC D_clear hr m_)))))) #[rfl,rfl] (mU s!"" T.fZ (λx=>(Aj (k_ 6 EI AG))) TM)) (Aj (Aq (BK (Aa t_ (Aa r_ Ab)))))))),?_];symm;obtain⟨x,dx,a,q,cs,z,w,ct,k,n,rfl,S,nx,n1,hw,hr,c1,c30,k0,k1,kk⟩:=h;have hx:=S.hx;have frX:∀{H1:Hp}{t:wa}{u:HO},Aw x H H1->H1 x=some u->H1 t=none->H t=none:=λk hu ht=>by
   cases h:H _ with
   | none=>rfl
   | some o=>
     have:=k _ o (λe=>by rw[e,hu] at ht;cases ht) h;rw[ht] at this;cases this
 have no:∀{H1:Hp}{t:wa},yY ct z q w "no" .non q->zy ct k n z q w .non q cs cs->Same H H1->H1 t=none->Q (.ref t) (upd H1 t (.tup [.str "no",.non])):=λA c s ht=>kk _ _ _ a _ cs _ A (λ_=>rfl) c (.inl rfl) (s.free ht) (jC (Aw.of s) ht) rfl ((S.same s).same (Same.new ht)) xb5;have yes:∀{H1:Hp}{t:wa}{v:V}{q':St7}{a':wa}{cs':List Int},yY ct z q w "at" v q'->zy ct k n z q w v q' cs cs'->(a'=a\/H a'=none)->Aw x H H1->cs'.length=cs.length->KS ⋯ x dx a' q' cs' H1->H1 t=none->Q (.ref t) (upd H1 t (.tup [.str "at",v])):=λA c na kp l S1 ht=>kk _ _ _ _ _ _ _ A (λe=>by cases e) c na (frX kp S1.hx ht) (jC kp ht) l (S1.same (Same.new ht)) xb5;have inz:w≠.ask->w≠.all->z∈q.ps/\z.v=true:=λh1 h2=>(hw.resolve_left h1).resolve_left h2;clear hw;cases w with
 | ask=>
   ext;refine#[x,dx,a,q,cs,ct,1,rfl,rfl,rfl,nx,S,c1,c30,?_];cases hF:yZ ct q with
   | none=>
     refine .inl #[iU S.ok c1 hF,λH1 s1=>#[_,rfl,λy hy=>υ #[T.gD,?_]]];ext;intro t ht;ext;exact no (.askN hF) (λp e=>by cases e) (s1.trans (Same.new hy)) ht
   | some r=>
     obtain⟨p,q1⟩:=r;refine .inr #[p,q1,iT hF,λa1 cs1 H1 A na1 k1 l1 S1=>?_];ext;intro t ht;ext;exact yes (.askY hF) (λp' e=>by cases e;exact A) (.inr na1) k1 l1 S1 ht
 | grow=>
   obtain⟨hz,hv⟩:=inz (λe=>by cases e) (λe=>by cases e);ext;refine#[x,dx,a,q,cs,z,ct,1,rfl,rfl,rfl,hr (.inr rfl),nx,S,hz,hv,c1,c30,λns hF H1 s1=>#[_,rfl,λy hy=>υ #[T.gD,?_]],λp q1 a1 cs1 H1 G W na1 k1 l1 S1=>?_];ext;intro t ht;ext;exact no (.growN ns hF) (λp e=>by cases e) (s1.trans (Same.new hy)) ht;ext;intro t ht;ext;exact yes (.growY G) (λp' e=>by cases e;exact W) na1 k1 l1 S1 ht
 | give=>
   obtain⟨hz,hv⟩:=inz (λe=>by cases e) (λe=>by cases e);ext;refine#[x,dx,a,q,cs,z,rfl,rfl,hr (.inl rfl),S,hz,hv,gvF q z,iV S.ok hz hv (hr (.inl rfl)),λa1 cs1 H1 G na1 k1 l1 S1=>?_];ext;intro t ht;ext;exact yes .give G (.inr na1) k1 l1 S1 ht
 | put=>
   obtain⟨hz,hv⟩:=inz (λe=>by cases e) (λe=>by cases e);ext;refine#[x,dx,a,q,cs,z,k,n,rfl,rfl,S,hz,hv,k0,k1,λH1 k1 S1=>?_];ext;intro t ht;ext;have kA:LB x a H H1:=λb o _ n h=>k1 b o n h;exact kk _ _ _ a _ _ _ .put (λe=>by cases e) rfl (.inl rfl) (uW kA S1.hx S1.ha ht) (λb o n1 n2 h=>look_put ht (kA b o n1 n2 h)) (ax ..) (S1.same (Same.new ht)) xb5
 | all=>
   ext;refine#[x,dx,a,q,cs,rfl,rfl,S,n1,λq0 a1 cs1 H1 F na1 k1 l1 S1=>?_];ext;intro t ht;ext;exact yes (.all F) trivial (.inr na1) k1 l1 S1 ht
def zH(H:Hp)(us:List V)(xss:List (List V)):Prop:=us.length=xss.length/\∀(i:Nat)(xs:List V),xss[i]?=some xs->∃t,us[i]?=some (.ref t)/\H t=some (.tup xs)
theorem uX{A:wg}{s:wb}{x:V}{u1 u2:vz}(q1:L2.RelV x u1)(q2:L2.RelV x u2)(f:BC x=true\/∃r,x = .ref r):SeqAt.EqAt A s u1 u2 true:=by
 rcases f with f | ⟨r,rfl⟩
 have:=Tq (A:=A) (s:=s) q1 q2 f f
 rwa [aP f] at this
 cases q1;cases q2;exact jo _
section
variable {X:Cx}
theorem uY(hu:X.A.units+64<xm):OpR X (xc .NotEq) (λx y H Q=>∃a b us ws xss,x = .ref a/\y = .ref b/\H a=some (.lst us)/\H b=some (.lst ws)/\zH H us xss/\zH H ws xss/\(∀xs∈xss,xs.all BC=true)/\Q (.bl false) H):=by
 intro ϊ s σ H x y v u Q I rx ry h;obtain⟨a,b,us,ws,ps,rfl,rfl,ha,hb,pu,pw,hf,q⟩:=h;cases rx;cases ry;obtain⟨its,r1,p1,_⟩:=I.list (SqL.of ha);obtain⟨its2,r2,p2,_⟩:=I.list (SqL.of hb);have l1:=r1.length;have l2:=r2.length;have m1:=pu.1;have m2:=pw.1;have key:SeqAt.RcNeAt X.A s (.ref a) (.ref b) (!((cq its.toArray.size).all (λ_=>true))):=by
   refine SeqAt.RcNeAt.lists p1.isList p2.isList (by rw[ο,ο];lia) ∅ λj h1 h2=>?_;rw[ο] at h1 h2;have hj:j<ps.length:=∅;obtain⟨t1,e1,f1⟩:=pu.2 j ps[j] (by simp [hj]);obtain⟨t2,e2,f2⟩:=pw.2 j ps[j] (by simp [hj]);obtain⟨u1,g1,q1⟩:=r1.get e1;obtain⟨u2,g2,q2⟩:=r2.get e2;cases q1;cases q2;obtain⟨_,k1⟩:=γ.mp g1;obtain⟨_,k2⟩:=γ.mp g2;have z:=T7 (A:=X.A.in1) (by show X.A.units+1<xm;lia) I (SqT.of f1) (SqT.of f2) (hf _ (bz hj));rw[<-k1,<-k2] at z;simpa using z
 have e:(!((cq its.toArray.size).all (λ_=>true)))=false:=by simp
 rw[e] at key;exact key _ _ _ _ #[.bl false,H,I,rfl,q]
def LsAt(H:Hp)(us:List V)(xss:List (List V)):Prop:=us.length=xss.length/\∀(i:Nat)(xs:List V),xss[i]?=some xs->∃t,us[i]?=some (.ref t)/\H t=some (.lst xs)
theorem uZ(hu:X.A.units+64<xm):OpR X (xc .NotEq) (λx y H Q=>∃a b us ws xss,x = .ref a/\y = .ref b/\H a=some (.lst us)/\H b=some (.lst ws)/\LsAt H us xss/\LsAt H ws xss/\(∀xs∈xss,∀x∈xs,BC x=true\/∃r,x = .ref r)/\Q (.bl false) H):=by
 intro ϊ s σ H x y v u Q I rx ry h;obtain⟨a,b,us,ws,ps,rfl,rfl,ha,hb,pu,pw,hf,q⟩:=h;cases rx;cases ry;obtain⟨its,r1,p1,_⟩:=I.list (SqL.of ha);obtain⟨its2,r2,p2,_⟩:=I.list (SqL.of hb);have l1:=r1.length;have l2:=r2.length;have m1:=pu.1;have m2:=pw.1;have key:SeqAt.RcNeAt X.A s (.ref a) (.ref b) (!((cq its.toArray.size).all (λ_=>true))):=by
   refine SeqAt.RcNeAt.lists p1.isList p2.isList (by rw[ο,ο];lia) ∅ λj h1 h2=>?_;rw[ο] at h1 h2;have hj:j<ps.length:=∅;obtain⟨t1,e1,f1⟩:=pu.2 j ps[j] (by simp [hj]);obtain⟨t2,e2,f2⟩:=pw.2 j ps[j] (by simp [hj]);obtain⟨u1,g1,q1⟩:=r1.get e1;obtain⟨u2,g2,q2⟩:=r2.get e2;cases q1;cases q2;obtain⟨_,k1⟩:=γ.mp g1;obtain⟨_,k2⟩:=γ.mp g2;have z:SeqAt.EqAt X.A.in1 s (.ref t1) (.ref t2) true:=by
     by_cases e:t1=t2;rw[e];exact jo _;refine lu e ?_;obtain⟨is1,s1,c1,_⟩:=I.list (SqL.of f1);obtain⟨is2,s2,c2,_⟩:=I.list (SqL.of f2);have n1:=s1.length;have n2:=s2.length;have key:=mq (A:=X.A.in1) (s:=s) (e:=λ_=>true) c1.isList c2.isList (by rw[ο,ο];lia) (by show X.A.units+1<xm;lia) λi h1 h2=>by
       rw[ο] at h1 h2;have hi:i<(ps[j]).length:=∅;obtain⟨u1,g1,q1⟩:=s1.get (i:=i) (x:=ps[j][i]) (by simp [hi]);obtain⟨u2,g2,q2⟩:=s2.get (i:=i) (x:=ps[j][i]) (by simp [hi]);obtain⟨_,k1⟩:=γ.mp g1;obtain⟨_,k2⟩:=γ.mp g2;have z:=uX (A:=X.A.in1.in1) (s:=s) q1 q2 (hf _ (bz hj) _ (bz hi));rw[<-k1,<-k2] at z;simpa using z
     have e:((cq is1.toArray.size).all (λ_=>true))=true:=by simp
     rwa [e] at key
   rw[<-k1,<-k2] at z;simpa using z
 have e:(!((cq its.toArray.size).all (λ_=>true)))=false:=by simp
 rw[e] at key;exact key _ _ _ _ #[.bl false,H,I,rfl,q]
end
theorem L_{c:TT}{t u:TS}(M:Bool->Prop)(h1:M true->t D σ H)(h2:M false->u D σ H)(h:∀K':Bool->Hp->Prop,(∀b,M b->K' b H)->c σ H K'):zI c t u D σ H:=
 h _ λb hb=>by
   cases b with
   | true=>exact(xb1 rfl).mpr (h1 hb)
   | false=>exact(xb2 ξ).mpr (h2 hb)
theorem Wy.inj{w w':Wy}(h:w.s=w'.s):w=w':=by cases w <;> cases w' <;> first | rfl | cases h
theorem jD{k:List Key}{p:List Key×V}(h:p∈zc kvs k v):p=(k,v)\/(p∈kvs/\p.1≠k):=by
 unfold zc at h
 split at h
 obtain⟨q,hq,e⟩:=ce.mp h;by_cases hk:q.1=k;rw[xb1 hk] at e;left;rw[<-e,hk];rw[xb2 hk] at e;subst e;exact .inr #[hq,hk];rename_i hn;rcases ν.mp h with g | g
 refine .inr #[g,λz=>hn ?_];exact cw.mpr #[p,g,xb3 z];exact .inl (χ.mp g)
theorem Ve{k:List Key}{v0:V}(h:(k,v0)∈kvs):∃v,zb kvs k=some v/\(k,v)∈kvs:=by
 unfold zb;cases hf:kvs.find? λkv=>decide (kv.1=k) with
 | none=>exact xb0 (xb3 rfl) (List.find?_eq_none.mp hf _ h)
 | some p=>
   have e:decide (p.1=k)=true:=by simpa using List.find?_some hf
   have e:p.1=k:=of_decide_eq_true e;refine#[p.2,rfl,?_];rw[<-e];exact List.mem_of_find?_eq_some hf
def KnM(w:Wy)(pl least:Int)(wd:Str)(v:V)(kvs:List (List Key×V))(kv:List Key×V):Prop:=
 (w≠.all/\kv∈kvs/\((∀j,kv.1≠pk (pl,j))\/w = .put\/wd=("no":Str)))\/(w = .grow/\∃p j m,v = .int p/\(pk (pl,j),m)∈kvs/\j<least/\kv=(pk (p,j),m))
def KnW(f:List (Option V))(nd:wa)(w:Wy)(pl least:Int)(wd:Str)(v:V)(kvs:List (List Key×V))(H1:Hp)(i:Nat)(σ:L2.St)(H':Hp):Prop:=
 ∃(kvs':List (List Key×V)) (x8:Option V),σ=f++[x8]/\Aw nd H1 H'/\H' nd=some (.dT kvs')/\kvs'.length<=i/\∀kv∈kvs',KnM w pl least wd v kvs kv
abbrev yA(kd t:wa)(w:Wy)(pl k n least:Int)(wd:Str)(v:V)(kvs:List (List Key×V))(H:Hp)(Q:VK):Prop:=∀(kd':wa) (kvs':List (List Key×V)) (H':Hp),H kd'=none->Same H H'->H' kd'=some (.dT kvs')->kvs'.length<=kvs.length+1->(∀kv∈kvs',KnR w pl k n least wd v kvs kv)->Q (.ref kd') H'
def jE:Sp:=λvs H Q _=>∃(kd t:wa)(w:Wy)(pl k n least:Int)(wd:Str)(v:V) (kvs:List (List Key×V)),vs=[.ref kd,.str w.s,.int pl,.ref t,.int k,.int n,.int least]/\H kd=some (.dT kvs)/\(∀kv∈kvs,∃z,kv.1=pk z)/\kvs.length<=400/\H t=some (.tup [.str wd,v])/\(w = .grow->wd≠"no"->∃p,v = .int p)/\yA kd t w pl k n least wd v kvs H Q
include T in
theorem Oa(S:Src K mg "_law_known" Sj):∎ "_law_known" 1 ϓ (jE):=by
 refine S.okx UP Jj λf _ A _ s H vs Q E hr h=>?_;obtain⟨kd,t,w,pl,k,n,least,wd,v,kvs,rfl,hkd,hpk,hkl,ht,hgr,kk⟩:=h;refine#[_,PSs.nox (Ad (AA (Ax A8 mt AG) (Aj (Aq Uf)) AB) (Ad (k_ 7 UP Uf) (Ad (eO cc rfl m_ (ld 8 UP) (Aj (AA (PW.pt (Bf (Ax Df (Az By s_ Ai (λ_ _=>rfl)) n_) (Bf (Ax A8 mt AG) (BB (Ax A8 (Az By o_ Ai (λ_ _=>rfl)) AG))))) (Aj (Ue (HR hr.units) r_ s_ (Q2 (HR hr.units) m_ s_ (λ_ _=>rfl)) rfl)) (Aj (AA (PW.pt (DL (Ax A8 mt AG) (DR (Ax Db (Az By s_ Ai (λ_ _=>rfl)) t_)))) (Aj (Ue (HR hr.units) r_ (BK (Aa (Az By o_ Ai (λ_ _=>rfl)) (Aa (Az By s_ Ai (λ_ _=>rfl)) Ab))) (Q2 (HR hr.units) m_ s_ (λ_ _=>rfl)) rfl)) AB))))) (Ad (AA (Ax A8 mt AG) (Aj (Ue (HR hr.units) r_ (BK (Aa n_ (Aa p_ Ab))) q_ rfl)) AB) (Aj (Aq r_)))))),?_];symm;ext;refine AW (λhw=>?_) (λhw=>?_);ext;intro p hp;exact kk p [] _ hp (Same.new hp) xb5 (dv _) (λkv hk=>by cases hk);have hw:w≠.all:=λe=>hw (by rw[e];rfl);ext;intro nd hnd;ext;refine eP λNF=>?_;have hkn:kd≠nd:=λe=>by rw[e,hnd] at hkd;cases hkd
 have htn:t≠nd:=λe=>by rw[e,hnd] at ht;cases ht
 have htk:t≠kd:=λe=>by rw[e,hkd] at ht;cases ht
 have hkd1:upd H nd (.dT []) kd=some (.dT kvs):=look_ne hkn hkd;ext;refine#[kd,kvs,rfl,hkd1,λo nf=>eU nf (KnW [xa8 kd,some (.str w.s),xa9 pl,xa8 t,xa9 k,xa9 n,xa9 least,xa8 nd] nd w pl least wd v kvs (upd (upd H nd (.dT [])) kd (.frz o (.dT kvs)))) #[[],none,rfl,Aw.refl,look_ne (fh hkn) xb5,Γ _,λkv hk=>by cases hk] (λi σ H' ⟨_,_,_,kp,_⟩=>kp kd _ hkn xb5) ?_ ?_];rintro i key v1 b σ H1 hi hb ⟨kvs',x8,rfl,kp,hn1,hl1,hm1⟩;obtain⟨⟨p1,j1⟩,ez⟩:=hpk _ (ζ hi);have ez:key=pk (p1,j1):=ez;subst ez;have hb:H1 b=some (.tup [.int p1,.int j1]):=hb;have hkf:H1 kd=some (.frz o (.dT kvs)):=kp kd _ hkn xb5;have ht1:H1 t=some (.tup [.str wd,v]):=kp t _ htn (look_ne htk (look_ne htn ht));obtain⟨v0,hv0,hmem⟩:=Ve (ζ hi);have dg:∀{H':Hp},H' kd=some (.frz o (.dT kvs))->H' b=some (.tup [.int p1,.int j1])->DGet H' kd (.ref b) (some v0):=λh1 h2=>by
   have:=eV (k:=pk (p1,j1)) h1 h2
   rwa [hv0] at this
 have hil:i<kvs.length:=(γ.mp hi).1;have fin:∀(H2:Hp)(key:List Key)(x:V),Aw nd H1 H2->H2 nd=some (.dT kvs')->KnM w pl least wd v kvs (key,x)->KnW [xa8 kd,some (.str w.s),xa9 pl,xa8 t,xa9 k,xa9 n,xa9 least,xa8 nd] nd w pl least wd v kvs (upd (upd H nd (.dT [])) kd (.frz o (.dT kvs))) (i+1) [xa8 kd,some (.str w.s),xa9 pl,xa8 t,xa9 k,xa9 n,xa9 least,xa8 nd,xa8 b] (upd H2 nd (.dT (zc kvs' key x))):=λH2 key x k2 h2 hx=>#[_,_,rfl,(kp.trans k2).put,xb5,cr (Q0 _ _ _) ∅,λkv hk=>(jD hk).elim (λe=>by rw[e];exact hx) λh=>hm1 kv h.1]
 have sz:kvs'.length<wt:=small4000 ∅;walk_at "t";refine L_ (λb=>(b=true->p1≠pl\/w = .put\/wd="no")/\(b=false->p1=pl/\wd≠"no")) (λhM=>?_) (λhM=>?_) (λK' hK=>?_);ext;refine#[kd,v0,rfl,dg hkf hb,?_];ext;refine#[nd,_,rfl,DPut.t (k:=pk (p1,j1)) hn1 hb sz,?_];ext;exact fin H1 _ _ Aw.refl hn1 (.inl #[hw,hmem,(hM.1 rfl).imp (λh j e=>h (Tc e).1) id]);obtain⟨e1,hno⟩:=hM.2 rfl;subst e1;refine L_ (λb=>b=true->w = .grow/\j1<least) (λhM=>?_) (λ_=>?_) (λK' hK=>?_);obtain⟨rfl,hj⟩:=hM rfl;obtain⟨p,rfl⟩:=hgr rfl hno;ext;refine#[kd,v0,rfl,dg hkf hb,?_];ext;intro t9 nt9;have t9n:nd≠t9:=λe=>by rw[e,nt9] at hn1;cases hn1
 refine#[nd,_,rfl,DPut.t (k:=pk (p,j1)) (look_ne t9n hn1) xb5 sz,?_];ext;exact fin _ _ _ (Aw.refl.new nt9) (look_ne t9n hn1) (.inr #[rfl,p,j1,v0,rfl,hmem,hj,rfl]);ext;exact#[kvs',_,rfl,kp,hn1,∅,hm1];ext;refine AW (λh=>?_) (λh=>?_);ext;exact hK _ λh2=>#[Wy.inj (w':=.grow) h,of_decide_eq_true h2]
 exact hK _ λh=>by cases h
 ext;refine AW (λh=>?_) (λh=>?_);ext;refine AW (λh2=>?_) (λ_=>?_);exact hK _ #[λ_=>.inr (.inl (Wy.inj (w':=.put) h2)),λe=>by cases e];ext;exact hK _ #[λh=>.inr (.inr (of_decide_eq_true h)),λe=>#[h,of_decide_eq_false e]];exact hK _ #[λ_=>.inl h,λe=>by cases e];rintro σ H1 ⟨kvs',x8,rfl,kp,hn1,hl1,hm1⟩;have s2:Same H (upd H1 kd (.dT kvs)):=λb o h=>by
   by_cases e:b=kd;subst e;rw[hkd] at h;rw[xb5,h];have hb:b≠nd:=λe=>by rw[e,hnd] at h;cases h
   exact look_ne e (kp b o hb (look_ne e (look_ne hb h)))
 have hn2:upd H1 kd (.dT kvs) nd=some (.dT kvs'):=look_ne (fh hkn) hn1;generalize upd H1 kd (.dT kvs)=H2 at s2 hn2 ⊢;ext;refine AW (λh=>?_) (λh=>?_);obtain rfl:=Wy.inj (w':=.put) h;ext;intro t9 nt9;have t9n:nd≠t9:=λe=>by rw[e,nt9] at hn2;cases hn2
 ext;refine#[nd,_,rfl,DPut.t (k:=pk (pl,k)) (look_ne t9n hn2) xb5 (small4000 ∅),?_];ext;refine kk nd _ _ hnd ((s2.trans (Same.new nt9)).put hnd) xb5 (cr (Q0 _ _ _) ∅) λkv hk=>?_;rcases jD hk with e | ⟨h1,h2⟩
 exact .inr (.inr #[rfl,e]);rcases hm1 kv h1 with ⟨g1,g2,g3⟩ | g
 exact .inl #[g1,g2,g3.imp id (.imp (λe=>#[e,h2]) id)];exact .inr (.inl g);ext;have hp:w≠.put:=λe=>h (by rw[e];rfl);refine kk nd _ _ hnd s2 hn2 ∅ λkv hk=>?_;rcases hm1 kv hk with ⟨g1,g2,g3⟩ | g
 exact .inl #[g1,g2,g3.imp id (.imp (λe=>xb0 e hp) id)];exact .inr (.inl g)
theorem nw1{p:wa}(e:upd H p o=H')(n:H p=none):Same H H'/\H' p=some o:=by rw[<-e];exact#[Same.new n,xb5]
structure Kpr where
 x:wa
 dx:wa
 a:wa
 cs:List Int
def ApK(ks:List Kpr):Prop:=∀(j j':Nat)(k k':Kpr),ks[j]?=some k->ks[j']?=some k'->j≠j'->k.x≠k'.x/\k.a≠k'.a
structure Wd(C:W7->wa)(F:Hp)(i:W7)(n sh:Int)(kd:wa)(kvs:List (List Key×V))(q:St7)(ks:List Kpr)(H:Hp):Prop where
 sm:Same F H
 fx:∀k∈ks,F k.x=none/\F k.a=none
 kp:∀k∈ks,KS C k.x k.dx k.a q k.cs H
 ap:ApK ks
 hk:H kd=some (.dT kvs)
 kv:∀k∈ks,∀kv∈kvs,KnE q k.cs kv
 qi:q.let3=i
 qn:q.n=n
 qs:q.sh=sh
 n1:1<=n/\n<=76
 nx:i≠.next
noncomputable def less(ks:List Kpr)(H:Hp):Hp:=λb=>@ite _ (∃k∈ks,b=k.x\/b=k.a) (ju _) none (H b)
section
variable {C:W7->wa}{F F' H H':Hp}{i:W7}{n sh:Int}{kd:wa}{kvs:List (List Key×V)}{q:St7}{ks:List Kpr}
theorem Td{b:wa}(h:H b=some o)(n:∀k∈ks,b≠k.x/\b≠k.a):less ks H b=some o:=by
 unfold less;rw[xb2 (λ⟨k,hk,e⟩=>e.elim (n k hk).1 (n k hk).2)];exact h
theorem Ki{k:Kpr}(h:k∈ks):less ks H k.x=none/\less ks H k.a=none:=by
 unfold less;exact#[xb1 #[k,h,.inl rfl],xb1 #[k,h,.inr rfl]]
theorem LC:Same (less ks H) H:=λb o h=>by
 unfold less at h
 split at h
 cases h;exact h
theorem Te(s:Same F H)(fx:∀k∈ks,F k.x=none/\F k.a=none):Same F (less ks H):=λb o h=>Td (s b o h) λk hk=>#[(λe=>by rw[e,(fx k hk).1] at h;cases h),(λe=>by rw[e,(fx k hk).2] at h;cases h)]
theorem Wd.less(W:Wd C F i n sh kd kvs q ks H):Same F (less ks H)/\Wd C (less ks H) i n sh kd kvs q ks H:=#[Te W.sm W.fx,LC,λk hk=>Ki hk,W.kp,W.ap,W.hk,W.kv,W.qi,W.qn,W.qs,W.n1,W.nx]
theorem Wd.mono(W:Wd C F' i n sh kd kvs q ks H)(s:Same F F'):Wd C F i n sh kd kvs q ks H:=#[s.trans W.sm,λk hk=>#[s.free (W.fx k hk).1,s.free (W.fx k hk).2],W.kp,W.ap,W.hk,W.kv,W.qi,W.qn,W.qs,W.n1,W.nx]
theorem Wd.same(W:Wd C F i n sh kd kvs q ks H)(s:Same H H'):Wd C F i n sh kd kvs q ks H':=#[W.sm.trans s,W.fx,λk hk=>(W.kp k hk).same s,W.ap,s _ _ W.hk,W.kv,W.qi,W.qn,W.qs,W.n1,W.nx]
theorem KS.ne{x b:wa}(S:KS C x dx a q cs H)(h:H b=some o)(n1:∀c d f,o≠.ins c d f)(n2:∀ns:List Int,o≠.lst (ns.map V.int)):b≠x/\b≠a:=#[λe=>by rw[e,S.hx] at h;exact n1 _ _ _ (Θ h).symm,λe=>by rw[e,S.ha] at h;exact n2 _ (Θ h).symm]
theorem KS.keep{x x' dx':wa}(S':KS C x' dx' a' q' cs' H)(S:KS C x dx a q cs H)(k:LB x a H H')(n1:x'≠x)(n2:a'≠a):KS C x' dx' a' q' cs' H':=
 #[k _ _ n1 (λe=>by have:=S'.hx;rw[e,S.ha] at this;cases this) S'.hx,k _ _ (λe=>by have:=S'.ha;rw[e,S.hx] at this;cases this) n2 S'.ha,S'.hl,S'.hz,S'.ok,S'.mm]
end
def AnW(C:W7->wa)(F:Hp)(q q':St7)(w:Wy)(ct k n:Int)(z:Pc)(wd:Str)(v:V)(ks:List Kpr)(D:wa)(i:Nat)(ys:List V)(H':Hp):Prop:=
 ∃L:List Kpr,L.length=ks.length/\F D=none/\Same F H'/\H' D=some (.lst ys)/\zH H' ys (ω i [.str wd,v])/\ApK L /\
   (∀(j:Nat)(k1:Kpr),L[j]?=some k1->F k1.x=none/\F k1.a=none/\D≠k1.x/\D≠k1.a/\KS C k1.x k1.dx k1.a (if j<i then q' else q) k1.cs H') /\
   ∀(j:Nat)(k1 k2:Kpr),ks[j]?=some k1->L[j]?=some k2->k2.x=k1.x/\(i<=j->k2=k1)/\(j<i->(wd=("no":Str)->k2.cs=k1.cs)/\zy ct k n z q w v q' k1.cs k2.cs)
theorem AnW.next{F:Hp}{w:Wy}{ks:List Kpr}{D:wa}{i:Nat}{H1 H2:Hp}{k1:Kpr}{t:wa}(h:AnW C F q q' w ct k n z wd v ks D i ys H1)(hi:ks[i]?=some k1)
   (no:wd="no"->cs'=k1.cs) (Cl:zy ct k n z q w v q' k1.cs cs') (ha:a'=k1.a\/H1 a'=none) (ht:H1 t=none) (kA:LB k1.x k1.a H1 H2) (S:KS C k1.x k1.dx a' q' cs' H2) (hT:H2 t=some (.tup [.str wd,v])):H2 D=some (.lst ys)/\AnW C F q q' w ct k n z wd v ks D (i+1) (ys++[.ref t]) (upd H2 D (.lst (ys++[.ref t]))):=by
 obtain⟨L,lL,fD,sm,hD,ts,ap,kp,kk⟩:=h;have hiL:i<L.length:=by rw[lL];exact(γ.mp hi).1
 have eL:L[i]?=some k1:=by
   rw[ρ hiL,(kk i k1 _ hi (ρ hiL)).2.1 (Γ _)]
 obtain⟨f1,f2,d1,d2,S1⟩:=kp i k1 eL;rw[xb2 (cv _)] at S1;have hD2:=kA D _ d1 d2 hD;have hDa:D≠a':=ha.elim (λe=>by rw[e];exact d2) λe w=>by rw[<-w,hD] at e;cases e
 have tD:t≠D:=λe=>by rw[e,hD] at ht;cases ht
 have keep:∀{b:wa}{o:HO},b≠k1.x->b≠k1.a->b≠D->H1 b=some o->upd H2 D (.lst (ys++[.ref t])) b=some o:=λn1 n2 n3 h=>look_ne n3 (kA _ _ n1 n2 h);have get:∀{j:Nat}{k2:Kpr},(L.set i #[k1.x,k1.dx,a',cs'])[j]?=some k2->(j=i/\k2=#[k1.x,k1.dx,a',cs'])\/(j≠i/\L[j]?=some k2):=λ{j k2} h=>by
   by_cases e:j=i;subst e;rw[ai hiL] at h;exact .inl #[rfl,(Θ h).symm];rw[ag (fh e)] at h;exact .inr #[e,h]
 have oth:∀{j:Nat}{k2:Kpr},j≠i->L[j]?=some k2->k2.x≠k1.x/\k2.a≠k1.a/\k2.a≠a':=λ{j k2} e h=>by
   obtain⟨g1,g2⟩:=ap j i k2 k1 h eL e;refine#[g1,g2,ha.elim (λe=>by rw[e];exact g2) λe w=>?_];have:=(kp j k2 h).2.2.2.2.ha;rw[w,e] at this;cases this
 refine#[hD2,L.set i #[k1.x,k1.dx,a',cs'],by rw[ax,lL],fD,λb o h=>?_,xb5,?_,?_,?_,?_];exact keep (λe=>by rw[e,f1] at h;cases h) (λe=>by rw[e,f2] at h;cases h) (λe=>by rw[e,fD] at h;cases h) (sm b o h);refine#[by rw[Δ,ts.1,ae,ae];rfl,λj xs hj=>?_];have hl:=ts.1;rw[ae] at hl;rw[cf] at hj
 split at hj
 rename_i hj1;have hj:=Θ hj;subst hj;by_cases e:j<i;obtain⟨u,g1,g2⟩:=ts.2 j [.str wd,v] (by rw[cf,xb1 e]);refine#[u,by rw[ψ ∅];exact g1,keep (λe=>by rw[e,S1.hx] at g2;cases g2) (λe=>by rw[e,S1.ha] at g2;cases g2) (λe=>by rw[e,hD] at g2;cases g2) g2];refine#[t,?_,look_ne tD hT];rw[θ ∅,show j-ys.length=0 by lia];rfl;cases hj;intro j j' k2 k3 h2 h3 hne;rcases get h2 with ⟨e2,rfl⟩ | ⟨e2,h2⟩
 rcases get h3 with ⟨e3,rfl⟩ | ⟨e3,h3⟩
 exact xb0 (e2.trans e3.symm) hne;obtain⟨g1,_,g3⟩:=oth e3 h3;exact#[fh g1,fh g3];rcases get h3 with ⟨e3,rfl⟩ | ⟨e3,h3⟩
 obtain⟨g1,_,g3⟩:=oth e2 h2;exact#[g1,g3];exact ap j j' k2 k3 h2 h3 hne;intro j k2 h2;rcases get h2 with ⟨rfl,rfl⟩ | ⟨e2,h2⟩
 rw[xb1 (ip _)];refine#[f1,ha.elim (λe=>by rw[show (#[k1.x,k1.dx,a',cs']:Kpr).a=k1.a from e];exact f2) sm.free,d1,hDa,?_];exact#[look_ne (λe=>d1 e.symm) S.hx,look_ne (λe=>hDa e.symm) S.ha,S.hl,S.hz,S.ok,S.mm];obtain⟨g1,g2,g3⟩:=oth e2 h2;obtain⟨b1,b2,b3,b4,S2⟩:=kp j k2 h2;have S3:=S2.keep S1 kA g1 g2;refine#[b1,b2,b3,b4,?_];rw[show (if j<i+1 then q' else q)=if j<i then q' else q by
   by_cases e:j<i;rw[xb1 e,xb1 ∅];rw[xb2 e,xb2 ∅]]
 exact#[look_ne (λe=>b3 e.symm) S3.hx,look_ne (λe=>b4 e.symm) S3.ha,S3.hl,S3.hz,S3.ok,S3.mm];intro j k2 k3 h2 h3;rcases get h3 with ⟨rfl,rfl⟩ | ⟨e3,h3⟩
 rw[hi] at h2;cases h2;exact#[rfl,λh=>xb0 h ∅,λ_=>#[no,Cl]];obtain⟨g1,g2,g3⟩:=kk j k2 k3 h2 h3;exact#[g1,λh=>g2 ∅,λh=>g3 ∅]
theorem AnW.world{F H5 H6:Hp}{nn sh:Int}{kd:wa}{w:Wy}{ks:List Kpr}{D:wa}(W:Wd C F i nn sh kd kvs q ks H5)(l1:1<=ks.length)(hw:w = .ask\/w = .all\/z∈q.ps/\z.v=true)(k0:0<=k)(k1:k<z.l-2)(A:yY ct z q w wd v q')(h:AnW C F q q' w ct k n z wd v ks D ks.length ys H6):
   ∃L:List Kpr,L.map (·.x)=ks.map (·.x)/\∀(kd':wa) (kvs':List (List Key×V)) (H7:Hp),Same H6 H7->H7 kd'=some (.dT kvs')->(∀kv∈kvs',(w = .ask/\kv∈kvs)\/(w≠.ask/\KnR w (z.a+1) k n (min ct (z.l-2)) wd v kvs kv))->Wd C F i nn sh kd' kvs' q' L H7:=by
 obtain⟨L,lL,fD,sm,hD,ts,ap,kp,kk⟩:=h;have idx:∀k2∈L,∃(j:Nat)(k1:Kpr),j<ks.length/\L[j]?=some k2/\ks[j]?=some k1/\k1∈ks:=λk2 h=>by
   obtain⟨j,hj⟩:=aj h;have hl:j<ks.length:=by rw[<-lL];exact(γ.mp hj).1
   exact#[j,_,hl,hj,ρ hl,bz hl]
 obtain⟨e1,e2,e3⟩:q'.n=q.n/\q'.let3=q.let3/\q'.sh=q.sh:=by
   have h0:0<ks.length:=l1;have h0':0<L.length:=∅;have g:=((kk 0 _ _ (ρ h0) (ρ h0')).2.2 h0).2;exact uV (W.kp _ (bz h0)).ok A g
 refine#[L,qy λj=>?_,λkd' kvs' H7 s7 hk7 hkn=>#[sm.trans s7,λk2 h=>?_,λk2 h=>?_,ap,hk7,λk2 h kv hkv=>?_,e2.trans W.qi,e1.trans W.qn,e3.trans W.qs,W.n1,W.nx]];rw[bh,bh];by_cases hj:j<ks.length;have hj':j<L.length:=∅;rw[ρ hj,ρ hj'];exact congrArg some (kk j _ _ (ρ hj) (ρ hj')).1;rw[dz ∅,dz ∅];obtain⟨j,_,_,hj,_⟩:=idx k2 h;exact#[(kp j k2 hj).1,(kp j k2 hj).2.1];obtain⟨j,_,hl,hj,_⟩:=idx k2 h;have:=(kp j k2 hj).2.2.2.2;rw[xb1 hl] at this;exact this.same s7;obtain⟨j,k1',hl,hj,hj1,hm⟩:=idx k2 h;have S1:=W.kp k1' hm;have S2:=(kp j k2 hj).2.2.2.2;rw[xb1 hl] at S2;obtain⟨no,Cl⟩:=(kk j k1' k2 hj1 hj).2.2 hl;rcases hkn kv hkv with ⟨rfl,g⟩ | ⟨nw,g⟩
 exact ua3 S1.ok S1.hl A no Cl (W.kv k1' hm kv g);rcases hw with e | rfl | ⟨hz,hv⟩
 exact xb0 e nw;rcases g with ⟨g,_⟩ | ⟨g,_⟩ | ⟨g,_⟩
 exact xb0 rfl g;cases g;cases g;exact uU S1.ok S1.hl S2.ok hz hv k0 k1 A no Cl (W.kv k1' hm) g nw
theorem AnW.at{C:W7->wa}{F H2:Hp}{q q':St7}{w:Wy}{ct k n:Int}{z:Pc}{wd:Str}{v:V}{ks:List Kpr}{D:wa}{i:Nat}{ys:List V}{k1:Kpr}(h:AnW C F q q' w ct k n z wd v ks D i ys H2)(hi:ks[i]?=some k1):KS C k1.x k1.dx k1.a q k1.cs H2/\Same F H2/\ys.length=i:=by
 obtain⟨L,lL,_,sm,_,ts,_,kp,kk⟩:=h;have hiL:i<L.length:=by rw[lL];exact(γ.mp hi).1
 have eL:L[i]?=some k1:=by
   rw[ρ hiL,(kk i k1 _ hi (ρ hiL)).2.1 (Γ _)]
 have S:=(kp i k1 eL).2.2.2.2;rw[xb2 (cv _)] at S;exact#[S,sm,by rw[ts.1,ae]]
theorem K_{c:TT}{t u:TS}(M:Bool->Prop)(h1:∀H',Same H H'->M true->t D σ H')(h2:∀H',Same H H'->M false->u D σ H')(h:∀K':Bool->Hp->Prop,(∀b H',Same H H'->M b->K' b H')->c σ H K'):zI c t u D σ H:=
 h _ λb H' s hb=>by
   cases b with
   | true=>exact(xb1 rfl).mpr (h1 H' s hb)
   | false=>exact(xb2 ξ).mpr (h2 H' s hb)
def LvW(H1:Hp)(ps:List Pc)(D:wa)(i:Nat)(ys:List V)(H2:Hp):Prop:=Same H1 H2/\H2 D=some (.lst ys)/\AJ H2 ys ((ps.take i).filter (·.v))/\ys.length<=i
abbrev yB(C:W7->wa)(F:Hp)(i:W7)(n sh:Int)(l kd:wa)(kvs:List (List Key×V))(q:St7)(ks:List Kpr)(kn c:Int)(H:Hp)(Q:VK):Prop:=∀(kd':wa) (kvs':List (List Key×V)) (q':St7) (ks':List Kpr) (H':Hp),Wd C F i n sh kd' kvs' q' ks' H'->ks'.map (·.x)=ks.map (·.x)->kvs'.length<=kvs.length+1->Q (.ref kd') H'
def jF(C:W7->wa):Sp:=λvs H Q _=>∃(F:Hp)(i:W7)(n sh:Int)(l kd:wa) (kvs:List (List Key×V)) (q:St7) (ks:List Kpr) (kn c:Int),vs=[.ref l,.ref kd,.int kn,.int c]/\Wd C F i n sh kd kvs q ks H/\H l=some (.lst (ks.map λk=>V.ref k.x))/\1<=ks.length/\ks.length<=2/\kvs.length<=400/\(i = .row->kn=5)/\yB C F i n sh l kd kvs q ks kn c H Q
variable (AM:∎ "_law_walk" 2 xa4 (iZ K))
variable (CC:∎ "_law_way" 1 ϯ (zZ))
variable (DE:∎ "_law_number" 1 so (B_))
variable (DF:∎ "_law_answer" 11 ϕ (jB ⋯))
variable (DG:∎ "_law_known" 1 ϓ (jE))
include T Ak AL AM CC DE DF DG in
theorem Ob(S:Src K mg "_law_step" Sk):∎ "_law_step" 12 ϗ (jF ⋯):=by
 refine S.okx Ex Jk λf _ A _ s H vs Q E hr h=>#[_,PSs.nox (Ad (k_ 4 Ex (l_ AM hr (Aa (Bv Ak AX hr (Az AQ m_ Ai (λ_ _=>rfl))) Ab))) (Ad (AA (Ax HG p_ BH) (Aj (Aq BH)) AB) (Ad (oF (i:=5) xa5 Ex.nd rfl (υ rfl) rfl (BX p_) (λ_ _ _ _ _=>(AF (i:=0) (show ((xa5:List Str)++([]:List Str)).Nodup by decide +kernel) rfl (υ rfl))) (λ_ _ _ _ _=>(HI (Q4 (K:=K) rfl (Az (Ui (K:=K) rfl) m_ Ai (λ_ _=>rfl)) (λ_=>rfl)))) (λ_ _ _ _ _=>m_) ) (Ad (Au (i:=6) Ex.nd rfl (lj rfl) (l_ CC hr (Aa n_ (Aa o_ Ab)))) (Ad (AA (PW.pt (DL (Ax (pQ hr.units) q_ (Cw Ab)) (DR (Ax Df t_ AG)))) (Aj (Au (i:=6) Ex.nd rfl (lj rfl) AG)) AB) (Ad (Au (i:=7) Ex.nd rfl (lj rfl) (Az AQ (Ao K3 q_ (Cw (Aa (BK (Aa Ai (Aa Ai (Aa AV Ab)))) Ab))) (Ao BI (Ao BI (Ao GT o_ Ai) Ai) (A7 (kJ rfl) s!"" T.n_max ur (Aa Ai (Aa (A7 CG s!"" T.n_len bq (Aa q_ Ab)) Ab)))) (λ_ _=>rfl))) (Ad (Au (i:=8) Ex.nd rfl (lj rfl) (Ao AU Ai (Ao BI (Ao BI (Ao GT o_ Ai) Ai) (Az AQ (Cw (Aa Ai (Aa Ai (Aa Ai Ab)))) (Ao BI (Ao BI (Ao GT o_ Ai) Ai) Ai) (λ_ _=>rfl))))) (Ad (Au (i:=9) Ex.nd rfl (lj rfl) (Ao BI (Ao BI (Ao GT o_ Ai) Ai) (Ao BY (Az By r_ Ai (λ_ _=>rfl)) Ai))) (Ad (Au (i:=10) Ex.nd rfl (lj rfl) (l_ DE hr (Aa (Ao HD o_ Ai) Ab))) (Ad (Mg (i:=11) ϰ ϟ [6,8,9,10,7] Ex.nd rfl (υ rfl) rfl (BX m_) (λ_ _ _ _ _=>(AF (i:=0) (show ((ϰ:List Str)++(ϟ:List Str)).Nodup by decide +kernel) rfl (υ rfl))) (λ_ _ _ _ _=>K6) (λ_ _ _ _ _=>(l_ DF hr (Aa m_ (Aa mt (Aa (Ao AU (Az (Ui (K:=K) rfl) q_ Ai (λ_ _=>rfl)) Ai) (Aa n_ (Aa o_ (Aa p_ Ab)))))))) (Mv rfl rfl rfl (Mv rfl rfl rfl (Mv rfl rfl rfl (Mv rfl rfl rfl (Mv rfl rfl rfl Uk))))) (sB ϟ (by decide +kernel) (Mw rfl (Mw rfl (Mw rfl (Mw rfl (Mw rfl ua9)))))) (λy h=>DW (by decide +kernel) h)) (Ad (AA (Ax (bQ hr.units0) (Az AQ (pv 11) Ai (λ_ _=>rfl)) (Az AQ (pv 11) (Ao BY (A7 CG s!"" T.n_len bq (Aa (pv 11) Ab)) Ai) (λ_ _=>rfl))) (Aj (Aq BH)) AB) (Ad (AA (Ax Tt t_ (BK (Aa AG (Aa AG Ab))) rfl) (Ad (AA (PW.pt (DL (Ax A8 (Az By (Az AQ (pv 11) Ai (λ_ _=>rfl)) Ai (λ_ _=>rfl)) AG) (DR (Bd (BU (l_ AL hr (Aa (Az By (Az AQ (pv 11) Ai (λ_ _=>rfl)) Ai (λ_ _=>rfl)) Ab))))))) (Aj (Aq BH)) AB) (Aj (AA (Ax A8 t_ AG) (Aj (Aq mt)) AB))) (Aj (AA (Ax (bQ hr.units0) (Az AQ (pv 11) Ai (λ_ _=>rfl)) (BK (Aa AG (Aa BH Ab)))) (Aj (Aq BH)) AB))) (Aj (Aq (l_ DG hr (Aa mt (Aa t_ (Aa (Ao AU (Az By r_ Ai (λ_ _=>rfl)) Ai) (Aa (Az AQ (pv 11) Ai (λ_ _=>rfl)) (Aa (pv 9) (Aa (pv 10) (Aa (A7 (QJ rfl) s!"" T.n_min fw (Aa s_ (Aa (Ao BY (Az By r_ Ai (λ_ _=>rfl)) Ai) Ab))) Ab)))))))))))))))))))))),?_];symm;obtain⟨F,i,n,sh,l,kd,kvs,q,ks,kn,c,rfl,W0,hl,l1,l2,hkl,hr,kk⟩:=h;obtain⟨k0,hk0⟩:∃k0,ks[0]?=some k0:=#[_,ρ ∅]
 have m0:=ζ hk0;have S0:=W0.kp k0 m0;have hx0:=S0.hx;refine Cj9 (M:=λσ' H'=>∃(bb:wa)(us:List V),Same H H'/\H' bb=some (.lst us)/\AJ H' us q.ps/\σ'=[xa8 l,xa8 kd,xa9 kn,xa9 c,xa8 bb,none,none,none,none,none,none,none]) (λnx hM=>?_) ?_;ext;refine Bh (SqL.of hl) (v:=.ref k0.x) (Bs (j:=0) (by rw[bh,hk0];rfl)) ?_;ext;refine#[_,k0.x,k0.dx,k0.a,k0.cs,rfl,hx0,S0.ha,λp1 H1 np1 s1 hp1=>?_];ext;refine#[p1,k0.cs,q.ps,rfl,hp1,S0.ch,S0.mm,S0.hz,λbb us H2 nbb s2 hbb pa=>?_];ext;exact hM _ _ #[bb,us,s1.trans s2,hbb,pa,rfl];rintro σ' H1 ⟨bb,us,s1,hbb,pa,rfl⟩;have hul:=pa.1;have hple:=S0.ch.le;have hz0:=S0.hz;refine Cj9 (M:=λσ' H'=>Same H1 H'/\σ'=[xa8 l,xa8 kd,xa9 kn,xa9 c,xa8 bb,none,none,none,none,none,none,none]) (λnx hM=>?_) ?_;ext;exact hM _ _ #[Same.refl _,rfl];rintro σ' H2 ⟨s2,rfl⟩;have hbb2:=s2 bb _ hbb;have pa2:=pa.same s2;refine Cj9 (M:=λσ' H'=>∃(lv:wa)(ys:List V),Same H2 H'/\H' lv=some (.lst ys)/\AJ H' ys (q.ps.filter (·.v))/\ys.length<=us.length/\σ'=[xa8 l,xa8 kd,xa9 kn,xa9 c,xa8 bb,xa8 lv,none,none,none,none,none,none]) (λnx hM=>?_) ?_;ext;refine#[bb,rfl,#[_,SqL.of hbb2],DX (K:=K) (a:=bb) (xs:=us) (fs:=[]) (LvW H2 q.ps) (λD hD=>#[Same.new hD,xb5,AJ.nil,Γ _]) (λD i ys H2 _ h=>SqL.of (h.1 bb _ hbb2)) ?_ ?_];rintro D i y ys H5 hD hi ⟨s5,hD5,py,hyl⟩ τ hτ;have hil:i<us.length:=(γ.mp hi).1;obtain⟨t,z,rfl,hz1,hT⟩:=La (pa2.same s5) hi;have hfl:=take_succ_filter (λp:Pc=>p.v) q.ps i z hz1;obtain⟨τ0,rfl⟩:=c_ hτ;ext;refine#[#[[_],rfl,rfl],?_];ext;refine CM (λhv=>?_) (λhv=>?_);rw[xb1 hv] at hfl;ext;refine#[hD5,small4000 ∅,Co hil #[s5.put hD,xb5,?_,by rw[Δ,Ω];lia]];rw[hfl];exact(py.mono (DV (o:=.lst (ys++[.ref t])) (.inr #[_,hD5]))).snoc (look_tup hD5 hT);rw[xb2 (by rw[hv];exact ξ),aq] at hfl;exact Co hil #[s5,hD5,by rw[hfl];exact py,∅];rintro D ys H3 hD ⟨s3,hD3,py,hyl⟩;rw[av ∅] at py;ext;exact hM _ _ #[D,ys,s3,hD3,py,hyl,rfl];rintro σ' H3 ⟨lv,ys,s3,hlv,py,hyl,rfl⟩;refine Cj9 (M:=λσ' H'=>Same H3 H'/\∃w:Wy,(kn=5->w≠.give/\w≠.grow)/\σ'=[xa8 l,xa8 kd,xa9 kn,xa9 c,xa8 bb,xa8 lv,some (.str w.s),none,none,none,none,none]) (λnx hM=>?_) ?_;ext;refine#[kn,c,rfl,λw hw H4 s4=>?_];ext;exact hM _ _ #[s4,w,hw,rfl];rintro σ' H4 ⟨s4,w0,hw0,rfl⟩;refine Cj9 (M:=λσ' H'=>Same H4 H'/\∃w:Wy,(kn=5->w≠.give/\w≠.grow)/\(ys=[]->w = .ask\/w = .all)/\σ'=[xa8 l,xa8 kd,xa9 kn,xa9 c,xa8 bb,xa8 lv,some (.str w.s),none,none,none,none,none]) (λnx hM=>?_) ?_;have hlv4:=s4 lv _ hlv;ext;intro p5 np5;ext;refine#[lv,p5,ys,rfl,rfl,look_put np5 hlv4,xb5,?_];have s5:Same H4 (upd H4 p5 (.lst [])):=Same.new np5;cases ys with
 | nil=>
   ext;refine iteT ?_;ext;refine AW (λh=>?_) (λh=>?_);ext;exact hM _ _ #[s5,w0,hw0,λ_=>.inr (Wy.inj (w':=.all) h),rfl];ext;exact hM _ _ #[s5,.ask,λ_=>#[(λe=>by cases e),(λe=>by cases e)],λ_=>.inl rfl,rfl]
 | cons y yr=>
   ext;refine iteF ?_;ext;exact hM _ _ #[s5,w0,hw0,(λe=>by cases e),rfl]
 rintro σ' H5 ⟨s5,w,hw,hw2,rfl⟩;have hlv5:=s5 lv _ (s4 lv _ hlv);have py5:=(py.same s4).same s5;have s15:Same H H5:=s1.trans (s2.trans (s3.trans (s4.trans s5)));clear hw0 s5 s4 s3 s2 s1 hbb2 pa2 hbb pa hlv py;refine Cj9 (M:=λσ' H'=>Same H5 H'/\∃(t:wa)(z:Pc),H' t=some (.tup [.int z.a,.int z.l,.bl z.v])/\3<=z.l/\(w = .ask\/w = .all\/z∈q.ps/\z.v=true)/\σ'=[xa8 l,xa8 kd,xa9 kn,xa9 c,xa8 bb,xa8 lv,some (.str w.s),xa8 t,none,none,none,none]) (λnx hM=>?_) ?_;have hn76:ys.length<=76:=by
   have e1:=S0.hl;have e2:=W0.qn;have e3:=W0.n1;lia
 ext;intro t6 nt6;ext;intro p7 np7;have hl7:upd (upd H5 t6 (.tup [.int 0,.int 3,.bl true])) p7 (.lst [.ref t6]) lv=some (.lst ys):=look_put np7 (look_put nt6 hlv5);have hz:ys.length+[V.ref t6].length<=wt:=gh (small4000 (by rw[Ω];lia));refine r_cat hl7 xb5 hz λp8 np8=>?_;have s8:Same H5 (upd (upd (upd H5 t6 (.tup [.int 0,.int 3,.bl true])) p7 (.lst [.ref t6])) p8 (.lst (ys++[.ref t6]))):=((Same.new nt6).trans (Same.new np7)).trans (Same.new np8);have h8:upd (upd (upd H5 t6 (.tup [.int 0,.int 3,.bl true])) p7 (.lst [.ref t6])) p8 (.lst (ys++[.ref t6])) p8=some (.lst (ys++[.ref t6])):=xb5;have t8:upd (upd (upd H5 t6 (.tup [.int 0,.int 3,.bl true])) p7 (.lst [.ref t6])) p8 (.lst (ys++[.ref t6])) t6=some (.tup [.int 0,.int 3,.bl true]):=look_put np8 (look_put np7 xb5);generalize upd (upd (upd H5 t6 (.tup [.int 0,.int 3,.bl true])) p7 (.lst [.ref t6])) p8 (.lst (ys++[.ref t6]))=H8 at s8 h8 t8 ⊢;have hlv8:=s8 lv _ hlv5;ext;have hmx:(0:Int)<if (ys.length:Int)>1 then (ys.length:Int) else 1:=by split <;> lia
 have m1:=br (c*40692%30011) (Int.ne_of_gt hmx);have m2:=bg (c*40692%30011) hmx;obtain⟨m,em⟩:∃m:Nat,c*40692%30011%(if (ys.length:Int)>1 then (ys.length:Int) else 1)=(m:Int):=#[_,(bc m1).symm]
 rw[em] at m2 ⊢;have one:∃(t:wa)(z:Pc),(ys++[V.ref t6])[m]?=some (.ref t)/\H8 t=some (.tup [.int z.a,.int z.l,.bl z.v])/\3<=z.l/\(w = .ask\/w = .all\/z∈q.ps/\z.v=true):=by
   by_cases hy:ys=[];subst hy;have e0:m=0:=by
     have m2:(m:Int)<1:=m2;lia
   subst e0;exact#[t6,#[0,3,true],rfl,t8,ar _,(hw2 rfl).elim .inl λh=>.inr (.inl h)];have hy1:1<=ys.length:=io.mpr hy;have hm:m<ys.length:=by split at m2 <;> lia
   obtain⟨t,z,e1,e2,e3⟩:=La (py5.same s8) (ρ hm);obtain⟨g1,g2⟩:=ib.mp (ζ e2);exact#[t,z,by rw[ψ hm,ρ hm,e1],e3,(S0.ch.mem z g1).2.2.1 g2,.inr (.inr #[g1,g2])]
 obtain⟨t,z,e1,e2,e3,e4⟩:=one;refine Bh (SqL.of h8) (Bs e1) ?_;ext;exact hM _ _ #[s8,t,z,e2,e3,e4,rfl];rintro σ' H6 ⟨s6,t,z,ht,z3,hwz,rfl⟩;refine Cj9 (M:=λσ' H'=>Same H6 H'/\∃ct:Int,1<=ct/\ct<=14/\σ'=[xa8 l,xa8 kd,xa9 kn,xa9 c,xa8 bb,xa8 lv,some (.str w.s),xa8 t,xa9 ct,none,none,none]) (λnx hM=>?_) ?_;have v0:=br (c*16807%31337) (show (3:Int)≠0 by decide);have v1:=bg (c*16807%31337) (show (0:Int)<3 by decide);have hmm:1<=([2,6,14]:List Int).getD (c*16807%31337%3).toNat 0/\([2,6,14]:List Int).getD (c*16807%31337%3).toNat 0<=14:=by
   rcases(show (c*16807%31337%3).toNat=0\/(c*16807%31337%3).toNat=1\/(c*16807%31337%3).toNat=2 by lia) with h | h | h <;> rw[h] <;> decide
 ext;intro p1 np1;have hp1:upd H6 p1 (.lst [.int 2,.int 6,.int 14]) p1=some (.lst (([2,6,14]:List Int).map V.int)):=xb5;ext;have:=br (c*48271%65537) (show ([2,6,14]:List Int).getD (c*16807%31337%3).toNat 0≠0 by lia);have:=bg (c*48271%65537) (show 0<([2,6,14]:List Int).getD (c*16807%31337%3).toNat 0 by lia);exact hM _ _ #[Same.new np1,_,∅,∅,rfl];rintro σ' H7 ⟨s7,ct,ct1,ct2,rfl⟩;have ht7:=s7 t _ ht;refine Cj9 (M:=λσ' H'=>H7=H'/\∃k:Int,0<=k/\k<z.l-2/\σ'=[xa8 l,xa8 kd,xa9 kn,xa9 c,xa8 bb,xa8 lv,some (.str w.s),xa8 t,xa9 ct,xa9 k,none,none]) (λnx hM=>?_) ?_;ext;exact hM _ _ #[rfl,_,br _ ∅,bg _ ∅,rfl];rintro σ' _ ⟨rfl,k,kp0,kp1,rfl⟩;refine Cj9 (M:=λσ' H'=>H7=H'/\∃nb:Int,σ'=[xa8 l,xa8 kd,xa9 kn,xa9 c,xa8 bb,xa8 lv,some (.str w.s),xa8 t,xa9 ct,xa9 k,xa9 nb,none]) (λnx hM=>?_) ?_;ext;refine#[_,rfl,λnb=>?_];ext;exact hM _ _ #[rfl,nb,rfl];rintro σ' _ ⟨rfl,nb,rfl⟩;have s07:=s15.trans (s6.trans s7);obtain⟨sF,W7⟩:=(W0.same s07).less;have hl7:=s07 l _ hl;have hkd7:=W7.hk;have qn1:1<=q.n:=by rw[W7.qn];exact W7.n1.1
 obtain⟨wd,v,q',hA⟩:=uS (ct:=ct) (z:=z) w S0.ok qn1;have ne:∀{b:wa}{o:HO},H7 b=some o->(∀c d f,o≠.ins c d f)->(∀ns:List Int,o≠.lst (ns.map V.int))->less ks H7 b=some o:=λh n1 n2=>Td h λk hk=>(W7.kp k hk).ne h n1 n2;have fl:less ks H7 l=some (.lst (ks.map λk=>V.ref k.x)):=ne hl7 (λ_ _ _ e=>by cases e) λns e=>by
   have e:=HO.lst.inj e;obtain⟨k1,kr,rfl⟩:∃k1 kr,ks=k1::kr:=by
     cases ks with
     | nil=>cases hk0
     | cons k1 kr=>exact#[_,_,rfl]
   cases ns with
   | nil=>cases e
   | cons _ _=>cases (jt.inj e).1
 have ft:less ks H7 t=some (.tup [.int z.a,.int z.l,.bl z.v]):=ne ht7 (λ_ _ _ e=>by cases e) (λ_ e=>by cases e);have fk:less ks H7 kd=some (.dT kvs):=ne hkd7 (λ_ _ _ e=>by cases e) (λ_ e=>by cases e);refine Cj9 (M:=λσ' H'=>∃(D:wa)(ys:List V),AnW ⋯ (less ks H7) q q' w ct k nb z wd v ks D ks.length ys H'/\σ'=[xa8 l,xa8 kd,xa9 kn,xa9 c,xa8 bb,xa8 lv,some (.str w.s),xa8 t,xa9 ct,xa9 k,xa9 nb,xa8 D]) (λnx hM=>?_) ?_;ext;refine#[l,rfl,#[_,SqL.of hl7],DX (K:=K) (a:=l) (xs:=ks.map λk=>V.ref k.x) (fs:=[some (.str w.s),xa9 ct,xa9 k,xa9 nb,xa8 t]) (AnW ⋯ (less ks H7) q q' w ct k nb z wd v ks) (λD hD=>?_) (λD i ys H2 _ h=>?_) ?_ ?_];refine#[ks,rfl,LC.free hD,LC.trans (Same.new hD),xb5,#[rfl,λj xs h=>by cases h],W7.ap,λj k1 h=>?_,λj k1 k2 h1 h2=>?_];have m:=ζ h;have S1:=W7.kp k1 m;refine#[(W7.fx k1 m).1,(W7.fx k1 m).2,(λe=>by have:=S1.hx;rw[<-e,hD] at this;cases this),(λe=>by have:=S1.ha;rw[<-e,hD] at this;cases this),?_];rw[xb2 (cu _)];exact S1.same (Same.new hD);rw[h1] at h2;cases h2;exact#[rfl,λ_=>rfl,λh=>xb0 h (cu _)];obtain⟨_,_,_,sm,_⟩:=h;exact SqL.of (sm l _ fl);rintro D i y ys H2 hD hi hW τ hτ;rw[bh] at hi;obtain⟨k1,hk1,rfl⟩:=cj.mp hi;obtain⟨S1,sm2,hyl⟩:=hW.at hk1;have ht2:=sm2 t _ ft;have hil:i<ks.length:=(γ.mp hk1).1;obtain⟨τ0,rfl⟩:=c_ hτ;ext;refine#[#[[_],rfl,rfl],?_];ext;refine#[k1.x,k1.dx,k1.a,q,k1.cs,z,w,ct,k,nb,rfl,S1,by rw[W7.qi];exact W7.nx,qn1,hwz,λh e=>?_,ct1,∅,kp0,kp1,λwd2 v2 q2 a2 t2 cs2 H3 A2 no2 C2 ha2 ht2 kA2 l2 S2 hT2=>?_];obtain⟨g1,g2⟩:=hw (hr (W7.qi.symm.trans e));exact h.elim g1 g2
 . obtain⟨rfl,rfl,rfl⟩:=uR S1.ok hA A2;obtain⟨g1,g2⟩:=hW.next hk1 no2 C2 ha2 ht2 kA2 S2 hT2;exact#[g1,small4000 ∅,Co (by rw[Φ];exact hil) g2]
 rintro D ys H2 hD hW;rw[Φ] at hW;ext;exact hM _ _ #[D,ys,hW,rfl];rintro σ' H8 ⟨D,ts,hW8,rfl⟩;obtain⟨L,hLx,mk⟩:=hW8.world W7 l1 hwz kp0 kp1 hA;obtain⟨_,_,_,sm8,hD8,hts,_⟩:=hW8;have htl:=hts.1;rw[ae] at htl;obtain⟨u0,eu0,hu0⟩:=hts.2 0 [.str wd,v] (by rw[cf,xb1 ∅]);obtain⟨u1,eu1,hu1⟩:=hts.2 (ts.length-1) [.str wd,v] (by rw[cf,xb1 ∅]);have hfl:[V.str wd,v].all BC=true:=by cases hA <;> rfl
 have ht8:=sm8 t _ ft;have hk8:=sm8 kd _ fk;refine Cj9 (M:=λσ' H'=>H8=H'/\σ'=[xa8 l,xa8 kd,xa9 kn,xa9 c,xa8 bb,xa8 lv,some (.str w.s),xa8 t,xa9 ct,xa9 k,xa9 nb,xa8 D]) (λnx hM=>?_) ?_;ext;refine Bh (SqL.of hD8) (Bs (j:=0) eu0) ?_;ext;refine Bh (SqL.of hD8) (v:=.ref u1) (by rw[show (ts.length:Int)-1=((ts.length-1:Nat):Int) by lia];exact Bs eu1) ?_;ext;refine#[u0,u1,_,_,rfl,rfl,SqT.of hu0,SqT.of hu1,hfl,hfl,?_];rw[Me hfl];ext;exact hM _ _ #[rfl,rfl];rintro σ' _ ⟨rfl,rfl⟩;refine CH (M:=λσ' H'=>w≠.ask/\Same H8 H'/\σ'=[xa8 l,xa8 kd,xa9 kn,xa9 c,xa8 bb,xa8 lv,some (.str w.s),xa8 t,xa9 ct,xa9 k,xa9 nb,xa8 D]) ?_ (λnx hM=>?_);rintro σ' H9 ⟨nw,s9,rfl⟩;have hD9:=s9 D _ hD8;have ht9:=s9 t _ ht8;have hu9:=s9 u0 _ hu0;have hk9:=s9 kd _ hk8;ext;refine Bh (SqL.of hD9) (Bs (j:=0) eu0) ?_;ext;rw[show (if z.l-2<ct then z.l-2 else ct)=min ct (z.l-2) by split <;> lia];refine#[kd,u0,w,z.a+1,k,nb,_,wd,v,kvs,rfl,hk9,λkv h=>?_,hkl,hu9,λe hne=>?_,λkd' kvs' H' _ s' hk' hl' hkn=>?_];obtain⟨_,_,_,_,_,e,_⟩:=W7.kv k0 m0 kv h;exact#[_,by rw[e]];subst e;cases hA with
 | growY _=>exact#[_,rfl]
 | growN _ _=>exact xb0 rfl hne
 exact kk kd' kvs' q' L H' ((mk kd' kvs' H' (s9.trans s') hk' λkv h=>.inr #[nw,hkn kv h]).mono sF) hLx hl';refine K_ (λb=>(b=true->w = .ask\/w = .grow)/\(b=false->w≠.ask/\w≠.grow)) (λH9 s9 hB=>?_) (λH9 s9 hB=>?_) (λK' hK=>?_);have hD9:=s9 D _ hD8;have hu9:=s9 u0 _ hu0;refine CH (M:=λσ' H'=>H9=H'/\σ'=[xa8 l,xa8 kd,xa9 kn,xa9 c,xa8 bb,xa8 lv,some (.str w.s),xa8 t,xa9 ct,xa9 k,xa9 nb,xa8 D]) ?_ (λnx hM=>?_);rintro σ' _ ⟨rfl,rfl⟩;ext;refine AW (λh=>?_) (λh=>?_);obtain rfl:=Wy.inj (w':=.ask) h;ext;exact kk kd kvs q' L H9 ((mk kd kvs H9 s9 (s9 kd _ hk8) λkv h=>.inl #[rfl,h]).mono sF) hLx (jr _);ext;exact hM _ _ #[λe=>h (by rw[e];rfl),s9,rfl];have hc:(wd="at"/\∃p,v = .int p)\/wd="no":=by
   rcases hB.1 rfl with e | e <;> subst e <;> cases hA <;> first | exact .inl #[rfl,_,rfl] | exact .inr rfl
 rcases hc with ⟨rfl,p,rfl⟩ | rfl
 ext;refine Bh (SqL.of hD9) (Bs (j:=0) eu0) ?_;ext;refine Bh (SqL.of hD9) (Bs (j:=0) eu0) ?_;ext;exact hM _ _ #[rfl,rfl];ext;refine Bh (SqL.of hD9) (Bs (j:=0) eu0) ?_;ext;exact hM _ _ #[rfl,rfl];obtain⟨n1,n2⟩:=hB.2 rfl;have hD9:=s9 D _ hD8;have hu9:=s9 u0 _ hu0;obtain⟨rfl,rfl⟩:wd="at"/\v = .non:=by cases hA <;> first | exact#[rfl,rfl] | exact xb0 rfl n1 | exact xb0 rfl n2
 ext;refine Bh (SqL.of hD9) (Bs (j:=0) eu0) ?_;ext;intro p np;ext;refine#[u0,p,_,_,rfl,rfl,SqT.of (look_put np hu9),SqT.of xb5,hfl,rfl,?_];rw[Me hfl];ext;exact hM _ _ #[n1,s9.trans (Same.new np),rfl];ext;intro p np;ext;have hin:∃b:Bool,inV (.str w.s) [.str "ask",.str "grow"]=b/\(b=true->w = .ask\/w = .grow)/\(b=false->w≠.ask/\w≠.grow):=by
   cases w <;> first | exact#[true,by first | rfl | decide,m!"",(λe=>by cases e)] | exact#[true,by first | rfl | decide,λ_=>.inl rfl,(λe=>by cases e)] | exact#[true,by first | rfl | decide,λ_=>.inr rfl,(λe=>by cases e)] | exact#[false,by first | rfl | decide,(λe=>by cases e),λ_=>#[(λe=>by cases e),(λe=>by cases e)]]
 obtain⟨b,eb,hb⟩:=hin;exact#[p,_,rfl,.inr (SqT.of xb5),rfl,rfl,b,congrArg V.bl eb,hK b _ (Same.new np) hb]
theorem r_chain{Q:VK}{r r':R2}{ta tb tc:TE}(h:ta σ H λx H1=>tb σ H1 λy H2=>r x y H2 λz H3=>∃k,z = .bl k/\(if k=true then tc σ H3 λw' H4=>r' y w' H4 Q else Q (.bl false) H3)):ZZ r r' ta tb tc σ H Q:=h
def HoW(f:List (Option V))(H1:Hp)(i:Nat)(σ:L2.St)(H':Hp):Prop:=Same H1 H'/\∃x4 x5 x6:Option V,σ=f++[x4,x5,x6,none,none]
def jG(C:W7->wa):Sp:=λvs H Q _=>∃(x dx a kd:wa)(q:St7)(cs:List Int) (kvs:List (List Key×V)) (c:Int),vs=[.ref x,.ref kd,.int c]/\KS C x dx a q cs H/\H kd=some (.dT kvs)/\(∀kv∈kvs,KnE q cs kv)/\kvs.length<64/\∀H',Same H H'->Q (.bl true) H'
variable (D_get:A6 P w K mg base ⋯ "get" 9 ϙ [] (G_ ⋯))
include T Ak AL D_get in
theorem Oc(S:Src K mg "_law_holds" Sl):∎ "_law_holds" 10 Ϡ (jG ⋯):=by
 refine S.okx Jl Jm λf _ A _ s H vs Q E hr h=>?_;obtain⟨x,dx,a,kd,q,cs,kvs,c,rfl,S,hkd,hkv,hkl,kk⟩:=h;refine#[_,PSs.nox (Ad (k_ 3 Jl (Bv Ak AX hr m_)) (Ad (eO cc rfl mt (De rfl (AO (ld 4 Jl) (AO (ld 5 Jl) Cn))) (Ad (k_ 6 Jl (Ao AU p_ q_)) (Aj (AA (PW.pt (Bf (Bd (kG R_ Db Ai t_ (A7 CG s!"" T.n_len bq (Aa o_ Ab)))) (Bf (Bd (BU (l_ AL hr (Aa (Az AQ o_ t_ (λ_ _=>rfl)) Ab)))) (BB (Ax Df (Az AQ o_ t_ (λ_ _=>rfl)) (Q2 (HR hr.units) mt (BK (Aa p_ (Aa q_ Ab))) (λ_ _=>rfl))))))) (Aj (Aq AV)) AB)))) (Ad (AA (Bd (rZ mt (λ_=>rfl))) (Aj (Aq AV)) AB) (Ad (k_ 7 Jl (Az AQ (A7 (rP rfl) s!"" T.n_sorted tz (Aa mt Ab)) (Ao BI (Ao BI (Ao GT n_ Ai) Ai) (A7 rY s!"" T.n_len bq (Aa mt Ab))) (λ_ _=>rfl))) (Ad (k_ 8 Jl (B5 D_get AX hr m_ (Aa (Az By r_ Ai (λ_ _=>rfl)) (Aa (Az By r_ Ai (λ_ _=>rfl)) Ab)))) (Aj (Aq (K0 (l_ AL hr (Aa s_ Ab)) (HA (Er A8 s_ (Q2 (HR hr.units) mt r_ (λ_ _=>rfl)))))))))))),?_];symm;have hx:=S.hx;ext;refine#[_,x,dx,a,cs,rfl,hx,S.ha,λpc H1 npc s1 hpc=>?_];have hkd1:=s1 kd _ hkd;walk_at "e";refine Cj9 (M:=λσ' H'=>Same H1 H'/\∃x4 x5 x6:Option V,σ'=[xa8 x,xa8 kd,xa9 c,xa8 pc]++[x4,x5,x6,none,none]) (λnx hM=>?_) ?_;refine eP λNF=>?_;ext;have fz:∀{o:Obj},∀b u,b≠kd->H1 b=some u->upd H1 kd (.frz o (.dT kvs)) b=some u:=λb u n h=>look_ne n h;have hck:pc≠kd:=λe=>by rw[e,hkd1] at hpc;cases hpc
 refine#[kd,kvs,rfl,hkd1,λo nf=>eU nf (HoW [xa8 x,xa8 kd,xa9 c,xa8 pc] (upd H1 kd (.frz o (.dT kvs)))) #[Same.refl _,_,_,_,rfl] (λi σ H' h=>h.1 kd _ xb5) ?_ ?_];rintro i key v b σ H2 hi hb ⟨s2,x4,x5,x6,rfl⟩;obtain⟨z,hz,zv,j,n,ekv,j0,j1,hc⟩:=hkv _ (ζ hi);obtain⟨rfl,rfl⟩:=Prod.mk.inj ekv;have hb:H2 b=some (.tup [.int (z.a+1),.int j]):=hb;have hc2:=s2 pc _ (look_ne hck hpc);have hkf:H2 kd=some (.frz o (.dT kvs)):=s2 kd _ xb5;obtain⟨z0,z1,_,z4⟩:=S.ch.mem z hz;obtain⟨v0,hv0,hm0⟩:=Ve (ζ hi);obtain⟨z',_,_,j',n',ekv',_,_,hc'⟩:=hkv _ hm0;obtain⟨e1,rfl⟩:=Prod.mk.inj ekv';obtain⟨e2,rfl⟩:=Tc e1;rw[<-e2] at hc';have e3:cs.getD (z.a+1+j).toNat 0=n':=DT hc';ext
 try refine r_chain ?_
 ext;intro p np;refine#[kd,.int n',rfl,by have:=eV (k:=pk (z.a+1,j)) (look_put np hkf) (xb5 (H:=H2) (a:=p));rwa [hv0] at this,?_];rw[e3];ext;exact#[s2.trans (Same.new np),_,_,_,rfl];rintro σ H2 ⟨s2,x4,x5,x6,rfl⟩;refine hM _ _ #[λb u h=>?_,x4,x5,x6,rfl];by_cases e:b=kd;subst e;rw[hkd1] at h;rw[xb5,h];exact look_ne e (s2 b u (look_ne e h));rintro σ' H2 ⟨s2,x4,x5,x6,rfl⟩;have hkd2:=s2 kd _ hkd1;have S2:=(S.same s1).same s2;have s02:=s1.trans s2;ext;refine#[kd,kvs,rfl,hkd2,?_];by_cases hz:kvs.length=0;rw[xb4 (λh=>h hz)];ext;exact kk H2 s02;rw[xb3 hz];ext;refine#[kd,kvs,rfl,hkd2,λkv h=>?_,∅,hkl,λD us nD hul hus=>?_];obtain⟨_,_,_,_,_,e,_⟩:=hkv kv h;exact#[_,by rw[e]];have s3:Same H2 (upd H2 D (.lst us)):=Same.new nD;have hD3:upd H2 D (.lst us) D=some (.lst us):=xb5;replace hus:∀u∈us,∃b,∃kv∈kvs,u = .ref b/\upd H2 D (.lst us) b=some (.tup (kv.1.map kV)):=λu h=>by
   obtain⟨b,kv,h1,h2,h3⟩:=hus u h;exact#[b,kv,h1,h2,s3 b _ h3]
 generalize upd H2 D (.lst us)=H3 at s3 hD3 hus ⊢;have hkd3:=s3 kd _ hkd2;ext;refine#[kd,kvs,rfl,hkd3,?_];ext;have m1:=br (c*40692%30011) (show (kvs.length:Int)≠0 by lia);have m2:=bg (c*40692%30011) (show (0:Int)<(kvs.length:Int) by lia);obtain⟨m,em⟩:∃m:Nat,c*40692%30011%(kvs.length:Int)=(m:Int):=#[_,(bc m1).symm]
 rw[em] at m2 ⊢;have hm:m<us.length:=∅;obtain⟨b,kv,h1,h2,h3⟩:=hus _ (bz hm);obtain⟨z,hz,zv,j,n,rfl,j0,j1,hc⟩:=hkv kv h1;have h3:H3 b=some (.tup [.int (z.a+1),.int j]):=h3;obtain⟨v0,hv0,hm0⟩:=Ve h1;obtain⟨z',_,_,j',n',ekv',_,_,hc'⟩:=hkv _ hm0;obtain⟨e1,rfl⟩:=Prod.mk.inj ekv';obtain⟨e2,rfl⟩:=Tc e1;rw[<-e2] at hc';have e3:cs.getD (z.a+1+j).toNat 0=n':=DT hc';refine Bh (SqL.of hD3) (v:=.ref b) (Bs (by rw[ρ hm,h2])) ?_;have S3:=S2.same s3;have hx3:=S3.hx;ext;refine#[x,dx,a,q,cs,z,j,rfl,rfl,S3,hz,zv,j0,j1,λH4 s4=>?_];rw[e3];have h4:=s4 b _ h3;ext;refine#[kd,.int n',rfl,by have:=DGet.t (k:=pk (z.a+1,j)) (s4 kd _ hkd3) h4;rwa [hv0] at this,?_];ext;rw[xb3 rfl];exact kk H4 (s02.trans (s3.trans s4))
def SeW(f:List (Option V))(H1:Hp)(i:Nat)(σ:L2.St)(H':Hp):Prop:=Same H1 H'/\∃x4:Option V,σ=f++[x4]
def jH(C:W7->wa):Sp:=λvs H Q _=>∃(F:Hp)(i:W7)(n sh:Int)(l kd:wa) (kvs:List (List Key×V)) (q:St7) (ks:List Kpr) (c:Int),vs=[.ref l,.ref kd,.int c]/\Wd C F i n sh kd kvs q ks H/\H l=some (.lst (ks.map λk=>V.ref k.x))/\1<=ks.length/\kvs.length<64/\∀H',Same H H'->Q (.bl true) H'
variable (Cf:∎ "_law_alike" 2 Ϯ (iY))
variable (DH:∎ "_law_holds" 10 Ϡ (jG ⋯))
include T AI Ak AM Cf DH in
theorem Od(S:Src K mg "_law_seen" Sm):∎ "_law_seen" 11 Ϟ (jH ⋯):=by
 refine S.okx UQ Jn λf _ A _ s H vs Q E hr h=>?_;obtain⟨F,i,n,sh,l,kd,kvs,q,ks,c,rfl,W,hl,l1,hkl,kk⟩:=h;refine#[_,PSs.nox (Ad (k_ 3 UQ (l_ AM hr (Aa (Bv Ak AX hr (Az AQ m_ Ai (λ_ _=>rfl))) Ab))) (Ad (AA (Ax HG o_ BH) (Aj (Aq AV)) AB) (Ad (DM cc rfl (BX m_) (ld 4 UQ) (Ad (AA (PW.pt (Bf (Bd (BU (l_ Cf hr (Aa (Bv AI AX hr p_) (Aa o_ Ab))))) (BB (Ax (bR hr.units) (l_ AM hr (Aa (Bv Ak AX hr p_) Ab)) o_)))) (Aj (Aq AV)) AB) (Aj (AA (Bd (BU (l_ DH hr (Aa p_ (Aa mt (Aa n_ Ab)))))) (Aj (Aq AV)) AB)))) (Aj (Aq AV))))),?_];symm;obtain⟨k0,hk0⟩:∃k0,ks[0]?=some k0:=#[_,ρ ∅]
 have m0:=ζ hk0;have S0:=W.kp k0 m0;have hx0:=S0.hx;ext;refine Bh (SqL.of hl) (v:=.ref k0.x) (Bs (j:=0) (by rw[bh,hk0];rfl)) ?_;ext;refine#[_,k0.x,k0.dx,k0.a,k0.cs,rfl,hx0,S0.ha,λp1 H1 np1 s1 hp1=>?_];ext;refine#[p1,k0.cs,q.ps,rfl,hp1,S0.ch,S0.mm,S0.hz,λbb us H2 nbb s2 hbb pa=>?_];have s02:=s1.trans s2;have hl2:=s02 l _ hl;ext;refine#[l,rfl,#[_,SqL.of hl2],D3 (K:=K) (a:=l) (xs:=ks.map λk=>V.ref k.x) (SeW [xa8 l,xa8 kd,xa9 c,xa8 bb] H2) #[Same.refl _,none,rfl] (λi σ H' _ h=>SqL.of (h.1 l _ hl2)) ?_ ?_];rintro i y σ H3 hi ⟨s3,x4,rfl⟩;rw[bh] at hi;obtain⟨k1,hk1,rfl⟩:=cj.mp hi;have W3:=W.same (s02.trans s3);have S3:=W3.kp k1 (ζ hk1);have hx3:=S3.hx;ext;refine#[_,k1.x,k1.dx,k1.a,k1.cs,q.ps,rfl,S3.bs,λpp us4 H4 np4 s4 hp4 pa4=>?_];have hbb4:=s4 bb _ (s3 bb _ hbb);have pb4:=(pa.same s3).same s4;ext;refine#[pp,bb,us4,us,q.ps,rfl,hp4,hbb4,pa4,pb4,?_];have S4:=S3.same s4;have hx4:=S4.hx;ext;refine#[_,k1.x,k1.dx,k1.a,k1.cs,rfl,hx4,S4.ha,λp5 H5 np5 s5 hp5=>?_];ext;refine#[p5,k1.cs,q.ps,rfl,hp5,S4.ch,S4.mm,S4.hz,λb6 us6 H6 nb6 s6 hb6 pa6=>?_];have s46:=s5.trans s6;ext;refine#[b6,bb,us6,us,q.ps,rfl,rfl,hb6,s46 bb _ hbb4,pa6,pb4.same s46,?_];ext;have s36:=s4.trans s46;have W6:=W3.same s36;refine#[k1.x,k1.dx,k1.a,kd,q,k1.cs,kvs,c,rfl,W6.kp k1 (ζ hk1),W6.hk,W6.kv k1 (ζ hk1),hkl,λH7 s7=>?_];ext;exact#[s3.trans (s36.trans s7),_,rfl];rintro σ H3 ⟨s3,x4,rfl⟩;ext;exact kk H3 (s02.trans s3)
def LikW(f:List (Option V))(H1:Hp)(i:Nat)(σ:L2.St)(H':Hp):Prop:=Same H1 H'/\∃x3 x4 x5:Option V,σ=f++[x3,x4,x5]
def jI(K:δ):Sp:=λvs H Q _=>∃(f c:wa)(cs:List Int)(ps:List Pc),vs=[.ref f,.ref c]/\H f=some (.lst (cs.map V.int))/\H c=some (.lst (cs.map V.int))/\Am 0 ps cs.length/\At cs ps/\cs.length<=1200/\∀H',Same H H'->Q (.bl true) H'
include T AM in
theorem Oe(S:Src K mg "_law_like" Sn):∎ "_law_like" 3 ϭ (jI K):=by
 refine S.okx MD Jo λf _ A _ s H vs Q E hr h=>?_;obtain⟨f1,c1,cs,ps,rfl,hf,hc,ch,mk,hz,kk⟩:=h;refine#[_,PSs.nox (Ad (k_ 2 MD (l_ AM hr (Aa mt Ab))) (Ad (AA (PW.pt (Bf (Ax HG n_ BH) (BB (Ax (bR hr.units) (l_ AM hr (Aa m_ Ab)) n_)))) (Aj (Aq AV)) AB) (Ad (DM cc rfl (BX n_) (De rfl (AO (ld 3 MD) (AO (ld 4 MD) (AO (ld 5 MD) Cn)))) (Aj (AA (PW.pt (DL (Dc q_ (λ_=>rfl)) (DR (Ax (TJ hr.units) (Dg Dh m_ (Cq o_) (Cq (Ao AU o_ p_))) (Dg Dh mt (Cq o_) (Cq (Ao AU o_ p_))))))) (Aj (Aq AV)) AB))) (Aj (Aq AV))))),?_];symm;ext;refine#[c1,cs,ps,rfl,hc,ch,mk,hz,λbb us H1 nbb s1 hbb pa=>?_];have hf1:=s1 f1 _ hf;ext;refine#[f1,cs,ps,rfl,hf1,ch,mk,hz,λb2 us2 H2 nb2 s2 hb2 pa2=>?_];have hbb2:=s2 bb _ hbb;have pa22:=pa.same s2;have s02:=s1.trans s2;ext;refine#[b2,bb,us2,us,ps,rfl,rfl,hb2,hbb2,pa2,pa22,?_];ext;refine#[bb,rfl,#[_,SqL.of hbb2],D3 (K:=K) (a:=bb) (xs:=us) (LikW [xa8 f1,xa8 c1,xa8 bb] H2) #[Same.refl _,none,none,none,rfl] (λi σ H' _ h=>SqL.of (h.1 bb _ hbb2)) ?_ ?_];rintro i y σ H3 hi ⟨s3,x3,x4,x5,rfl⟩;obtain⟨t,z,rfl,hz1,hT⟩:=La (pa22.same s3) hi;have hf3:=s3 f1 _ (s02 f1 _ hf);have hc3:=s3 c1 _ (s02 c1 _ hc);cases hv:z.v with
 | false=>
   rw[hv] at hT;ext;exact#[s3,_,_,_,rfl]
 | true=>
   rw[hv] at hT;ext;intro p4 H4 np4 s4 hp4;have hc4:=s4 c1 _ hc3;ext;intro p5 H5 np5 s5 hp5;refine#[p4,p5,_,_,rfl,rfl,SqL.of (s5 p4 _ hp4),SqL.of hp5,?_];rw[xb3 rfl];ext;exact#[s3.trans (s4.trans s5),_,_,_,rfl]
 rintro σ H3 ⟨s3,x3,x4,x5,rfl⟩;ext;exact kk H3 (s02.trans s3)
theorem jJ(cs:List Int):(Bt (0::cs) 0).2=some 0:=by
 rw[Tx (b:=0) (by rw[Ψ];lia) ?_];unfold BZ CL;simp
def LrW(x pc lo tl:wa)(H1:Hp)(i:Nat)(σ:L2.St)(H':Hp):Prop:=Aw tl H1 H'/\∃(us:List V)(x3 x4:Option V),σ=[xa8 x,xa8 pc,xa8 tl,x3,x4,none,none]/\H' tl=some (.lst us)/\zH H' us (([[.bl true,.bl false,.bl false],[.bl false,.bl true,.bl false]]:List (List V)).take i)
theorem LrW.next{tl p:wa}{H8 H9 H11:Hp}{xs:List V}{i:Nat}(k:Aw tl H8 H9)(s:Same H9 H11)(h:H9 tl=some (.lst us))(ts:zH H9 us (xss.take i))(hi:xss[i]?=some xs)(hp:H11 p=some (.tup xs)):Aw tl H8 (upd H11 tl (.lst (us++[.ref p])))/\zH (upd H11 tl (.lst (us++[.ref p]))) (us++[.ref p]) (xss.take (i+1)):=by
 have up:∀(t:wa)(xs:List V),H11 t=some (.tup xs)->upd H11 tl (.lst (us++[.ref p])) t=some (.tup xs):=λt xs g=>look_ne (λe=>by rw[e,s tl _ h] at g;cases g) g;refine#[(k.trans (Aw.of s)).put,by rw[Δ,ts.1,bj,hi,Δ];rfl,λj ys hj=>?_];rw[bj,hi] at hj;rcases kq j (xss.take i).length with g | g
 rw[ψ g] at hj;obtain⟨t,g1,g2⟩:=ts.2 j ys hj;exact#[t,by rw[ψ (by rw[ts.1];exact g)];exact g1,up t _ (s t _ g2)];rw[θ g] at hj;rw[θ (by rw[ts.1];exact g),ts.1];generalize j-(xss.take i).length=m at hj;cases m with
 | zero=>
   have:xs=ys:=by simpa using hj
   exact#[p,rfl,by rw[<-this];exact up p _ hp]
 | succ m=>simp at hj
def jK(C:W7->wa):Sp:=λvs H Q _=>∃(x dx a:wa)(q:St7)(cs:List Int),vs=[.ref x]/\KS C x dx a q cs H/\1<=q.n/\q.n<=76/\∀H',Same H H'->Q (.bl true) H'
variable (Cg:A6 P w K mg base ⋯ "lay" 7 ϑ [] (iX K ⋯ AY Y5))
include T Ak AL Cg in
theorem Of(S:Src K mg "_law_lay_refused" So):∎ "_law_lay_refused" 8 ϰ (jK ⋯):=by
 refine S.okx Ey Jp λf _ A _ s H vs Q E hr h=>?_;obtain⟨x,dx,a,q,cs,rfl,S,n1,n76,kk⟩:=h;refine#[_,PSs.nox (Ad (k_ 1 Ey (Bv Ak AX hr m_)) (Ad (k_ 2 Ey (Cw Ab)) (Ad (DM cc rfl (BX (Cw (Aa (Ao K3 mt (Cw (Aa Ai Ab))) (Aa (Ao K3 (Cw (Aa Ai Ab)) (Dg Dh mt (Cq Ai) GU)) Ab)))) (ld 3 Ey) (Ad (k_ 4 Ey BH) (Ad (aZ (Le Cg hr m_ (Aa o_ Ab)) #[rfl,rfl] (aY (i:=5) s!"" T.sQ Ey.nd rfl rfl (λx=>(Aj (k_ 4 Ey (BK (Aa (A7 (TC iu.ga) s!"" T.n_isinstance bo (Aa q_ (Aa (DQ (v:=.ref AY) s!"" T.sR rfl) Ab))) (Aa (A7 (TC iu.ga) s!"" T.n_isinstance bo (Aa q_ (Aa (DQ (v:=.ref Y5) s!"" T.fY rfl) Ab))) (Aa (A7 (TC iu.ga) s!"" T.n_isinstance bo (Aa q_ (Aa (DQ (v:=.ref A5) s!"" T.fZ rfl) Ab))) Ab))))))) TM)) (Aj (Bm (HH dh cy db GX n_ (Aa p_ Ab))))))) (Ad (AA (PW.pt (Bf (Ax (uY hr.units) n_ (Cw (Aa (BK (Aa AV (Aa AV (Aa AV Ab)))) (Aa (BK (Aa AV (Aa AV (Aa AV Ab)))) Ab)))) (BB (Ax (TJ hr.units) (Bv Ak AX hr m_) mt)))) (Aj (Aq AV)) AB) (Ad (k_ 6 Ey BH) (Ad (aZ (Le Cg hr m_ (Aa (Ao K3 (Cw (Aa Ai Ab)) (Dg Dh mt (Cq Ai) GU)) Ab)) #[rfl,rfl] (aY (i:=5) s!"" T.fY Ey.nd rfl rfl (λx=>(Aj (k_ 6 Ey (mL iu.ga q_)))) TM)) (Aj (Aq (K0 (l_ AL hr (Aa t_ Ab)) (HA (Er A8 t_ Ai))))))))))),?_];symm;have hx:=S.hx;have hz:=S.hz;have hl1:1<=cs.length/\cs.length<=76:=by have:=S.hl;lia
 have sz:∀(us ws:List V),us.length<=100->ws.length<=100->us.length+ws.length<=wt:=λus ws h1 h2=>gh (small4000 ∅);ext;refine#[_,x,dx,a,cs,rfl,hx,S.ha,λpc H1 npc s1 hpc=>?_];ext;intro tl ntl;have hpc1:upd H1 tl (.lst []) pc=some (.lst (cs.map V.int)):=look_put ntl hpc;have s2:Same H1 (upd H1 tl (.lst [])):=Same.new ntl;have htl:upd H1 tl (.lst []) tl=some (.lst []):=xb5;generalize upd H1 tl (.lst [])=H2 at hpc1 s2 htl ⊢;walk_at "e";refine Cj9 (M:=λσ' H'=>Aw tl H2 H'/\∃(us:List V)(x3 x4:Option V),σ'=[xa8 x,xa8 pc,xa8 tl,x3,x4,none,none]/\H' tl=some (.lst us)/\zH H' us [[.bl true,.bl false,.bl false],[.bl false,.bl true,.bl false]]) (λnx hM=>?_) ?_;ext;intro p3 np3;refine r_cat (look_put np3 hpc1) xb5 (sz _ _ (by rw[Φ];lia) m!"") λp4 np4=>?_;ext;have s4:Same H2 (upd (upd H2 p3 (.lst [.int 2])) p4 (.lst (cs.map V.int++[.int 2]))):=(Same.new np3).trans (Same.new np4);have hp4:upd (upd H2 p3 (.lst [.int 2])) p4 (.lst (cs.map V.int++[.int 2])) p4=some (.lst ((cs++[2]).map V.int)):=by rw[ay];exact xb5
 generalize upd (upd H2 p3 (.lst [.int 2])) p4 (.lst (cs.map V.int++[.int 2]))=H4 at s4 hp4 ⊢;intro p5 np5;generalize eZ:upd _ p5 _=H5;obtain⟨s5,hp5⟩:=nw1 eZ np5;have hpc5:=s5 pc _ (s4 pc _ hpc1);ext;intro p6 H6 np6 s6 hp6;rw[Ur m!"" ∅] at hp6;have hl6:((cs.drop (1:Int).toNat).map V.int).length<=100:=by rw[Φ,cg];lia
 refine r_cat (s6 p5 _ hp5) hp6 (sz _ _ m!"" hl6) λp7 np7=>?_;have s7:Same H6 (upd H6 p7 (.lst ([.int 0]++(cs.drop (1:Int).toNat).map V.int))):=Same.new np7;have hp7:upd H6 p7 (.lst ([.int 0]++(cs.drop (1:Int).toNat).map V.int)) p7=some (.lst ((0::cs.drop 1).map V.int)):=xb5;generalize upd H6 p7 (.lst ([.int 0]++(cs.drop (1:Int).toNat).map V.int))=H7 at s7 hp7 ⊢;ext;intro lo nlo;generalize eZ:upd _ lo _=H8;obtain⟨s8,hlo⟩:=nw1 eZ nlo;have s47:=s5.trans (s6.trans (s7.trans s8));have hp48:=s47 p4 _ hp4;have hp78:=s8 p7 _ hp7;have s28:=s4.trans s47;have S8:=(((S.same s1).same s2).same s28)
 have htl8:=s28 tl _ htl;have nlt:lo≠tl:=λe=>by rw[e,htl8] at hlo;cases hlo
 have n4t:p4≠tl:=λe=>by
   rw[e,htl8] at hp48;have:=congrArg lz (HO.lst.inj (Θ hp48));rw[Φ,Δ] at this;cases this
 have n7t:p7≠tl:=λe=>by rw[e,htl8] at hp78;cases hp78
 have nxt:x≠tl:=λe=>by have:=S8.hx;rw[e,htl8] at this;cases this
 have nat:a≠tl:=λe=>by
   have:=S8.ha;rw[e,htl8] at this;have:=congrArg lz (HO.lst.inj (Θ this));rw[Φ,eo] at this;lia
 refine#[lo,rfl,#[_,SqL.of hlo],D3 (K:=K) (a:=lo) (xs:=[.ref p4,.ref p7]) (LrW x pc lo tl H8) #[Aw.refl,[],none,none,rfl,htl8,rfl,λj xs h=>by cases h] (λi σ H' _ h=>SqL.of (h.1 lo _ nlt hlo)) ?_ ?_]
 . rintro i y σ H9 hi ⟨k9,us,x3,x4,rfl,htl9,ts9⟩;have hx9:=k9 x _ nxt S8.hx;have ha9:=k9 a _ nat S8.ha;have hp49:=k9 p4 _ n4t hp48;have hp79:=k9 p7 _ n7t hp78
   match i,hi with
   | 0,hi=>
     have hi:V.ref p4=y:=by simpa using hi
     subst hi;ext;refine#[q.s,x,p4,dx,a,cs,cs++[2],rfl,hx9,ha9,SqL.of hp49,by rw[Δ,Ω];lia,∅,λ_ H10 s10=>#[_,rfl,λy hy=>.inl #[T.tH,?_]],λe=>xb0 e (by rw[Δ,Ω];lia)];have z0:=T.tG;have i1:=T.tL;have i2:=T.tM;have i3:=T.tN;ext;intro p np;have s11:Same H9 (upd (upd H10 y (yS y AY none)) p (.tup [.bl true,.bl false,.bl false])):=s10.trans ((Same.new hy).trans (Same.new np));have hp:upd (upd H10 y (yS y AY none)) p (.tup [.bl true,.bl false,.bl false]) p=some (.tup [.bl true,.bl false,.bl false]):=xb5;generalize upd (upd H10 y (yS y AY none)) p (.tup [.bl true,.bl false,.bl false])=H11 at s11 hp ⊢;have htl11:=s11 tl _ htl9;have hul:us.length<=2:=by rw[ts9.1];exact cr (qd ..) m!""
     ext;obtain⟨g1,g2⟩:=LrW.next k9 s11 htl9 ts9 rfl hp;exact#[g1,_,_,_,rfl,xb5,g2]
   | 1,hi=>
     have hi:V.ref p7=y:=by simpa using hi
     subst hi;ext;refine#[q.s,x,p7,dx,a,cs,0::cs.drop 1,rfl,hx9,ha9,SqL.of hp79,by rw[Ψ,cg];lia,∅,λe=>xb0 (by rw[Ψ,cg];lia) e,λ_=>#[0,jJ _,λd H10 s10 hd=>#[_,rfl,λy hy=>.inl #[T.tJ,?_]]]];have z0:=T.gF;have i1:=T.tO;have i2:=T.tP;have i3:=T.tQ;ext;intro p np;have s11:Same H9 (upd (upd H10 y (yS y Y5 (some d))) p (.tup [.bl false,.bl true,.bl false])):=s10.trans ((Same.new hy).trans (Same.new np));have hp:upd (upd H10 y (yS y Y5 (some d))) p (.tup [.bl false,.bl true,.bl false]) p=some (.tup [.bl false,.bl true,.bl false]):=xb5;generalize upd (upd H10 y (yS y Y5 (some d))) p (.tup [.bl false,.bl true,.bl false])=H11 at s11 hp ⊢;have htl11:=s11 tl _ htl9;have hul:us.length<=2:=by rw[ts9.1];exact cr (qd ..) m!""
     ext;obtain⟨g1,g2⟩:=LrW.next k9 s11 htl9 ts9 rfl hp;exact#[g1,_,_,_,rfl,xb5,g2]
   | i+2,hi=>cases hi
 rintro σ H9 ⟨k9,us,x3,x4,rfl,htl9,ts9⟩;exact hM _ _ #[(Aw.of s28).trans k9,us,x3,x4,rfl,htl9,ts9];rintro σ' H3 ⟨k3,us,x3,x4,rfl,htl3,ts3⟩;have nxt:x≠tl:=λe=>by have:=s2 x _ (s1 x _ hx);rw[e,htl] at this;cases this
 have nct:pc≠tl:=λe=>by rw[e,ntl] at hpc;cases hpc
 have nat:a≠tl:=λe=>by have:=s1 a _ S.ha;rw[e,ntl] at this;cases this
 have S2:=(S.same s1).same s2;have hx3:=k3 x _ nxt S2.hx;have ha3:=k3 a _ nat S2.ha;have hpc3:=k3 pc _ nct hpc1;have s03:Same H H3:=λb o h=>k3 b o (λe=>by have:=s1 b o h;rw[e,ntl] at this;cases this) (s2 b o (s1 b o h));ext;intro t1 nt1;ext;intro t2 nt2;ext;intro l4 nl4;have s4:Same H3 (upd (upd (upd H3 t1 (.tup [.bl true,.bl false,.bl false])) t2 (.tup [.bl false,.bl true,.bl false])) l4 (.lst [.ref t1,.ref t2])):=(Same.new nt1).trans ((Same.new nt2).trans (Same.new nl4));have hl4:upd (upd (upd H3 t1 (.tup [.bl true,.bl false,.bl false])) t2 (.tup [.bl false,.bl true,.bl false])) l4 (.lst [.ref t1,.ref t2]) l4=some (.lst [.ref t1,.ref t2]):=xb5;have ht1:upd (upd (upd H3 t1 (.tup [.bl true,.bl false,.bl false])) t2 (.tup [.bl false,.bl true,.bl false])) l4 (.lst [.ref t1,.ref t2]) t1=some (.tup [.bl true,.bl false,.bl false]):=look_put nl4 (look_put nt2 xb5);have ht2:upd (upd (upd H3 t1 (.tup [.bl true,.bl false,.bl false])) t2 (.tup [.bl false,.bl true,.bl false])) l4 (.lst [.ref t1,.ref t2]) t2=some (.tup [.bl false,.bl true,.bl false]):=look_put nl4 xb5;generalize upd (upd (upd H3 t1 (.tup [.bl true,.bl false,.bl false])) t2 (.tup [.bl false,.bl true,.bl false])) l4 (.lst [.ref t1,.ref t2])=H4 at s4 hl4 ht1 ht2 ⊢;ext;refine#[tl,l4,us,_,_,rfl,rfl,s4 tl _ htl3,hl4,#[ts3.1,λj xs hj=>?_],#[rfl,λj xs hj=>?_],λxs hxs=>?_,?_];obtain⟨t,g1,g2⟩:=ts3.2 j xs hj;exact#[t,g1,s4 t _ g2]
 match j,hj with
 | 0,hj=>cases hj;exact#[t1,rfl,ht1]
 | 1,hj=>cases hj;exact#[t2,rfl,ht2]
 | j+2,hj=>cases hj
 rcases Ξ.mp hxs with e | e
 rw[e];rfl;rw[χ.mp e];rfl;have hx4:=s4 x _ hx3;have ha4:=s4 a _ ha3;ext;refine#[_,x,dx,a,cs,rfl,hx4,ha4,λp5 H5 np5 s5 hp5=>?_];have s35:=s4.trans s5;have hpc5:=s35 pc _ hpc3;have hx5:=s5 x _ hx4;ext;refine#[p5,pc,cs,cs,rfl,rfl,SqL.of hp5,SqL.of hpc5,?_];rw[xb3 rfl];ext;intro p6 np6;generalize eZ:upd _ p6 _=H6;obtain⟨s6,hp6⟩:=nw1 eZ np6;have hpc6:=s6 pc _ hpc5;ext;intro p7 H7 np7 s7 hp7;rw[Ur m!"" ∅] at hp7;have hl7:((cs.drop (1:Int).toNat).map V.int).length<=100:=by rw[Φ,cg];lia
 refine r_cat (s7 p6 _ hp6) hp7 (sz _ _ m!"" hl7) λp8 np8=>?_;have s8:Same H7 (upd H7 p8 (.lst ([.int 0]++(cs.drop (1:Int).toNat).map V.int))):=Same.new np8;have hp8:upd H7 p8 (.lst ([.int 0]++(cs.drop (1:Int).toNat).map V.int)) p8=some (.lst ((0::cs.drop 1).map V.int)):=xb5;generalize upd H7 p8 (.lst ([.int 0]++(cs.drop (1:Int).toNat).map V.int))=H8 at s8 hp8 ⊢;have s58:=s6.trans (s7.trans s8);ext;refine#[q.s,x,p8,dx,a,cs,0::cs.drop 1,rfl,s58 x _ hx5,s58 a _ (s5 a _ ha4),SqL.of hp8,by rw[Ψ,cg];lia,∅,λe=>xb0 (by rw[Ψ,cg];lia) e,λ_=>#[0,jJ _,λd H9 s9 hd=>#[_,rfl,λy hy=>.inl #[T.tK,?_]]]];have z0:=T.gF;ext;refine#[y,_,d,_,.int 0,rfl,xb5,look_put hy hd,z0,T.gB,rfl,?_];ext;exact kk _ (s03.trans (s35.trans (s58.trans (s9.trans (Same.new hy)))))
theorem sh_s(ok:q.ok)(h:q.let3 = .shel):q.sh=q.s:=by
 cases q with
 | st i _ _ _=>
   have h:i = .shel:=h;rw[h] at ok;exact ok.1.elim
 | shel _ _=>rfl
 | half _ _=>cases h
 | row _ _=>cases h
theorem jL{q1:St7}{dx1 a1 x0 dx0 a0:wa}{H0:Hp}(S:KS C x0 dx0 a0 q cs H0)(S1:KS C x1 dx1 a1 q1 cs1 H)(hi:q1.let3=q.let3)(hs:q1.sh=q.sh)(nx:q.let3≠.next)(hx:H' x1=some (.ins (C q1.let3) dx1 (fsF q1.let3 a' (fsB q1.let3 q1.s))))(ha:H' a'=some (.lst ((bgC q1.let3 cs q.ps).map V.int))):KS C x1 dx1 a' q cs H':=by
 rw[hi] at hx ha;have e1:fsF q.let3 a' (fsB q.let3 q1.s)=fsF q.let3 a' q.s:=by
   rw[<-U3 nx];by_cases h:q.let3 = .shel;rw[<-sh_s S1.ok (hi.trans h),hs,sh_s S.ok h];cases e:q.let3 <;> first | rfl | exact xb0 e h | exact xb0 e nx
 have e2:bgC q.let3 cs q.ps=cs:=by
   cases q with
   | half _ _=>rfl
   | shel _ _=>rfl
   | row _ _=>rfl
   | st i r n ps=>
     have:=bL S.ok.2.2 ps.length (Γ _);rw[List.take_length] at this;show bgC i cs ps=cs;rw[U4 S.ok.1,this];exact cN S.mm λz hz=>#[(S.ch.mem z hz).1,(S.ch.mem z hz).2.1]
 rw[e1] at hx;rw[e2] at ha;exact#[hx,ha,S.hl,S.hz,S.ok,S.mm]
abbrev yC(C:W7->wa)(l x0 dx0 a0 x1 dx1 a1:wa)(q q1:St7)(cs cs1:List Int)(H:Hp)(Q:VK):Prop:=∀(a':wa)(H':Hp),H a'=none->Aw x1 H H'->KS C x1 dx1 a' q cs H'->Q (.bl true) H'
def jM(C:W7->wa):Sp:=λvs H Q _=>∃(l x0 dx0 a0 x1 dx1 a1:wa)(q q1:St7)(cs cs1:List Int),vs=[.ref l]/\H l=some (.lst [.ref x0,.ref x1])/\KS C x0 dx0 a0 q cs H/\KS C x1 dx1 a1 q1 cs1 H/\q1.let3=q.let3/\q1.sh=q.sh/\q1.n=q.n/\q.let3≠.next/\x0≠x1/\a0≠a1/\1<=q.n/\q.n<=76/\yC C l x0 dx0 a0 x1 dx1 a1 q q1 cs cs1 H Q
variable (BM:∎ "_law_like" 3 ϭ (jI K))
include T AI Ak D_lay AM BM in
theorem Og(S:Src K mg "_law_laid" Sq):∎ "_law_laid" 8 xa2 (jM ⋯):=by
 refine S.okx ME Jq λf _ A _ s H vs Q E hr h=>?_;obtain⟨l,x0,dx0,a0,x1,dx1,a1,q,q1,cs,cs1,rfl,hl,S,S1,hi,hs,hn,nx,nx01,na01,n1,n76,kk⟩:=h;refine#[_,PSs.nox (Ad (k_ 1 ME (Bv Ak AX hr (Az AQ m_ Ai (λ_ _=>rfl)))) (Ad (k_ 2 ME (DO DS s!"" T.n_list az (Aa mt Ab))) (Ad (AA (PW.pt (Bf (Ax QH (B5 D_lay AX hr (Az AQ m_ Ai (λ_ _=>rfl)) (Aa n_ Ab)) BH) (BB (Ax (TJ hr.units) n_ mt)))) (Aj (Aq AV)) AB) (Ad (k_ 3 ME (Bv AI AX hr (Az AQ m_ Ai (λ_ _=>rfl)))) (Ad (Bm (HH dh cy db GX o_ (Aa (BK (Aa Ai (Aa Ai (Aa AV Ab)))) Ab))) (Ad (CJ Ai (GS n_ Ai GW)) (Ad (Bm (HH dh cy db GX n_ (Aa Ai Ab))) (Ad (AA (Bd (BU (l_ BM hr (Aa (Bv Ak AX hr (Az AQ m_ Ai (λ_ _=>rfl))) (Aa mt Ab))))) (Aj (Aq AV)) AB) (Ad (k_ 4 ME (Bv Ak AX hr (Az AQ m_ Ai (λ_ _=>rfl)))) (Ad (CJ Ai (GS p_ Ai GW)) (Aj (Aq (K0 (l_ BM hr (Aa (Bv Ak AX hr (Az AQ m_ Ai (λ_ _=>rfl))) (Aa mt Ab))) (HA (Er (Um hr.units) (l_ AM hr (Aa (Bv Ak AX hr (Az AQ m_ Ai (λ_ _=>rfl))) Ab)) (l_ AM hr (Aa mt Ab))))))))))))))))),?_];symm;have hx0:=S.hx;have hcl:cs.length<=76:=by have:=S.hl;lia
 ext;refine Bh (SqL.of hl) (v:=.ref x0) (Bs (j:=0) rfl) ?_;ext;refine#[_,x0,dx0,a0,cs,rfl,hx0,S.ha,λpc H1 npc s1 hpc=>?_];ext;intro hd nhd;generalize eZ:upd _ hd _=H2;obtain⟨s2,hhd⟩:=nw1 eZ nhd;have s02:=s1.trans s2;have hl2:=s02 l _ hl;have S02:=S.same s02;have S12:=S1.same s02;have hx12:=S12.hx;have hpc2:=s2 pc _ hpc;have ne:∀{b:wa}{o:HO},H1 b=some o->b≠hd:=λh e=>by rw[e,nhd] at h;cases h
 ext;refine Bh (SqL.of hl2) (v:=.ref x1) (Bs (j:=1) rfl) ?_;ext;refine#[q1.s,x1,hd,dx1,a1,cs1,cs,q.ps,rfl,hx12,S12.ha,by have:=S.hl;have:=S1.hl;lia,SqL.of hhd,∅,S.ch,B0 S.ch S.mm,λa' H3 na' k3 hx3 ha3=>?_];have S3:=jL S02 S12 hi hs nx hx3 ha3;have nh1:hd≠x1:=λe=>by rw[e,hx12] at hhd;cases hhd
 have hhd3:=k3 hd _ nh1 hhd;have hpc3:=k3 pc _ (λe=>by rw[e,hx12] at hpc2;cases hpc2) hpc2;have hl3:=k3 l _ (λe=>by rw[e,hx12] at hl2;cases hl2) hl2;have hx03:=k3 x0 _ nx01 S02.hx;have ha03:=k3 a0 _ (λe=>by have:=S02.ha;rw[e,hx12] at this;cases this) S02.ha;have k03:Aw x1 H H3:=(Aw.of s02).trans k3;have nl:l≠hd:=ne (s1 l _ hl);have nx0:x0≠hd:=ne (s1 x0 _ S.hx);have na0:a0≠hd:=ne (s1 a0 _ S.ha);have nx1:x1≠hd:=ne (s1 x1 _ S1.hx);have npc:pc≠hd:=ne hpc;have nah:a'≠hd:=λe=>by rw[e,hhd] at na';cases na'
 have nH:H hd=none:=s1.free nhd;have fin:∀{Hn:Hp},Aw hd H3 Hn->Q (.bl true) Hn:=λ{Hn} k=>kk a' Hn (s02.free na') (λb o n h=>k b o (λe=>by rw[e,nH] at h;cases h) (k03 b o n h)) #[k x1 _ nx1 S3.hx,k a' _ nah S3.ha,S3.hl,S3.hz,S3.ok,S3.mm];have wr:∀{Hn:Hp}{p:wa}{o:HO},Aw hd H3 Hn->H3 p=none->Aw hd H3 (upd Hn p o):=λk hp b u n h=>look_ne (λe=>by rw[e,hp] at h;cases h) (k b u n h);have sm:∀{Hn Hm:Hp},Aw hd H3 Hn->Same Hn Hm->Aw hd H3 Hm:=λk s b u n h=>s b u (k b u n h);have frh:∀{Hn:Hp}{p:wa}{u:HO},Aw hd H3 Hn->Hn hd=some u->Hn p=none->H3 p=none:=λ{Hn p u} k hu hp=>by
   cases h:H3 p with
   | none=>rfl
   | some o=>
     have:=k p o (λe=>by rw[e,hu] at hp;cases hp) h;rw[hp] at this;cases this
 clear s02 s2 s1 hl2 S02 S12 hx12 hpc2 k3 ha3 hx3 na' k03 ne hpc hl kk;ext;refine#[hd,pc,cs,cs,rfl,rfl,SqL.of hhd3,SqL.of hpc3,?_];rw[xb3 rfl];ext;refine Bh (SqL.of hl3) (v:=.ref x1) (Bs (j:=1) rfl) ?_;have hx3:=S3.hx;ext;refine#[_,x1,dx1,a',cs,q.ps,rfl,S3.bs,λpo us H4 npo s4 hpo pa4=>?_];have hul:us.length<=1200:=by
   have:=pa4.1;have:=S.ch.le;lia
 ext;intro t5 nt5;have s5:Same H4 (upd H4 t5 (.tup [.int 0,.int 1,.bl false])):=Same.new nt5;generalize upd H4 t5 (.tup [.int 0,.int 1,.bl false])=H5 at s5 ⊢;have hpo5:=s5 po _ hpo;ext;have nph:hd≠po:=λe=>by rw[<-e,hhd3] at npo;cases npo
 have hh6:upd H5 po (.lst (us++[.ref t5])) hd=some (.lst (cs.map V.int)):=look_ne nph (s5 hd _ (s4 hd _ hhd3));have k6:Aw hd H3 (upd H5 po (.lst (us++[.ref t5]))):=wr (Aw.of (s4.trans s5)) npo;generalize upd H5 po (.lst (us++[.ref t5]))=H6 at hh6 k6 ⊢;have hl1:1<=cs.length:=by have:=S.hl;lia
 ext;have k7:Aw hd H3 (upd (upd H6 hd (.lst ((cs.set (jl 0) 7).map V.int))) hd (.lst ((cs.set (jl 0) 7++[3]).map V.int))):=k6.put.put;have hh7:upd (upd H6 hd (.lst ((cs.set (jl 0) 7).map V.int))) hd (.lst ((cs.set (jl 0) 7++[3]).map V.int)) hd=some (.lst ((cs.set (jl 0) 7++[3]).map V.int)):=xb5;generalize upd (upd H6 hd (.lst ((cs.set (jl 0) 7).map V.int))) hd (.lst ((cs.set (jl 0) 7++[3]).map V.int))=H7 at k7 hh7 ⊢;generalize (cs.set (jl 0) 7++[3]).map V.int=hv at hh7;refine Bh (SqL.of (k7 l _ nl hl3)) (v:=.ref x1) (Bs (j:=1) rfl) ?_;have hx7:=k7 x1 _ nx1 hx3;ext;refine#[_,x1,dx1,a',cs,rfl,hx7,k7 a' _ nah S3.ha,λp8 H8 np8 s8 hp8=>?_];have k8:=sm k7 s8;ext;refine#[p8,pc,cs,q.ps,rfl,hp8,k8 pc _ npc hpc3,S3.ch,S3.mm,S3.hz,λH9 s9=>?_];have k9:=sm k8 s9;have hh9:=s9 hd _ (s8 hd _ hh7);ext;refine Bh (SqL.of (k9 l _ nl hl3)) (v:=.ref x1) (Bs (j:=1) rfl) ?_;have hx9:=k9 x1 _ nx1 hx3;ext;refine#[_,x1,dx1,a',cs,rfl,hx9,k9 a' _ nah S3.ha,λsp H10 nsp s10 hsp=>?_];have k10:=sm k9 s10;ext;have k11:Aw hd H3 (upd H10 sp (.lst ((cs.set (jl 0) 5).map V.int))):=wr k10 (frh k9 hh9 nsp);generalize upd H10 sp (.lst ((cs.set (jl 0) 5).map V.int))=H11 at k11 ⊢;refine Bh (SqL.of (k11 l _ nl hl3)) (v:=.ref x1) (Bs (j:=1) rfl) ?_;have hx11:=k11 x1 _ nx1 hx3;ext;refine#[_,x1,dx1,a',cs,rfl,hx11,k11 a' _ nah S3.ha,λp12 H12 np12 s12 hp12=>?_];have k12:=sm k11 s12;ext;refine#[p12,pc,cs,q.ps,rfl,hp12,k12 pc _ npc hpc3,S3.ch,S3.mm,S3.hz,λH13 s13=>?_];have k13:=sm k12 s13;ext;refine Bh (SqL.of (k13 l _ nl hl3)) (v:=.ref x0) (Bs (j:=0) rfl) ?_;have hx13:=k13 x0 _ nx0 hx03;ext;refine#[_,x0,dx0,a0,cs,rfl,hx13,k13 a0 _ na0 ha03,λp14 H14 np14 s14 hp14=>?_];ext;refine#[p14,cs,q.ps,rfl,hp14,S3.ch,S3.mm,S3.hz,λb15 us15 H15 nb15 s15 hb15 pa15=>?_];have k15:=sm (sm k13 s14) s15;ext;refine#[pc,cs,q.ps,rfl,k15 pc _ npc hpc3,S3.ch,S3.mm,S3.hz,λb16 us16 H16 nb16 s16 hb16 pa16=>?_];ext;refine#[b15,b16,us15,us16,q.ps,rfl,rfl,s16 b15 _ hb15,hb16,pa15.same s16,pa16,?_];exact fin (sm k15 s16)
set_option tactic.hygienic true in
theorem uc1{s:Int}(f:Fr7 n s i q)(hn:4<=n)(hs:4<=s):∃q',AskD 1 q 1 q':=by
 cases f with
 | @st i h4=>
   have hf:fp 0 n (1+2) 1=some 0:=by
     unfold fp fpl;rw[xb1 ∅];rfl
   have hc:chL i [#[0,n,false]] (1+2) 1=[[rkF i n,0,0]]:=by
     unfold chL;rw[jn (b:=[rkF i n,0,0]) ?_];rfl;unfold rkO;rw[xb2 ξ,hf];rfl
   exact#[_,AskD.st (s:=0) (ds:=[]) (rs:=[]) (z:=#[0,n,false]) rfl hf (by rw[dk,hc];rfl) (by rw[dk,hc];exact List.cons_ne_nil _ _)]
 | half hN e=>
   rename_i N;have hL:C8 2 (1+2):=#[m!"",λi hi=>by
     match i,hi with
     | 0,_=>decide
     | 1,_=>decide]
   exact#[_,.of trivial (.half (b:=0) (M:=N) (ds:=[]) (rs:=[]) hL #[rfl,χ.mpr rfl,rfl,by show (2:Int)^2<=2^N;rw[<-e];exact hn,λy hy _ _=>.inr (by rw[χ.mp hy];exact#[rfl,ar _])])]
 | shel m1 s1 e=>
   rename_i m;have h:3<=s:=∅;have hno:∀f∈ω m (#[0,[]]:Sf),¬(f.n=1+2/\false∈f.b):=λf hf hh=>by rw[(gw.mp hf).2] at hh;cases hh.2
   obtain⟨_,_,d3⟩:=Rm (show (1:Int)<=1+2 by decide) (show 1+2<=s from h);have hg:(ω m (#[0,[]]:Sf))[0]?=some #[0,[]]:=by rw[cf,xb1 ∅]
   have g:Gs s (1+2) (ω m #[0,[]]) 0 0 (ω (s/(1+2)).toNat false) ((ω m (#[0,[]]:Sf)).set 0 #[1+2,ω (s/(1+2)).toNat false]):=
     #[ai (by rw[ae];lia),by rw[cf,xb1 ∅],λi' hi=>xb0 hi (cu _),λj' f hj=>xb0 hj (cu _),.inr #[hno,h,rfl,rfl,#[_,hg,rfl],λj' f hj=>xb0 hj (cu _),rfl]]
   have a1:=Ask7.shel (c:=1) g g.len;have e3:s*((0:Nat):Int)+(1+2)*((0:Nat):Int)+1=1:=by simp
   rw[e3] at a1;exact#[_,.of trivial a1]
 | row n1=>
   have:=Ask7.row (c:=1) (n:=n) (ls:=[]) (by show (0:Int)+(1+2)<=n;lia);exact#[_,.of trivial this]
theorem word6(h0:0<=k)(h1:k<6):∃i,atI [V.str "first",V.str "best",V.str "likes",V.str "halves",V.str "shelves",V.str "row"] k=some (.str (Hc i))/\i≠.next/\(i = .row->k=5)/\(i = .half->k=3)/\(i = .shel->k=4):=by
 rcases(show k=0\/k=1\/k=2\/k=3\/k=4\/k=5 by lia) with rfl | rfl | rfl | rfl | rfl | rfl
 exact#[.first,rfl,f!""];exact#[.best,rfl,f!""];exact#[.likes,rfl,f!""];exact#[.half,rfl,f!""];exact#[.shel,rfl,f!""];exact#[.row,rfl,f!""]
structure Gd(C:W7->wa)(K:δ)(G:Hp)(sc l x0 x1 x3 dx3 a3 pf:wa)(ns:List Int)(us:List V)(q:St7)(cs:List Int):Prop where
 S:SqL K G sc (ns.map V.int)
 l:G l=some (.lst [.ref x0,.ref x1])
 t:KS C x3 dx3 a3 q cs G
 f:G pf=some (.lst us)
 p:AJ G us q.ps
 n0:G x0=none
 n1:G x1=none
theorem LD{k0 k1:Kpr}{b:wa}(h:H b=some o)(h1:b≠k0.x/\b≠k0.a)(h2:b≠k1.x/\b≠k1.a):less [k0,k1] H b=some o:=Td h λk hk=>by
 rcases Ξ.mp hk with rfl | hk
 exact h1;rw[χ.mp hk];exact h2
theorem Tf{k0:Kpr}{b:wa}(h:H b=some o)(h1:b≠k0.x/\b≠k0.a):less [k0] H b=some o:=Td h λk hk=>by
 rw[χ.mp hk];exact h1
theorem KS.new{x b:wa}(S:KS C x dx a q cs H)(h:H b=none):b≠x/\b≠a:=#[(λe=>by rw[e,S.hx] at h;cases h),(λe=>by rw[e,S.ha] at h;cases h)]
theorem jN{k:Kpr}:ApK [k]:=λj j' k1 k2 h1 h2 n=>by
 cases j with
 | zero=>
   cases j' with
   | zero=>exact xb0 rfl n
   | succ j'=>simp at h2
 | succ j=>simp at h1
theorem Tg(u v:V):zn [u,v] none (some 1)=[u]:=oW [u,v] 1 f!""
theorem jO{ks:List Kpr}{k:Kpr}(h:ks.map (·.x)=[k].map (·.x)):∃k',ks=[k']/\k'.x=k.x:=by
 cases ks with
 | nil=>cases h
 | cons k' r=>
   obtain⟨h1,h2⟩:=jt.inj h;cases r with
   | nil=>exact#[k',rfl,h1]
   | cons _ _=>cases h2
theorem KS.keepX{x:wa}{c d:wa}(S:KS C x dx a q cs H)(k:Aw x1 H H')(n:x≠x1)(h:H x1=some (.ins c d fs)):KS C x dx a q cs H':=#[k _ _ n S.hx,k _ _ (λe=>by have:=S.ha;rw[e,h] at this;cases this) S.ha,S.hl,S.hz,S.ok,S.mm]
theorem Wd.two{G:Hp}{sh:Int}{kd x0 dx0 a0 dx1 a1:wa}(sm:Same G H)(f0:G x0=none/\G a0=none)(f1:G x1=none/\G a1=none)(S0:KS C x0 dx0 a0 q cs H)(S1:KS C x1 dx1 a1 q cs H)(nx:x0≠x1)(na:a0≠a1)(hk:H kd=some (.dT kvs))(kv:∀kv∈kvs,KnE q cs kv)(qi:q.let3=i)(qn:q.n=n)(qs:q.sh=sh)(n1:1<=n/\n<=76)(ni:i≠.next):Wd C G i n sh kd kvs q [#[x0,dx0,a0,cs],#[x1,dx1,a1,cs]] H:=by
 refine#[sm,λk hk=>?_,λk hk=>?_,λj j' k k' h1 h2 hne=>?_,hk,λk hk kv' h=>?_,qi,qn,qs,n1,ni];rcases Ξ.mp hk with rfl | hk
 exact f0;rw[χ.mp hk];exact f1;rcases Ξ.mp hk with rfl | hk
 exact S0;rw[χ.mp hk];exact S1
 match j,j',h1,h2 with
 | 0,0,_,_=>exact xb0 rfl hne
 | 0,1,h1,h2=>cases h1;cases h2;exact#[nx,na]
 | 1,0,h1,h2=>cases h1;cases h2;exact#[fh nx,fh na]
 | 1,1,_,_=>exact xb0 rfl hne
 | 0,j+2,_,h2=>cases h2
 | 1,j+2,_,h2=>cases h2
 | j+2,_,h1,_=>cases h1
 rcases Ξ.mp hk with rfl | hk
 exact kv kv' h;rw[χ.mp hk];exact kv kv' h
theorem ua2(ok:q.ok)(n76:q.n<=76)(h:KnE q cs kv):Sml kv.1:=by
 obtain⟨z,hz,_,j,_,rfl,j0,j1,_⟩:=h;have:=(St7.ch ok).mem z hz;refine#[(z.a+1).toNat,j.toNat,?_,∅];rw[bc ∅,bc j0]
theorem ua1{ks:List Kpr}{x0:wa}(h:ks.map (·.x)=[x0,x1]):∃dx0 a0 cs0 k1,ks=[#[x0,dx0,a0,cs0],k1]/\k1.x=x1:=by
 cases ks with
 | nil=>cases h
 | cons k r=>
   obtain⟨x,dx,a,cs⟩:=k;obtain⟨h1,h2⟩:=jt.inj h;have h1:x=x0:=h1;subst h1;cases r with
   | nil=>cases h2
   | cons k1 r=>
     obtain⟨h3,h4⟩:=jt.inj h2;cases r with
     | nil=>exact#[dx,a,cs,k1,rfl,h3]
     | cons _ _=>cases h4
theorem jP{p q:wa}{xs:List V}(h1:H p=some (.lst xs))(h2:H q=some (.lst ys)):LsAt H [.ref p,.ref q] [xs,ys]:=#[rfl,λj zs h=>by
 match j,h with
 | 0,h=>cases h;exact#[p,rfl,h1]
 | 1,h=>cases h;exact#[q,rfl,h2]
 | j+2,h=>cases h]
structure Ge(G:Hp)(te e0 ke kl cl p17 p18 c17 c18:wa)(cs:List Int)(kvs:List (List Key×V))(us:List V):Prop where
 te:G te=some (.tup [.ref e0,.ref ke])
 e0:G e0=some (.lst (cs.map V.int))
 ke:G ke=some (.dT kvs)
 kl:G kl=some (.lst [.ref p17,.ref p18])
 cl:G cl=some (.lst [.ref c17,.ref c18])
 l1:LsAt G [.ref p17,.ref p18] [cs.map V.int,us]
 l2:LsAt G [.ref c17,.ref c18] [cs.map V.int,us]
theorem LsAt.same(h:LsAt H us xss)(s:Same H H'):LsAt H' us xss:=#[h.1,λj xs hj=>by
 obtain⟨t,g1,g2⟩:=h.2 j xs hj;exact#[t,g1,s t _ g2]]
variable (Bx:∎ "_law_cell_at" 1 Ϧ (TZ K))
variable (Ct:DefD P w K mg base "keeper_of" 10 Ϣ [.int 8] (Vd ⋯))
variable (Cu:∎ "_law_step" 12 ϗ (jF ⋯))
variable (Ch:∎ "_law_seen" 11 Ϟ (jH ⋯))
variable (DI:∎ "_law_laid" 8 xa2 (jM ⋯))
variable (DJ:∎ "_law_lay_refused" 8 ϰ (jK ⋯))
include T AI Ak D_lay D_ask AM Cf BM Bx Ct Cu Ch DI DJ in
theorem U_{f:wa}{fd:wc}(F:Fun K "law" "law" Jr f fd):FnOk P w K mg base (CXe P w) 13 f fd Ϻ (QR K):=by
 refine Ba F Cp (λ_ A _ s H vs Q E hr h=>?_);obtain⟨sc,ns,rfl,hS,hlen,kk⟩:=h;refine#[_,PSs.nox (Ad (k_ 1 Cp (Ao BI (l_ Bx hr (Aa m_ (Aa Ai Ab))) Ai)) (Ad (k_ 2 Cp (Ao AU Ai (Ao BI (l_ Bx hr (Aa m_ (Aa Ai Ab))) Ai))) (Ad (k_ 3 Cp (Ao AU Ai (Ao BI (l_ Bx hr (Aa m_ (Aa Ai Ab))) Ai))) (Ad (AA (Ax A8 mt Ai) (Aj (k_ 2 Cp (Ao Q_ Ai (Ao AU Ai (Ao BI (l_ Bx hr (Aa m_ (Aa Ai Ab))) Ai))))) AB) (Ad (AA (Ax A8 mt Ai) (Aj (k_ 2 Cp (Ao GT o_ (Ao AU Ai (Ao BI (Ao HD (l_ Bx hr (Aa m_ (Aa Ai Ab))) Ai) Ai))))) AB) (Ad (k_ 4 Cp (Az AQ (Cw (Aa AG (Aa AG (Aa AG (Aa AG (Aa AG (Aa AG Ab))))))) mt (λ_ _=>rfl))) (Ad (k_ 5 Cp (Cw (Aa (l_ Ct.all hr (Aa p_ (Aa n_ (Aa o_ Ab)))) (Aa (l_ Ct.all hr (Aa p_ (Aa n_ (Aa o_ Ab)))) Ab)))) (Ad (k_ 6 Cp (l_ Ct.all hr (Aa p_ (Aa n_ (Aa o_ Ab))))) (Ad (k_ 7 Cp (Bv AI AX hr t_)) (Ad (k_ 8 Cp Uf) (Ad (DM cc rfl (BX (Dg Dh m_ (Cq Ai) (Cq Ai))) (ld 9 Cp) (Ad (k_ 8 Cp (l_ Cu hr (Aa (Dg Dh q_ GU (Cq Ai)) (Aa s_ (Aa mt (Aa (pv 9) Ab)))))) (Aj (AA (PW.pt (Bf (Ax HG s_ BH) (BB (Bd (BU (l_ Ch hr (Aa (Dg Dh q_ GU (Cq Ai)) (Aa s_ (Aa (pv 9) Ab))))))))) (Aj (Aq AV)) AB)))) (Ad (AA (PW.pt (Bf (Ax Df (B5 D_ask.less AX hr (Az AQ q_ Ai (λ_ _=>rfl)) (Aa Ai Ab)) Ai) (BB (Bd (BU (l_ DI hr (Aa q_ Ab))))))) (Aj (Aq AV)) AB) (Ad (k_ 10 Cp (BK (Aa (Bv Ak AX hr (Az AQ q_ Ai (λ_ _=>rfl))) (Aa (DO rV s!"" T.n_dict ul (Aa s_ Ab)) Ab)))) (Ad (AA (PW.pt (Bf (Bd (BU (l_ Ch hr (Aa q_ (Aa s_ (Aa (l_ Bx hr (Aa m_ (Aa Ai Ab))) Ab)))))) (BB (Bd (BU (l_ DJ hr (Aa (Az AQ q_ (Ao BI mt Ai) (λ_ _=>rfl)) Ab))))))) (Aj (Aq AV)) AB) (Ad (k_ 11 Cp (Cw (Aa (Bv Ak AX hr (Az AQ q_ Ai (λ_ _=>rfl))) (Aa (Bv AI AX hr (Az AQ q_ Ai (λ_ _=>rfl))) Ab)))) (Ad (k_ 12 Cp (Cw (Aa (DO DS s!"" T.n_list az (Aa (Az AQ (pv 11) Ai (λ_ _=>rfl)) Ab)) (Aa (DO DS s!"" T.n_list az (Aa (Az AQ (pv 11) Ai (λ_ _=>rfl)) Ab)) Ab)))) (Ad (DM cc rfl (BX (Dg Dh m_ (Cq Ai) (Cq Ai))) (ld 9 Cp) (Ad (k_ 8 Cp (l_ Cu hr (Aa q_ (Aa s_ (Aa mt (Aa (pv 9) Ab)))))) (Aj (AA (PW.pt (Bf (Ax HG s_ BH) (BB (Bd (BU (l_ Ch hr (Aa q_ (Aa s_ (Aa (pv 9) Ab))))))))) (Aj (Aq AV)) AB)))) (Ad (AA (PW.pt (Bf (Ax QH (B5 D_lay AX hr (Az AQ q_ Ai (λ_ _=>rfl)) (Aa (DO DS s!"" T.n_list az (Aa (Az By (pv 10) Ai (λ_ _=>rfl)) Ab)) Ab)) BH) (BB (Bd (BU (l_ BM hr (Aa (Bv Ak AX hr (Az AQ q_ Ai (λ_ _=>rfl))) (Aa (Az By (pv 10) Ai (λ_ _=>rfl)) Ab)))))))) (Aj (Aq AV)) AB) (Ad (k_ 8 Cp (Az By (pv 10) Ai (λ_ _=>rfl))) (Ad (DM cc rfl (BX (Dg Dh m_ (Cq Ai) (Cq Ai))) (ld 9 Cp) (Ad (k_ 8 Cp (l_ Cu hr (Aa (Dg Dh q_ GU (Cq Ai)) (Aa s_ (Aa mt (Aa (pv 9) Ab)))))) (Aj (AA (PW.pt (Bf (Ax HG s_ BH) (BB (Bd (BU (l_ Ch hr (Aa (Dg Dh q_ GU (Cq Ai)) (Aa s_ (Aa (pv 9) Ab))))))))) (Aj (Aq AV)) AB)))) (Ad (AA (PW.pt (Bf (Ax (uZ hr.units) (pv 11) (pv 12)) (BB (Ax Tt AV (bY xa5 rfl (BX r_) (λ_ _ _ _ _=>(AF (i:=0) (show ((xa5:List Str)++([]:List Str)).Nodup by decide +kernel) rfl (υ rfl))) (λ_ _ _ _ _=>K6) (λ_ _ _ _ _=>(Az (Ui (K:=K) rfl) m_ Ai (λ_ _=>rfl))) ) rfl)))) (Aj (Aq AV)) AB) (Aj (Aq (K0 (l_ Cf hr (Aa (Bv AI AX hr t_) (Aa r_ Ab))) (HA (Er (Um hr.units) (l_ AM hr (Aa (Bv Ak AX hr t_) Ab)) r_)))))))))))))))))))))))))),?_];symm;have k0:=br (ns.getD (0:Int).toNat 0) (show (6:Int)≠0 by decide);have k1:=bg (ns.getD (0:Int).toNat 0) (show (0:Int)<6 by decide);obtain⟨i,ei,inx,ir,ih,is⟩:=word6 k0 k1;walk_at "s";generalize ns.getD (0:Int).toNat 0%6=kn at *;generalize ns.getD (1:Int).toNat 0=c at *;have c64:=br c (show (64:Int)≠0 by decide);have d64:=bg c (show (0:Int)<64 by decide);have c16:=br c (show (16:Int)≠0 by decide);have d16:=bg c (show (0:Int)<16 by decide);refine Cj9 (M:=λσ' H'=>H=H'/\∃n:Int,4<=n/\n<=67/\(kn=3->Ez n=true)/\σ'=[xa8 sc,xa9 kn,xa9 n,some (.int (4+c%16)),none,none,none,none,none,none,none,none,none]) (λnx hM=>?_) ?_;by_cases h3:kn=3;have f0:=br (ns.getD (1:Int).toNat 0) (show (5:Int)≠0 by decide);have f1:=bg (ns.getD (1:Int).toNat 0) (show (0:Int)<5 by decide);ext;generalize ns.getD (1:Int).toNat 0%5=d at f0 f1 ⊢;rcases(show d=0\/d=1\/d=2\/d=3\/d=4 by lia) with rfl | rfl | rfl | rfl | rfl <;> exact hM _ _ #[rfl,_,m!"",m!"",λ_=>m!"",rfl]
 ext;exact hM _ _ #[rfl,4+c%64,∅,∅,λh=>xb0 h h3,rfl];rintro σ' _ ⟨rfl,n0,n4,n67,np,rfl⟩;walk_at "s";obtain⟨sh,esh,s4,s19⟩:∃sh,4+c%16=sh/\4<=sh/\sh<=19:=#[_,rfl,∅,∅]
 rw[esh];refine Cj9 (M:=λσ' H'=>H=H'/\∃n:Int,4<=n/\n<=76/\gdF n sh i/\σ'=[xa8 sc,xa9 kn,xa9 n,xa9 sh,none,none,none,none,none,none,none,none,none]) (λnx hM=>?_) ?_;by_cases h4:kn=4;have f0:=br (ns.getD (1:Int).toNat 0/16) (show (4:Int)≠0 by decide);have f1:=bg (ns.getD (1:Int).toNat 0/16) (show (0:Int)<4 by decide);have gd:∀k:Int,4<=sh*k->gdF (sh*k) sh i:=λk h=>by cases i <;> first | exact xb0 (ih rfl) ∅ | exact#[∅,∅,ll _ _] | exact um m!"" h
 ext;generalize ns.getD (1:Int).toNat 0/16%4=d at f0 f1 ⊢;rcases(show d=0\/d=1\/d=2\/d=3 by lia) with rfl | rfl | rfl | rfl <;> exact hM _ _ #[rfl,_,∅,∅,gd _ ∅,rfl]
 ext;exact hM _ _ #[rfl,n0,n4,∅,by cases i <;> first | exact xb0 (is rfl) h4 | exact np (ih rfl) | exact um m!"" n4,rfl];rintro σ' _ ⟨rfl,n,n4,n76,gd,rfl⟩;refine Cj9 (M:=λσ' H'=>Same H H'/\σ'=[xa8 sc,xa9 kn,xa9 n,xa9 sh,some (.str (Hc i)),none,none,none,none,none,none,none,none]) (λnx hM=>?_) ?_;ext;intro w nw;ext;refine Bh (SqL.of xb5) ei ?_;ext;exact hM _ _ #[Same.new nw,rfl];rintro σ' H1 ⟨s1,rfl⟩;have kp:∀{H3:Hp}(Q:VK)(E:XK),(∀(x dx a:wa)(q:St7)(cs:List Int)(H':Hp),H3 x=none->H3 a=none->Same H3 H'->Fr7 n sh i q->KS ⋯ x dx a q cs H'->Q (.ref x) H')->Vd ⋯ [.str (Hc i),.int n,.int sh] H3 Q E:=λQ E h=>#[i,n,sh,rfl,inx,∅,∅,gd,h]
 ext;refine kp _ _ λx0 dx0 a0 q cs0 H2 nx0 na0 s2 F0 S0=>?_;ext;refine kp _ _ λx1 dx1 a1 q1 cs1 H3 nx1 na1 s3 F1 S1=>?_;obtain rfl:=F0.one F1;ext;intro l nl;generalize eZ:upd _ l _=H4;obtain⟨s4',hl⟩:=nw1 eZ nl;ext;refine kp _ _ λx3 dx3 a3 q3 cs3 H5 nx3 na3 s5 F3 S3=>?_;obtain rfl:=F0.one F3;have hx3:=S3.hx;ext;refine#[_,x3,dx3,a3,cs3,q.ps,rfl,S3.bs,λpf us H6 npf s6 hpf pa=>?_];ext;intro kd nkd;generalize eZ:upd _ kd _=H7;obtain⟨s7,hkd⟩:=nw1 eZ nkd;have S02:=S0.same s3;have S04:=S02.same s4';have S14:=S1.same s4';have s47:=s5.trans (s6.trans s7);have sH7:Same H H7:=s1.trans (s2.trans (s3.trans (s4'.trans s47)));obtain⟨G,gd,sG,ga0,ga1⟩:∃G,Gd ⋯ K G sc l x0 x1 x3 dx3 a3 pf ns us q cs3/\Same G H7/\G a0=none/\G a1=none:=by
   have S3':=S3.same (s6.trans s7);have up:∀b xs,H6 b=some (.tup xs)->less [#[x0,dx0,a0,cs0],#[x1,dx1,a1,cs1]] H7 b=some (.tup xs):=λb xs h=>LD (s7 b _ h) ((S04.same (s5.trans s6)).ne h (λ_ _ _ e=>by cases e) (λ_ e=>by cases e)) ((S14.same (s5.trans s6)).ne h (λ_ _ _ e=>by cases e) (λ_ e=>by cases e));refine#[less [#[x0,dx0,a0,cs0],#[x1,dx1,a1,cs1]] H7,#[(Te sH7 λk hk=>?_).seq hS,LD (s47 l _ hl) (S02.new nl) (S1.new nl),#[LD S3'.hx (S04.new nx3) (S14.new nx3),LD S3'.ha (S04.new na3) (S14.new na3),S3'.hl,S3'.hz,S3'.ok,S3'.mm],LD (s7 pf _ hpf) ((S04.same s5).new npf) ((S14.same s5).new npf),pa.mono up,(Ki η).1,(Ki (ι _ η)).1],LC,(Ki (k:=#[x0,dx0,a0,cs0]) η).2,(Ki (k:=#[x1,dx1,a1,cs1]) (ι _ η)).2];rcases Ξ.mp hk with rfl | hk
   exact#[s1.free nx0,s1.free na0];rw[χ.mp hk];exact#[s1.free (s2.free nx1),s1.free (s2.free na1)]
 have n01:=S0.new nx1;have m01:=S0.new na1;have S07:=S04.same s47;have S17:=S14.same s47;obtain⟨f1,f2,_,f4,f3⟩:=F0.is;have hS7:=sG.seq gd.S;ext;intro d H8 nd s8 hd;have dl:(yR ns (some 2) (some 26)).length<=24:=TR ns 2 26;generalize yR ns (some 2) (some 26)=dr at hd dl;obtain⟨F,sGF,sFd,S1F,W⟩:∃F,Same G F/\F d=some (.lst (dr.map V.int))/\KS ⋯ x1 dx1 a1 q cs1 F/\Wd ⋯ F i n (shF i sh) kd [] q [#[x0,dx0,a0,cs0]] H8:=by
   have S18:=S17.same s8;refine#[less [#[x0,dx0,a0,cs0]] H8,Te (sG.trans s8) λk hk=>?_,Tf hd (S07.new nd),#[Tf S18.hx n01,Tf S18.ha m01,S18.hl,S18.hz,S18.ok,S18.mm],LC,λk hk=>Ki hk,λk hk=>?_,jN,s8 kd _ hkd,λ_ _ kv h=>(by cases h),f2,f1,f3,#[∅,n76],inx];rw[χ.mp hk];exact#[gd.n0,ga0];rw[χ.mp hk];exact S07.same s8
 refine#[d,rfl,#[_,SqL.of (W.sm d _ sFd)],D3 (K:=K) (a:=d) (xs:=dr.map V.int) (λj σ' H'=>∃(kd:wa) (kvs:List (List Key×V)) (q':St7) (k:Kpr) (x9:Option V),σ'=[xa8 sc,xa9 kn,xa9 n,xa9 sh,some (.str (Hc i)),xa8 l,xa8 x3,xa8 pf,xa8 kd,x9,none,none,none]/\Wd ⋯ F i n (shF i sh) kd kvs q' [k] H'/\k.x=x0/\kvs.length<=j) #[kd,[],q,_,none,rfl,W,rfl,Γ _] (λj σ' H' _ ⟨_,_,_,_,_,_,W,_⟩=>SqL.of (W.sm d _ sFd)) ?_ ?_];rintro j y σ' H9 hj ⟨kd5,kvs5,q5,k5,x9,rfl,W5,e5,hk5⟩;obtain⟨c5,rfl⟩:∃c,y=V.int c:=by
   rw[bh] at hj;obtain⟨c,_,e⟩:=cj.mp hj;exact#[c,e.symm]
 have hj24:j<24:=by have:=(γ.mp hj).1;rw[Φ] at this;lia
 have hl9:=W5.sm l _ (sGF l _ gd.l);ext;intro p np;rw[Tg];have s10:Same H9 (upd H9 p (.lst [.ref x0])):=Same.new np;have hp:upd H9 p (.lst [.ref x0]) p=some (.lst ([k5].map λk=>V.ref k.x)):=by rw[<-e5];exact xb5
 generalize upd H9 p (.lst [.ref x0])=H10 at s10 hp ⊢;ext;refine#[F,i,n,_,p,kd5,kvs5,q5,[k5],kn,c5,rfl,W5.same s10,hp,Γ _,jr _,∅,ir,λkd6 kvs6 q6 ks6 H11 W6 ex hl6=>?_];obtain⟨k6,rfl,e6⟩:=jO ex;have hl11:=W6.sm l _ (sGF l _ gd.l);ext;intro p2 np2;rw[Tg];have s12:Same H11 (upd H11 p2 (.lst [.ref x0])):=Same.new np2;have hp2:upd H11 p2 (.lst [.ref x0]) p2=some (.lst ([k6].map λk=>V.ref k.x)):=by rw[<-e5,<-e6];exact xb5
 generalize upd H11 p2 (.lst [.ref x0])=H12 at s12 hp2 ⊢;ext;refine#[F,i,n,_,p2,kd6,kvs6,q6,[k6],c5,rfl,W6.same s12,hp2,Γ _,∅,λH13 s13=>?_];ext;exact#[kd6,kvs6,q6,k6,_,rfl,W6.same (s12.trans s13),e6.trans e5,∅];rintro σ' H9 ⟨kd5,kvs5,q5,k5,x9,rfl,W5,e5,hk5⟩;rw[Φ] at hk5;obtain⟨x0',dx5,a5,cs5⟩:=k5;have e5:x0'=x0:=e5;subst e5;have S19:=S1F.same W5.sm;have hx19:=S19.hx;have S5:KS ⋯ x0' dx5 a5 q5 cs5 H9:=W5.kp _ η;have hl9:=W5.sm l _ (sGF l _ gd.l);have nx01:x0'≠x1:=λe=>by have:=(W5.fx _ η).1;have g:=S1F.hx;rw[<-e] at g;rw[g] at this;cases this
 obtain⟨qa,hA⟩:=uc1 F0 n4 s4;ext;refine Bh (SqL.of hl9) (v:=.ref x1) (Bs (j:=1) rfl) ?_;ext;refine#[x1,dx1,a1,q,cs1,1,1,rfl,rfl,rfl,by rw[f2];exact inx,S19,ar 1,m!"",.inr #[1,qa,hA,λa6 cs6 H10 A na6 k6 l6 S6=>?_]];ext;have S5':=S5.keepX k6 nx01 hx19;have n5:=W5.qi;have hx16:=S6.hx;have kdx:∀{A:Hp}{b x c d:wa} {fs:List (Str×V)} {o:HO},A b=some o->(∀c d f,o≠.ins c d f)->A x=some (.ins c d fs)->b≠x:=λh n g e=>by rw[e,g] at h;exact n _ _ _ (Θ h).symm
 have hl10:=k6 l _ (kdx hl9 (λ_ _ _ e=>by cases e) hx19) hl9;refine#[l,x0',dx5,a5,x1,dx1,a6,q5,qa,cs5,cs6,rfl,hl10,S5',S6,by rw[A.lt,f2,n5],by rw[A.sh,f3,W5.qs],by rw[A.n,f1,W5.qn],by rw[n5];exact inx,nx01,(S5.new na6).2.symm,by rw[W5.qn];lia,by rw[W5.qn];exact n76,λa7 H11 na7 k7 S7=>?_];have S5'':=S5'.keepX k7 nx01 hx16;have sG10:Same G H10:=λb o h=>k6 b o (λe=>by rw[e,gd.n1] at h;cases h) (W5.sm b o (sGF b o h));have sG11:Same G H11:=λb o h=>k7 b o (λe=>by rw[e,gd.n1] at h;cases h) (sG10 b o h);have hk10:=k6 kd5 _ (kdx W5.hk (λ_ _ _ e=>by cases e) hx19) W5.hk;have W2:Wd ⋯ G i n (shF i sh) kd5 kvs5 q5 [#[x0',dx5,a5,cs5],#[x1,dx1,a7,cs5]] H11:=Wd.two sG11 #[gd.n0,sGF.free (W5.fx _ η).2] #[gd.n1,sG10.free na7] S5'' S7 nx01 (S5'.new na7).2.symm (k7 kd5 _ (kdx hk10 (λ_ _ _ e=>by cases e) hx16) hk10) (W5.kv _ η) W5.qi W5.qn W5.qs W5.n1 W5.nx;have S0:KS ⋯ x0' dx5 a5 q5 cs5 H11:=W2.kp _ η;have hx0:=S0.hx;have hl11:=W2.sm l _ gd.l;ext;refine Bh (SqL.of hl11) (v:=.ref x0') (Bs (j:=0) rfl) ?_;ext;refine#[_,x0',dx5,a5,cs5,rfl,hx0,S0.ha,λe0 H12 ne0 s12 he0=>?_];ext;have W12:=W2.same s12;refine#[kd5,kvs5,rfl,W12.hk,λkv h=>ua2 S0.ok (by rw[W2.qn];exact n76) (W2.kv _ η kv h),λke nke=>?_];generalize eZ:upd _ ke _=H13;obtain⟨s13,hke⟩:=nw1 eZ nke;ext;intro te nte;generalize eZ:upd _ te _=H14;obtain⟨s14,hte⟩:=nw1 eZ nte;have W14:=W12.same (s13.trans s14);have hS14:=W14.sm.seq gd.S;have hl14:=W14.sm l _ gd.l;ext;refine#[G,i,n,_,l,kd5,kvs5,q5,_,_,rfl,W14,hl14,jr _,∅,λH15 s15=>?_];have hl15:=s15 l _ hl14;have W15:=W14.same s15;have k20:=br kn (show (2:Int)≠0 by decide);have k21:=bg kn (show (0:Int)<2 by decide);obtain⟨xx,dxx,aa,exx,Sx⟩:∃xx dxx aa,atI [V.ref x0',V.ref x1] (kn%2)=some (.ref xx)/\KS ⋯ xx dxx aa q5 cs5 H15:=by
   rcases(show kn%2=0\/kn%2=1 by lia) with e | e <;> rw[e]
   exact#[x0',dx5,a5,rfl,W15.kp _ η];exact#[x1,dx1,a7,rfl,W15.kp _ (ι _ η)]
 ext;refine Bh (SqL.of hl15) exx ?_;ext;refine#[xx,dxx,aa,q5,cs5,rfl,Sx,by rw[W2.qn];lia,by rw[W2.qn];exact n76,λH16 s16=>?_];have W16:=W15.same s16;have hl16:=s16 l _ hl15;have S016:=W16.kp _ η;have hx016:=S016.hx;ext;refine Bh (SqL.of hl16) (v:=.ref x0') (Bs (j:=0) rfl) ?_;ext;refine#[_,x0',dx5,a5,cs5,rfl,hx016,S016.ha,λp17 H17 np17 s17 hp17=>?_];have S117:=(W16.kp _ (ι _ η)).same s17;have hx117:=S117.hx;ext;refine Bh (SqL.of (s17 l _ hl16)) (v:=.ref x1) (Bs (j:=1) rfl) ?_;ext;refine#[_,x1,dx1,a7,cs5,q5.ps,rfl,S117.bs,λp18 us18 H18 np18 s18 hp18 pa18=>?_];ext;intro kl nkl;generalize eZ:upd _ kl _=H19;obtain⟨s19,hkl⟩:=nw1 eZ nkl;have hp17':=s19 p17 _ (s18 p17 _ hp17);have hp18':=s19 p18 _ hp18;ext;refine Bh (SqL.of hkl) (v:=.ref p17) (Bs (j:=0) rfl) ?_;ext;intro c17 nc17;generalize eZ:upd _ c17 _=H20;obtain⟨s20,hc17⟩:=nw1 eZ nc17;ext;refine Bh (SqL.of (s20 kl _ hkl)) (v:=.ref p18) (Bs (j:=1) rfl) ?_;have hp18'':=s20 p18 _ hp18';ext;intro c18 nc18;generalize eZ:upd _ c18 _=H21;obtain⟨s21,hc18⟩:=nw1 eZ nc18;ext;intro cl ncl;generalize eZ:upd _ cl _=H22;obtain⟨s22,hcl⟩:=nw1 eZ ncl;have s20':=s21.trans s22;have s19':=s20.trans s20';have s17':=s18.trans (s19.trans s19');have W22:=W16.same (s17.trans s17');have hS22:=W22.sm.seq gd.S;ext;intro d2 H23 nd2 s23 hd2;have dl2:(yR ns (some 26) (some 50)).length<=24:=TR ns 26 50;generalize yR ns (some 26) (some 50)=dr2 at hd2 dl2;obtain⟨G2,s2G,ge,g2d,W⟩:∃G2,Same G G2/\Ge G2 te e0 ke kl cl p17 p18 c17 c18 cs5 kvs5 us18/\G2 d2=some (.lst (dr2.map V.int))/\Wd ⋯ G2 i n (shF i sh) kd5 kvs5 q5 [#[x0',dx5,a5,cs5],#[x1,dx1,a7,cs5]] H23:=by
   have nw:∀{A:Hp}{b:wa}{o:HO},Wd ⋯ G i n (shF i sh) kd5 kvs5 q5 [#[x0',dx5,a5,cs5],#[x1,dx1,a7,cs5]] A->A b=none->H23 b=some o->less [#[x0',dx5,a5,cs5],#[x1,dx1,a7,cs5]] H23 b=some o:=λW h g=>LD g ((W.kp _ η).new h) ((W.kp _ (ι _ η)).new h);have W17:=W16.same s17;have W19:=W17.same (s18.trans s19);have s16':=s16.trans (s17.trans (s17'.trans s23));have s20'':=s20'.trans s23;have s19'':=s19'.trans s23;have s14':=s14.trans (s15.trans s16');have z:=(W22.same s23).less;refine#[_,z.1,#[nw (W12.same s13) nte ((s15.trans s16') te _ hte),nw W2 ne0 ((s13.trans s14') e0 _ he0),nw W12 nke (s14' ke _ hke),nw (W17.same s18) nkl (s19'' kl _ hkl),nw (W19.same (s20.trans s21)) ncl (s23 cl _ hcl),jP (nw W16 np17 (s19'' p17 _ hp17')) (nw W17 np18 (s19'' p18 _ hp18')),jP (nw W19 nc17 (s20'' c17 _ hc17)) (nw (W19.same s20) nc18 ((s22.trans s23) c18 _ hc18))],nw W22 nd2 hd2,z.2]
 have rf18:∀u∈us18,BC u=true\/∃r,u = .ref r:=λu hu=>by
   obtain⟨j,hj⟩:=aj hu;obtain⟨t,_,e,_⟩:=La pa18 hj;exact .inr #[t,e]
 have qk5:=W2.kv _ η;have qi5:=W2.qi;have qn5:=W2.qn;have qs5:=W2.qs;refine#[d2,rfl,#[_,SqL.of (W.sm d2 _ g2d)],D3 (K:=K) (a:=d2) (xs:=dr2.map V.int) (λj σ' H'=>∃(kd:wa) (kvs:List (List Key×V)) (q':St7) (ks:List Kpr) (x9:Option V),σ'=[xa8 sc,xa9 kn,xa9 n,xa9 sh,some (.str (Hc i)),xa8 l,xa8 x3,xa8 pf,xa8 kd,x9,xa8 te,xa8 kl,xa8 cl]/\Wd ⋯ G2 i n (shF i sh) kd kvs q' ks H'/\ks.map (·.x)=[x0',x1]/\kvs.length<=24+j) #[kd5,kvs5,q5,_,x9,rfl,W,rfl,∅] (λj σ' H' _ ⟨_,_,_,_,_,_,W,_⟩=>SqL.of (W.sm d2 _ g2d)) ?_ ?_];clear W;rintro j y σ' H9 hj ⟨kd6,kvs6,q6,ks6,y9,rfl,W6,e6,hk6⟩;obtain⟨c6,rfl⟩:∃c,y=V.int c:=by
   rw[bh] at hj;obtain⟨c,_,e⟩:=cj.mp hj;exact#[c,e.symm]
 have hj24:j<24:=by have:=(γ.mp hj).1;rw[Φ] at this;lia
 have lof:∀{ks:List Kpr},ks.map (·.x)=[x0',x1]->[V.ref x0',V.ref x1]=ks.map (λk=>V.ref k.x)/\ks.length=2:=λ{ks} e=>by
   have h1:=congrArg (List.map V.ref) e;rw[List.map_map] at h1;have h2:=congrArg lz e;rw[Φ] at h2;exact#[h1.symm,h2]
 have hl9:=W6.sm l _ (s2G l _ gd.l);ext;refine#[G2,i,n,_,l,kd6,kvs6,q6,ks6,kn,c6,rfl,W6,by rw[<-(lof e6).1];exact hl9,by rw[(lof e6).2];decide,by rw[(lof e6).2];decide,∅,ir,λkd7 kvs7 q7 ks7 H11 W7 ex hl7=>?_];have e7:=ex.trans e6;have hl11:=W7.sm l _ (s2G l _ gd.l);ext;refine#[G2,i,n,_,l,kd7,kvs7,q7,ks7,c6,rfl,W7,by rw[<-(lof e7).1];exact hl11,by rw[(lof e7).2];decide,∅,λH13 s13=>?_];ext;exact#[kd7,kvs7,q7,ks7,_,rfl,W7.same s13,e7,∅];rintro σ' H9 ⟨kd6,kvs6,q6,ks6,y9,rfl,W6,e6,hk6⟩;obtain⟨dx6,a6,cs6,k16,rfl,_⟩:=ua1 e6;have S6:KS ⋯ x0' dx6 a6 q6 cs6 H9:=W6.kp _ η;have hx6:=S6.hx;have hl9:=W6.sm l _ (s2G l _ gd.l);have hte9:=W6.sm te _ ge.te;have he9:=W6.sm e0 _ ge.e0;ext;refine Bh (SqL.of hl9) (v:=.ref x0') (Bs (j:=0) rfl) ?_;ext;intro p10 np10;generalize eZ:upd _ p10 _=H10;obtain⟨s10,hp10⟩:=nw1 eZ np10;have S10:=S6.same s10;ext;refine#[q6.s,x0',p10,dx6,a6,cs6,cs5,q5.ps,rfl,S10.hx,S10.ha,by have:=S10.hl;have:=S0.hl;have:=W6.qn;lia,SqL.of hp10,by have:=S0.hz;lia,S0.ch,B0 S0.ch S0.mm,λa9 H11 na9 k11 hx11 ha11=>?_];have S11:=jL S0 S10 (W6.qi.trans qi5.symm) (W6.qs.trans qs5.symm) (by rw[qi5];exact inx) hx11 ha11;have n20:=(W6.fx _ η).1;have sG11:Same G2 H11:=λb o h=>k11 b o (λe=>by rw[e,n20] at h;cases h) (s10 b o (W6.sm b o h));have g29:G2 a9=none:=(W6.sm.trans s10).free na9;have hl11:=sG11 l _ (s2G l _ gd.l);have hx11:=S11.hx;have hte11:=sG11 te _ ge.te;ext;refine Bh (SqL.of hl11) (v:=.ref x0') (Bs (j:=0) rfl) ?_;ext;refine#[_,x0',dx6,a9,cs5,rfl,hx11,S11.ha,λp12 H12 np12 s12 hp12=>?_];have hte12:=s12 te _ hte11;ext;refine#[p12,e0,cs5,q5.ps,rfl,hp12,(sG11.trans s12) e0 _ ge.e0,S0.ch,S0.mm,S0.hz,λH13 s13=>?_];have sG13:=sG11.trans (s12.trans s13);have hte13:=s13 te _ hte12;have S13:=S11.same (s12.trans s13);have hS13:=sG13.seq (s2G.seq gd.S);ext;intro d3 H14 nd3 s14 hd3;have dl3:(yR ns (some 50) (some 54)).length<=4:=TR ns 50 54;generalize yR ns (some 50) (some 54)=dr3 at hd3 dl3;obtain⟨F3,s3G,f3d,W⟩:∃F3,Same G2 F3/\F3 d3=some (.lst (dr3.map V.int))/\Wd ⋯ F3 i n (shF i sh) ke kvs5 q5 [#[x0',dx6,a9,cs5]] H14:=by
   refine#[less [#[x0',dx6,a9,cs5]] H14,Te (sG13.trans s14) λk hk=>?_,Tf hd3 (S13.new nd3),LC,λk hk=>Ki hk,λk hk=>?_,jN,s14 ke _ (sG13 ke _ ge.ke),λk hk=>?_,qi5,qn5,qs5,#[∅,n76],inx];rw[χ.mp hk];exact#[n20,g29];rw[χ.mp hk];exact S13.same s14;rw[χ.mp hk];exact qk5
 have s4G:=s2G.trans s3G;refine#[d3,rfl,#[_,SqL.of (W.sm d3 _ f3d)],D3 (K:=K) (a:=d3) (xs:=dr3.map V.int) (λj σ' H'=>∃(kd:wa) (kvs:List (List Key×V)) (q':St7) (k:Kpr) (x9:Option V),σ'=[xa8 sc,xa9 kn,xa9 n,xa9 sh,some (.str (Hc i)),xa8 l,xa8 x3,xa8 pf,xa8 kd,x9,xa8 te,xa8 kl,xa8 cl]/\Wd ⋯ F3 i n (shF i sh) kd kvs q' [k] H'/\k.x=x0'/\kvs.length<=24+j) #[ke,kvs5,q5,_,y9,rfl,W,rfl,∅] (λj σ' H' _ ⟨_,_,_,_,_,_,W,_⟩=>SqL.of (W.sm d3 _ f3d)) ?_ ?_];clear W;rintro j y σ' H9 hj ⟨kd5,kvs5,q5,k5,x9,rfl,W5,e5,hk5⟩;obtain⟨c5,rfl⟩:∃c,y=V.int c:=by
   rw[bh] at hj;obtain⟨c,_,e⟩:=cj.mp hj;exact#[c,e.symm]
 have hj4:j<4:=by have:=(γ.mp hj).1;rw[Φ] at this;lia
 have hl9:=W5.sm l _ (s4G l _ gd.l);ext;intro p np;rw[Tg];have s10:Same H9 (upd H9 p (.lst [.ref x0'])):=Same.new np;have hp:upd H9 p (.lst [.ref x0']) p=some (.lst ([k5].map λk=>V.ref k.x)):=by rw[<-e5];exact xb5
 generalize upd H9 p (.lst [.ref x0'])=H10 at s10 hp ⊢;ext;refine#[F3,i,n,_,p,kd5,kvs5,q5,[k5],kn,c5,rfl,W5.same s10,hp,Γ _,jr _,∅,ir,λkd6 kvs6 q6 ks6 H11 W6 ex hl6=>?_];obtain⟨k6,rfl,e6⟩:=jO ex;have hl11:=W6.sm l _ (s4G l _ gd.l);ext;intro p2 np2;rw[Tg];have s12:Same H11 (upd H11 p2 (.lst [.ref x0'])):=Same.new np2;have hp2:upd H11 p2 (.lst [.ref x0']) p2=some (.lst ([k6].map λk=>V.ref k.x)):=by rw[<-e5,<-e6];exact xb5
 generalize upd H11 p2 (.lst [.ref x0'])=H12 at s12 hp2 ⊢;ext;refine#[F3,i,n,_,p2,kd6,kvs6,q6,[k6],c5,rfl,W6.same s12,hp2,Γ _,∅,λH13 s13=>?_];ext;exact#[kd6,kvs6,q6,k6,_,rfl,W6.same (s12.trans s13),e6.trans e5,∅];rintro σ' H9 ⟨kd7,kvs7,q7,k7,x97,rfl,W7,_,_⟩;have sF:=s3G.trans W7.sm;have sG:=s4G.trans W7.sm;ext;refine#[kl,cl,_,_,_,rfl,rfl,sF kl _ ge.kl,sF cl _ ge.cl,ge.l1.same sF,ge.l2.same sF,λxs hxs x hx=>?_,?_];rcases Ξ.mp hxs with e | e
 rw[e] at hx;obtain⟨m,_,rfl⟩:=ce.mp hx;exact .inl rfl;rw[χ.mp e] at hx;exact rf18 x hx;have hpf:=sG pf _ gd.f;have pf9:=gd.p.mono (λb xs h=>sG b _ h);ext;refine#[pf,rfl,#[_,SqL.of hpf],DX (K:=K) (a:=pf) (xs:=us) (fs:=[]) (λD j ys H2=>Same H9 H2/\H2 D=some (.lst ys)/\ys=ω j (.bl false)) (λD hD=>#[Same.new hD,xb5,rfl]) (λD j ys H2 _ h=>SqL.of (h.1 pf _ hpf)) ?_ ?_];rintro D j y ys H2 hD hj ⟨s2,hD2,rfl⟩ τ hτ;obtain⟨t,z,rfl,hz,hT⟩:=La (pf9.mono (λb xs h=>s2 b _ h)) hj;rw[f4 z (ζ hz)] at hT;have hjl:j<us.length:=(γ.mp hj).1;have hul:us.length<=1200:=by
   have:=gd.p.1;have:=gd.t.ch.le;have:=gd.t.hz;lia
 obtain⟨τ0,rfl⟩:=c_ hτ;ext;refine#[#[[_],rfl,rfl],?_];ext;exact#[hD2,small4000 (by rw[ae];lia),Co hjl #[s2.put hD,xb5,kh.symm]];rintro D ys H2 hD ⟨s2,hD2,rfl⟩;have hin:inV (.bl true) (ω us.length (.bl false))=false:=by
   unfold inV;rw[jg];intro y hy;rw[(gw.mp hy).2];decide
 have hfl:(ω us.length (V.bl false)).all BC=true:=iq.mpr λy hy=>by rw[(gw.mp hy).2];rfl
 refine#[D,_,rfl,.inl (SqL.of hD2),rfl,hfl,false,congrArg V.bl hin,?_];have S3:=gd.t.same (sG.trans s2);have hx3:=S3.hx;have hpf2:=s2 pf _ hpf;have pf2:=pf9.mono (λb xs h=>s2 b _ h);ext;refine#[_,x3,dx3,a3,cs3,q.ps,rfl,S3.bs,λpp us4 H4 np4 s4 hp4 pa4=>?_];ext;refine#[pp,pf,us4,us,q.ps,rfl,hp4,s4 pf _ hpf2,pa4,pf2.mono (λb xs h=>s4 b _ h),?_];have S4:=S3.same s4;have hx4:=S4.hx;ext;refine#[_,x3,dx3,a3,cs3,rfl,hx4,S4.ha,λp5 H5 np5 s5 hp5=>?_];ext;refine#[p5,cs3,q.ps,rfl,hp5,S4.ch,S4.mm,S4.hz,λb6 us6 H6 nb6 s6 hb6 pa6=>?_];have s46:=s4.trans (s5.trans s6);ext;refine#[b6,pf,us6,us,q.ps,rfl,rfl,hb6,s46 pf _ hpf2,pa6,pf2.mono (λb xs h=>s46 b _ h),?_];exact kk _
end
abbrev LkF(K:δ)(x q:Str)(s:wl)(D:vz)(f:wa)(oc:vz)(od:Option wa)(kV dc pm:vz)(an:Option wa)(cd ct:vz)(sl:Array (Option vz)):Prop:=K.lookup f=some #[oc,od,.func (fnOf x q (Bb s) (A3 s) (An s) D kV dc pm an cd ct),sl]
set_option autoImplicit true in
set_option relaxedAutoImplicit true in
theorem all_mk{l:oh}{w:wf}{h:xt}{fa:wa}(X:K.In h)(G:h.Ns xg mg)(hfa:mg "law"=some (.ref fa)){D8:wa}{Kj:Tok}{E4:vz}{E5:Option wa}{E6:Nat}
   {Y0 E2 AY Y5 Y9 Y3 Y8 Da Y2 A5 Y7 Y6 Ah Y4 Y1 Ae Af Ac Ag:wa}{D9:wa}{Kk:Tok}{E8:vz}{E9:Option wa}{Fa:Nat}
   {Ea:wa}{Kl:Tok}{Fc:vz}{Fd:Option wa}{Fe:Nat}
   {Eb:wa}{Km:Tok}{Fg:vz}{Fh:Option wa}{Fi:Nat}
   {Ec:wa}{Kn:Tok}{Fk:vz}{Fl:Option wa}{Fm:Nat}
   {Ed:wa}{Ko:Tok}{Fo:vz}{Fp:Option wa}{Fq:Nat}
   {Ee:wa}{Kq:Tok}{Fs:vz}{Ft:Option wa}{Fu:Nat}
   {Ef:wa}{Kr:Tok}{Fw:vz}{Fx:Option wa}{Fy:Nat}
   (T:Txt K mg Y0 E2 AY Y5 Y9 Y3 Y8 Da Y2 A5 Y7 Y6 Ah Y4 Y1 Ae Af Ac Ag m6 m7)(Vf:Src K mg "_wall" UO)(Oh:Src K mg "check_ask" Rv)(Vg:Src K mg "check_plain_ask" EG)(Oi:Src K mg "mark_of" Rw)(Oj:Src K mg "long_of" Rx)(Ol:Src K mg "live_of" Ry)(Om:Src K mg "can_begin" Rz)(On:Src K mg "bad_of_piece" RA)(Oo:Src K mg "looked" RB)(Op:Src K mg "fresh_room" RC)(Ks:Src K mg "laid" RD)(Oq:Src K mg "laid_free" RE)(Os:Src K mg "piece_at" RF)(Ot:Src K mg "live_at" RG)(Ou:Src K mg "free_at" RH)(Ov:Src K mg "begin_around" RI)(Ow:Src K mg "free_begin" RJ)(Ox:Src K mg "free_end" RK)(Oy:Src K mg "cut_out" RL)(Kt:Src K mg "freed" RM)(Oz:Src K mg "joined_pieces" RO)(OA:Src K mg "joined" RP)(OB:Src K mg "carried" RQ)(OC:Src K mg "is_power" RS)(OD:Src K mg "block_for" RT)(OE:Src K mg "least_free" RU)(OF:Src K mg "cut_down" RW)(Vh:Src K mg "grown_together" EH)(OG:Src K mg "all_whole" RY)(OH:Src K mg "begin_of" RZ)(OI:Src K mg "whole_ones" R0)(OJ:Src K mg "free_slots" R1)(OK:Src K mg "cut_for" R3)(OL:Src K mg "with_slot" R4)(OM:Src K mg "has_live" R5)(ON:Src K mg "first_place" R6)(OO:Src K mg "spots_for" R7)(OP:Src K mg "least_place" R9)(OQ:Src K mg "stretches_of" Sa)(OR:Src K mg "_law_cell_at" Sb)(OS:Src K mg "_law_whole" Sc)(OT:Src K mg "_law_alike" Sd)(OU:Src K mg "_law_walk" Se)(OV:Src K mg "_law_number" Sg)(OW:Src K mg "_law_answer" Sh)(Ku:Src K mg "_law_way" Si)(OX:Src K mg "_law_known" Sj)(OY:Src K mg "_law_step" Sk)(OZ:Src K mg "_law_holds" Sl)(O0:Src K mg "_law_seen" Sm)(O1:Src K mg "_law_like" Sn)(O2:Src K mg "_law_lay_refused" So)(O3:Src K mg "_law_laid" Sq)(O4:nI K "keeper_of" l8)(O5:LkF K "keeper_of" "keeper_of" Ew (.ref D8) l8 z6 z7 z8 z9 pm_Z47 an_Z47 m8 ct_Z47 sl_Z47)(Kv:K.lookup D8=some #[E4,E5,.seq [.int 8 Kj].toArray E6,E7])(O6:cI K m8 "keeper_of")(O7:kI K l8)(a_law:nI K "law" f_law)(l_law:LkF K "law" "law" Jr .none f_law oc_law od_law kV_law dc_law pm_law an_law cd_law ct_law sl_law)(c_law:cI K cd_law "law")(k_law:kI K f_law)(vA:nI K "Broken" Y5)(vB:K.lookup Y5=some (excClassObj zfk zfl Y5 N_Broken zfm zaJ zfn zfo zeC zfp zeD zfq zfr zfs zft zfu zfv zcM))(vC:excIn K Y0 [.type "ValueError",.type "Exception",.type "BaseException",.type "object"] "ValueError.__new__"=true)(vD:kI K Y5)(Vi:fI K Y5 "__init__" zaw)(jQ:LkF K "__init__" "Broken.__init__" Sr .none zaw zaY zcP zcQ zcR zcS zcT zaZ zcU zcV)(vE:cI K zaZ "Broken.__init__")(vF:kI K zaw)(vG:zaJ = .ref Y0::[.type "ValueError",.type "Exception",.type "BaseException",.type "object"])(vH:zcM="ValueError.__new__")(vJ:zaY = .type "function")(Vj:findCls K (.ref Y7) (.type "type") "__init__"=some (.val (.ref l9)))(LE:LkF K "__init__" "Keeper.__init__" EJ .none l9 zcZ zda zdb zdc zdd zde zba zdf zdg)(LF:cI K zba "Keeper.__init__")(Hd:kI K l9)(vK:specialIn K (.ref Y7) "__getattribute__"=some (some (.builtin "type.__getattribute__")))(vL:readsIn K Y7 (.type "type")=true)(Vk:fI K Ae "__init__" l9)(Th:iI K l9)(vM:makesIn K Ae=true)(vN:kI K Ae)(Vl:fI K Af "__init__" l9)(vO:makesIn K Af=true)(vP:kI K Af)(Vm:fI K Ag "__init__" l9)(vQ:makesIn K Ag=true)(vS:kI K Ag)(Vn:fI K Ah "__init__" l9)(mk_Row:makesIn K Ah=true)(kp_Row:kI K Ah)(Vo:findCls K (.ref Y1) (.type "type") "__init__"=some (.val (.ref l9)))(vT:specialIn K (.ref Y1) "__getattribute__"=some (some (.builtin "type.__getattribute__")))(vU:readsIn K Y1 (.type "type")=true)(Vp:fI K Ac "__init__" zaG)(vV:LkF K "__init__" "Next.__init__" Ss .none zaG zed zee zef zeg zeh zei zbt zej zek)(vW:cI K zbt "Next.__init__")(vX:kI K zaG)(vY:iI K zaG)(vZ:makesIn K Ac=true)(wB:kI K Ac)(Vq:fI K Y6 "room_begin" f9)(Vr:fI K Y4 "room_begin" f9)(Vs:fI K Ah "room_begin" f9)(Vt:LkF K "room_begin" "Keeper.room_begin" EK .none f9 oc_Z3 od_Z3 kV_Z3 dc_Z3 pm_Z3 an_Z3 v7 ct_Z3 sl_Z3)(Vu:cI K v7 "Keeper.room_begin")(FA:kI K f9)(Eg:iI K f9)(wC:fI K Ae "room_begin" g8)(wD:fI K Af "room_begin" g8)(wE:fI K Ag "room_begin" g8)(Vv:LkF K "room_begin" "Stretches.room_begin" EL .none g8 oc_Z1 od_Z1 kV_Z1 dc_Z1 pm_Z1 an_Z1 v8 ct_Z1 sl_Z1)(Vw:cI K v8 "Stretches.room_begin")(FC:kI K g8)(Eh:iI K g8)(Vx:fI K Ac "room_begin" n6)(Vy:LkF K "room_begin" "Next.room_begin" EM .none n6 oc_Z7 od_Z7 kV_Z7 dc_Z7 pm_Z7 an_Z7 v9 ct_Z7 sl_Z7)(Vz:cI K v9 "Next.room_begin")(O8:kI K n6)(O9:iI K n6)(Pa:fI K Ae "lay" a8)(Pb:fI K Af "lay" a8)(Pd:fI K Ac "lay" a8)(Pe:fI K Ag "lay" a8)(Pf:fI K Y6 "lay" a8)(Pg:fI K Y4 "lay" a8)(Ph:fI K Ah "lay" a8)(He:LkF K "lay" "Keeper.lay" ML .none a8 oc_Z40 od_Z40 kV_Z40 dc_Z40 pm_Z40 an_Z40 n8 ct_Z40 sl_Z40)(Hf:cI K n8 "Keeper.lay")(AR:kI K a8)(AN:iI K a8)(VA:fI K Ae "pieces" b5)(VB:fI K Af "pieces" b5)(VC:fI K Ac "pieces" b5)(VD:fI K Ag "pieces" b5)(VE:fI K Y6 "pieces" b5)(VF:fI K Y4 "pieces" b5)(VG:fI K Ah "pieces" b5)(Pi:LkF K "pieces" "Keeper.pieces" Sw .none b5 oc_Z15 od_Z15 kV_Z15 dc_Z15 pm_Z15 an_Z15 n9 ct_Z15 sl_Z15)(Pj:cI K n9 "Keeper.pieces")(BN:kI K b5)(Bn:iI K b5)(VH:fI K Ae "cells" b7)(VI:fI K Af "cells" b7)(VJ:fI K Ac "cells" b7)(VL:fI K Ag "cells" b7)(VM:fI K Y6 "cells" b7)(VN:fI K Y4 "cells" b7)(VO:fI K Ah "cells" b7)(Pk:LkF K "cells" "Keeper.cells" Sy .none b7 oc_Z17 od_Z17 kV_Z17 dc_Z17 pm_Z17 an_Z17 o0 ct_Z17 sl_Z17)(Pl:cI K o0 "Keeper.cells")(BO:kI K b7)(Bo:iI K b7)(VP:fI K Y6 "__init__" zax)(wF:LkF K "__init__" "Halves.__init__" Su .none zax zdj zdk zdl zdm zdn zdo zbb zdp zdq)(wG:cI K zbb "Halves.__init__")(wH:kI K zax)(wI:iI K zax)(wJ:makesIn K Y6=true)(wK:kI K Y6)(Pm:fI K Y6 "ask" g9)(Pn:LkF K "ask" "Halves.ask" EN (.ref D9) g9 oc_Z41 od_Z41 kV_Z41 dc_Z41 pm_Z41 an_Z41 o4 ct_Z41 sl_Z41)(Kw:K.lookup D9=some #[E8,E9,.seq [.int 1 Kk].toArray Fa,Fb])(Po:cI K o4 "Halves.ask")(Hg:kI K g9)(Kx:iI K g9)(VQ:fI K Y4 "__init__" zav)(wL:LkF K "__init__" "Shelves.__init__" Sv .none zav zbY zbZ zca zcb zcc zcd zaR zce zcf)(wM:cI K zaR "Shelves.__init__")(wN:kI K zav)(wO:iI K zav)(wP:makesIn K Y4=true)(wQ:kI K Y4)(Pp:fI K Y4 "ask" h9)(Pq:LkF K "ask" "Shelves.ask" EO (.ref Ea) h9 oc_Z25 od_Z25 kV_Z25 dc_Z25 pm_Z25 an_Z25 o5 ct_Z25 sl_Z25)(Ky:K.lookup Ea=some #[Fc,Fd,.seq [.int 1 Kl].toArray Fe,Ff])(Pr:cI K o5 "Shelves.ask")(Hh:kI K h9)(Kz:iI K h9)(Ps:fI K Ah "ask" i4)(Pt:LkF K "ask" "Row.ask" EQ (.ref Eb) i4 oc_Z76 od_Z76 kV_Z76 dc_Z76 pm_Z76 an_Z76 o6 ct_Z76 sl_Z76)(KA:K.lookup Eb=some #[Fg,Fh,.seq [.int 1 Km].toArray Fi,Fj])(Pu:cI K o6 "Row.ask")(Hi:kI K i4)(KB:iI K i4)(Pw:fI K Ae "chosen" i5)(Px:LkF K "chosen" "First.chosen" SC .none i5 oc_Z18 od_Z18 kV_Z18 dc_Z18 pm_Z18 an_Z18 o7 ct_Z18 sl_Z18)(Py:cI K o7 "First.chosen")(Hj:kI K i5)(KC:iI K i5)(Pz:fI K Af "chosen" i6)(PB:LkF K "chosen" "Best.chosen" SD .none i6 oc_Z31 od_Z31 kV_Z31 dc_Z31 pm_Z31 an_Z31 o8 ct_Z31 sl_Z31)(PD:cI K o8 "Best.chosen")(Hk:kI K i6)(KD:iI K i6)(PF:fI K Ac "chosen" i7)(PJ:LkF K "chosen" "Next.chosen" SE .none i7 oc_Z28 od_Z28 kV_Z28 dc_Z28 pm_Z28 an_Z28 o9 ct_Z28 sl_Z28)(PK:cI K o9 "Next.chosen")(Hl:kI K i7)(KE:iI K i7)(PL:fI K Ag "chosen" i8)(PM:LkF K "chosen" "Likes.chosen" SG .none i8 oc_Z21 od_Z21 kV_Z21 dc_Z21 pm_Z21 an_Z21 p9 ct_Z21 sl_Z21)(PN:cI K p9 "Likes.chosen")(Ho:kI K i8)(KF:iI K i8)(wR:fI K Ae "room_granted" i9)(wS:fI K Af "room_granted" i9)(wT:fI K Ag "room_granted" i9)(VR:LkF K "room_granted" "Stretches.room_granted" ER .none i9 oc_Z0 od_Z0 kV_Z0 dc_Z0 pm_Z0 an_Z0 w6 ct_Z0 sl_Z0)(VS:cI K w6 "Stretches.room_granted")(FD:kI K i9)(Ei:iI K i9)(VT:fI K Ac "room_granted" q8)(VU:LkF K "room_granted" "Next.room_granted" ES .none q8 oc_Z5 od_Z5 kV_Z5 dc_Z5 pm_Z5 an_Z5 w9 ct_Z5 sl_Z5)(VV:cI K w9 "Next.room_granted")(PP:kI K q8)(PQ:iI K q8)(VW:fI K Ae "ask" d6)(VX:fI K Af "ask" d6)(VY:fI K Ac "ask" d6)(VZ:fI K Ag "ask" d6)(PR:LkF K "ask" "Stretches.ask" ET (.ref Ec) d6 oc_Z12 od_Z12 kV_Z12 dc_Z12 pm_Z12 an_Z12 r6 ct_Z12 sl_Z12)(KG:K.lookup Ec=some #[Fk,Fl,.seq [.int 1 Kn].toArray Fm,Fn])(PU:cI K r6 "Stretches.ask")(CQ:kI K d6)(CD:iI K d6)(V0:fI K Ae "many" b8)(V1:fI K Af "many" b8)(V2:fI K Ac "many" b8)(V3:fI K Ag "many" b8)(V4:fI K Y6 "many" b8)(V5:fI K Y4 "many" b8)(V6:fI K Ah "many" b8)(PV:LkF K "many" "Keeper.many" SH .none b8 oc_Z30 od_Z30 kV_Z30 dc_Z30 pm_Z30 an_Z30 r8 ct_Z30 sl_Z30)(PY:cI K r8 "Keeper.many")(BP:kI K b8)(Bp:iI K b8)(wU:fI K Ae "room_cell_of" d5)(V7:fI K Af "room_cell_of" d5)(V8:fI K Ac "room_cell_of" d5)(V9:fI K Ag "room_cell_of" d5)(wV:fI K Y6 "room_cell_of" d5)(wW:fI K Y4 "room_cell_of" d5)(Wa:fI K Ah "room_cell_of" d5)(Wb:LkF K "room_cell_of" "Keeper.room_cell_of" EU .none d5 oc_Z2 od_Z2 kV_Z2 dc_Z2 pm_Z2 an_Z2 y6 ct_Z2 sl_Z2)(Wc:cI K y6 "Keeper.room_cell_of")(CT:kI K d5)(Ci:iI K d5)(We:fI K Ae "put" b9)(Wf:fI K Af "put" b9)(Wg:fI K Ac "put" b9)(Wh:fI K Ag "put" b9)(Wi:fI K Y6 "put" b9)(Wj:fI K Y4 "put" b9)(Wk:fI K Ah "put" b9)(PZ:LkF K "put" "Keeper.put" SJ .none b9 oc_Z35 od_Z35 kV_Z35 dc_Z35 pm_Z35 an_Z35 r9 ct_Z35 sl_Z35)(P0:cI K r9 "Keeper.put")(BQ:kI K b9)(Bq:iI K b9)(Wl:fI K Ae "get" c7)(Wm:fI K Af "get" c7)(Wn:fI K Ac "get" c7)(Wo:fI K Ag "get" c7)(Wp:fI K Y6 "get" c7)(Wq:fI K Y4 "get" c7)(Wr:fI K Ah "get" c7)(P1:LkF K "get" "Keeper.get" SK .none c7 oc_Z39 od_Z39 kV_Z39 dc_Z39 pm_Z39 an_Z39 t7 ct_Z39 sl_Z39)(P2:cI K t7 "Keeper.get")(BR:kI K c7)(Br:iI K c7)(Ws:fI K Ae "give" f8)(Wt:fI K Af "give" f8)(Wu:fI K Ac "give" f8)(Wv:fI K Ag "give" f8)(Ww:LkF K "give" "Stretches.give" EV .none f8 oc_Z8 od_Z8 kV_Z8 dc_Z8 pm_Z8 an_Z8 y7 ct_Z8 sl_Z8)(Wx:cI K y7 "Stretches.give")(Ej:kI K f8)(DK:iI K f8)(P3:fI K Ah "give" j6)(P4:LkF K "give" "Row.give" SL .none j6 oc_Z57 od_Z57 kV_Z57 dc_Z57 pm_Z57 an_Z57 u4 ct_Z57 sl_Z57)(P5:cI K u4 "Row.give")(Hq:kI K j6)(KH:iI K j6)(P6:fI K Y6 "give" j7)(P7:LkF K "give" "Halves.give" SM .none j7 oc_Z27 od_Z27 kV_Z27 dc_Z27 pm_Z27 an_Z27 u5 ct_Z27 sl_Z27)(P8:cI K u5 "Halves.give")(Hr:kI K j7)(KI:iI K j7)(P9:fI K Y4 "give" j8)(Qa:LkF K "give" "Shelves.give" SN .none j8 oc_Z20 od_Z20 kV_Z20 dc_Z20 pm_Z20 an_Z20 u6 ct_Z20 sl_Z20)(Qb:cI K u6 "Shelves.give")(Hs:kI K j8)(KJ:iI K j8)(Wz:fI K Ae "room_moved" d8)(WA:fI K Af "room_moved" d8)(WB:fI K Ac "room_moved" d8)(WC:fI K Ag "room_moved" d8)(WD:fI K Y6 "room_moved" d8)(wX:fI K Y4 "room_moved" d8)(WE:fI K Ah "room_moved" d8)(WF:LkF K "room_moved" "Keeper.room_moved" EW .none d8 oc_Z4 od_Z4 kV_Z4 dc_Z4 pm_Z4 an_Z4 z5 ct_Z4 sl_Z4)(WG:cI K z5 "Keeper.room_moved")(CU:kI K d8)(Cj:iI K d8)(WH:fI K Y6 "grow" d9)(WI:fI K Y4 "grow" d9)(Qc:LkF K "grow" "Keeper.grow" EY (.ref Ed) d9 oc_Z32 od_Z32 kV_Z32 dc_Z32 pm_Z32 an_Z32 u7 ct_Z32 sl_Z32)(KK:K.lookup Ed=some #[Fo,Fp,.seq [.int 1 Ko].toArray Fq,Fr])(Qd:cI K u7 "Keeper.grow")(Ek:kI K d9)(El:iI K d9)(WJ:fI K Ah "grow" j9)(Qe:LkF K "grow" "Row.grow" EZ (.ref Ee) j9 oc_Z58 od_Z58 kV_Z58 dc_Z58 pm_Z58 an_Z58 u8 ct_Z58 sl_Z58)(KL:K.lookup Ee=some #[Fs,Ft,.seq [.int 1 Kq].toArray Fu,Fv])(Qf:cI K u8 "Row.grow")(Ht:kI K j9)(KM:iI K j9)(WK:fI K Ae "grow" d7)(WL:fI K Af "grow" d7)(WM:fI K Ac "grow" d7)(WN:fI K Ag "grow" d7)(Qg:LkF K "grow" "Stretches.grow" E1 (.ref Ef) d7 oc_Z10 od_Z10 kV_Z10 dc_Z10 pm_Z10 an_Z10 u9 ct_Z10 sl_Z10)(KN:K.lookup Ef=some #[Fw,Fx,.seq [.int 1 Kr].toArray Fy,Fz])(Qh:cI K u9 "Stretches.grow")(CV:kI K d7)(CF:iI K d7)(WO:fI K Ae "clear" d4)(WP:fI K Af "clear" d4)(WQ:fI K Ac "clear" d4)(WR:fI K Ag "clear" d4)(WS:fI K Y6 "clear" d4)(WT:fI K Ah "clear" d4)(Qi:LkF K "clear" "Keeper.clear" SQ .none d4 oc_Z23 od_Z23 kV_Z23 dc_Z23 pm_Z23 an_Z23 v5 ct_Z23 sl_Z23)(Qj:cI K v5 "Keeper.clear")(Ck:kI K d4)(BG:iI K d4)(WU:fI K Y4 "clear" l7)(Qk:LkF K "clear" "Shelves.clear" SR .none l7 oc_Z14 od_Z14 kV_Z14 dc_Z14 pm_Z14 an_Z14 v6 ct_Z14 sl_Z14)(Ql:cI K v6 "Shelves.clear")(Hu:kI K l7)(KO:iI K l7):
   ∃fd:wc,(∀(s:wb)(v:vz),BindsTo s fd #[[v],[]] [("_law_script",v)])/\∀base:xt,K.In base->base.Ns xg mg->FnOk l.prog w K mg base (CXe l.prog w) 13 fa fd Ϻ (QR K):=by
 have e:=hfa.symm.trans (mg_of X G a_law);cases e;have Qm:=rE (st:=Ew) X G O4 O5 O6 O7;subst vG vH vJ;have XI_Broken:ud4 K mg "Broken" Y5 Y0 zaw:=#[mg_of X G vA,#[_,_,_,_,_,_,_,_,_,_,_,_,_,_,_,vB],vC,Vi,vD,#[_,_,_,_,jQ,rfl]]
 refine#[fnOf "law" "law" (Bb Jr) (A3 Jr) (An Jr) .none kV_law dc_law pm_law an_law cd_law ct_law,λs v=>.of_eq rfl,λbase _ _=>?_];have Bw:=MZ l.prog w base T Oi ;have AC:=M0 l.prog w base T Oj ;have AZ:=M3 l.prog w base T Ol ;have Dm:=M4 l.prog w base T AC AZ Om;have Dn:=M5 l.prog w base T AC Dm On;have D_Broken:=tR (P:=l.prog) (w:=w) (base:=base) (A9 jQ vE vF) XI_Broken T.gB;have Ay:=M6 l.prog w base T AC AZ Dn D_Broken Oo;have AD:=M7 l.prog w base T Bw Op;have Ap:=J3 l.prog w base T Bw Ks;have Be:=M8 l.prog w base T Ap Oq;have Do:=M9 l.prog w base T Oz ;have B8:=Na l.prog w base T Ap Ay Do OA;have B6:=Nb l.prog w base T Ay Os;have Bi:=Nc l.prog w base T B6 Ot;have Dp:=Nd l.prog w base T B6 Ou;have Cc:=Nf l.prog w base T Ap Dp Be Oy;have Dq:=Ng l.prog w base T AC AZ Ow;have B7:=Nh l.prog w base T AC AZ Ox;have Cz:=J5 l.prog w base T Be Bi Dq B7 Kt;have DC:=Ni l.prog w base T OB ;have Bj:=Nj l.prog w base T Oh ;have BF:=U2 l.prog w base T Bj Vg;have B9:=Nk l.prog w base T AD (A9 LE LF Hd) #[vK,vL,Vj,Hd];have D_First:=tT l.prog w base T AD (A9 LE LF Hd) #[vM,Vk,Th,vN];have D_Best:=uc7 l.prog w base T AD (A9 LE LF Hd) #[vO,Vl,Th,vP];have D_Likes:=tU l.prog w base T AD (A9 LE LF Hd) #[vQ,Vm,Th,vS];have D_Row:=d_Row l.prog w base T AD (A9 LE LF Hd) #[mk_Row,Vn,Th,kp_Row];have Dr:=Nl l.prog w base T AD (A9 LE LF Hd) #[vT,vU,Vo,Hd];have D_Next:=uc6 l.prog w base T Dr (A9 vV vW vX) #[vZ,Vp,vY,wB];have KP:=J6 l.prog w base T (A9 Vt Vu FA) (λi hi=>by cases i <;> first | exact#[Vq,Eg,FA] | exact#[Vr,Eg,FA] | exact#[Vs,Eg,FA] | exact xb0 rfl hi | cases hi | exact hi.elim) ;have KQ:=J7 l.prog w base T B8 (A9 Vv Vw FC) (λi hi=>by cases i <;> first | exact#[wC,Eh,FC] | exact#[wD,Eh,FC] | exact#[wE,Eh,FC] | exact xb0 rfl hi | cases hi | exact hi.elim);have KR:=J8 l.prog w base T B8 (A9 Vy Vz O8) (λi hi=>by cases i <;> first | exact#[Vx,O9,O8] | exact xb0 rfl hi | cases hi | exact hi.elim);have D_room_begin:A6 l.prog w K mg base ⋯ "room_begin" 6 ϑ [] (Nm K ⋯):=λi=>by cases i <;> first | exact(KQ _ (by first | exact bu | exact rfl | (intro e;cases e <;> fail) | fail)).up m!"" | exact(KR _ (by first | exact bu | exact rfl | (intro e;cases e <;> fail) | fail)).up m!"" | exact(KP _ (by first | exact bu | exact rfl | (intro e;cases e <;> fail) | fail)).up m!""
 have D_lay:=d_lay l.prog w base T Ay D_room_begin (A9 He Hf AR) (Ev (Q:=λC=>yI K C "lay" a8) #[Pa,AN,AR] #[Pb,AN,AR] #[Pd,AN,AR] #[Pe,AN,AR] #[Pf,AN,AR] #[Pg,AN,AR] #[Ph,AN,AR]);have AI:=Nn l.prog w base T Ay (A9 Pi Pj BN) (Ev (Q:=λC=>yI K C "pieces" b5) #[VA,Bn,BN] #[VB,Bn,BN] #[VC,Bn,BN] #[VD,Bn,BN] #[VE,Bn,BN] #[VF,Bn,BN] #[VG,Bn,BN]);have Ak:=J9 l.prog w base T (A9 Pk Pl BO) (Ev (Q:=λC=>yI K C "cells" b7) #[VH,Bo,BO] #[VI,Bo,BO] #[VJ,Bo,BO] #[VL,Bo,BO] #[VM,Bo,BO] #[VN,Bo,BO] #[VO,Bo,BO]) ;have Ds:=No l.prog w base T OC ;have D_Halves:=tX l.prog w base T Ds B9 (A9 wF wG wH) #[wJ,VP,wI,wK];have Dt:=Np l.prog w base T OD ;have Du:=Nq l.prog w base T OE ;have Dv:=Nr l.prog w base T Ap OF;have Em:=Ka l.prog w base T BF Dt AI Du Ak Dv D_lay (G4 Pn Po Hg) Kw #[Pm,Kx,Hg];have Cb:=Nu l.prog w base T AD OG;have Bk:=Nv l.prog w base T OH ;have Dw:=Nw l.prog w base T Ay OI;have Ca:=Ny l.prog w base T AC Ay Bk OJ;have Dx:=Nz l.prog w base T Ap OK;have Dy:=NA l.prog w base T Ca Dw Dx OL;have D_Shelves:=uD l.prog w base T B9 D_lay Cb (A9 wL wM wN) #[wP,VQ,wO,wQ];have Hv:=NB l.prog w base T Ap BF Ak D_lay Ca Dy (G4 Pq Pr Hh) Ky #[Pp,Kz,Hh];have Hw:=NC l.prog w base T BF AI Ak D_lay Cc (G4 Pt Pu Hi) KA #[Ps,KB,Hi];have Dz:=ND l.prog w base T ON ;have A0:=NE l.prog w base T Ay Dz OO;have A1:=NG l.prog w base T OP ;have DA:=NH l.prog w base T Ay Ov;have Qn:=NI l.prog w base T A0 A1 (A9 Px Py Hj) #[Pw,KC,Hj];have Qo:=NJ l.prog w base T AC A0 A1 (A9 PB PD Hk) #[Pz,KD,Hk];have Qq:=NK l.prog w base T A0 A1 (A9 PJ PK Hl) #[PF,KE,Hl];have Qr:=NL l.prog w base T AC A0 A1 (A9 PM PN Ho) #[PL,KF,Ho];have D_chosen:Bz l.prog w K mg base (ok4) ⋯ "chosen" 6 ϔ [] (Lz ⋯):=λi hi=>by cases i <;> first | exact Qn.up m!"" | exact Qo.up m!"" | exact Qq.up m!"" | exact Qr.up m!"" | exact hi.elim
 have KU:=Kb l.prog w base T (A9 VR VS FD) (λi hi=>by cases i <;> first | exact#[wR,Ei,FD] | exact#[wS,Ei,FD] | exact#[wT,Ei,FD] | exact xb0 rfl hi | cases hi | exact hi.elim) ;have KW:=Kd l.prog w base T (A9 VU VV PP) (λi hi=>by cases i <;> first | exact#[VT,PQ,PP] | exact xb0 rfl hi | cases hi | exact hi.elim) ;have D_room_granted:Bz l.prog w K mg base (ok4) ⋯ "room_granted" 1 Ϝ [] (S9 ⋯):=λi hi=>by cases i <;> first | exact(KU _ (by first | exact bu | exact rfl | (intro e;cases e <;> fail) | fail)).up m!"" | exact(KW _ (by first | exact bu | exact rfl | (intro e;cases e <;> fail) | fail)).up m!"" | exact hi.elim
 have En:=Ke l.prog w base T Bj Cc D_chosen DA D_room_granted (G4 PR PU CQ) KG (λi hi=>by cases i <;> first | exact#[VW,CD,CQ] | exact#[VX,CD,CQ] | exact#[VY,CD,CQ] | exact#[VZ,CD,CQ] | exact xb0 rfl hi | cases hi | exact hi.elim);have D_ask:ze l.prog w K mg base ⋯ "ask" 8 ύ [.int 1] (Lx ⋯ A5):=#[λi=>by cases i <;> first | exact(En.all _ (by first | exact bu | exact rfl | (intro e;cases e <;> fail) | fail)).up m!"" | exact Em.all.up m!"" | exact Hv.all.up m!"" | exact Hw.all.up m!"",λi=>by cases i <;> first | exact(En.less _ (by first | exact bu | exact rfl | (intro e;cases e <;> fail) | fail)).up m!"" | exact Em.less.up m!"" | exact Hv.less.up m!"" | exact Hw.less.up m!""]
 have AH:=Kf l.prog w base T Bi (A9 PV PY BP) (Ev (Q:=λC=>yI K C "many" b8) #[V0,Bp,BP] #[V1,Bp,BP] #[V2,Bp,BP] #[V3,Bp,BP] #[V4,Bp,BP] #[V5,Bp,BP] #[V6,Bp,BP]);have Cd:=NM l.prog w base T AH (A9 Wb Wc CT) (Ev (Q:=λC=>yI K C "room_cell_of" d5) #[wU,Ci,CT] #[V7,Ci,CT] #[V8,Ci,CT] #[V9,Ci,CT] #[wV,Ci,CT] #[wW,Ci,CT] #[Wa,Ci,CT]);have D_put:=d_put l.prog w base T Cd (A9 PZ P0 BQ) (Ev (Q:=λC=>yI K C "put" b9) #[We,Bq,BQ] #[Wf,Bq,BQ] #[Wg,Bq,BQ] #[Wh,Bq,BQ] #[Wi,Bq,BQ] #[Wj,Bq,BQ] #[Wk,Bq,BQ]);have D_get:=d_get l.prog w base T Cd (A9 P1 P2 BR) (Ev (Q:=λC=>yI K C "get" c7) #[Wl,Br,BR] #[Wm,Br,BR] #[Wn,Br,BR] #[Wo,Br,BR] #[Wp,Br,BR] #[Wq,Br,BR] #[Wr,Br,BR]);have Qs:=NO l.prog w base T Cz (A9 Ww Wx Ej) (λi hi=>by cases i <;> first | exact#[Ws,DK,Ej] | exact#[Wt,DK,Ej] | exact#[Wu,DK,Ej] | exact#[Wv,DK,Ej] | exact xb0 rfl hi | cases hi | exact hi.elim);have Qt:=NP l.prog w base T (A9 P4 P5 Hq) #[P3,KH,Hq] ;have E3:=U8 l.prog w base T Vh ;have Qu:=NQ l.prog w base T Ap AI Ak D_lay AH E3 (A9 P7 P8 Hr) #[P6,KI,Hr];have DB:=NR l.prog w base T Ay Bk OM;have Qv:=NS l.prog w base T Ap Ak D_lay Bk AH DB (A9 Qa Qb Hs) #[P9,KJ,Hs];have D_give:A6 l.prog w K mg base ⋯ "give" 8 ϒ [] (LA ⋯):=λi=>by cases i <;> first | exact(Qs _ (by first | exact bu | exact rfl | (intro e;cases e <;> fail) | fail)).up m!"" | exact Qu.up m!"" | exact Qv.up m!"" | exact Qt.up m!""
 have Ce:=NT l.prog w base T AH D_ask DC D_give (A9 WF WG CU) (λi hi=>by cases i <;> first | exact#[Wz,Cj,CU] | exact#[WA,Cj,CU] | exact#[WB,Cj,CU] | exact#[WC,Cj,CU] | exact#[WD,Cj,CU] | exact#[wX,Cj,CU] | exact#[WE,Cj,CU] | exact xb0 rfl hi | cases hi | exact hi.elim);have Hx:=NV l.prog w base T BF AH Ce (G4 Qc Qd Ek) KK (λi hi=>by cases i <;> first | exact#[WH,El,Ek] | exact#[WI,El,Ek] | exact xb0 rfl hi | cases hi | exact hi.elim);have Hy:=NW l.prog w base T (G4 Qe Qf Ht) KL (λi hi=>by cases i <;> first | exact#[WJ,KM,Ht] | exact xb0 rfl hi | cases hi | exact hi.elim) ;have Hz:=NX l.prog w base T Ap Be Bi B7 Bj Ce (G4 Qg Qh CV) KN (λi hi=>by cases i <;> first | exact#[WK,CF,CV] | exact#[WL,CF,CV] | exact#[WM,CF,CV] | exact#[WN,CF,CV] | exact xb0 rfl hi | cases hi | exact hi.elim);have D_grow:ze l.prog w K mg base ⋯ "grow" 10 ό [.int 1] (NU ⋯ A5):=#[λi=>by cases i <;> first | exact(Hx.all _ (by first | exact bu | exact rfl | (intro e;cases e <;> fail) | fail)).up m!"" | exact(Hy.all _ (by first | exact bu | exact rfl | (intro e;cases e <;> fail) | fail)).up m!"" | exact(Hz.all _ (by first | exact bu | exact rfl | (intro e;cases e <;> fail) | fail)).up m!"",λi=>by cases i <;> first | exact(Hx.less _ (by first | exact bu | exact rfl | (intro e;cases e <;> fail) | fail)).up m!"" | exact(Hy.less _ (by first | exact bu | exact rfl | (intro e;cases e <;> fail) | fail)).up m!"" | exact(Hz.less _ (by first | exact bu | exact rfl | (intro e;cases e <;> fail) | fail)).up m!""]
 have DD:=NZ l.prog w base T D_First D_Best D_Next D_Likes OQ;have Ct:=N1 l.prog w base T D_Halves D_Shelves D_Row DD Qm Kv;have Qw:=N2 l.prog w base T AD D_room_begin (A9 Qi Qj Ck) (λi hi=>by cases i <;> first | exact#[WO,BG,Ck] | exact#[WP,BG,Ck] | exact#[WQ,BG,Ck] | exact#[WR,BG,Ck] | exact#[WS,BG,Ck] | exact#[WT,BG,Ck] | exact xb0 rfl hi | cases hi | exact hi.elim);have Qx:=N3 l.prog w base T Ak D_lay Cb (A9 Qk Ql Hu) (λi hi=>by cases i <;> first | exact#[WU,KO,Hu] | exact xb0 rfl hi | cases hi | exact hi.elim);have D_clear:A6 l.prog w K mg base ⋯ "clear" 8 ϖ [] (Ta ⋯):=λi=>by cases i <;> first | exact(Qw _ (by first | exact bu | exact rfl | (intro e;cases e <;> fail) | fail)).up m!"" | exact(Qx _ (by first | exact bu | exact rfl | (intro e;cases e <;> fail) | fail)).up m!""
 have Cg:=Kg l.prog w base T Ay D_room_begin (A9 He Hf AR) (Ev (Q:=λC=>yI K C "lay" a8) #[Pa,AN,AR] #[Pb,AN,AR] #[Pd,AN,AR] #[Pe,AN,AR] #[Pf,AN,AR] #[Pg,AN,AR] #[Ph,AN,AR]);have Bx:=N4 l.prog w base T OR ;have AL:=N5 l.prog w base T OS ;have Cf:=N6 l.prog w base T AL OT;have AM:=N7 l.prog w base T AL OU;have DE:=N8 l.prog w base T OV ;have CC:=Kh l.prog w base T Ku ;have DF:=N9 l.prog w base T D_ask D_give D_grow D_put D_clear OW;have DG:=Oa l.prog w base T OX ;have Cu:=Ob l.prog w base T Ak AL AM CC DE DF DG OY;have DH:=Oc l.prog w base T Ak AL D_get OZ;have Ch:=Od l.prog w base T AI Ak AM Cf DH O0;have BM:=Oe l.prog w base T AM O1;have DJ:=Of l.prog w base T Ak AL Cg O2;have DI:=Og l.prog w base T AI Ak D_lay AM BM O3;exact U_ l.prog w base T AI Ak D_lay D_ask AM Cf BM Bx Ct Cu Ch DI DJ (A9 l_law c_law k_law)
theorem walk{l:oh}{q:we}{loose:List Str}{d:DefRec}{K:xr->δ}(hn:l.most=some 63)(hdf:d.params.defaults=[])
   (hY:∀(w:wf)(h:xt),YP w h->(K w.params).In h)
   (F:∀(w:wf)(mg:Str->Option vz)(fa:wa)(h:xt),(K w.params).In h->h.Ns xg mg->mg d.name=some (.ref fa) ->
     ∃fd:wc,(∀(s:wb)(u:vz),BindsTo s fd #[[u],[]] [("_law_script",u)])/\∀base:xt,(K w.params).In base->base.Ns xg mg->FnOk l.prog w (K w.params) mg base (CXe l.prog w) 13 fa fd Ϻ (QR (K w.params))):
   tf q loose XP YP l.row.toRowW d [] (λf vs=>sk f vs):=
 L2.walk_of (n:=63) (k:=13) (x:="_law_script") (CX:=λw=>(CXe l.prog w)) (sp:=λw=>QR (K w.params)) hn m!"" hdf #[rfl,m!"",m!""] hY F (λ_ _ a ns hl _ hS=>#[a,ns,rfl,hS,hl,λ_=>rfl]) (λ_ _ _ _ _ ⟨_,_,_,_,_,_,_,_,_,_,_,_,_,_,_,z⟩=>z)
end Stow
open PySem PySem.W PyProof.Rows
set_option maxHeartbeats 0 in
theorem PySem.Challenge.cw_stow_k39_gone_on_holds : PySem.Challenge.rw_stow_k39_gone_on.Holds := by
 w_on;refine PySem.W.holds_law Stow.said0 λ_=>?_
 refine holds_open (XP:=λ_ _=>True) (YP:=InK Stow.heap0) Stow.left0 ?y (InK.keeps (K:=Stow.heap0)) (λ_ _=>trivial) (λ_ _ _ h _=>h) rfl rfl rfl (λ_ e=>recFacts_of e) rfl
   (by assumption) Stow.said2 #[rfl,rfl,rfl,rfl,rfl,Stow.said1] ?hw ?hc
 case y=>exact InK.of Stow.at0_eq
 case hw=>w_witness2
 k_fill
 refine Stow.walk (l:=PySem.Challenge.rw_stow_k39_gone_on) rfl rfl (λw h Y=>Y) ?F
 case F=>
   intro w mg fa h KX G hmg;apply Stow.all_mk KX G hmg;constructor
   iterate 12 (refine PySem.W.mg_none_of KX G ?_;k_is)
   iterate 21 (refine mg_of KX G ?_;k_is)
   iterate 8 (exact #[mg_of KX G (by k_is),_,_,_,_,(by k_exc),gv,gv.hasBase])
   (refine #[?_,?_,?_,?_];k_is;k_is;k_is;k_is)
   (change _=_;k_is)
   (refine #[?_,?_,?_,?_];k_is;k_is;k_is;k_is)
   (change _=_;k_is)
   (refine #[?_,?_,?_,?_];k_is;k_is;k_is;k_is)
   iterate 2 (change _=_;k_is)
   (refine #[?_,?_,?_,?_];k_is;k_is;k_is;k_is)
   (change _=_;k_is)
   (refine #[?_,?_,?_,?_];k_is;k_is;k_is;k_is)
   (change _=_;k_is)
   (refine #[?_,?_,?_,?_];k_is;k_is;k_is;k_is)
   iterate 2 (change _=_;k_is)
   (refine #[?_,?_,?_,?_];k_is;k_is;k_is;k_is)
   (change _=_;k_is)
   exact #[(by k_is),#[_,(by k_is),(by decide +kernel),s!""],(by k_is),(by k_is)];exact #[_,_,#[_,_,_,_,_,_,_,_,_,_,_,_,_,_,_,_,(by k_is)],#[_,_,_,_,_,_,_,_,_,_,_,_,_,_,_,_,(by k_is)],(by decide +kernel),(by decide +kernel)]
   iterate 2 (refine #[?_,?_,?_,?_,?_];k_is;k_is;k_is;k_is;k_is)
   iterate 3 (exact #[_,_,#[_,_,_,_,_,_,_,_,_,_,_,_,_,_,_,_,(by k_is)],#[_,_,_,_,_,_,_,_,_,_,_,_,_,_,_,_,(by k_is)],(by decide +kernel),(by decide +kernel)])
   iterate 6 (change _=_;kit_is)
   iterate 53 (exact Stow.lU KX G (by k_is) (by k_is) (by k_is) (by k_is))
   iterate 11 ((first|unfold Stow.LkF|unfold Stow.nI|unfold Stow.fI|unfold Stow.cI|unfold Stow.kI|unfold Stow.iI|skip);k_is)
   (k_exc)
   iterate 5 ((first|unfold Stow.LkF|unfold Stow.nI|unfold Stow.fI|unfold Stow.cI|unfold Stow.kI|unfold Stow.iI|skip);k_is)
   iterate 3 (rfl)
   iterate 269 ((first|unfold Stow.LkF|unfold Stow.nI|unfold Stow.fI|unfold Stow.cI|unfold Stow.kI|unfold Stow.iI|skip);k_is)
