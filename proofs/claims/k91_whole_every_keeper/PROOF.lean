import PyProof.Rows.All
import KE.BitLaws
import KE.KEqSeq
import KE.KDictList
import KE.KLam
import KE.KIsAll
import KE.KDictOf
import KE.KSortTup
import Wide.FinOn
import Lean
import PyProof.EqAt
import PyProof.EqKinds
import PyProof.TupleCall
import PyProof.NeKinds
import PyProof.StationsW
import PyProof.RulesAs
import PyProof.ExcClass3
import PyProof.ExcInit
import PyProof.ExcArgsOwn
import PyProof.IsiH_set
import PyProof.NsDelKeeps
import PyProof.CompFree
import PySem.Challenge.RW_stow_k91_whole_every_keeper
open List renaming getElem?_eq_some_iff→γ,mem_of_getElem?→ε,mem_append_right→ζ,getElem?_append_right→η,mem_append→θ,length_append→ι,mem_append_left→μ,getElem?_append_left→ξ,replicate→ο,mem_cons_of_mem→ρ,mem_singleton→υ,mem_cons_self→ω,size_toArray→Δ,length_singleton→Θ,length_map→Ξ,mem_cons→Φ,getElem?_eq_getElem→Ω,getElem?_set_ne→aa,append_nil→ae,map_append→af,length_replicate→ag,getElem?_of_mem→ai,getElem?_set_self→aj,length_cons→am,append_assoc→ao,take_of_length_le→ar,getD_eq_getElem?_getD→au,map_cons→av,mem_map→aw,length_set→ax,getElem_mem→bp,filter_cons→bx,nil_append→bz,replicate_succ→cb,nodup_cons→ce,mem_filter→cf,filter_append→ci,length_take→cj,take_add_one→ck,getElem?_eq_none→cn,getElem?_map→cr,flatten_cons→cu,length_eq_zero_iff→cv,length_nil→db,cons_append→dh,any_eq_true→dk,mem_or_eq_of_mem_set→eh,any_cons→eo,foldl_cons→gf,getElem?_take_of_lt→gp,getElem?_replicate→gu,length_drop→gv,all_eq_true→gw,lookup→gz,range→ia,map_nil→ib,filter_eq_nil_iff→ig,find?_cons→ii,any_append→ik,lookup_cons_self→im,getLast?_concat→iq,nodup_nil→ir,length→jb,any_eq_false→je,foldl_append→jh,length_pos_of_mem→jj,length_filter_le→jn,getElem?_toArray→jq,lookup_cons→jt,mem_iff_getElem→jv,mem_of_mem_take→jw,filter_nil→jz,filterMap_cons→ka,map_congr_left→ke,mem_range→kn,mem_filterMap→kq,getElem?_drop→kx,getElem?_take→kz,mem_replicate→la,getLast?_eq_getElem?→ld,getElem?_cons_succ→lv,mem_flatten→lw,of_mem_zip→mh,set_append_right→mn,singleton_append→mq,eq_nil_or_concat→mt,take_append_drop→mw,dropLast_concat→ng,replicate_succ'→ni,flatten_append→nq,filter_eq_self→oa,zip_cons_cons→ot,foldl→ou,contains_cons→ow,toArray→pf,any_nil→pq,range'_succ→qd,flatten_nil→qf,cons→qg,append_inj'→qh,forIn_cons→qo,range_succ→qt,all_cons→ra,map_take→re,map_set→rz,set_set→sr,range'→uc,map_id→ue
open PySem.W renaming Frag→δ,findIn→bo,SharedT→cw,mroIn→gn,OpenLaw→mi,looks_findIn→nc,Looks→og,LeftO→qy,WalkO→rb,clsIn→rc
open Bool renaming false_ne_true→ν,eq_iff_iff→cy,and_eq_true→df,and_eq_true_iff→gk,false_eq_true→iw,not_eq_true'→lh,false_and→my,false_or→oh,true_and→oi,or_eq_true→qm,not_false→qx,or_false→rf,and_true→rh,or_true→rq,true_or→sd
open Or renaming inl→π,inr→ku
open Option.some renaming inj→χ
open Nat renaming le_refl→ψ,lt_of_lt_of_le→ba,ne_of_lt→bu,le_trans→de,sub_self→di,lt_irrefl→dy,zero_le→dz,not_lt_zero→fg,le_of_lt→fh,lt_trichotomy→gh,lt_or_ge→gj,lt_of_le_of_lt→iu,lt_succ_self→jr,lt_succ_of_lt→lj,zero_add→md,ne_of_gt→pd,le_of_not_lt→qc,le_succ→qj,le_of_eq→rp,add_zero→sk,succ_pos→sq
open PySem.Heap renaming get?_push_of_some→Γ,lt_size→ad,get?_update_other→ah,get?_push_size→bc,get?_update_self→dv,get?_none_of_le→dw,size_push→jf,SameBut→lx,MadeExcOf→qw,Ns1→uz
open Int renaming mul_le_mul_of_nonneg_left→Ψ,le_refl→aq,emod_lt_of_pos→bb,toNat_of_nonneg→bg,emod_nonneg→bi,add_sub_cancel→ca,natCast_add→cg,mul_ediv_add_emod→cq,zero_add→dm,mul_add→du,ediv_eq_zero_of_lt→fk,mul_emod_right→fv,mul_nonneg→fw,add_mul_ediv_left→gb,eq_of_mul_eq_mul_left→gc,mul_ediv_cancel_left→gq,mul_le_mul_of_nonneg_right→gy,natCast_mul→ij,add_mul_emod_self_left→ip,toNat_natCast→jg,add_zero→ji,mul_comm→jk,emod_add_mul_ediv→jm,lt_or_le→kg,pow_succ→ki,fdiv_eq_ediv_of_nonneg→kr,emod_eq_of_lt→li,mul_assoc→lq,le_of_eq→mf,ediv_nonneg→mj,mul_one→mz,sub_add_cancel→oy,mul_sub→qk,natCast_pow→qp,add_assoc→rg,ofNat_le→sg,zero_mul→si,sub_zero→sv,mul_neg→ua,pow_add→ub,add_mul→uf
open PySem.Builtin.Range renaming rangeSize→ak,small→nu,rangeFitsLong→qu
open True renaming intro→bh
open PySem.PassesOwn renaming never→bj,leaving→ph
open PySem renaming boot_len→bq,mem_of_lookup→gr,Within→kf,call→qv,Value→uG,Addr→uH,Shared→uI,FuncData→uJ,Program→uK,World→uL,Around→uM,Expr→uN,Stmt→uO,Scope→uP,GenState→uQ,starEach→uR,bindArgs→uS,sizeLine→uU,wpAny_bind→uV,wpAny_pure→uW,wpAny_mono→uX,wpAny→uY,backTo→uZ,seqItems?→vc,compareOp→vd,mainGlobals→ve,callWith→vf,Drawn→vg,eval→vh,model→vi,cLine→vj,wpAny_truthy_bool→vk,wpAny_loadPart_at→vm,wpAny_execs_nil→vn,Sem→vo,Params→vp,Heap→vq,Env→vt,Model→vv
open PyProof.Rows renaming boot_list→cc,callWith_type1→fj,boot_min→fz,boot_isinstance→il,call_int_bit_length→pk,callWith_builtin1→px,intBits_le→rl,boot_range→rn,bitOr_and→se,boot_bool→sx,boot_any→sy,boot_int→tf,boot_max→tj,lt_int→ug
open False renaming elim→cm
open Option renaming map_eq_some_iff→dj,toList_some→ix,map_some→jy,isSome_iff_exists→ll,toList_none→oz,isSome_map→pe,getD_none→pz
open Ne renaming symm→dn
open PySem.F renaming slot_list_append→fb,type_list_append→fe,plainAttrs_list→ff,excBase_ValueError→fu,plainAttrs_dict→jd,slot_dict_get→jo,slot_int_bit_length→kj,type_int_bit_length→km,slot_dict_delitem→lb,slot_dict_clear→lr,args_dict_get_2→lu,entry_dict_get→ma,plainAttrs_int→me,slot_dict_pop→mx
open Array renaming getElem?_eq_some_iff→ft,length_toList→kc
open PySem.Calls renaming callWith_builtin→ic,evalArgs_plain→io,Name_function_global→ko,spliced_cons→kt,spliced_nil→lg
open PySem.Obj renaming data_mapFields→ie,isFreed_of_fields→jl,mapFields→ju,mapSeq→lz
open Sum.inl renaming inj→ja
open PySem.SeqAt.EqAt renaming same→jx,of_refs→ky,int_str→oj,str_int→ol,int_int→oq,none_bool→tp,bool_none→tq,bool_bool→tw,none_int→uh,none_str→uj,bool_int→uk,bool_str→ul,int_none→um,int_bool→uo,str_none→uq,str_bool→ur,str_str→ut
open PyProof renaming noPylong_small→ly
open PySem.Value renaming isStrOf→qz,isInt→tm
open PySem.SeqAt.RcAt renaming lists_lengths→rj,tuples→uu,lists→uw
open Eq renaming symm→su
open Iff renaming rfl→uv
open Classical renaming em→uF
open PySem.W (BT absHeap boot_drawn boot_heap boot_o_2 boot_toks callWith_K cellsFrom_some codeIn emptyDict excIn findCls fnOf handedIn hasDictIn instObj isFn keepIn kia_one kitOne kitx_dict kitx_list lookIn makesIn methodCall_KW methodObj mg_of nsIn piece_app piecesOf plainGet plainGet_of plainOver readsIn segRunT segRun_of specialIn takerIn takesIn topFrame topRun topStub)
set_option Elab.async false
set_option compiler.extract_closed false
set_option linter.all false
set_option maxRecDepth 100000
set_option maxHeartbeats 4000000
theorem Stow.said0:PySem.Challenge.rw_stow_k91_whole_every_keeper.wellSaid=true:=by decide +kernel
open PySem PySem.W PySem.Challenge in
theorem Stow.said1:rw_stow_k91_whole_every_keeper.row.prog.tablesWhole=true:=by decide +kernel
open PySem PySem.W PySem.Challenge in
theorem Stow.said2:(chainsOk (view pw_stow_k91_whole_every_keeper [89])&&opensWell rw_stow_k91_whole_every_keeper.row.prog&&(frees rw_stow_k91_whole_every_keeper.row.toRowW&&rw_stow_k91_whole_every_keeper.row.within.isEmpty))=true:=by decide +kernel
namespace L2
open PySem PySem.Spec PyProof.Rows
theorem zA0{α:Type}{n}:∀{t:List α},t.length=n+1->∃a s,t=a::s/\s.length=n
 | a::s,h=>⟨a,s,rfl,Nat.succ.inj h⟩
theorem d_{α:Type}{t:List α}(h:t.length=1):∃a,t=[a]:=by obtain⟨a,s,rfl,g⟩:=zA0 h;cases s;exact⟨a,rfl⟩;cases g
theorem f_{α:Type}{t:List α}(h:t.length=2):∃a b,t=[a,b]:=by obtain⟨a,s,rfl,g⟩:=zA0 h;obtain⟨b,rfl⟩:=d_ g;exact⟨a,b,rfl⟩
theorem a_{α:Type}{t:List α}(h:t.length=3):∃a b c,t=[a,b,c]:=by obtain⟨a,s,rfl,g⟩:=zA0 h;obtain⟨b,c,rfl⟩:=f_ g;exact⟨a,b,c,rfl⟩
theorem zA4{α:Type}{t:List α}(h:t.length=4):∃a b c d,t=[a,b,c,d]:=by obtain⟨a,s,rfl,g⟩:=zA0 h;obtain⟨b,c,d,rfl⟩:=a_ g;exact⟨a,b,c,d,rfl⟩
theorem zA5{α:Type}{t:List α}(h:t.length=5):∃a b c d e,t=[a,b,c,d,e]:=by obtain⟨a,s,rfl,g⟩:=zA0 h;obtain⟨b,c,d,e,rfl⟩:=zA4 g;exact⟨a,b,c,d,e,rfl⟩
theorem zA6{α:Type}{t:List α}(h:t.length=6):∃a b c d e f,t=[a,b,c,d,e,f]:=by obtain⟨a,s,rfl,g⟩:=zA0 h;obtain⟨b,c,d,e,f,rfl⟩:=zA5 g;exact⟨a,b,c,d,e,f,rfl⟩
def At(s:uO)(j:Nat):uO:=match s with
 | .ClassDef _ _ _ body _ _ _ _ _ _ _=>body.getD j (.Pass ⟨0,0,0,0⟩)
 | _=>.Pass ⟨0,0,0,0⟩
def A1(s:uO):Arguments:=match s with
 | .FunctionDef _ a _ _ _ _ _ _ _ _=>a
 | _=>{ posonlyargs:=[],args:=[],vararg:=none,kwonlyargs:=[],kw_defaults:=[],kwarg:=none,defaults:=[] }
def AZ(s:uO):List uO:=match s with
 | .FunctionDef _ _ b _ _ _ _ _ _ _=>b
 | _=>[]
def An(s:uO):uP:=match s with
 | .FunctionDef _ _ _ _ _ _ sc _ _ _=>sc
 | _=>{ kind:=.function,names:=[],isGenerator:=false,isCoroutine:=false }
end L2
namespace Stow
open PySem L2 PyProof.Rows
abbrev bN(o:Obj)(l r:BT):BT:=.node o l r
abbrev bF(o:Obj):BT:=.node o .nil .nil
noncomputable section
def top(i:Nat):uO:=PySem.Challenge.pw_stow_k91_whole_every_keeper.main.body.getD i (.Pass ⟨0,0,0,0⟩)
noncomputable def en(P:vp)(s:Str)(t:Tok)(v:uG):DictEntry:=⟨PyData.keyHash P s,.str s t,v⟩
noncomputable def fo(nm qn:Str)(st:uO)(dV kV dc pm:uG)(an:Option uH)(cd ct:uG)(od:Option uH):Obj:=⟨.type "function",od,.func (fnOf nm qn (A1 st) (AZ st) (An st) dV kV dc pm an cd ct),#[]⟩
noncomputable def fq(nm qn:Str)(st:uO):Obj:=⟨.none,none,.func { name:=nm,qualname:=qn,params:=A1 st,body:=.stmts (AZ st),scope:=An st,globals:=0,closure:=[],defaults:=.none,kwdefaults:=.none },#[]⟩
noncomputable def tu(l:List uG):Obj:=⟨(.type "tuple"),none,.seq l.toArray 0,#[]⟩
noncomputable def fl(l:List uG):Obj:=⟨.none,none,.fields l.toArray,#[]⟩
noncomputable def co(l:List uG):Obj:=⟨(.type "code"),none,.fields l.toArray,#[]⟩
noncomputable abbrev vI(n:Int):uG:=.int n 0
noncomputable abbrev vR(n:uH):uG:=.ref n
noncomputable abbrev cp(a b:Str)(t:Tok)(l:List uG):Obj:=co ((.str a t)::(.str b (t+1))::(.str "/claim/cut.py" (t+2))::l)
noncomputable def xk0(a b:Str)(t:Tok)(l n x:Int)(r:uH)(u:Int)(v:Tok):Obj:=cp a b t (vI l::vI n::vI 0::vI 0::vI x::vR r::(.bool false)::vI 181::vR (r+1)::.none::.none::.none::.none::vI u::vI l::(.str "/claim/cut.py" v)::[])
noncomputable def xfm0(l:List (Option uG)):Obj:=⟨(.type "frame"),none,.plain,l.toArray⟩
noncomputable def xk1(a b:Str)(t:Tok)(l n x:Int)(r:uH)(u:Int)(v:Tok):Obj:=cp a b t (vI l::vI n::vI 0::vI 0::vI x::vR r::(.bool true)::vI 181::vR (r+1)::.none::vR (r+2)::vR (r+3)::vR (r+4)::vI u::vI l::(.str "/claim/cut.py" v)::[])
noncomputable def xbi0(l:List uG):Obj:=⟨(.type "builtin_function_or_method"),none,.fields l.toArray,#[]⟩
noncomputable def xsu0(l:List uG):Obj:=⟨(.type "super"),none,.fields l.toArray,#[]⟩
def AQ:Obj:=⟨(.type "tuple"),none,.seq #[] 0,#[]⟩
def BE:Obj:=⟨.none,none,.fields #[],#[]⟩
noncomputable def tn(t:Tok)(l:List Str):List uG:=l.foldr (λs f t=>.str s t::f (t+1)) (λ_=>[]) t
noncomputable def f3(l:List (Int×Int×uH)):List uG:=l.flatMap λp=>[vI p.1,vI p.2.1,vR p.2.2]
noncomputable def rs(l:List uH):List uG:=l.map .ref
noncomputable def fm(n q:Str)(s:uO)(m:uG)(c:uH):Obj:=fo n q s .none .none .none m none (.ref c) .none none
noncomputable def fn(n:Str)(s:uO)(m:uG)(c:uH):Obj:=fm n n s m c
noncomputable def fd(n q:Str)(s:uO)(d:uH)(m:uG)(c:uH):Obj:=fo n q s (.ref d) .none .none m none (.ref c) .none none
noncomputable def xf(a b:uH)(m:uG):Obj:=xfm0 ((some (.ref a))::(some (.ref 3))::(some (.ref b))::none::(some m)::none::(some (.ref 0))::[])
noncomputable def xs(a:uH):Obj:=xsu0 ((.ref a)::(.ref a)::(.ref a)::[])
noncomputable def xb(a:uH):Obj:=xbi0 ((.builtin "object.__init_subclass__")::(.ref a)::[])
noncomputable def eM(P:vp)(t:Tok)(m:uG):DictEntry:=en P "__module__" t m
noncomputable def eL(P:vp)(l:Int)(t:Tok):DictEntry:=en P "__firstlineno__" (t+1) (.int l t)
noncomputable def eQ(P:vp)(n:Str)(t:Tok):DictEntry:=en P "__qualname__" (t+1) (.str n t)
noncomputable def eS(P:vp)(t:Tok)(a:uH):DictEntry:=en P "__static_attributes__" t (.ref a)
noncomputable def eD(P:vp)(t:Tok):DictEntry:=en P "__doc__" t .none
noncomputable def eF(P:vp)(n:Str)(t:Tok)(a:uH):DictEntry:=en P n t (.ref a)
noncomputable def dd(l:List DictEntry)(n:Nat):Obj:=⟨(.type "dict"),none,.dict l.toArray n,#[]⟩
noncomputable def cX(n:Str)(b:List uG)(r:List uH)(w:List uG)(d:uH)(u:List uG)(x:uH)(t v:Tok)(e:String):Obj:=⟨(.type "type"),none,.cls ⟨n,b,rs r++w,d,n,true,[],u,false,none,false⟩,((some (.ref x))::none::(some (.str n t))::(some (.str n v))::(some (.builtin e))::(some (.bool true))::[]).toArray⟩
noncomputable def cO(n:Str)(b:List uG)(r:List uH)(d:uH)(u:List uG)(x:uH)(t v:Tok):Obj:=cX n b r [(.type "object")] d u x t v "object.__new__"
noncomputable def cV(n:Str)(b:List uG)(r:List uH)(d:uH)(u:List uG)(x:uH)(t v:Tok):Obj:=cX n b r [(.type "ValueError"),(.type "Exception"),(.type "BaseException"),(.type "object")] d u x t v "ValueError.__new__"
noncomputable def dq(t:Tok)(l:List Str)(n q:Str)(s:uO)(c f:Obj)(r:List Obj):List Obj:=AQ::BE::tu (tn t l)::AQ::fq n q s::c::f::r
noncomputable def dg(t:Tok)(l:List Str)(n:Str)(s:uO)(c f:Obj)(r:List Obj):List Obj:=dq t l n n s c f r
noncomputable def sp2(l:List Obj):List Obj×List Obj:=l.foldr (λx p=>(x::p.2,p.1)) ([],[])
noncomputable def bt:Nat->List Obj->BT
 | n+1,x::r=>.node x (bt n (sp2 r).1) (bt n (sp2 r).2)
 | _,_=>.nil
noncomputable def up(l:List Obj)(u:List (Nat×Obj)):List Obj:=u.foldl (λl p=>l.set p.1 p.2) l
noncomputable def mo0:uG:=.str "__main__" 164
noncomputable def mo1:uG:=.str "stow.errors" 194
noncomputable def mo2:uG:=.str "stow.asks" 367
noncomputable def mo3:uG:=.str "stow.marks" 387
noncomputable def mo4:uG:=.str "stow.looks" 411
noncomputable def mo5:uG:=.str "stow.pieces" 452
noncomputable def mo6:uG:=.str "stow.keepers" 582
noncomputable def mo7:uG:=.str "stow.halves" 735
noncomputable def mo8:uG:=.str "stow.rows" 824
noncomputable def mo9:uG:=.str "stow.shelves" 874
noncomputable def mo10:uG:=.str "stow.places" 990
noncomputable def wX:uG:=.str "stow.stretches" 1017
noncomputable def mo12:uG:=.str "stow.kinds" 1233
noncomputable def xj:uG:=.str "law_stow_k91_whole_every_keeper" 1245
def Ew:Obj:=xk0 "<module>" "<module>" 182 1 0 0 11 185 186
def Sl:Obj:=xf 13 3 mo0
def K3:Obj:=xk1 "_wall" "_wall" 187 1 1 3 15 191 192
def K4:Obj:=fn "_wall" (top 0) mo0 20
def A0:Obj:=xbi0 ((.builtin "type.__prepare__")::(.type "type")::[])
def K5(P:vp):Obj:=dd (eM P 203 mo1::eQ P "StowError" 204::eL P 5 206::eS P 208 29::[]) 4
def K6(P:vp):Obj:=dd (eM P 203 mo1::eL P 5 206::eS P 208 29::eF P "__weakref__" 210 32::eD P 211::[]) 3
def Cp:Obj:=tu (vR 31::[])
def K7(P:vp):Obj:=dd (eM P 221 mo1::eQ P "NoName" 222::eL P 7 224::eS P 226 42::[]) 4
def K8(P:vp):Obj:=dd (eM P 221 mo1::eL P 7 224::eS P 226 42::eD P 227::[]) 2
def K9:Obj:=cV "NoName" (rs [31]) [44,31] 43 (rs []) 35 214 222
def La(P:vp):Obj:=dd (eM P 237 mo1::eQ P "NoSize" 238::eL P 9 240::eS P 242 54::[]) 4
def Lb(P:vp):Obj:=dd (eM P 237 mo1::eL P 9 240::eS P 242 54::eD P 243::[]) 2
def Ld:Obj:=cV "NoSize" (rs [31]) [56,31] 55 (rs []) 47 230 238
def Le(P:vp):Obj:=dd (eM P 253 mo1::eQ P "Broken" 254::eL P 11 256::eF P "__init__" 265 72::eS P 267 73::[]) 5
def Lf:Obj:=xk1 "__init__" "Broken.__init__" 258 13 2 3 66 263 264
def Lg:Obj:=fm "__init__" "Broken.__init__" (At (top 5) 0) mo1 71
def Lh(P:vp):Obj:=dd (eM P 253 mo1::eL P 11 256::eF P "__init__" 265 72::eS P 267 73::eD P 268::[]) 2
def Li:Obj:=cV "Broken" (rs [31]) [75,31] 74 (rs []) 59 246 254
def Lj(P:vp):Obj:=dd (eM P 278 mo1::eQ P "NoGive" 279::eL P 15 281::eS P 283 85::[]) 4
def Ll(P:vp):Obj:=dd (eM P 278 mo1::eL P 15 281::eS P 283 85::eD P 284::[]) 2
def Lm:Obj:=cV "NoGive" (rs [31]) [87,31] 86 (rs []) 78 271 279
def Ln(P:vp):Obj:=dd (eM P 294 mo1::eQ P "NoPiece" 295::eL P 17 297::eS P 299 97::[]) 4
def Lo(P:vp):Obj:=dd (eM P 294 mo1::eL P 17 297::eS P 299 97::eD P 300::[]) 2
def Lp:Obj:=cV "NoPiece" (rs [31]) [99,31] 98 (rs []) 90 287 295
def Lq(P:vp):Obj:=dd (eM P 310 mo1::eQ P "NoCell" 311::eL P 19 313::eS P 315 109::[]) 4
def Wh(P:vp):Obj:=dd (eM P 310 mo1::eL P 19 313::eS P 315 109::eD P 316::[]) 2
def Wi:Obj:=cV "NoCell" (rs [31]) [111,31] 110 (rs []) 102 303 311
def Wj(P:vp):Obj:=dd (eM P 326 mo1::eQ P "NoAsk" 327::eL P 21 329::eS P 331 121::[]) 4
def Wk(P:vp):Obj:=dd (eM P 326 mo1::eL P 21 329::eS P 331 121::eD P 332::[]) 2
def Wl:Obj:=cV "NoAsk" (rs [31]) [123,31] 122 (rs []) 114 319 327
def Wm:Obj:=cV "StowError" [(.type "ValueError")] [31] 30 (rs [44,56,75,87,99,111,123,135,147]) 22 196 204
def Wn(P:vp):Obj:=dd (eM P 342 mo1::eQ P "NoBound" 343::eL P 23 345::eS P 347 133::[]) 4
def Wo(P:vp):Obj:=dd (eM P 342 mo1::eL P 23 345::eS P 347 133::eD P 348::[]) 2
def Wp:Obj:=cV "NoBound" (rs [31]) [135,31] 134 (rs []) 126 335 343
def Wq(P:vp):Obj:=dd (eM P 358 mo1::eQ P "NoRoom" 359::eL P 25 361::eS P 363 145::[]) 4
def Wr(P:vp):Obj:=dd (eM P 358 mo1::eL P 25 361::eS P 363 145::eD P 364::[]) 2
def Ws:Obj:=cV "NoRoom" (rs [31]) [147,31] 146 (rs []) 138 351 359
def Wt:Obj:=xk1 "check_ask" "check_ask" 371 29 2 3 150 376 377
def Wu:Obj:=fn "check_ask" (top 14) mo2 155
def Wv:Obj:=xk1 "check_plain_ask" "check_plain_ask" 379 32 2 3 157 384 385
def Ww:Obj:=fn "check_plain_ask" (top 15) mo2 162
def Wx:Obj:=xk1 "mark_of" "mark_of" 389 37 2 3 164 394 395
def Wy:Obj:=fn "mark_of" (top 17) mo3 169
def Wz:Obj:=xk1 "long_of" "long_of" 397 41 1 3 171 401 402
def WA:Obj:=fn "long_of" (top 18) mo3 176
def WB:Obj:=xk1 "live_of" "live_of" 404 43 1 3 178 408 409
def WC:Obj:=fn "live_of" (top 19) mo3 183
def WD:Obj:=xk1 "can_begin" "can_begin" 415 47 2 3 185 421 422
def WE:Obj:=fn "can_begin" (top 22) mo4 190
def WF:Obj:=xk1 "bad_of_piece" "bad_of_piece" 424 52 2 3 192 430 431
def WG:Obj:=fn "bad_of_piece" (top 23) mo4 197
def WH:Obj:=xk1 "looked" "looked" 433 59 1 3 199 441 442
def WI:Obj:=fn "looked" (top 24) mo4 204
def WJ:Obj:=xk1 "fresh_room" "fresh_room" 444 70 1 3 206 449 450
def WK:Obj:=fn "fresh_room" (top 25) mo4 211
def WL:Obj:=xk1 "laid" "laid" 454 78 4 3 213 462 463
def WM:Obj:=fn "laid" (top 27) mo5 218
def WN:Obj:=xk1 "laid_free" "laid_free" 465 83 3 3 220 471 472
def WO:Obj:=fn "laid_free" (top 28) mo5 225
def WP:Obj:=xk1 "piece_at" "piece_at" 474 87 2 3 227 480 481
def WQ:Obj:=fn "piece_at" (top 29) mo5 232
def WR:Obj:=xk1 "live_at" "live_at" 483 92 2 3 234 489 490
def WS:Obj:=fn "live_at" (top 30) mo5 239
def WT:Obj:=xk1 "free_at" "free_at" 492 97 2 3 241 498 499
def WU:Obj:=fn "free_at" (top 31) mo5 246
def WV:Obj:=cp "begin_around" "begin_around" 501 (vI 102::vI 2::vI 0::vI 0::vI 3::vR 248::(.bool true)::vI 181::vR 249::.none::.none::.none::vR 250::vI 504::vI 102::(.str "/claim/cut.py" 505)::[])
def WW:Obj:=fn "begin_around" (top 32) mo5 251
def WX:Obj:=xk1 "free_begin" "free_begin" 507 105 2 3 253 512 513
def WY:Obj:=fn "free_begin" (top 33) mo5 258
def WZ:Obj:=xk1 "free_end" "free_end" 515 109 2 3 260 520 521
def W0:Obj:=fn "free_end" (top 34) mo5 265
def W4:Obj:=xk1 "cut_out" "cut_out" 523 113 4 3 267 535 536
def W5:Obj:=fn "cut_out" (top 35) mo5 272
def W6:Obj:=xk1 "freed" "freed" 538 121 2 3 274 546 547
def W8:Obj:=fn "freed" (top 36) mo5 279
def W9:Obj:=xk1 "joined_pieces" "joined_pieces" 549 124 1 3 281 557 558
def Xa:Obj:=fn "joined_pieces" (top 37) mo5 286
def Xb:Obj:=xk1 "joined" "joined" 560 132 1 3 288 568 569
def Xc:Obj:=fn "joined" (top 38) mo5 293
def Xd:Obj:=xk1 "carried" "carried" 571 137 4 3 295 579 580
def Xe:Obj:=fn "carried" (top 39) mo5 300
def Xf(P:vp):Obj:=dd (eM P 591 mo6::eQ P "Keeper" 592::eL P 141 594::eF P "__init__" 603 315::eF P "cells" 610 322::eF P "pieces" 617 329::eF P "lay" 625 336::eF P "clear" 632 343::eF P "many" 643 350::eF P "get" 652 357::eF P "put" 663 364::eF P "ask" 673 372::eF P "give" 684 379::eF P "grow" 696 387::eF P "room_begin" 704 394::eF P "room_cell_of" 714 401::eF P "room_moved" 725 408::eS P 727 409::[]) 18
def Xg:Obj:=xk1 "__init__" "Keeper.__init__" 596 143 2 3 309 601 602
def Xh:Obj:=fm "__init__" "Keeper.__init__" (At (top 41) 0) mo6 314
def Xi:Obj:=xk1 "cells" "Keeper.cells" 604 146 1 3 316 608 609
def Xj:Obj:=fm "cells" "Keeper.cells" (At (top 41) 1) mo6 321
def Xk:Obj:=xk1 "pieces" "Keeper.pieces" 611 149 1 3 323 615 616
def Xl:Obj:=fm "pieces" "Keeper.pieces" (At (top 41) 2) mo6 328
def Xm:Obj:=xk1 "lay" "Keeper.lay" 618 152 2 3 330 623 624
def Xn:Obj:=fm "lay" "Keeper.lay" (At (top 41) 3) mo6 335
def Xo:Obj:=xk1 "clear" "Keeper.clear" 626 158 1 3 337 630 631
def Xp:Obj:=fm "clear" "Keeper.clear" (At (top 41) 4) mo6 342
def Xq:Obj:=xk1 "many" "Keeper.many" 633 161 2 3 344 641 642
def Xr:Obj:=fm "many" "Keeper.many" (At (top 41) 5) mo6 349
def Xs:Obj:=xk1 "get" "Keeper.get" 644 165 3 3 351 650 651
def Xt:Obj:=fm "get" "Keeper.get" (At (top 41) 6) mo6 356
def Xu:Obj:=xk1 "put" "Keeper.put" 653 168 4 3 358 661 662
def Xv:Obj:=fm "put" "Keeper.put" (At (top 41) 7) mo6 363
def Xw:Obj:=tu ((.int 1 685)::[])
def Xx:Obj:=xk1 "grow" "Keeper.grow" 686 180 4 3 381 694 695
def Xy:Obj:=fd "grow" "Keeper.grow" (At (top 41) 10) 380 mo6 386
def Xz:Obj:=xk1 "room_begin" "Keeper.room_begin" 697 187 2 3 388 702 703
def XA:Obj:=fm "room_begin" "Keeper.room_begin" (At (top 41) 11) mo6 393
def XB:Obj:=xk1 "room_cell_of" "Keeper.room_cell_of" 705 190 3 3 395 712 713
def XD:Obj:=fm "room_cell_of" "Keeper.room_cell_of" (At (top 41) 12) mo6 400
def XE:Obj:=xk1 "room_moved" "Keeper.room_moved" 715 196 4 3 402 723 724
def XF:Obj:=fm "room_moved" "Keeper.room_moved" (At (top 41) 13) mo6 407
def XG(P:vp):Obj:=dd (eM P 591 mo6::eL P 141 594::eF P "__init__" 603 315::eF P "cells" 610 322::eF P "pieces" 617 329::eF P "lay" 625 336::eF P "clear" 632 343::eF P "many" 643 350::eF P "get" 652 357::eF P "put" 663 364::eF P "ask" 673 372::eF P "give" 684 379::eF P "grow" 696 387::eF P "room_begin" 704 394::eF P "room_cell_of" 714 401::eF P "room_moved" 725 408::eS P 727 409::eF P "__dict__" 729 412::eF P "__weakref__" 731 413::eD P 732::[]) 4
def XH:Obj:=⟨(.type "type"),none,.cls ⟨"Keeper",[(.type "object")],[(.ref 411),(.type "object")],410,"Keeper",true,[],[(.ref 480),(.ref 515),(.ref 599),(.ref 676)],false,none,false⟩,(none::none::(some (.str "Keeper" 584))::(some (.str "Keeper" 592))::(some (.builtin "object.__new__"))::(some (.bool true))::[]).toArray⟩
def XJ:Obj:=xk1 "is_power" "is_power" 737 202 1 3 416 741 742
def XL:Obj:=fn "is_power" (top 43) mo7 421
def XM:Obj:=xk1 "block_for" "block_for" 744 204 1 3 423 748 749
def XN:Obj:=fn "block_for" (top 44) mo7 428
def XO:Obj:=cp "least_free" "least_free" 751 (vI 206::vI 2::vI 0::vI 0::vI 3::vR 430::(.bool true)::vI 181::vR 431::.none::.none::.none::vR 432::vI 754::vI 206::(.str "/claim/cut.py" 755)::[])
def XQ:Obj:=fn "least_free" (top 45) mo7 433
def XR:Obj:=xk1 "cut_down" "cut_down" 757 212 4 3 435 765 766
def XS:Obj:=fn "cut_down" (top 46) mo7 440
def XT:Obj:=xk1 "grown_together" "grown_together" 768 218 3 3 442 774 775
def XU:Obj:=fn "grown_together" (top 47) mo7 447
def P1:Obj:=tu (vR 411::[])
def XV(P:vp):Obj:=dd (eM P 784 mo7::eQ P "Halves" 785::eL P 223 787::eF P "__init__" 796 462::eF P "ask" 809 470::eF P "give" 819 477::eS P 820 478::[]) 7
def XW:Obj:=xk1 "__init__" "Halves.__init__" 789 225 2 3 456 794 795
def XX:Obj:=fm "__init__" "Halves.__init__" (At (top 48) 0) mo7 461
def XY:Obj:=tu ((.int 1 797)::[])
def XZ:Obj:=xk1 "ask" "Halves.ask" 798 230 3 3 464 807 808
def X0:Obj:=fd "ask" "Halves.ask" (At (top 48) 1) 463 mo7 469
def X1:Obj:=xk1 "give" "Halves.give" 810 237 2 3 471 817 818
def X2:Obj:=fm "give" "Halves.give" (At (top 48) 2) mo7 476
def X3(P:vp):Obj:=dd (eM P 784 mo7::eL P 223 787::eF P "__init__" 796 462::eF P "ask" 809 470::eF P "give" 819 477::eS P 820 478::eD P 821::[]) 2
def X4:Obj:=cO "Halves" (rs [411]) [480,411] 479 (rs []) 449 777 785
def X5(P:vp):Obj:=dd (eM P 833 mo8::eQ P "Row" 834::eL P 241 836::eF P "ask" 850 497::eF P "give" 858 504::eF P "grow" 869 512::eS P 870 513::[]) 7
def X6:Obj:=tu ((.int 1 838)::[])
def X7:Obj:=xk1 "ask" "Row.ask" 839 243 3 3 491 848 849
def X8:Obj:=fd "ask" "Row.ask" (At (top 50) 0) 490 mo8 496
def X9:Obj:=xk1 "give" "Row.give" 851 251 2 3 498 856 857
def Ya:Obj:=fm "give" "Row.give" (At (top 50) 1) mo8 503
def Yb:Obj:=tu ((.int 1 859)::[])
def Yc:Obj:=xk1 "grow" "Row.grow" 860 254 4 3 506 867 868
def Yd:Obj:=fd "grow" "Row.grow" (At (top 50) 2) 505 mo8 511
def Ye(P:vp):Obj:=dd (eM P 833 mo8::eL P 241 836::eF P "ask" 850 497::eF P "give" 858 504::eF P "grow" 869 512::eS P 870 513::eD P 871::[]) 2
def Yf:Obj:=cO "Row" (rs [411]) [515,411] 514 (rs []) 483 826 834
def Yg:Obj:=xk1 "all_whole" "all_whole" 876 257 2 3 518 881 882
def Yh:Obj:=fn "all_whole" (top 52) mo9 523
def Yi:Obj:=xk1 "begin_of" "begin_of" 884 261 2 3 525 889 890
def Yj:Obj:=fn "begin_of" (top 53) mo9 530
def Yk:Obj:=cp "whole_ones" "whole_ones" 892 (vI 263::vI 2::vI 0::vI 0::vI 3::vR 532::(.bool true)::vI 181::vR 533::.none::.none::.none::vR 534::vI 895::vI 263::(.str "/claim/cut.py" 896)::[])
def Yl:Obj:=fn "whole_ones" (top 54) mo9 535
def Ym:Obj:=cp "free_slots" "free_slots" 898 (vI 265::vI 3::vI 0::vI 0::vI 3::vR 537::(.bool true)::vI 181::vR 538::.none::.none::.none::vR 539::vI 901::vI 265::(.str "/claim/cut.py" 902)::[])
def Yn:Obj:=fn "free_slots" (top 55) mo9 540
def Yo:Obj:=xk1 "cut_for" "cut_for" 904 268 4 3 542 914 915
def Yp:Obj:=fn "cut_for" (top 56) mo9 547
def Yq:Obj:=xk1 "with_slot" "with_slot" 917 274 3 3 549 924 925
def Yr:Obj:=fn "with_slot" (top 57) mo9 554
def Ys:Obj:=cp "has_live" "has_live" 927 (vI 281::vI 3::vI 0::vI 0::vI 3::vR 556::(.bool true)::vI 181::vR 557::.none::.none::.none::vR 558::vI 930::vI 281::(.str "/claim/cut.py" 931)::[])
def Yt:Obj:=fn "has_live" (top 58) mo9 559
def Yu(P:vp):Obj:=dd (eM P 940 mo9::eQ P "Shelves" 941::eL P 283 943::eF P "__init__" 954 574::eF P "clear" 961 581::eF P "ask" 974 589::eF P "give" 984 596::eS P 986 597::[]) 8
def Yv:Obj:=xk1 "__init__" "Shelves.__init__" 945 285 3 3 568 952 953
def Yw:Obj:=fm "__init__" "Shelves.__init__" (At (top 59) 0) mo9 573
def Yx:Obj:=xk1 "clear" "Shelves.clear" 955 291 1 3 575 959 960
def Yy:Obj:=fm "clear" "Shelves.clear" (At (top 59) 1) mo9 580
def Yz:Obj:=tu ((.int 1 962)::[])
def YA:Obj:=xk1 "ask" "Shelves.ask" 963 294 3 3 583 972 973
def YB:Obj:=fd "ask" "Shelves.ask" (At (top 59) 2) 582 mo9 588
def YC:Obj:=xk1 "give" "Shelves.give" 975 302 2 3 590 982 983
def YD:Obj:=fm "give" "Shelves.give" (At (top 59) 3) mo9 595
def YE(P:vp):Obj:=dd (eM P 940 mo9::eL P 283 943::eF P "__init__" 954 574::eF P "clear" 961 581::eF P "ask" 974 589::eF P "give" 984 596::eS P 986 597::eD P 987::[]) 2
def YF:Obj:=cO "Shelves" (rs [411]) [599,411] 598 (rs []) 561 933 941
def YG:Obj:=xk1 "first_place" "first_place" 992 309 3 3 602 1002 1003
def YH:Obj:=fn "first_place" (top 61) mo10 607
def YI:Obj:=xk1 "spots_for" "spots_for" 1005 315 3 3 609 1014 1015
def YJ:Obj:=fn "spots_for" (top 62) mo10 614
def YK:Obj:=xk1 "least_place" "least_place" 1019 323 1 3 616 1023 1024
def YL:Obj:=fn "least_place" (top 64) wX 621
def YM(P:vp):Obj:=dd (eM P 1033 wX::eQ P "Stretches" 1034::eL P 327 1036::eF P "chosen" 1046 636::eF P "ask" 1058 644::eF P "give" 1066 651::eF P "grow" 1082 659::eF P "room_begin" 1090 666::eF P "room_granted" 1098 673::eS P 1100 674::[]) 10
def YN:Obj:=tu ((.int 1 1047)::[])
def YO:Obj:=xk1 "ask" "Stretches.ask" 1048 332 3 3 638 1056 1057
def YQ:Obj:=fd "ask" "Stretches.ask" (At (top 65) 1) 637 wX 643
def YR:Obj:=xk1 "give" "Stretches.give" 1059 342 2 3 645 1064 1065
def YS:Obj:=fm "give" "Stretches.give" (At (top 65) 2) wX 650
def YT:Obj:=tu ((.int 1 1067)::[])
def YU:Obj:=xk1 "grow" "Stretches.grow" 1068 345 4 3 653 1080 1081
def YV:Obj:=fd "grow" "Stretches.grow" (At (top 65) 3) 652 wX 658
def YW:Obj:=xk1 "room_begin" "Stretches.room_begin" 1083 355 2 3 660 1088 1089
def YX:Obj:=fm "room_begin" "Stretches.room_begin" (At (top 65) 4) wX 665
def YY:Obj:=xk1 "room_granted" "Stretches.room_granted" 1091 358 2 3 667 1096 1097
def YZ:Obj:=fm "room_granted" "Stretches.room_granted" (At (top 65) 5) wX 672
def Za(P:vp):Obj:=dd (eM P 1033 wX::eL P 327 1036::eF P "chosen" 1046 636::eF P "ask" 1058 644::eF P "give" 1066 651::eF P "grow" 1082 659::eF P "room_begin" 1090 666::eF P "room_granted" 1098 673::eS P 1100 674::eD P 1101::[]) 2
def FJ:Obj:=cO "Stretches" (rs [411]) [676,411] 675 (rs [693,710,755,772]) 623 1026 1034
def P2:Obj:=tu (vR 676::[])
def FK(P:vp):Obj:=dd (eM P 1111 wX::eQ P "First" 1112::eL P 360 1114::eF P "chosen" 1121 690::eS P 1122 691::[]) 5
def Zb:Obj:=cp "chosen" "First.chosen" 1116 (vI 362::vI 3::vI 0::vI 0::vI 3::vR 686::(.bool true)::vI 181::vR 687::.none::.none::.none::vR 688::vI 1119::vI 362::(.str "/claim/cut.py" 1120)::[])
def FL:Obj:=fm "chosen" "First.chosen" (At (top 66) 0) wX 689
def FM(P:vp):Obj:=dd (eM P 1111 wX::eL P 360 1114::eF P "chosen" 1121 690::eS P 1122 691::eD P 1123::[]) 2
def FN:Obj:=cO "First" (rs [676]) [693,676,411] 692 (rs []) 679 1104 1112
def Zc(P:vp):Obj:=dd (eM P 1133 wX::eQ P "Best" 1134::eL P 365 1136::eF P "chosen" 1143 707::eS P 1144 708::[]) 5
def Zd:Obj:=cp "chosen" "Best.chosen" 1138 (vI 367::vI 3::vI 0::vI 0::vI 3::vR 703::(.bool true)::vI 181::vR 704::.none::.none::.none::vR 705::vI 1141::vI 367::(.str "/claim/cut.py" 1142)::[])
def FO:Obj:=fm "chosen" "Best.chosen" (At (top 67) 0) wX 706
def FP(P:vp):Obj:=dd (eM P 1133 wX::eL P 365 1136::eF P "chosen" 1143 707::eS P 1144 708::eD P 1145::[]) 2
def FQ:Obj:=cO "Best" (rs [676]) [710,676,411] 709 (rs []) 696 1126 1134
def Ze(P:vp):Obj:=dd (eM P 1155 wX::eQ P "Next" 1156::eL P 371 1158::eF P "__init__" 1167 726::eF P "rover" 1174 733::eF P "chosen" 1180 738::eF P "room_begin" 1188 745::eF P "room_granted" 1196 752::eS P 1199 753::[]) 9
def Zf:Obj:=xk1 "__init__" "Next.__init__" 1160 373 2 3 720 1165 1166
def FR:Obj:=fm "__init__" "Next.__init__" (At (top 68) 0) wX 725
def FS:Obj:=cp "chosen" "Next.chosen" 1175 (vI 380::vI 3::vI 0::vI 0::vI 3::vR 734::(.bool true)::vI 181::vR 735::.none::.none::.none::vR 736::vI 1178::vI 380::(.str "/claim/cut.py" 1179)::[])
def Zg:Obj:=fm "chosen" "Next.chosen" (At (top 68) 2) wX 737
def FT:Obj:=xk1 "room_begin" "Next.room_begin" 1181 384 2 3 739 1186 1187
def FU:Obj:=fm "room_begin" "Next.room_begin" (At (top 68) 3) wX 744
def Zh:Obj:=xk1 "room_granted" "Next.room_granted" 1189 388 2 3 746 1194 1195
def Zi:Obj:=fm "room_granted" "Next.room_granted" (At (top 68) 4) wX 751
def Zj(P:vp):Obj:=dd (eM P 1155 wX::eL P 371 1158::eF P "__init__" 1167 726::eF P "rover" 1174 733::eF P "chosen" 1180 738::eF P "room_begin" 1188 745::eF P "room_granted" 1196 752::eS P 1199 753::eD P 1200::[]) 2
def FV:Obj:=cO "Next" (rs [676]) [755,676,411] 754 (rs []) 713 1148 1156
def FW(P:vp):Obj:=dd (eM P 1210 wX::eQ P "Likes" 1211::eL P 390 1213::eF P "chosen" 1220 769::eS P 1221 770::[]) 5
def FX:Obj:=cp "chosen" "Likes.chosen" 1215 (vI 392::vI 3::vI 0::vI 0::vI 3::vR 765::(.bool true)::vI 181::vR 766::.none::.none::.none::vR 767::vI 1218::vI 392::(.str "/claim/cut.py" 1219)::[])
def Zk:Obj:=fm "chosen" "Likes.chosen" (At (top 69) 0) wX 768
def Zl(P:vp):Obj:=dd (eM P 1210 wX::eL P 390 1213::eF P "chosen" 1220 769::eS P 1221 770::eD P 1222::[]) 2
def Zm:Obj:=cO "Likes" (rs [676]) [772,676,411] 771 (rs []) 758 1203 1211
def FY:Obj:=xk1 "stretches_of" "stretches_of" 1225 396 2 3 775 1230 1231
def Zn:Obj:=fn "stretches_of" (top 70) wX 780
def Zo:Obj:=tu ((.int 8 1235)::[])
def Zp:Obj:=xk1 "keeper_of" "keeper_of" 1236 407 3 3 783 1242 1243
def Zq:Obj:=fd "keeper_of" "keeper_of" (top 72) 782 mo12 788
def FZ:Obj:=xk1 "_law_cell_at" "_law_cell_at" 1247 416 2 3 790 1252 1253
def F1:Obj:=fn "_law_cell_at" (top 74) xj 795
def F2:Obj:=xk1 "_law_whole" "_law_whole" 1255 420 1 3 797 1259 1260
def F3:Obj:=fn "_law_whole" (top 75) xj 802
def Zr:Obj:=xk1 "_law_plain" "_law_plain" 1262 422 1 3 804 1266 1267
def F4:Obj:=fn "_law_plain" (top 76) xj 809
def Zs:Obj:=xk1 "_law_walk" "_law_walk" 1269 424 2 3 811 1278 1279
def F5:Obj:=fn "_law_walk" (top 77) xj 816
def F6:Obj:=xk1 "_law_block" "_law_block" 1281 439 1 3 818 1286 1287
def F7:Obj:=fn "_law_block" (top 78) xj 823
def Zt:Obj:=xk1 "_law_halves" "_law_halves" 1289 444 1 3 825 1297 1298
def Zu:Obj:=fn "_law_halves" (top 79) xj 830
def F8:Obj:=cp "_law_one_shelf" "_law_one_shelf" 1300 (vI 456::vI 3::vI 0::vI 0::vI 3::vR 832::(.bool true)::vI 181::vR 833::.none::.none::.none::vR 834::vI 1303::vI 456::(.str "/claim/cut.py" 1304)::[])
def F9:Obj:=fn "_law_one_shelf" (top 80) xj 835
def Zv:Obj:=cp "_law_shaped" "_law_shaped" 1306 (vI 469::vI 2::vI 0::vI 0::vI 3::vR 837::(.bool true)::vI 181::vR 838::.none::.none::.none::vR 839::vI 1309::vI 469::(.str "/claim/cut.py" 1310)::[])
def Ga:Obj:=fn "_law_shaped" (top 81) xj 840
def Gb:Obj:=xk1 "_law_narrow" "_law_narrow" 1312 482 4 3 842 1323 1324
def Gc:Obj:=fn "_law_narrow" (top 82) xj 847
def Zw:Obj:=xk1 "_law_stays" "_law_stays" 1326 499 5 3 849 1337 1338
def Gd:Obj:=fn "_law_stays" (top 83) xj 854
def Ge:Obj:=xk1 "_law_done" "_law_done" 1340 506 6 3 856 1349 1350
def Zx:Obj:=fn "_law_done" (top 84) xj 861
def Gf:Obj:=xk1 "_law_tried" "_law_tried" 1352 516 6 3 863 1363 1364
def Zy:Obj:=fn "_law_tried" (top 85) xj 868
def Gg:Obj:=xk1 "_law_new" "_law_new" 1366 528 6 3 870 1381 1382
def Gi:Obj:=fn "_law_new" (top 86) xj 875
def Gj:Obj:=cp "_law_right" "_law_right" 1384 (vI 558::vI 3::vI 0::vI 0::vI 3::vR 877::(.bool true)::vI 181::vR 878::.none::.none::.none::vR 879::vI 1387::vI 558::(.str "/claim/cut.py" 1388)::[])
def Zz:Obj:=fn "_law_right" (top 87) xj 880
def Gk:Obj:=xk1 "_law_step" "_law_step" 1390 579 4 3 882 1400 1401
def ZA:Obj:=fn "_law_step" (top 88) xj 887
def Gm(P:vp):Obj:=dd (en P "__name__" 165 (.str "law_stow_k91_whole_every_keeper" 1245)::eD P 166::en P "__package__" 167 .none::en P "__loader__" 168 (.builtin "__main__.__loader__#opaque")::en P "__spec__" 169 .none::eF P "__annotations__" 170 6::eF P "__builtins__" 171 4::en P "__file__" 173 (.str "/claim/cut.py" 172)::en P "__cached__" 174 .none::eF P "_wall" 193 21::eF P "StowError" 213 31::eF P "NoName" 229 44::eF P "NoSize" 245 56::eF P "Broken" 270 75::eF P "NoGive" 286 87::eF P "NoPiece" 302 99::eF P "NoCell" 318 111::eF P "NoAsk" 334 123::eF P "NoBound" 350 135::eF P "NoRoom" 366 147::en P "MARKS" 370 (.int 2 369)::eF P "check_ask" 378 156::eF P "check_plain_ask" 386 163::eF P "mark_of" 396 170::eF P "long_of" 403 177::eF P "live_of" 410 184::en P "LEAST_LIVE" 414 (.int 3 413)::eF P "can_begin" 423 191::eF P "bad_of_piece" 432 198::eF P "looked" 443 205::eF P "fresh_room" 451 212::eF P "laid" 464 219::eF P "laid_free" 473 226::eF P "piece_at" 482 233::eF P "live_at" 491 240::eF P "free_at" 500 247::eF P "begin_around" 506 252::eF P "free_begin" 514 259::eF P "free_end" 522 266::eF P "cut_out" 537 273::eF P "freed" 548 280::eF P "joined_pieces" 559 287::eF P "joined" 570 294::eF P "carried" 581 301::eF P "Keeper" 734 411::eF P "is_power" 743 422::eF P "block_for" 750 429::eF P "least_free" 756 434::eF P "cut_down" 767 441::eF P "grown_together" 776 448::eF P "Halves" 823 480::eF P "Row" 873 515::eF P "all_whole" 883 524::eF P "begin_of" 891 531::eF P "whole_ones" 897 536::eF P "free_slots" 903 541::eF P "cut_for" 916 548::eF P "with_slot" 926 555::eF P "has_live" 932 560::eF P "Shelves" 989 599::eF P "first_place" 1004 608::eF P "spots_for" 1016 615::eF P "least_place" 1025 622::eF P "Stretches" 1103 676::eF P "First" 1125 693::eF P "Best" 1147 710::eF P "Next" 1202 755::eF P "Likes" 1224 772::eF P "stretches_of" 1232 781::eF P "keeper_of" 1244 789::eF P "_law_cell_at" 1254 796::eF P "_law_whole" 1261 803::eF P "_law_plain" 1268 810::eF P "_law_walk" 1280 817::eF P "_law_block" 1288 824::eF P "_law_halves" 1299 831::eF P "_law_one_shelf" 1305 836::eF P "_law_shaped" 1311 841::eF P "_law_narrow" 1325 848::eF P "_law_stays" 1339 855::eF P "_law_done" 1351 862::eF P "_law_tried" 1365 869::eF P "_law_new" 1383 876::eF P "_law_right" 1389 881::eF P "_law_step" 1402 888::eF P "law" 1416 895::[]) 86
def Gn:Obj:=xk1 "law" "law" 1403 598 1 3 889 1414 1415
def Go:Obj:=fn "law" (top 89) xj 894
noncomputable def q0(P:vp):List Obj:=PySem.W.boot_o_0 P::PySem.W.boot_o_1 P::boot_o_2 P::PySem.W.boot_o_3 P::PySem.W.boot_o_4 P::PySem.W.boot_o_5 P::PySem.W.boot_o_6 P::PySem.W.boot_o_7 P::PySem.W.boot_o_8 P::PySem.W.boot_o_9 P::PySem.W.boot_o_10 P::AQ::BE::Ew::Sl::[]
noncomputable def q1(P:vp):List Obj:=up (q0 P) [(3,dd (en P "__name__" 165 (.str "stow.errors" 194)::eD P 166::en P "__package__" 167 .none::en P "__loader__" 168 (.builtin "__main__.__loader__#opaque")::en P "__spec__" 169 .none::eF P "__annotations__" 170 6::eF P "__builtins__" 171 4::en P "__file__" 173 (.str "/claim/cut.py" 172)::en P "__cached__" 174 .none::eF P "_wall" 193 21::eF P "StowError" 213 31::eF P "NoName" 229 44::eF P "NoSize" 245 56::eF P "Broken" 270 75::eF P "NoGive" 286 87::eF P "NoPiece" 302 99::eF P "NoCell" 318 111::eF P "NoAsk" 334 123::[]) 18),(12,fl (f3 [(1,0,20),(5,0,27),(7,0,40),(9,0,52),(11,0,64),(15,0,83),(17,0,95),(19,0,107),(21,0,119)]))]++(dg 190 ["k"] "_wall" (top 0) K3 K4 (tu ((.type "ValueError")::[])::A0::K5 P::AQ::BE::xk0 "StowError" "StowError" 198 5 0 0 25 201 202::xf 27 24 mo1::AQ::K6 P::cV "StowError" [(.type "ValueError")] [31] 30 (rs [44,56,75,87,99,111,123]) 22 196 204::⟨(.type "getset_descriptor"),none,.fields ((.str "__weakref__" 209)::(.ref 31)::(.builtin "ExceptionGroup.__weakref__")::.none::[]).toArray,#[]⟩::xs 31::xb 31::Cp::A0::K7 P::AQ::BE::xk0 "NoName" "NoName" 216 7 0 0 38 219 220::xf 40 37 mo1::AQ::K8 P::K9::xs 44::xb 44::Cp::A0::La P::AQ::BE::xk0 "NoSize" "NoSize" 232 9 0 0 50 235 236::xf 52 49 mo1::AQ::Lb P::Ld::xs 56::xb 56::Cp::A0::Le P::AQ::fl (f3 [(13,4,71)])::xk0 "Broken" "Broken" 248 11 0 0 62 251 252::xf 64 61 mo1::dq 261 ["self","cell"] "__init__" "Broken.__init__" (At (top 5) 0) Lf Lg (tu (tn 266 ["cell"])::Lh P::Li::xs 75::xb 75::Cp::A0::Lj P::AQ::BE::xk0 "NoGive" "NoGive" 273 15 0 0 81 276 277::xf 83 80 mo1::AQ::Ll P::Lm::xs 87::xb 87::Cp::A0::Ln P::AQ::BE::xk0 "NoPiece" "NoPiece" 289 17 0 0 93 292 293::xf 95 92 mo1::AQ::Lo P::Lp::xs 99::xb 99::Cp::A0::Lq P::AQ::BE::xk0 "NoCell" "NoCell" 305 19 0 0 105 308 309::xf 107 104 mo1::AQ::Wh P::Wi::xs 111::xb 111::Cp::A0::Wj P::AQ::BE::xk0 "NoAsk" "NoAsk" 321 21 0 0 117 324 325::xf 119 116 mo1::AQ::Wk P::Wl::xs 123::xb 123::[])))
noncomputable def q2(P:vp):List Obj:=up (q1 P) [(3,dd (en P "__name__" 165 (.str "stow.keepers" 582)::eD P 166::en P "__package__" 167 .none::en P "__loader__" 168 (.builtin "__main__.__loader__#opaque")::en P "__spec__" 169 .none::eF P "__annotations__" 170 6::eF P "__builtins__" 171 4::en P "__file__" 173 (.str "/claim/cut.py" 172)::en P "__cached__" 174 .none::eF P "_wall" 193 21::eF P "StowError" 213 31::eF P "NoName" 229 44::eF P "NoSize" 245 56::eF P "Broken" 270 75::eF P "NoGive" 286 87::eF P "NoPiece" 302 99::eF P "NoCell" 318 111::eF P "NoAsk" 334 123::eF P "NoBound" 350 135::eF P "NoRoom" 366 147::en P "MARKS" 370 (.int 2 369)::eF P "check_ask" 378 156::eF P "check_plain_ask" 386 163::eF P "mark_of" 396 170::eF P "long_of" 403 177::eF P "live_of" 410 184::en P "LEAST_LIVE" 414 (.int 3 413)::eF P "can_begin" 423 191::eF P "bad_of_piece" 432 198::eF P "looked" 443 205::eF P "fresh_room" 451 212::eF P "laid" 464 219::eF P "laid_free" 473 226::eF P "piece_at" 482 233::eF P "live_at" 491 240::eF P "free_at" 500 247::eF P "begin_around" 506 252::eF P "free_begin" 514 259::eF P "free_end" 522 266::eF P "cut_out" 537 273::eF P "freed" 548 280::eF P "joined_pieces" 559 287::eF P "joined" 570 294::eF P "carried" 581 301::eF P "Keeper" 734 411::[]) 45),(12,fl (f3 [(1,0,20),(5,0,27),(7,0,40),(9,0,52),(11,0,64),(15,0,83),(17,0,95),(19,0,107),(21,0,119),(23,0,131),(25,0,143),(29,0,155),(32,0,162),(37,0,169),(41,0,176),(43,0,183),(47,0,190),(52,0,197),(59,0,204),(70,0,211),(78,0,218),(83,0,225),(87,0,232),(92,0,239),(97,0,246),(102,0,251),(105,0,258),(109,0,265),(113,0,272),(121,0,279),(124,0,286),(132,0,293),(137,0,300),(141,0,307)])),(31,Wm)]++(Cp::A0::Wn P::AQ::BE::xk0 "NoBound" "NoBound" 337 23 0 0 129 340 341::xf 131 128 mo1::AQ::Wo P::Wp::xs 135::xb 135::Cp::A0::Wq P::AQ::BE::xk0 "NoRoom" "NoRoom" 353 25 0 0 141 356 357::xf 143 140 mo1::AQ::Wr P::Ws::xs 147::xb 147::dg 374 ["count","bound"] "check_ask" (top 14) Wt Wu (dg 382 ["count","bound"] "check_plain_ask" (top 15) Wv Ww (dg 392 ["long","live"] "mark_of" (top 17) Wx Wy (dg 400 ["number"] "long_of" (top 18) Wz WA (dg 407 ["number"] "live_of" (top 19) WB WC (dg 418 ["cells","at","long"] "can_begin" (top 22) WD WE (dg 427 ["cells","at","last"] "bad_of_piece" (top 23) WF WG (dg 436 ["cells","pieces","at","bad","long"] "looked" (top 24) WH WI (dg 447 ["count","cells"] "fresh_room" (top 25) WJ WK (dg 457 ["cells","at","long","live","row"] "laid" (top 27) WL WM (dg 468 ["cells","begin","end"] "laid_free" (top 28) WN WO (dg 477 ["cells","at","piece"] "piece_at" (top 29) WP WQ (dg 486 ["cells","at","piece"] "live_at" (top 30) WR WS (dg 495 ["cells","at","piece"] "free_at" (top 31) WT WU (AQ::BE::fq "begin_around" "begin_around" (top 32)::WV::WW::dg 510 ["cells","at"] "free_begin" (top 33) WX WY (dg 518 ["cells","end"] "free_end" (top 34) WZ W0 (dg 526 ["cells","at","place","long","begin","free_long","live","end","row"] "cut_out" (top 35) W4 W5 (dg 541 ["cells","at","begin","long","live"] "freed" (top 36) W6 W8 (dg 552 ["pieces","row","at","long","live"] "joined_pieces" (top 37) W9 Xa (dg 563 ["cells","row","at","long","live"] "joined" (top 38) Xb Xc (dg 574 ["cells","source","goal","count","row"] "carried" (top 39) Xd Xe (AQ::A0::Xf P::AQ::fl (f3 [(143,4,314),(146,4,321),(149,4,328),(152,4,335),(158,4,342),(161,4,349),(165,4,356),(168,4,363),(172,4,371),(176,4,378),(180,4,386),(187,4,393),(190,4,400),(196,4,407)])::xk0 "Keeper" "Keeper" 586 141 0 0 305 589 590::xf 307 304 mo6::dq 599 ["self","size"] "__init__" "Keeper.__init__" (At (top 41) 0) Xg Xh (dq 607 ["self"] "cells" "Keeper.cells" (At (top 41) 1) Xi Xj (dq 614 ["self"] "pieces" "Keeper.pieces" (At (top 41) 2) Xk Xl (dq 621 ["self","cells"] "lay" "Keeper.lay" (At (top 41) 3) Xm Xn (dq 629 ["self"] "clear" "Keeper.clear" (At (top 41) 4) Xo Xp (dq 636 ["self","place","at","long","live"] "many" "Keeper.many" (At (top 41) 5) Xq Xr (dq 647 ["self","place","k"] "get" "Keeper.get" (At (top 41) 6) Xs Xt (dq 656 ["self","place","k","number","cell"] "put" "Keeper.put" (At (top 41) 7) Xu Xv (tu ((.int 1 664)::[])::dq 668 ["self","count","bound"] "ask" "Keeper.ask" (At (top 41) 8) (xk1 "ask" "Keeper.ask" 665 172 3 3 366 671 672) (fd "ask" "Keeper.ask" (At (top 41) 8) 365 mo6 371) (dq 677 ["self","place","at","long","live"] "give" "Keeper.give" (At (top 41) 9) (xk1 "give" "Keeper.give" 674 176 2 3 373 682 683) (fm "give" "Keeper.give" (At (top 41) 9) mo6 378) (Xw::dq 689 ["self","place","count","bound","had"] "grow" "Keeper.grow" (At (top 41) 10) Xx Xy (dq 700 ["self","cells"] "room_begin" "Keeper.room_begin" (At (top 41) 11) Xz XA (dq 708 ["self","place","k","many"] "room_cell_of" "Keeper.room_cell_of" (At (top 41) 12) XB XD (dq 718 ["self","place","count","bound","goal"] "room_moved" "Keeper.room_moved" (At (top 41) 13) XE XF (tu (tn 726 ["room_cells"])::XG P::⟨(.type "type"),none,.cls ⟨"Keeper",[(.type "object")],[(.ref 411),(.type "object")],410,"Keeper",true,[],[],false,none,false⟩,(none::none::(some (.str "Keeper" 584))::(some (.str "Keeper" 592))::(some (.builtin "object.__new__"))::(some (.bool true))::[]).toArray⟩::⟨(.type "getset_descriptor"),none,.fields ((.str "__dict__" 728)::(.ref 411)::(.builtin "function.__dict__")::(.builtin "function.__dict__#set")::[]).toArray,#[]⟩::⟨(.type "getset_descriptor"),none,.fields ((.str "__weakref__" 730)::(.ref 411)::(.builtin "ExceptionGroup.__weakref__")::.none::[]).toArray,#[]⟩::xs 411::xb 411::[]))))))))))))))))))))))))))))))))))))
noncomputable def q3(P:vp):List Obj:=up (q2 P) [(3,dd (en P "__name__" 165 (.str "stow.stretches" 1017)::eD P 166::en P "__package__" 167 .none::en P "__loader__" 168 (.builtin "__main__.__loader__#opaque")::en P "__spec__" 169 .none::eF P "__annotations__" 170 6::eF P "__builtins__" 171 4::en P "__file__" 173 (.str "/claim/cut.py" 172)::en P "__cached__" 174 .none::eF P "_wall" 193 21::eF P "StowError" 213 31::eF P "NoName" 229 44::eF P "NoSize" 245 56::eF P "Broken" 270 75::eF P "NoGive" 286 87::eF P "NoPiece" 302 99::eF P "NoCell" 318 111::eF P "NoAsk" 334 123::eF P "NoBound" 350 135::eF P "NoRoom" 366 147::en P "MARKS" 370 (.int 2 369)::eF P "check_ask" 378 156::eF P "check_plain_ask" 386 163::eF P "mark_of" 396 170::eF P "long_of" 403 177::eF P "live_of" 410 184::en P "LEAST_LIVE" 414 (.int 3 413)::eF P "can_begin" 423 191::eF P "bad_of_piece" 432 198::eF P "looked" 443 205::eF P "fresh_room" 451 212::eF P "laid" 464 219::eF P "laid_free" 473 226::eF P "piece_at" 482 233::eF P "live_at" 491 240::eF P "free_at" 500 247::eF P "begin_around" 506 252::eF P "free_begin" 514 259::eF P "free_end" 522 266::eF P "cut_out" 537 273::eF P "freed" 548 280::eF P "joined_pieces" 559 287::eF P "joined" 570 294::eF P "carried" 581 301::eF P "Keeper" 734 411::eF P "is_power" 743 422::eF P "block_for" 750 429::eF P "least_free" 756 434::eF P "cut_down" 767 441::eF P "grown_together" 776 448::eF P "Halves" 823 480::eF P "Row" 873 515::eF P "all_whole" 883 524::eF P "begin_of" 891 531::eF P "whole_ones" 897 536::eF P "free_slots" 903 541::eF P "cut_for" 916 548::eF P "with_slot" 926 555::eF P "has_live" 932 560::eF P "Shelves" 989 599::eF P "first_place" 1004 608::eF P "spots_for" 1016 615::eF P "least_place" 1025 622::eF P "Stretches" 1103 676::[]) 64),(12,fl (f3 [(1,0,20),(5,0,27),(7,0,40),(9,0,52),(11,0,64),(15,0,83),(17,0,95),(19,0,107),(21,0,119),(23,0,131),(25,0,143),(29,0,155),(32,0,162),(37,0,169),(41,0,176),(43,0,183),(47,0,190),(52,0,197),(59,0,204),(70,0,211),(78,0,218),(83,0,225),(87,0,232),(92,0,239),(97,0,246),(102,0,251),(105,0,258),(109,0,265),(113,0,272),(121,0,279),(124,0,286),(132,0,293),(137,0,300),(141,0,307),(202,0,421),(204,0,428),(206,0,433),(212,0,440),(218,0,447),(223,0,454),(241,0,488),(257,0,523),(261,0,530),(263,0,535),(265,0,540),(268,0,547),(274,0,554),(281,0,559),(283,0,566),(309,0,607),(315,0,614),(323,0,621),(327,0,628)])),(411,XH)]++(dg 740 ["number"] "is_power" (top 43) XJ XL (dg 747 ["need"] "block_for" (top 44) XM XN (AQ::BE::fq "least_free" "least_free" (top 45)::XO::XQ::dg 760 ["cells","at","long","block","row"] "cut_down" (top 46) XR XS (dg 771 ["pieces","at","long"] "grown_together" (top 47) XT XU (P1::A0::XV P::AQ::fl (f3 [(225,4,461),(230,4,469),(237,4,476)])::xk0 "Halves" "Halves" 779 223 0 0 452 782 783::xf 454 451 mo7::dq 792 ["self","size"] "__init__" "Halves.__init__" (At (top 48) 0) XW XX (XY::dq 801 ["self","count","bound","block","at","long"] "ask" "Halves.ask" (At (top 48) 1) XZ X0 (dq 813 ["self","place","at","long"] "give" "Halves.give" (At (top 48) 2) X1 X2 (AQ::X3 P::X4::xs 480::xb 480::P1::A0::X5 P::AQ::fl (f3 [(243,4,496),(251,4,503),(254,4,511)])::xk0 "Row" "Row" 828 241 0 0 486 831 832::xf 488 485 mo8::X6::dq 842 ["self","count","bound","at","long","live"] "ask" "Row.ask" (At (top 50) 0) X7 X8 (dq 854 ["self","place"] "give" "Row.give" (At (top 50) 1) X9 Ya (Yb::dq 863 ["self","place","count","bound"] "grow" "Row.grow" (At (top 50) 2) Yc Yd (AQ::Ye P::Yf::xs 515::xb 515::dg 879 ["size","shelf"] "all_whole" (top 52) Yg Yh (dg 887 ["at","shelf"] "begin_of" (top 53) Yi Yj (AQ::BE::fq "whole_ones" "whole_ones" (top 54)::Yk::Yl::AQ::BE::fq "free_slots" "free_slots" (top 55)::Ym::Yn::dg 907 ["cells","begin","shelf","size","row","end","at"] "cut_for" (top 56) Yo Yp (dg 920 ["cells","shelf","size","begins"] "with_slot" (top 57) Yq Yr (AQ::BE::fq "has_live" "has_live" (top 58)::Ys::Yt::P1::A0::Yu P::AQ::fl (f3 [(285,4,573),(291,4,580),(294,4,588),(302,4,595)])::xk0 "Shelves" "Shelves" 935 283 0 0 564 938 939::xf 566 563 mo9::dq 948 ["self","size","shelf","cells"] "__init__" "Shelves.__init__" (At (top 59) 0) Yv Yw (dq 958 ["self"] "clear" "Shelves.clear" (At (top 59) 1) Yx Yy (Yz::dq 966 ["self","count","bound","size","cells","at"] "ask" "Shelves.ask" (At (top 59) 2) YA YB (dq 978 ["self","place","cells","begin"] "give" "Shelves.give" (At (top 59) 3) YC YD (tu (tn 985 ["shelf"])::YE P::YF::xs 599::xb 599::dg 995 ["piece","long","bound","at","piece_long","live","place"] "first_place" (top 61) YG YH (dg 1008 ["cells","long","bound","spots","piece","place"] "spots_for" (top 62) YI YJ (dg 1022 ["ranked"] "least_place" (top 64) YK YL (P1::A0::YM P::AQ::fl (f3 [(329,4,635),(332,4,643),(342,4,650),(345,4,658),(355,4,665),(358,4,672)])::xk0 "Stretches" "Stretches" 1028 327 0 0 626 1031 1032::xf 628 625 wX::dq 1041 ["self","long","bound"] "chosen" "Stretches.chosen" (At (top 65) 0) (xk1 "chosen" "Stretches.chosen" 1038 329 3 3 630 1044 1045) (fm "chosen" "Stretches.chosen" (At (top 65) 0) wX 635) (YN::dq 1051 ["self","count","bound","long","at"] "ask" "Stretches.ask" (At (top 65) 1) YO YQ (dq 1062 ["self","place"] "give" "Stretches.give" (At (top 65) 2) YR YS (YT::dq 1071 ["self","place","count","bound","at","had","live","long","end"] "grow" "Stretches.grow" (At (top 65) 3) YU YV (dq 1086 ["self","cells"] "room_begin" "Stretches.room_begin" (At (top 65) 4) YW YX (dq 1094 ["self","behind"] "room_granted" "Stretches.room_granted" (At (top 65) 5) YY YZ (tu (tn 1099 ["room_cells"])::Za P::cO "Stretches" (rs [411]) [676,411] 675 (rs []) 623 1026 1034::xs 676::xb 676::[]))))))))))))))))))))))))))))
noncomputable def q4(P:vp):List Obj:=up (q3 P) [(3,dd (en P "__name__" 165 (.str "law_stow_k91_whole_every_keeper" 1245)::eD P 166::en P "__package__" 167 .none::en P "__loader__" 168 (.builtin "__main__.__loader__#opaque")::en P "__spec__" 169 .none::eF P "__annotations__" 170 6::eF P "__builtins__" 171 4::en P "__file__" 173 (.str "/claim/cut.py" 172)::en P "__cached__" 174 .none::eF P "_wall" 193 21::eF P "StowError" 213 31::eF P "NoName" 229 44::eF P "NoSize" 245 56::eF P "Broken" 270 75::eF P "NoGive" 286 87::eF P "NoPiece" 302 99::eF P "NoCell" 318 111::eF P "NoAsk" 334 123::eF P "NoBound" 350 135::eF P "NoRoom" 366 147::en P "MARKS" 370 (.int 2 369)::eF P "check_ask" 378 156::eF P "check_plain_ask" 386 163::eF P "mark_of" 396 170::eF P "long_of" 403 177::eF P "live_of" 410 184::en P "LEAST_LIVE" 414 (.int 3 413)::eF P "can_begin" 423 191::eF P "bad_of_piece" 432 198::eF P "looked" 443 205::eF P "fresh_room" 451 212::eF P "laid" 464 219::eF P "laid_free" 473 226::eF P "piece_at" 482 233::eF P "live_at" 491 240::eF P "free_at" 500 247::eF P "begin_around" 506 252::eF P "free_begin" 514 259::eF P "free_end" 522 266::eF P "cut_out" 537 273::eF P "freed" 548 280::eF P "joined_pieces" 559 287::eF P "joined" 570 294::eF P "carried" 581 301::eF P "Keeper" 734 411::eF P "is_power" 743 422::eF P "block_for" 750 429::eF P "least_free" 756 434::eF P "cut_down" 767 441::eF P "grown_together" 776 448::eF P "Halves" 823 480::eF P "Row" 873 515::eF P "all_whole" 883 524::eF P "begin_of" 891 531::eF P "whole_ones" 897 536::eF P "free_slots" 903 541::eF P "cut_for" 916 548::eF P "with_slot" 926 555::eF P "has_live" 932 560::eF P "Shelves" 989 599::eF P "first_place" 1004 608::eF P "spots_for" 1016 615::eF P "least_place" 1025 622::eF P "Stretches" 1103 676::eF P "First" 1125 693::eF P "Best" 1147 710::eF P "Next" 1202 755::eF P "Likes" 1224 772::eF P "stretches_of" 1232 781::eF P "keeper_of" 1244 789::eF P "_law_cell_at" 1254 796::eF P "_law_whole" 1261 803::eF P "_law_plain" 1268 810::eF P "_law_walk" 1280 817::eF P "_law_block" 1288 824::eF P "_law_halves" 1299 831::eF P "_law_one_shelf" 1305 836::eF P "_law_shaped" 1311 841::eF P "_law_narrow" 1325 848::eF P "_law_stays" 1339 855::eF P "_law_done" 1351 862::eF P "_law_tried" 1365 869::eF P "_law_new" 1383 876::eF P "_law_right" 1389 881::eF P "_law_step" 1402 888::[]) 85),(12,fl (f3 [(1,0,20),(5,0,27),(7,0,40),(9,0,52),(11,0,64),(15,0,83),(17,0,95),(19,0,107),(21,0,119),(23,0,131),(25,0,143),(29,0,155),(32,0,162),(37,0,169),(41,0,176),(43,0,183),(47,0,190),(52,0,197),(59,0,204),(70,0,211),(78,0,218),(83,0,225),(87,0,232),(92,0,239),(97,0,246),(102,0,251),(105,0,258),(109,0,265),(113,0,272),(121,0,279),(124,0,286),(132,0,293),(137,0,300),(141,0,307),(202,0,421),(204,0,428),(206,0,433),(212,0,440),(218,0,447),(223,0,454),(241,0,488),(257,0,523),(261,0,530),(263,0,535),(265,0,540),(268,0,547),(274,0,554),(281,0,559),(283,0,566),(309,0,607),(315,0,614),(323,0,621),(327,0,628),(360,0,684),(365,0,701),(371,0,718),(390,0,763),(396,0,780),(407,0,788),(416,0,795),(420,0,802),(422,0,809),(424,0,816),(439,0,823),(444,0,830),(456,0,835),(469,0,840),(482,0,847),(499,0,854),(506,0,861),(516,0,868),(528,0,875),(558,0,880),(579,0,887)])),(676,FJ)]++(P2::A0::FK P::AQ::fl (f3 [(362,4,689)])::xk0 "First" "First" 1106 360 0 0 682 1109 1110::xf 684 681 wX::AQ::BE::fq "chosen" "First.chosen" (At (top 66) 0)::Zb::FL::AQ::FM P::FN::xs 693::xb 693::P2::A0::Zc P::AQ::fl (f3 [(367,4,706)])::xk0 "Best" "Best" 1128 365 0 0 699 1131 1132::xf 701 698 wX::AQ::BE::fq "chosen" "Best.chosen" (At (top 67) 0)::Zd::FO::AQ::FP P::FQ::xs 710::xb 710::P2::A0::Ze P::AQ::fl (f3 [(373,4,725),(377,4,732),(380,4,737),(384,4,744),(388,4,751)])::xk0 "Next" "Next" 1150 371 0 0 716 1153 1154::xf 718 715 wX::dq 1163 ["self","size"] "__init__" "Next.__init__" (At (top 68) 0) Zf FR (dq 1171 ["self"] "rover" "Next.rover" (At (top 68) 1) (xk1 "rover" "Next.rover" 1168 377 1 3 727 1172 1173) (fm "rover" "Next.rover" (At (top 68) 1) wX 732) (AQ::BE::fq "chosen" "Next.chosen" (At (top 68) 2)::FS::Zg::dq 1184 ["self","cells"] "room_begin" "Next.room_begin" (At (top 68) 3) FT FU (dq 1192 ["self","behind"] "room_granted" "Next.room_granted" (At (top 68) 4) Zh Zi (tu (tn 1197 ["room_cells","room_rover"])::Zj P::FV::xs 755::xb 755::P2::A0::FW P::AQ::fl (f3 [(392,4,768)])::xk0 "Likes" "Likes" 1205 390 0 0 761 1208 1209::xf 763 760 wX::AQ::BE::fq "chosen" "Likes.chosen" (At (top 69) 0)::FX::Zk::AQ::Zl P::Zm::xs 772::xb 772::dg 1228 ["word","size"] "stretches_of" (top 70) FY Zn (Zo::dg 1239 ["word","size","shelf"] "keeper_of" (top 72) Zp Zq (dg 1250 ["_law_script","_law_k"] "_law_cell_at" (top 74) FZ F1 (dg 1258 ["_law_found"] "_law_whole" (top 75) F2 F3 (dg 1265 ["_law_word"] "_law_plain" (top 76) Zr F4 (dg 1272 ["_law_cells","_law_size","_law_pieces","_law_at","_law_long","_law_live"] "_law_walk" (top 77) Zs F5 (dg 1284 ["_law_long","_law_block_here"] "_law_block" (top 78) F6 F7 (dg 1292 ["_law_pieces","_law_piece","_law_at","_law_long","_law_other"] "_law_halves" (top 79) Zt Zu (AQ::BE::fq "_law_one_shelf" "_law_one_shelf" (top 80)::F8::F9::AQ::BE::fq "_law_shaped" "_law_shaped" (top 81)::Zv::Ga::dg 1315 ["_law_pieces","_law_room","_law_long","_law_bound","_law_first","_law_piece","_law_spot","_law_cut"] "_law_narrow" (top 82) Gb Gc (dg 1329 ["_law_pieces","_law_room","_law_place","_law_long","_law_bound","_law_end","_law_piece","_law_own"] "_law_stays" (top 83) Zw Gd (dg 1343 ["_law_keeper","_law_way","_law_place","_law_count","_law_bound","_law_brief"] "_law_done" (top 84) Ge Zx (dg 1355 ["_law_keeper","_law_way","_law_place","_law_count","_law_bound","_law_brief","_law_word","_law_told"] "_law_tried" (top 85) Gf Zy (dg 1369 ["_law_keeper","_law_room","_law_held","_law_way","_law_place","_law_c","_law_count","_law_bound","_law_before","_law_found","_law_pieces","_law_row"] "_law_new" (top 86) Gg Gi (AQ::BE::fq "_law_right" "_law_right" (top 87)::Gj::Zz::dg 1393 ["_law_keeper","_law_room","_law_held","_law_c","_law_way","_law_place","_law_k"] "_law_step" (top 88) Gk ZA ([])))))))))))))))))))
noncomputable def q5(P:vp):List Obj:=up (q4 P) [(3,Gm P),(12,fl (f3 [(1,0,20),(5,0,27),(7,0,40),(9,0,52),(11,0,64),(15,0,83),(17,0,95),(19,0,107),(21,0,119),(23,0,131),(25,0,143),(29,0,155),(32,0,162),(37,0,169),(41,0,176),(43,0,183),(47,0,190),(52,0,197),(59,0,204),(70,0,211),(78,0,218),(83,0,225),(87,0,232),(92,0,239),(97,0,246),(102,0,251),(105,0,258),(109,0,265),(113,0,272),(121,0,279),(124,0,286),(132,0,293),(137,0,300),(141,0,307),(202,0,421),(204,0,428),(206,0,433),(212,0,440),(218,0,447),(223,0,454),(241,0,488),(257,0,523),(261,0,530),(263,0,535),(265,0,540),(268,0,547),(274,0,554),(281,0,559),(283,0,566),(309,0,607),(315,0,614),(323,0,621),(327,0,628),(360,0,684),(365,0,701),(371,0,718),(390,0,763),(396,0,780),(407,0,788),(416,0,795),(420,0,802),(422,0,809),(424,0,816),(439,0,823),(444,0,830),(456,0,835),(469,0,840),(482,0,847),(499,0,854),(506,0,861),(516,0,868),(528,0,875),(558,0,880),(579,0,887),(598,0,894)]))]++(dg 1406 ["_law_script","_law_c","_law_word","_law_size","_law_shelf","_law_keeper","_law_room","_law_held"] "law" (top 89) Gn Go ([]))
noncomputable def zQ:vp->vq:=λP=>⟨Array.mk (q0 P),⟨[],[],[],0,[],[],false,#[],[],0,false,false,false,0,[2000,10,10],false,0,true,[],[],0,false⟩⟩
def Lr:List uO:=PySem.W.behindTheImports PySem.Challenge.pw_stow_k91_whole_every_keeper
def sts0:List uO:=(Lr.drop 0).take 10
def sts1:List uO:=(Lr.drop 10).take 32
def sts2:List uO:=(Lr.drop 42).take 24
def sts3:List uO:=(Lr.drop 66).take 23
def sts4:List uO:=(Lr.drop 89).take 1
def all0:List uO:=sts0++(sts1++(sts2++(sts3++(sts4++[]))))
def env0:vt:={ scope:=(PySem.Challenge.pw_stow_k91_whole_every_keeper).main.scope,locals:=mainNs,globals:=mainNs,cells:=[],code:=(.ref 13),frame:=some 14 }
def Dd:Code:=.body all0 env0
theorem pre0(w:uL)(os:OsState):PySem.W.topGo treeTable PySem.Challenge.pw_stow_k91_whole_every_keeper w 11 (some (.ref 6)) 12 ⟨boot_heap w.params,Array.mk [],boot_drawn,boot_toks,os⟩ (topStub PySem.Challenge.pw_stow_k91_whole_every_keeper)=some (⟨zQ w.params,#[],⟨0,0,0,0⟩,187,os⟩,⟨denote treeTable (.body all0 env0),Dd,⟨0,0,0,0⟩,[topFrame ⟨0,0,0,0⟩]⟩):=by kernel_rfl
noncomputable def yF:vp->BT:=λP=>bt 11 (q0 P)
theorem blk0(w:uL)(os:OsState):PySem.W.segRun treeTable PySem.Challenge.pw_stow_k91_whole_every_keeper w 11 (some (.ref 6)) 1 1 ⟨zQ w.params,#[],⟨0,0,0,0⟩,187,os⟩ (PySem.W.blockOf all0 env0 Dd ⟨0,0,0,0⟩ [topFrame ⟨0,0,0,0⟩])=some (.next,(cw.mk (yF w.params) 15 ⟨[],[],[],0,[],[],false,#[],[],0,false,false,false,0,[2000,10,10],false,0,true,[],[],0,false⟩ #[] ⟨0,0,0,0⟩ 187 os).abs,Dd,⟨0,0,0,0⟩):=by kernel_rfl
noncomputable def ZB:vp->BT:=λP=>bt 11 (q1 P)
theorem grp0(w:uL)(os:OsState):segRunT treeTable PySem.Challenge.pw_stow_k91_whole_every_keeper w 11 (some (.ref 6)) 1 1748 (cw.mk (yF w.params) 15 ⟨[],[],[],0,[],[],false,#[],[],0,false,false,false,0,[2000,10,10],false,0,true,[],[],0,false⟩ #[] ⟨0,0,0,0⟩ 187 os) (piecesOf sts0 env0 Dd ⟨0,0,0,0⟩ [topFrame ⟨0,0,0,0⟩])=some (.next,(cw.mk (ZB w.params) 126 ⟨[],[],[],0,[],[],false,#[],[],0,false,false,false,0,[2000,10,10],false,0,true,[],[],0,false⟩ #[] ⟨0,0,0,0⟩ 335 os),Dd,⟨21,0,22,8⟩):=by kernel_rfl
noncomputable def ZC:vp->BT:=λP=>bt 11 (q2 P)
theorem grp1(w:uL)(os:OsState):segRunT treeTable PySem.Challenge.pw_stow_k91_whole_every_keeper w 11 (some (.ref 6)) 1 1833 (cw.mk (ZB w.params) 126 ⟨[],[],[],0,[],[],false,#[],[],0,false,false,false,0,[2000,10,10],false,0,true,[],[],0,false⟩ #[] ⟨0,0,0,0⟩ 335 os) (piecesOf sts1 env0 Dd ⟨21,0,22,8⟩ [topFrame ⟨0,0,0,0⟩])=some (.next,(cw.mk (ZC w.params) 416 ⟨[],[],[],0,[],[],false,#[],[],0,false,false,false,0,[2000,10,10],false,0,true,[],[],0,false⟩ #[] ⟨0,0,0,0⟩ 735 os),Dd,⟨141,0,200,19⟩):=by kernel_rfl
noncomputable def ZD:vp->BT:=λP=>bt 11 (q3 P)
theorem grp2(w:uL)(os:OsState):segRunT treeTable PySem.Challenge.pw_stow_k91_whole_every_keeper w 11 (some (.ref 6)) 1 1901 (cw.mk (ZC w.params) 416 ⟨[],[],[],0,[],[],false,#[],[],0,false,false,false,0,[2000,10,10],false,0,true,[],[],0,false⟩ #[] ⟨0,0,0,0⟩ 735 os) (piecesOf sts2 env0 Dd ⟨141,0,200,19⟩ [topFrame ⟨0,0,0,0⟩])=some (.next,(cw.mk (ZD w.params) 679 ⟨[],[],[],0,[],[],false,#[],[],0,false,false,false,0,[2000,10,10],false,0,true,[],[],0,false⟩ #[] ⟨0,0,0,0⟩ 1104 os),Dd,⟨327,0,359,12⟩):=by kernel_rfl
noncomputable def ZE:vp->BT:=λP=>bt 11 (q4 P)
theorem grp3(w:uL)(os:OsState):segRunT treeTable PySem.Challenge.pw_stow_k91_whole_every_keeper w 11 (some (.ref 6)) 1 1707 (cw.mk (ZD w.params) 679 ⟨[],[],[],0,[],[],false,#[],[],0,false,false,false,0,[2000,10,10],false,0,true,[],[],0,false⟩ #[] ⟨0,0,0,0⟩ 1104 os) (piecesOf sts3 env0 Dd ⟨327,0,359,12⟩ [topFrame ⟨0,0,0,0⟩])=some (.next,(cw.mk (ZE w.params) 889 ⟨[],[],[],0,[],[],false,#[],[],0,false,false,false,0,[2000,10,10],false,0,true,[],[],0,false⟩ #[] ⟨0,0,0,0⟩ 1403 os),Dd,⟨579,0,597,15⟩):=by kernel_rfl
noncomputable def Ls:vp->BT:=λP=>bt 11 (q5 P)
theorem grp4(w:uL)(os:OsState):segRunT treeTable PySem.Challenge.pw_stow_k91_whole_every_keeper w 11 (some (.ref 6)) 1 37 (cw.mk (ZE w.params) 889 ⟨[],[],[],0,[],[],false,#[],[],0,false,false,false,0,[2000,10,10],false,0,true,[],[],0,false⟩ #[] ⟨0,0,0,0⟩ 1403 os) (piecesOf sts4 env0 Dd ⟨579,0,597,15⟩ [topFrame ⟨0,0,0,0⟩])=some (.next,(cw.mk (Ls w.params) 896 ⟨[],[],[],0,[],[],false,#[],[],0,false,false,false,0,[2000,10,10],false,0,true,[],[],0,false⟩ #[] ⟨0,0,0,0⟩ 1417 os),Dd,⟨598,0,619,15⟩):=by kernel_rfl
theorem fin0(w:uL)(os:OsState):topRun treeTable PySem.Challenge.pw_stow_k91_whole_every_keeper w 11 (some (.ref 6)) 2 ⟨absHeap (Ls w.params) 896 ⟨[],[],[],0,[],[],false,#[],[],0,false,false,false,0,[2000,10,10],false,0,true,[],[],0,false⟩,#[],⟨0,0,0,0⟩,1417,os⟩ (PySem.W.restOf [] env0 Dd ⟨598,0,619,15⟩ [topFrame ⟨0,0,0,0⟩])=some ⟨absHeap (Ls w.params) 896 ⟨[],[],[],0,[],[],false,#[],[],0,false,false,false,0,[2000,10,10],false,0,true,[],[],0,false⟩,#[],⟨0,0,0,0⟩,1417,os⟩:=by kernel_rfl
theorem run0(w:uL)(os:OsState):topRun treeTable PySem.Challenge.pw_stow_k91_whole_every_keeper w 11 (some (.ref 6)) (12+(1+(1748+(1833+(1901+(1707+(37+2))))))) ⟨boot_heap w.params,Array.mk [],boot_drawn,boot_toks,os⟩ (topStub PySem.Challenge.pw_stow_k91_whole_every_keeper)=some ⟨absHeap (Ls w.params) 896 ⟨[],[],[],0,[],[],false,#[],[],0,false,false,false,0,[2000,10,10],false,0,true,[],[],0,false⟩,#[],⟨0,0,0,0⟩,1417,os⟩:=PySem.W.go_top (pre0 w os) (PySem.W.piece_block (blk0 w os) (piece_app (segRun_of (grp0 w os)) (piece_app (segRun_of (grp1 w os)) (piece_app (segRun_of (grp2 w os)) (piece_app (segRun_of (grp3 w os)) (piece_app (segRun_of (grp4 w os)) (fin0 w os)))))))
theorem open0(w:uL):(PySem.W.fencedOpening treeTable PySem.Challenge.pw_stow_k91_whole_every_keeper w 7941).map (λs=>(s.heap,s.gens,s.drawn,s.toks))=some (boot_heap w.params,Array.mk [],boot_drawn,boot_toks):=PySem.W.boot_open (by kernel_rfl) rfl (λs=>by kernel_rfl) w
noncomputable def heap0:vp->δ:=λP=>
 (nat_lit 2,boot_o_2 P)::
 (nat_lit 3,Gm P)::
 (nat_lit 20,K3)::
 (nat_lit 21,K4)::
 (nat_lit 24,K5 P)::
 (nat_lit 30,K6 P)::
 (nat_lit 31,Wm)::
 (nat_lit 37,K7 P)::
 (nat_lit 43,K8 P)::
 (nat_lit 44,K9)::
 (nat_lit 49,La P)::
 (nat_lit 55,Lb P)::
 (nat_lit 56,Ld)::
 (nat_lit 61,Le P)::
 (nat_lit 71,Lf)::
 (nat_lit 72,Lg)::
 (nat_lit 74,Lh P)::
 (nat_lit 75,Li)::
 (nat_lit 80,Lj P)::
 (nat_lit 86,Ll P)::
 (nat_lit 87,Lm)::
 (nat_lit 92,Ln P)::
 (nat_lit 98,Lo P)::
 (nat_lit 99,Lp)::
 (nat_lit 104,Lq P)::
 (nat_lit 110,Wh P)::
 (nat_lit 111,Wi)::
 (nat_lit 116,Wj P)::
 (nat_lit 122,Wk P)::
 (nat_lit 123,Wl)::
 (nat_lit 128,Wn P)::
 (nat_lit 134,Wo P)::
 (nat_lit 135,Wp)::
 (nat_lit 140,Wq P)::
 (nat_lit 146,Wr P)::
 (nat_lit 147,Ws)::
 (nat_lit 155,Wt)::
 (nat_lit 156,Wu)::
 (nat_lit 162,Wv)::
 (nat_lit 163,Ww)::
 (nat_lit 169,Wx)::
 (nat_lit 170,Wy)::
 (nat_lit 176,Wz)::
 (nat_lit 177,WA)::
 (nat_lit 183,WB)::
 (nat_lit 184,WC)::
 (nat_lit 190,WD)::
 (nat_lit 191,WE)::
 (nat_lit 197,WF)::
 (nat_lit 198,WG)::
 (nat_lit 204,WH)::
 (nat_lit 205,WI)::
 (nat_lit 211,WJ)::
 (nat_lit 212,WK)::
 (nat_lit 218,WL)::
 (nat_lit 219,WM)::
 (nat_lit 225,WN)::
 (nat_lit 226,WO)::
 (nat_lit 232,WP)::
 (nat_lit 233,WQ)::
 (nat_lit 239,WR)::
 (nat_lit 240,WS)::
 (nat_lit 246,WT)::
 (nat_lit 247,WU)::
 (nat_lit 251,WV)::
 (nat_lit 252,WW)::
 (nat_lit 258,WX)::
 (nat_lit 259,WY)::
 (nat_lit 265,WZ)::
 (nat_lit 266,W0)::
 (nat_lit 272,W4)::
 (nat_lit 273,W5)::
 (nat_lit 279,W6)::
 (nat_lit 280,W8)::
 (nat_lit 286,W9)::
 (nat_lit 287,Xa)::
 (nat_lit 293,Xb)::
 (nat_lit 294,Xc)::
 (nat_lit 300,Xd)::
 (nat_lit 301,Xe)::
 (nat_lit 304,Xf P)::
 (nat_lit 314,Xg)::
 (nat_lit 315,Xh)::
 (nat_lit 321,Xi)::
 (nat_lit 322,Xj)::
 (nat_lit 328,Xk)::
 (nat_lit 329,Xl)::
 (nat_lit 335,Xm)::
 (nat_lit 336,Xn)::
 (nat_lit 342,Xo)::
 (nat_lit 343,Xp)::
 (nat_lit 349,Xq)::
 (nat_lit 350,Xr)::
 (nat_lit 356,Xs)::
 (nat_lit 357,Xt)::
 (nat_lit 363,Xu)::
 (nat_lit 364,Xv)::
 (nat_lit 380,Xw)::
 (nat_lit 386,Xx)::
 (nat_lit 387,Xy)::
 (nat_lit 393,Xz)::
 (nat_lit 394,XA)::
 (nat_lit 400,XB)::
 (nat_lit 401,XD)::
 (nat_lit 407,XE)::
 (nat_lit 408,XF)::
 (nat_lit 410,XG P)::
 (nat_lit 411,XH)::
 (nat_lit 421,XJ)::
 (nat_lit 422,XL)::
 (nat_lit 428,XM)::
 (nat_lit 429,XN)::
 (nat_lit 433,XO)::
 (nat_lit 434,XQ)::
 (nat_lit 440,XR)::
 (nat_lit 441,XS)::
 (nat_lit 447,XT)::
 (nat_lit 448,XU)::
 (nat_lit 451,XV P)::
 (nat_lit 461,XW)::
 (nat_lit 462,XX)::
 (nat_lit 463,XY)::
 (nat_lit 469,XZ)::
 (nat_lit 470,X0)::
 (nat_lit 476,X1)::
 (nat_lit 477,X2)::
 (nat_lit 479,X3 P)::
 (nat_lit 480,X4)::
 (nat_lit 485,X5 P)::
 (nat_lit 490,X6)::
 (nat_lit 496,X7)::
 (nat_lit 497,X8)::
 (nat_lit 503,X9)::
 (nat_lit 504,Ya)::
 (nat_lit 505,Yb)::
 (nat_lit 511,Yc)::
 (nat_lit 512,Yd)::
 (nat_lit 514,Ye P)::
 (nat_lit 515,Yf)::
 (nat_lit 523,Yg)::
 (nat_lit 524,Yh)::
 (nat_lit 530,Yi)::
 (nat_lit 531,Yj)::
 (nat_lit 535,Yk)::
 (nat_lit 536,Yl)::
 (nat_lit 540,Ym)::
 (nat_lit 541,Yn)::
 (nat_lit 547,Yo)::
 (nat_lit 548,Yp)::
 (nat_lit 554,Yq)::
 (nat_lit 555,Yr)::
 (nat_lit 559,Ys)::
 (nat_lit 560,Yt)::
 (nat_lit 563,Yu P)::
 (nat_lit 573,Yv)::
 (nat_lit 574,Yw)::
 (nat_lit 580,Yx)::
 (nat_lit 581,Yy)::
 (nat_lit 582,Yz)::
 (nat_lit 588,YA)::
 (nat_lit 589,YB)::
 (nat_lit 595,YC)::
 (nat_lit 596,YD)::
 (nat_lit 598,YE P)::
 (nat_lit 599,YF)::
 (nat_lit 607,YG)::
 (nat_lit 608,YH)::
 (nat_lit 614,YI)::
 (nat_lit 615,YJ)::
 (nat_lit 621,YK)::
 (nat_lit 622,YL)::
 (nat_lit 625,YM P)::
 (nat_lit 637,YN)::
 (nat_lit 643,YO)::
 (nat_lit 644,YQ)::
 (nat_lit 650,YR)::
 (nat_lit 651,YS)::
 (nat_lit 652,YT)::
 (nat_lit 658,YU)::
 (nat_lit 659,YV)::
 (nat_lit 665,YW)::
 (nat_lit 666,YX)::
 (nat_lit 672,YY)::
 (nat_lit 673,YZ)::
 (nat_lit 675,Za P)::
 (nat_lit 676,FJ)::
 (nat_lit 681,FK P)::
 (nat_lit 689,Zb)::
 (nat_lit 690,FL)::
 (nat_lit 692,FM P)::
 (nat_lit 693,FN)::
 (nat_lit 698,Zc P)::
 (nat_lit 706,Zd)::
 (nat_lit 707,FO)::
 (nat_lit 709,FP P)::
 (nat_lit 710,FQ)::
 (nat_lit 715,Ze P)::
 (nat_lit 725,Zf)::
 (nat_lit 726,FR)::
 (nat_lit 737,FS)::
 (nat_lit 738,Zg)::
 (nat_lit 744,FT)::
 (nat_lit 745,FU)::
 (nat_lit 751,Zh)::
 (nat_lit 752,Zi)::
 (nat_lit 754,Zj P)::
 (nat_lit 755,FV)::
 (nat_lit 760,FW P)::
 (nat_lit 768,FX)::
 (nat_lit 769,Zk)::
 (nat_lit 771,Zl P)::
 (nat_lit 772,Zm)::
 (nat_lit 780,FY)::
 (nat_lit 781,Zn)::
 (nat_lit 782,Zo)::
 (nat_lit 788,Zp)::
 (nat_lit 789,Zq)::
 (nat_lit 795,FZ)::
 (nat_lit 796,F1)::
 (nat_lit 802,F2)::
 (nat_lit 803,F3)::
 (nat_lit 809,Zr)::
 (nat_lit 810,F4)::
 (nat_lit 816,Zs)::
 (nat_lit 817,F5)::
 (nat_lit 823,F6)::
 (nat_lit 824,F7)::
 (nat_lit 830,Zt)::
 (nat_lit 831,Zu)::
 (nat_lit 835,F8)::
 (nat_lit 836,F9)::
 (nat_lit 840,Zv)::
 (nat_lit 841,Ga)::
 (nat_lit 847,Gb)::
 (nat_lit 848,Gc)::
 (nat_lit 854,Zw)::
 (nat_lit 855,Gd)::
 (nat_lit 861,Ge)::
 (nat_lit 862,Zx)::
 (nat_lit 868,Gf)::
 (nat_lit 869,Zy)::
 (nat_lit 875,Gg)::
 (nat_lit 876,Gi)::
 (nat_lit 880,Gj)::
 (nat_lit 881,Zz)::
 (nat_lit 887,Gk)::
 (nat_lit 888,ZA)::
 (nat_lit 894,Gn)::
 (nat_lit 895,Go)::
 []
noncomputable def at0:List uH:=2::3::20::21::24::30::31::37::43::44::49::55::56::61::71::72::74::75::80::86::87::92::98::99::104::110::111::116::122::123::128::134::135::140::146::147::155::156::162::163::169::170::176::177::183::184::190::191::197::198::204::205::211::212::218::219::225::226::232::233::239::240::246::247::251::252::258::259::265::266::272::273::279::280::286::287::293::294::300::301::304::314::315::321::322::328::329::335::336::342::343::349::350::356::357::363::364::380::386::387::393::394::400::401::407::408::410::411::421::422::428::429::433::434::440::441::447::448::451::461::462::463::469::470::476::477::479::480::485::490::496::497::503::504::505::511::512::514::515::523::524::530::531::535::536::540::541::547::548::554::555::559::560::563::573::574::580::581::582::588::589::595::596::598::599::607::608::614::615::621::622::625::637::643::644::650::651::652::658::659::665::666::672::673::675::676::681::689::690::692::693::698::706::707::709::710::715::725::726::737::738::744::745::751::752::754::755::760::768::769::771::772::780::781::782::788::789::795::796::802::803::809::810::816::817::823::824::830::831::835::836::840::841::847::848::854::855::861::862::868::869::875::876::880::881::887::888::894::895::[]
noncomputable def zz:List Str:="_wall"::"StowError"::"NoName"::"NoSize"::"Broken"::"NoGive"::"NoPiece"::"NoCell"::"NoAsk"::"NoBound"::"NoRoom"::"MARKS"::"check_ask"::"check_plain_ask"::"mark_of"::"long_of"::"live_of"::"LEAST_LIVE"::"can_begin"::"bad_of_piece"::"looked"::"fresh_room"::"laid"::"laid_free"::"piece_at"::"live_at"::"free_at"::"begin_around"::"free_begin"::"free_end"::"cut_out"::"freed"::"joined_pieces"::"joined"::"carried"::"Keeper"::"is_power"::"block_for"::"least_free"::"cut_down"::"grown_together"::"Halves"::"Row"::"all_whole"::"begin_of"::"whole_ones"::"free_slots"::"cut_for"::"with_slot"::"has_live"::"Shelves"::"first_place"::"spots_for"::"least_place"::"Stretches"::"First"::"Best"::"Next"::"Likes"::"stretches_of"::"keeper_of"::"_law_cell_at"::"_law_whole"::"_law_plain"::"_law_walk"::"_law_block"::"_law_halves"::"_law_one_shelf"::"_law_shaped"::"_law_narrow"::"_law_stays"::"_law_done"::"_law_tried"::"_law_new"::"_law_right"::"_law_step"::[]
theorem at0_eq(P:vp):at0=(heap0 P).map (·.1):=by kernel_rfl
abbrev seen0(s:uI):Bool:=PySem.W.recOk (PySem.W.RowW.records (PySem.W.OpenRow.toRowW (PySem.Challenge.rw_stow_k91_whole_every_keeper).row)) s
theorem left0:qy PySem.Challenge.pw_stow_k91_whole_every_keeper (PySem.W.view PySem.Challenge.pw_stow_k91_whole_every_keeper [89]) zz seen0 (λs=>at0.map s.heap.get?) (λw=>(heap0 w.params).map λp=>some p.2) 7941:=
 qy.of_pieces (H₁:=λP=>absHeap (Ls P) 896 ⟨[],[],[],0,[],[],false,#[],[],0,false,false,false,0,[2000,10,10],false,0,true,[],[],0,false⟩) (gs₁:=#[]) (d₁:=⟨0,0,0,0⟩) (k₁:=1417) (m₀:=11) (ann:=(some (.ref 6))) open0 (λw=>by kernel_rfl) run0 rfl (λw=>funext λos=>by kernel_rfl)
end
end Stow
namespace L2
open PySem PySem.Spec PyProof.Rows
variable{E:uG->uI->Prop}{pins:List (uH×Obj)}
abbrev Key:=Sum Int Str
def GX:Key->uG->Bool
 | .inl k,v=>tm k v
 | .inr x,v=>qz x v
def keyH(w:uL):Key->Int
 | .inl k=>hashInt k
 | .inr x=>hashStr w x
theorem Ex:∀{k:Key}{v:uG},GX k v=true->(∃i t,k=Sum.inl i/\v=Value.int i t)\/(∃x t,k=Sum.inr x/\v=Value.str x t)
 | .inl i,v,h=>by
   obtain⟨t,e⟩:=Value.isInt_shape (k:=i) (v:=v) h
   exact .inl ⟨i,t,rfl,e⟩
 | .inr x,v,h=>by
   obtain⟨t,e⟩:=Value.isStrOf_shape (x:=x) (v:=v) h
   exact .inr ⟨x,t,rfl,e⟩
theorem iE(i:Int)(t:Tok):GX (.inl i) (.int i t)=true:=by simp [GX,tm]
theorem iF(x:Str)(t:Tok):GX (.inr x) (.str x t)=true:=by simp [GX,qz]
theorem zJ(a b:Int):decide ((Sum.inl a:Key)=Sum.inl b)=(a==b):=by
 by_cases e:a=b
 . subst e;simp
 . have h:¬(Sum.inl a:Key)=Sum.inl b:=λq=>e (ja q);rw[decide_eq_false h];exact(beq_eq_false_iff_ne.mpr e).symm
theorem zG(a b:Str):decide ((Sum.inr a:Key)=Sum.inr b)=decide (a=b):=by
 by_cases e:a=b
 . subst e;simp
 . have h:¬(Sum.inr a:Key)=Sum.inr b:=λq=>e (Sum.inr.inj q);rw[decide_eq_false h,decide_eq_false e]
theorem zI(a:Int)(b:Str):decide ((Sum.inl a:Key)=Sum.inr b)=false:=decide_eq_false (λq=>nomatch q)
theorem zH(a:Str)(b:Int):decide ((Sum.inr a:Key)=Sum.inl b)=false:=decide_eq_false (λq=>nomatch q)
def Ci(prog:uK)(w:uL):PySem.KeyKind prog w Key where
 is:=GX
 hash:=keyH w
 inj:=λv a b ha hb=>by
   rcases Ex ha with ⟨i,t,rfl,rfl⟩ | ⟨x,t,rfl,rfl⟩
   . rcases Ex hb with ⟨j,u,rfl,e⟩ | ⟨y,u,rfl,e⟩
     . injection e with e1 _;rw[e1]
     . exact nomatch e
   . rcases Ex hb with ⟨j,u,rfl,e⟩ | ⟨y,u,rfl,e⟩
     . exact nomatch e
     . injection e with e1 _;rw[e1]
 byValue:=λk v h=>by
   rcases Ex h with ⟨i,t,rfl,rfl⟩ | ⟨x,t,rfl,rfl⟩ <;> rfl
 pyHash:=λhv h=>by
   rcases Ex hv with ⟨i,t,rfl,rfl⟩ | ⟨x,t,rfl,rfl⟩
   . exact wpAny_pyHash_int h
   . exact wpAny_pyHash_str h
 eqBool:=λhu hv h=>by
   rcases Ex hu with ⟨i,t,rfl,rfl⟩ | ⟨x,t,rfl,rfl⟩
   . rcases Ex hv with ⟨j,u,rfl,rfl⟩ | ⟨y,u,rfl,rfl⟩
     . rw[zJ] at h;exact wpAny_eqBool_int h
     . rw[zI] at h;exact oj i t y u _ _ _ _ h
   . rcases Ex hv with ⟨j,u,rfl,rfl⟩ | ⟨y,u,rfl,rfl⟩
     . rw[zH] at h;exact ol x t j u _ _ _ _ h
     . rw[zG] at h;exact wpAny_eqBool_str h
 «strs»:=λk x t v h=>by
   rcases Ex h with ⟨i,u,rfl,e⟩ | ⟨y,u,rfl,e⟩
   . exact nomatch e
   . injection e with e1 _
     subst e1
     cases v <;> rfl
theorem iG(prog:uK)(w:uL)(i:Int)(t:Tok):(Ci prog w).is (.inl i) (.int i t)=true:=iE i t
theorem iH(prog:uK)(w:uL)(x:Str)(t:Tok):(Ci prog w).is (.inr x) (.str x t)=true:=iF x t
inductive V where
 | non | bl (b:Bool) | int (i:Int) | str (x:Str) | byt (b:Array UInt8) | flt (b:UInt64) | ref (a:uH) | ty (n:String)
 deriving DecidableEq
def RelV:V->uG->Prop
 | .non,u=>u=Value.none
 | .bl b,u=>u=Value.bool b
 | .int i,u=>∃t,u=Value.int i t
 | .str x,u=>∃t,u=Value.str x t
 | .byt b,u=>∃t,u=Value.bytes b t
 | .flt b,u=>∃t,u=Value.float b t
 | .ref a,u=>u=Value.ref a
 | .ty n,u=>u=Value.type n
abbrev Vals:List V->List uG->Prop:=Paired RelV
theorem Vals.length{xs:List V}{us:List uG}(r:Vals xs us):xs.length=us.length:=Paired.length r
theorem Vals.get:∀{xs:List V}{us:List uG}{i:Nat}{x:V},Vals xs us->xs[i]?=some x->∃u,us[i]?=some u/\RelV x u
 | _,_,_,_,.nil,e=>by simp at e
 | _,_,0,_,.cons r _,e=>by simp at e;subst e;exact⟨_,rfl,r⟩
 | _,_,i+1,x,.cons _ t,e=>by
   obtain⟨u,h1,h2⟩:=Vals.get (i:=i) (x:=x) t (by simpa using e)
   exact⟨u,by simpa using h1,h2⟩
theorem Vals.set{x:V}{u:uG}(r:RelV x u):∀{xs:List V}{us:List uG}(i:Nat),Vals xs us->Vals (xs.set i x) (us.set i u)
 | _,_,_,.nil=>.nil
 | _,_,0,.cons _ t=>.cons r t
 | _,_,i+1,.cons q t=>.cons q (Vals.set r i t)
theorem Vals.append:∀{xs ys:List V}{us ws:List uG},Vals xs us->Vals ys ws->Vals (xs++ys) (us++ws)
 | _,_,_,_,.nil,s=>s
 | _,_,_,_,.cons r t,s=>.cons r (Vals.append t s)
theorem Vals.take:∀{xs:List V}{us:List uG}(n:Nat),Vals xs us->Vals (xs.take n) (us.take n)
 | _,_,0,_=>.nil
 | _,_,_+1,.nil=>.nil
 | _,_,n+1,.cons r t=>.cons r (Vals.take n t)
theorem Vals.drop:∀{xs:List V}{us:List uG}(n:Nat),Vals xs us->Vals (xs.drop n) (us.drop n)
 | _,_,0,r=>r
 | _,_,_+1,.nil=>.nil
 | _,_,n+1,.cons _ t=>Vals.drop n t
def RelO:Option V->Option uG->Prop
 | some v,some u=>RelV v u
 | none,none=>True
 | _,_=>False
def KV{κ:Type}:List (κ×V)->List (κ×uG)->Prop:=Paired λ(p:κ×V)(q:κ×uG)=>p.1=q.1/\RelV p.2 q.2
def kV:Key->V
 | .inl i=>.int i
 | .inr x=>.str x
inductive HO where
 | lst (xs:List V)
 | tup (xs:List V)
 | dK (kvs:List (Key×V)) | dT (kvs:List (List Key×V))
 | set (S:Int->Bool) (n:Nat)
 | ins (C dx:uH) (fs:List (Str×V))
 | own (x:uH)
 | xd (fs:List (Str×V))
 | met (f x:uH)
 | rng (lo hi:Int)
 | frz (o:Obj) (u:HO)
 | tbl (ps:Array uG)
 | ext (φ:vq->Prop)
abbrev Hp:=uH->Option HO
variable{H:Hp}
def upd(H:Hp)(a:uH)(o:HO):Hp:=λb=>if b=a then some o else H b
theorem upd_same{a:uH}{o:HO}:upd H a o a=some o:=by unfold upd;rw[if_pos rfl]
theorem AI{a b:uH}{o:HO}(h:b≠a):upd H a o b=H b:=by unfold upd;rw[if_neg h]
theorem ne_of{a b:uH}{o u:HO}(h:H a=some o)(h':H b=some u)(d:o≠u):a≠b:=by
 intro e;subst e;rw[h] at h';exact d (χ h')
theorem BF{a b:uH}{o:HO}(h:H a=some o)(h':H b=none):a≠b:=by
 intro e;subst e;rw[h] at h';cases h'
section
variable (P:uK)(w:uL)
def Br(H:Hp)(h:vq)(a:uH):HO->Prop
 | .lst xs=>xs.length<=uU/\∃(its:List uG)(n:Nat),Vals xs its/\h.get? a=some { cls:=.type "list",data:=.seq its.toArray n }
 | .tup xs=>xs.length<=uU/\∃its:List uG,Vals xs its/\IsTup h a its.toArray
 | .dK kvs=>kvs.length<=uU/\(a==sysModules)=false/\∃vs,KV kvs vs/\h.DictOf (Ci P w) a vs
 | .dT kvs=>kvs.length<=uU/\(a==sysModules)=false/\∃xs:List (List Key×uH×uG),
     Paired (λ(p:List Key×V)(q:List Key×uH×uG)=>p.1=q.1/\H q.2.1=some (.tup (p.1.map kV))/\RelV p.2 q.2.2) kvs xs /\
     ∃o es ep,h.get? a=some o/\o.ExactDict/\o.data = .dict es ep/\es.toList=xs.map (entryOfKey (tupleKind (Ci P w)))/\(xs.map (·.1)).Nodup
 | .set S n=>h.SetOf (intKind P w) a S n
 | .ins C dx fs=>H dx=some (.own a)/\fs.length<=1000/\dx≠a/\h.get? a=some (instObj C dx) /\
     ∃mA,h.Ns1 dx mA/\(∀f,RelO (fs.lookup f) (mA f))/\kf mA (fs.map (·.1))
 | .own _=>∃o,h.get? a=some o
 | .xd fs=>∃mA,h.Ns1 a mA/\∀f,RelO (fs.lookup f) (mA f)
 | .rng lo hi=>∃t u v,h.get? a=some { cls:=.type "range",data:=.fields #[.int lo t,.int hi u,.int 1 v] }
 | .frz o u=>h.get? a=some o/\Br H h a u
 | .tbl ps=>h.get? a=some { cls:=.none,data:=.fields ps }
 | .met f x=>h.get? a=some (methodObj (.ref f) (.ref x))
 | .ext φ=>φ h/\(∃o,h.get? a=some o)/\∀h1 h2:vq,φ h1->(∀o,h1.get? a=some o->h2.get? a=some o)->φ h2
def HOk(H:Hp)(h:vq):Prop:=∀a o,H a=some o->Br P w H h a o
end
section
variable {P:uK}{w:uL}{H H':Hp}{h h':vq}{a:uH}{o:HO}
theorem Br.lt(x:Br P w H h a o):a<h.objs.size:=by
 cases o with
 | lst xs=>obtain⟨_,_,_,_,e⟩:=x;exact ad e
 | tup xs=>obtain⟨_,_,_,p⟩:=x;exact p.lt
 | dK kvs=>obtain⟨_,_,_,_,o,_,_,e,_⟩:=x;exact ad e
 | dT kvs=>obtain⟨_,_,_,_,o,_,_,e,_⟩:=x;exact ad e
 | set S n=>obtain⟨o,_,_,_,e,_⟩:=x;exact ad e
 | ins C dx fs=>obtain⟨_,_,_,e,_⟩:=x;exact ad e
 | own y=>obtain⟨_,e⟩:=x;exact ad e
 | xd fs=>obtain⟨_,⟨_,_,_,e,_⟩,_⟩:=x;exact ad e
 | rng lo hi=>obtain⟨_,_,_,e⟩:=x;exact ad e
 | frz ob u=>obtain⟨e,_⟩:=x;exact ad e
 | tbl ps=>exact ad (show h.get? a=some _ from x)
 | met f y=>exact ad (show h.get? a=some _ from x)
 | ext φ=>obtain⟨_,⟨_,e⟩,_⟩:=x;exact ad e
theorem Paired.mapP{α β:Type}{F G:α->β->Prop}:∀{l₁:List α}{l₂:List β},Paired F l₁ l₂->(∀a b,F a b->G a b)->Paired G l₁ l₂
 | _,_,.nil,_=>.nil
 | _,_,.cons r t,f=>.cons (f _ _ r) (Paired.mapP t f)
theorem Br.stay(x:Br P w H h a o)(k:∀b u,(b=a\/H b=some (.own a))->h.get? b=some u->h'.get? b=some u)
   (ho:∀b,H b=some (.own a)->H' b=some (.own a)) (ht:∀b xs,H b=some (.tup xs)->H' b=some (.tup xs)):Br P w H' h' a o:=by
 induction o with
 | lst xs=>obtain⟨z,its,n,r,e⟩:=x;exact⟨z,its,n,r,k _ _ (.inl rfl) e⟩
 | tup xs=>obtain⟨z,its,r,ob,e,c⟩:=x;exact⟨z,its,r,ob,k _ _ (.inl rfl) e,c⟩
 | dK kvs=>obtain⟨z,y,vs,r,ob,es,ep,e,c⟩:=x;exact⟨z,y,vs,r,ob,es,ep,k _ _ (.inl rfl) e,c⟩
 | dT kvs=>
   obtain⟨z,y,xs,r,ob,es,ep,e,c⟩:=x;exact⟨z,y,xs,Paired.mapP r λp q z=>⟨z.1,ht _ _ z.2.1,z.2.2⟩,ob,es,ep,k _ _ (.inl rfl) e,c⟩
 | set S n=>obtain⟨ob,es,ep,t,e,c⟩:=x;exact⟨ob,es,ep,t,k _ _ (.inl rfl) e,c⟩
 | ins C dx fs=>
   obtain⟨d,z,ne,e,mA,⟨od,es,ep,e2,c⟩,r⟩:=x;exact⟨ho _ d,z,ne,k _ _ (.inl rfl) e,mA,⟨od,es,ep,k _ _ (.inr d) e2,c⟩,r⟩
 | own y=>obtain⟨ob,e⟩:=x;exact⟨ob,k _ _ (.inl rfl) e⟩
 | xd fs=>obtain⟨mA,⟨od,es,ep,e,c⟩,r⟩:=x;exact⟨mA,⟨od,es,ep,k _ _ (.inl rfl) e,c⟩,r⟩
 | rng lo hi=>obtain⟨t,u,v,e⟩:=x;exact⟨t,u,v,k _ _ (.inl rfl) e⟩
 | frz ob u ih=>obtain⟨e,q⟩:=x;exact⟨k _ _ (.inl rfl) e,ih q⟩
 | tbl ps=>
   have e:h.get? a=some { cls:=.none,data:=.fields ps }:=x;show h'.get? a=some { cls:=.none,data:=.fields ps };exact k a _ (.inl rfl) e
 | met f y=>
   have e:h.get? a=some (methodObj (.ref f) (.ref y)):=x;show h'.get? a=some (methodObj (.ref f) (.ref y));exact k a _ (.inl rfl) e
 | ext φ=>obtain⟨p,⟨o,e⟩,st⟩:=x;exact⟨st _ _ p λo q=>k _ _ (.inl rfl) q,⟨o,k _ _ (.inl rfl) e⟩,st⟩
theorem HOk.lt(x:HOk P w H h)(e:H a=some o):a<h.objs.size:=(x a o e).lt
theorem HOk.fresh(x:HOk P w H h)(e:h.objs.size<=a):H a=none:=by
 cases q:H a with
 | none=>rfl
 | some u=>exact absurd (ba (x.lt q) e) (dy _)
theorem HOk.kept(x:HOk P w H h)(k:∀b u,h.get? b=some u->h'.get? b=some u):HOk P w H h':=λa o e=>
 (x a o e).stay (λb u _ q=>k b u q) (λ_ q=>q) λ_ _ q=>q
theorem HOk.laid(x:HOk P w H h)(k:∀b u,h.get? b=some u->h'.get? b=some u)(hp:h.objs.size<=a)(new:Br P w (upd H a o) h' a o):HOk P w (upd H a o) h':=λb u e=>by
 have hn:=x.fresh hp;by_cases hb:b=a
 . subst hb;rw[upd_same] at e;cases e;exact new
 . rw[AI hb] at e;exact(x b u e).stay (λc v _ q=>k c v q) (λc q=>by rw[AI (BF q hn)];exact q) λc xs q=>by rw[AI (BF q hn)];exact q
end
def Rd(H:Hp)(a:uH)(u:HO):Prop:=H a=some u\/∃o,H a=some (.frz o u)
theorem Rd.ok{P:uK}{w:uL}{h:vq}{a:uH}{u:HO}(r:Rd H a u)(x:HOk P w H h):Br P w H h a u:=by
 rcases r with r | ⟨o,r⟩
 . exact x a u r
 . obtain⟨_,q⟩:=x a _ r;exact q
def Mut:Option HO->Prop
 | some (.lst _)=>True
 | some (.dK _)=>True
 | some (.dT _)=>True
 | some (.set _ _)=>True
 | some (.ins _ _ _)=>True
 | some (.ext _)=>True
 | _=>False
section
variable {P:uK}{w:uL}{H:Hp}{h h':vq}{x e:uH}{o':HO}
theorem HOk.write(ok:HOk P w H h)(mu:Mut (H x))(he:e=x\/H e=some (.own x))(k:∀b u,b≠e->h.get? b=some u->h'.get? b=some u)(heo:∃u,h'.get? e=some u)
   (new:Br P w (upd H x o') h' x o'):HOk P w (upd H x o') h':=λb u q=>by
 have nown:∀c y,H c=some (.own y)->c≠x:=λc y r z=>by subst z;rw[r] at mu;exact mu
 have ntup:∀c xs,H c=some (.tup xs)->c≠x:=λc xs r z=>by subst z;rw[r] at mu;exact mu
 by_cases hb:b=x
 . subst hb;rw[upd_same] at q;cases q;exact new
 . rw[AI hb] at q
   by_cases hbe:b=e
   . have q':H b=some (.own x):=by
       rcases he with z | z
       . exact absurd (hbe.trans z) hb
       . rw[hbe];exact z
     rw[q] at q';cases q';obtain⟨v,hv⟩:=heo;exact⟨v,by rw[hbe];exact hv⟩
   . refine(ok b u q).stay (λc v hc r=>k c v ?_ r) (λc r=>by rw[AI (nown c b r)];exact r) λc xs r=>by rw[AI (ntup c xs r)];exact r
     rcases hc with rfl | hc
     . exact hbe
     . rintro rfl;rcases he with z | z
       . exact nown c b hc z
       . rw[hc] at z;cases z;exact hb rfl
end
structure Un(fs ex:List uH)(H H':Hp)(h h':vq):Prop where
 keep:∀b o,h.get? b=some o->H b=none->b ∉ fs->b ∉ ex->h'.get? b=some o
 slot:∀b o,h.get? b=some o->H b=none->b∈fs->b ∉ ex->∃sl,h'.get? b=some { o with slots:=sl }
 free:∀b o,h.get? b=some o->H b=none->b ∉ ex->H' b=none
 there:∀b o,h.get? b=some o->b ∉ ex->∃o',h'.get? b=some o'
 tups:∀b xs,H b=some (.tup xs)->H' b=some (.tup xs)
 frzs:∀b o u,H b=some (.frz o u)->H' b=some (.frz o u)
 tbls:∀b ps,H b=some (.tbl ps)->∃more,H' b=some (.tbl (ps++more))
section
variable {fs fs' ex ex':List uH}{H H1 H2:Hp}{h h1 h2 h':vq}{a x e:uH}{o:HO}
theorem Un.any(u:Un fs ex H H1 h h1){b:uH}{ob:Obj}(q:h.get? b=some ob)(n:H b=none)(hx:b ∉ ex):∃sl,h1.get? b=some { ob with slots:=sl }:=by
 by_cases hb:b∈fs
 . exact u.slot b ob q n hb hx
 . exact⟨ob.slots,u.keep b ob q n hb hx⟩
theorem Un.kept(k:∀b u,h.get? b=some u->h'.get? b=some u):Un fs ex H H h h':=
 ⟨λb ob q _ _ _=>k b ob q,λb ob q _ _ _=>⟨ob.slots,k b ob q⟩,λ_ _ _ n _=>n,λb ob q _=>⟨ob,k b ob q⟩,λ_ _ q=>q,λ_ _ _ q=>q,λ_ ps q=>⟨#[],by rw[q];simp⟩⟩
theorem Un.refl:Un fs ex H H h h:=Un.kept λ_ _ q=>q
theorem Un.laid(k:∀b u,h.get? b=some u->h'.get? b=some u)(hp:h.objs.size<=a)(hn:H a=none):Un fs ex H (upd H a o) h h' where
 keep:=λb u q _ _ _=>k b u q
 slot:=λb u q _ _ _=>⟨u.slots,k b u q⟩
 free:=λb u q n _=>by rw[AI (bu (ba (ad q) hp))];exact n
 there:=λb u q _=>⟨u,k b u q⟩
 tups:=λb xs q=>by rw[AI (BF q hn)];exact q
 frzs:=λb u xs q=>by rw[AI (BF q hn)];exact q
 tbls:=λb ps q=>⟨#[],by rw[AI (BF q hn),q];simp⟩
theorem Un.write(mu:Mut (H x))(he:e=x\/H e=some (.own x))(k:∀b u,b≠e->h.get? b=some u->h'.get? b=some u)(heo:∃u,h'.get? e=some u):Un fs ex H (upd H x o) h h':=by
 have hx:∀b,H b=none->b≠x:=λb n z=>by subst z;rw[n] at mu;exact mu
 have hb:∀b,H b=none->b≠e:=λb n z=>by
   subst z;rcases he with r | r
   . exact hx b n r
   . rw[n] at r;cases r
 have hm:∀b u,H b=some u->¬Mut (some u)->b≠x:=λb u q nm z=>by subst z;rw[q] at mu;exact nm mu
 refine⟨λb u q n _ _=>k b u (hb b n) q,λb u q n _ _=>⟨u.slots,k b u (hb b n) q⟩,λb u q n _=>by rw[AI (hx b n)];exact n,λb u q _=>?_,
   λb xs q=>by rw[AI (hm b _ q λz=>z)];exact q,λb u xs q=>by rw[AI (hm b _ q λz=>z)];exact q,λb ps q=>⟨#[],by rw[AI (hm b _ q λz=>z),q];simp⟩⟩
 by_cases hbe:b=e
 . subst hbe;exact heo
 . exact⟨u,k b u hbe q⟩
end
def trk(h:vq)(H:Hp):List uH:=(ia h.objs.size).filter λa=>(H a).isSome
def xC(h:vq)(H:Hp):vq:=PySem.W.hideAll h (trk h H)
theorem iJ(h:vq)(H:Hp):(xC h H).objs.size=h.objs.size:=PySem.W.hideAll_size _ _
theorem iK{h:vq}{b:uH}{o:Obj}(e:h.get? b=some o)(n:H b=none):(xC h H).get? b=some o:=
 PySem.W.hideAll_get _ e λhm=>by
   have q:(H b).isSome=true:=(cf.mp hm).2
   rw[n] at q;simp at q
theorem iL{h:vq}{b:uH}{o:Obj}(e:(xC h H).get? b=some o):h.get? b=some o/\H b=none:=by
 have e':h.get? b=some o:=PySem.W.of_hideAll (trk h H) e;refine⟨e',?_⟩;cases q:H b with
 | none=>rfl
 | some x=>
   have hm:b∈trk h H:=cf.mpr ⟨kn.mpr (ad e'),by simp [q]⟩;have z:(xC h H).get? b=none:=PySem.W.hideAll_none (trk h H) hm;rw[z] at e;cases e
def iM(g h:vq)(L:uH):List (uH×Obj):=(ia h.objs.size).filterMap λa=>if a=L\/(g.get? a).isSome=true then none else (h.get? a).map λo=>(a,o)
def xm(g h:vq)(L d:uH):List (uH×Obj):=(iM g h L).filter λp=>decide (p.1≠d)
structure Mod(K:δ)(mg:Str->Option uG)(base:vq):Prop where
 kin:K.In base
 glob:base.Ns ve mg
 blt:∃mb,base.Ns builtinsNs mb/\∀x:Str,x≠"__name__"->mb x=bootBuiltins x
 nolimit:base.NoLimit
structure Cx where
 prog:uK
 w:uL
 K:δ
 mg:Str->Option uG
 base:vq
 A:uM
 N:List Str
 s₀:uI
 H₀:Hp
 env:vt
 outer:List vt
 stack:List vt
 ex:List uH
 fn:Str->Bool
 calm:Bool
 pn:List (uH×Obj)
 xe:uG->uI->Prop
def frs(l:List vt):List uH:=l.filterMap (·.frame)
abbrev Cx.fs(X:Cx):List uH:=frs X.outer
def Vis(sc:uP)(x:Str):Prop:=sc.names.lookup x=some .local\/sc.names.lookup x=some .cell\/sc.names.lookup x=some .free
def Loc(sc:uP)(x:Str):Prop:=sc.names.lookup x=some .local\/sc.names.lookup x=some .cell
def Look(env:vt)(h:vq)(m:Str->Option uG)(x:Str)(u:uG):Prop:=
 (env.kindOf x=some .local/\m x=some u)\/((env.kindOf x=some .cell\/env.kindOf x=some .free)/\∃c,env.cells.lookup x=some c/\h.IsCell c (some u))
structure Cx.Ok(X:Cx):Prop where
 mod:Mod X.K X.mg X.base
 kind:X.env.scope.kind = .function
 glob:X.env.globals=ve
 blt:X.env.builtins=builtinsNs
 above:X.s₀.heap.objs.size<=X.env.locals
 inj:∀x y c,X.env.cells.lookup x=some c->X.env.cells.lookup y=some c->x=y
 has:∀x,(X.env.kindOf x=some .cell\/X.env.kindOf x=some .free)->∃c,X.env.cells.lookup x=some c
 cab:∀x c,X.fn x=true->X.env.cells.lookup x=some c->X.s₀.heap.objs.size<=c
 hd:X.calm=true->X.A.handled=none
 frames:X.A.frames=some X.stack
 stk:X.stack=X.outer\/(X.stack=X.env::X.outer/\X.env.frame=some X.env.locals)
 exf:∀b∈X.ex,b≠X.env.locals/\∀x c,X.env.cells.lookup x=some c->c≠b
 bs:∀b o,X.base.get? b=some o->X.s₀.heap.get? b=some o/\X.H₀ b=none
 bsz:X.base.objs.size<=X.s₀.heap.objs.size
 noex:∀b o,X.base.get? b=some o->b ∉ X.ex
 exfs:∀b∈X.ex,b ∉ X.fs
 funs:X.s₀.heap.FunFrames X.base X.outer
 frf:∀b∈X.fs,X.H₀ b=none
structure Inv(X:Cx)(pins:List (uH×Obj))(σ:List (Option V))(H:Hp)(s:uI):Prop where
 ok:X.Ok
 os:s.os=X.s₀.os
 bare:AllBare s.gens
 base:Un X.fs X.ex X.H₀ H X.s₀.heap s.heap
 loc:∃m,s.heap.Ns X.env.locals m/\∀(i:Nat)(x:Str)(v:V),X.N[i]?=some x->σ[i]?=some (some v)->Vis X.env.scope x->∃u,RelV v u/\Look X.env s.heap m x u
 cell:∀x c,X.env.cells.lookup x=some c->∃v,s.heap.IsCell c v
 free:H X.env.locals=none
 freeC:∀x c,X.env.cells.lookup x=some c->H c=none
 pin:∀p∈X.pn++pins,s.heap.get? p.1=some p.2/\H p.1=none/\p.1≠X.env.locals/\p.1 ∉ X.fs/\∀v,p.2.data≠.cell v
 hok:HOk X.prog X.w H s.heap
 len:σ.length=X.N.length
section
variable {X:Cx}{pins:List (uH×Obj)}{σ:List (Option V)}{H H':Hp}{s:uI}{h':vq}
theorem Cx.Ok.nofr(ok:X.Ok){b:uH}{o:Obj}(e:X.base.get? b=some o):b ∉ X.fs:=λhb=>by
 have:=(ok.funs.mem hb).1;rw[e] at this;cases this
theorem Inv.bs(I:Inv X pins σ H s):∀b o,X.base.get? b=some o->s.heap.get? b=some o/\H b=none:=λb o e=>
 ⟨I.base.keep b o (I.ok.bs b o e).1 (I.ok.bs b o e).2 (I.ok.nofr e) (I.ok.noex b o e),I.base.free b o (I.ok.bs b o e).1 (I.ok.bs b o e).2 (I.ok.noex b o e)⟩
theorem Inv.bk(I:Inv X pins σ H s):∀b o,X.base.get? b=some o->s.heap.get? b=some o:=λb o e=>(I.bs b o e).1
theorem Inv.mod(I:Inv X pins σ H s):Mod X.K X.mg X.base:=I.ok.mod
theorem Inv.kIn(I:Inv X pins σ H s):X.K.In s.heap:=I.ok.mod.kin.keeps I.bk
theorem Inv.lt(I:Inv X pins σ H s):X.env.locals<s.heap.objs.size:=let ⟨_,hn,_⟩:=I.loc;hn.lt
theorem Inv.sz(I:Inv X pins σ H s):X.s₀.heap.objs.size<=s.heap.objs.size:=de I.ok.above (fh I.lt)
theorem Inv.nofs(I:Inv X pins σ H s){a:uH}(h:s.heap.objs.size<=a):a ∉ X.fs:=λhb=>by
 obtain⟨_,o,ho,_⟩:=I.ok.funs.mem hb;exact absurd (ba (ad ho) (de I.sz h)) (dy _)
theorem Inv.cne(I:Inv X pins σ H s):∀x c,X.env.cells.lookup x=some c->c≠X.env.locals:=λx c e z=>by
 obtain⟨v,o,ho,hd⟩:=I.cell x c e;obtain⟨m,⟨o',es,ep,ho',hd',_⟩,_⟩:=I.loc;rw[z,ho'] at ho;cases ho;rw[hd'] at hd;cases hd
theorem Inv.funs(I:Inv X pins σ H s):s.heap.FunFrames X.base X.outer:=by
 have all:∀(l:List vt),(∀b∈frs l,b∈X.fs)->X.s₀.heap.FunFrames X.base l->s.heap.FunFrames X.base l:=by
   intro l
   induction l with
   | nil=>intro _ _;trivial
   | cons env r ih=>
     intro hs hl;obtain⟨hk,⟨L,o,hf,hn,ho,hd⟩,hr⟩:=hl;have hL:L∈X.fs:=hs L (by unfold frs;rw[ka,hf];exact ω);obtain⟨sl,e⟩:=I.base.slot L o ho (I.ok.frf L hL) hL λz=>I.ok.exfs L z hL;exact⟨hk,⟨L,_,hf,hn,e,hd⟩,ih (λb hb=>hs b (by unfold frs;rw[ka,hf];exact ρ _ hb)) hr⟩
 exact all X.outer (λ_ hb=>hb) I.ok.funs
theorem Inv.stack(I:Inv X pins σ H s):s.heap.FunFrames X.base X.stack:=by
 rcases I.ok.stk with e | ⟨e,hf⟩
 . rw[e];exact I.funs
 . rw[e];obtain⟨m,hn,_⟩:=I.loc;refine .cons (by rw[I.ok.kind];decide) hf hn ?_ I.funs;exact dw (de I.ok.bsz I.ok.above)
theorem Inv.stkSub(I:Inv X pins σ H s):∀b∈frs X.stack,b∈X.env.locals::X.fs:=λb hb=>by
 rcases I.ok.stk with e | ⟨e,hf⟩
 . rw[e] at hb;exact ρ _ hb
 . rw[e] at hb;unfold frs at hb;rw[ka,hf] at hb;exact hb
theorem Inv.stkFree(I:Inv X pins σ H s):∀b∈frs X.stack,H b=none:=λb hb=>by
 rcases Φ.mp (I.stkSub b hb) with e | hb
 . rw[e];exact I.free
 . obtain⟨_,o,ho,_⟩:=I.ok.funs.mem hb;exact I.base.free b o ho (I.ok.frf b hb) λz=>I.ok.exfs b z hb
theorem Inv.step{g':Array uQ}{t':Nat}{d':vg}{ch:List uH}(I:Inv X pins σ H s)
   (hch:∀b∈ch,(b∈X.ex\/X.s₀.heap.objs.size<=b)/\b≠X.env.locals/\(∀x c,X.env.cells.lookup x=some c->c≠b)/\∀p∈X.pn++pins,p.1≠b)
   (keep:∀b o,b≠X.env.locals->b ∉ X.fs->b ∉ ch->s.heap.get? b=some o->H b=none->h'.get? b=some o)
   (slot:∀b o,b≠X.env.locals->b∈X.fs->b ∉ ch->s.heap.get? b=some o->H b=none->∃sl,h'.get? b=some { o with slots:=sl }) (free:∀b o,b ∉ ch->s.heap.get? b=some o->H b=none->H' b=none)
   (there:∀b o,b ∉ ch->s.heap.get? b=some o->∃o',h'.get? b=some o')
   (tups:∀b xs,H b=some (.tup xs)->H' b=some (.tup xs)) (frzs:∀b o u,H b=some (.frz o u)->H' b=some (.frz o u)) (tbls:∀b ps,H b=some (.tbl ps)->∃more,H' b=some (.tbl (ps++more)))
   (ns:∀m,s.heap.Ns X.env.locals m->h'.Ns X.env.locals m) (hok:HOk X.prog X.w H' h') (hg:AllBare g'):
   Inv X pins σ H' { s with heap:=h',gens:=g',drawn:=d',toks:=t' }:=by
 have neL:∀b o,X.s₀.heap.get? b=some o->b≠X.env.locals:=λb o e=>bu (ba (ad e) I.ok.above);have neC:∀b o,X.s₀.heap.get? b=some o->b ∉ X.ex->b ∉ ch:=λb o e hx hb=>by
   rcases(hch b hb).1 with z | z
   . exact hx z
   . exact absurd (ba (ad e) z) (dy _)
 have cellK:∀x c,X.env.cells.lookup x=some c->∀v,s.heap.IsCell c v->h'.IsCell c v:=λx c e v ⟨o,ho,hd⟩=>by
   have nch:c ∉ ch:=λz=>(hch c z).2.2.1 x c e rfl;by_cases hc:c∈X.fs
   . obtain⟨sl,q⟩:=slot c o (I.cne x c e) hc nch ho (I.freeC x c e);exact⟨_,q,hd⟩
   . exact⟨o,keep c o (I.cne x c e) hc nch ho (I.freeC x c e),hd⟩
 refine⟨I.ok,I.os,hg,⟨λb o e n hb hx=>?_,λb o e n hb hx=>?_,λb o e n hx=>?_,λb o e hx=>?_,λb xs e=>tups b xs (I.base.tups b xs e),λb o xs e=>frzs b o xs (I.base.frzs b o xs e),λb ps e=>?_⟩,?_,λx c e=>?_,?_,λx c e=>?_,λp hp=>?_,hok,I.len⟩
 . exact keep b o (neL b o e) hb (neC b o e hx) (I.base.keep b o e n hb hx) (I.base.free b o e n hx)
 . obtain⟨sl,e1⟩:=I.base.slot b o e n hb hx;obtain⟨sl',e2⟩:=slot b _ (neL b o e) hb (neC b o e hx) e1 (I.base.free b o e n hx);exact⟨sl',e2⟩
 . obtain⟨o',e1⟩:=I.base.there b o e hx;exact free b o' (neC b o e hx) e1 (I.base.free b o e n hx)
 . obtain⟨o',e1⟩:=I.base.there b o e hx;exact there b o' (neC b o e hx) e1
 . obtain⟨m1,e1⟩:=I.base.tbls b ps e;obtain⟨m2,e2⟩:=tbls b _ e1;exact⟨m1++m2,by rw[e2,Array.append_assoc]⟩
 . obtain⟨m,hn,hl⟩:=I.loc;refine⟨m,ns m hn,λi x v e1 e2 e3=>?_⟩;obtain⟨u,r,l⟩:=hl i x v e1 e2 e3;refine⟨u,r,?_⟩;rcases l with l | ⟨k,c,e,z⟩
   . exact .inl l
   . exact .inr ⟨k,c,e,cellK x c e _ z⟩
 . obtain⟨v,z⟩:=I.cell x c e;exact⟨v,cellK x c e v z⟩
 . obtain⟨m,⟨o,_,_,ho,_⟩,_⟩:=I.loc;exact free _ o (λz=>(hch _ z).2.1 rfl) ho I.free
 . obtain⟨v,o,ho,hd⟩:=I.cell x c e;exact free c o (λz=>(hch c z).2.2.1 x c e rfl) ho (I.freeC x c e)
 . obtain⟨e,n,ne,nf,d⟩:=I.pin p hp;have nch:p.1 ∉ ch:=λz=>(hch p.1 z).2.2.2 p hp rfl;exact⟨keep p.1 p.2 ne nf nch e n,free p.1 p.2 nch e n,ne,nf,d⟩
theorem Inv.un{t':Nat}(I:Inv X pins σ H s)(u:Un X.fs [] H H' s.heap h')(hok:HOk X.prog X.w H' h'):Inv X pins σ H' { s with heap:=h',toks:=t' }:=by
 obtain⟨m,⟨o,es,ep,ho,r⟩,_⟩:=id I.loc;obtain⟨sl,hL⟩:=u.any ho I.free (by simp);exact I.step (g':=s.gens) (d':=s.drawn) (ch:=[]) (λ_ z=>nomatch z) (λb o _ hb _ e n=>u.keep b o e n hb (by simp)) (λb o _ hb _ e n=>u.slot b o e n hb (by simp)) (λb o _ e n=>u.free b o e n (by simp)) (λb o _ e=>u.there b o e (by simp)) u.tups u.frzs u.tbls (λm' hm=>by
   obtain⟨o',es',ep',ho',r'⟩:=hm;rw[ho] at ho';cases ho';exact⟨_,es',ep',hL,r'⟩) hok I.bare
theorem Inv.call{g':Array uQ}{t':Nat}{d':vg}{ch:List uH}(I:Inv X pins σ H s)(u:Un (frs X.stack) ch H H' s.heap h')(hok:HOk X.prog X.w H' h')(hg:AllBare g')
   (hch:∀b∈ch,(b∈X.ex\/X.s₀.heap.objs.size<=b)/\b≠X.env.locals/\(∀x c,X.env.cells.lookup x=some c->c≠b)/\∀p∈X.pn++pins,p.1≠b):
   Inv X pins σ H' { s with heap:=h',gens:=g',drawn:=d',toks:=t' }:=by
 obtain⟨m,⟨o,es,ep,ho,r⟩,_⟩:=id I.loc;obtain⟨sl,hL⟩:=u.any ho I.free λz=>(hch _ z).2.1 rfl;exact I.step (ch:=ch) hch (λb o hL hb hc e n=>u.keep b o e n (λz=>(Φ.mp (I.stkSub b z)).elim hL hb) hc) (λb o _ _ hc e n=>u.any e n hc) (λb o hc e n=>u.free b o e n hc) (λb o hc e=>u.there b o e hc) u.tups u.frzs u.tbls (λm' hm=>by
   obtain⟨o',es',ep',ho',r'⟩:=hm;rw[ho] at ho';cases ho';exact⟨_,es',ep',hL,r'⟩) hok hg
theorem Inv.turned{t':Nat}{it:uH}(I:Inv X pins σ H s)(k:∀b o,b≠it->s.heap.get? b=some o->h'.get? b=some o)(hn:H it=none)(hL:it≠X.env.locals)
   (h1:it∈X.ex\/X.s₀.heap.objs.size<=it) (h2:∀x c,X.env.cells.lookup x=some c->c≠it) (h3:∀p∈X.pn++pins,p.1≠it):Inv X pins σ H { s with heap:=h',toks:=t' }:=by
 have nit:∀b u,H b=some u->b≠it:=λb u e z=>by rw[z,hn] at e;cases e
 refine I.step (g':=s.gens) (d':=s.drawn) (ch:=[it]) (λb hb=>?_) (λb o _ _ hc e _=>k b o (λz=>hc (by simp [z])) e) (λb o _ _ hc e _=>⟨o.slots,k b o (λz=>hc (by simp [z])) e⟩) (λ_ _ _ _ n=>n)
   (λb o hc e=>⟨o,k b o (λz=>hc (by simp [z])) e⟩) (λ_ _ e=>e) (λ_ _ _ e=>e) (λb ps e=>⟨#[],by rw[e];simp⟩) (λm hm=>?_) (λb u e=>?_) I.bare
 . have e:b=it:=by simpa using hb
   subst e;exact⟨h1,hL,h2,h3⟩
 . obtain⟨o,es,ep,ho,r⟩:=hm;exact⟨o,es,ep,k _ o (dn hL) ho,r⟩
 . refine(I.hok b u e).stay (λc v hc q=>k c v ?_ q) (λ_ q=>q) λ_ _ q=>q;rcases hc with z | z
   . rw[z];exact nit b u e
   . exact nit c _ z
theorem Inv.tok(I:Inv X pins σ H s)(t:Nat):Inv X pins σ H { s with toks:=t }:=I.un (h':=s.heap) (t':=t) Un.refl I.hok
theorem Inv.kept{t':Nat}(I:Inv X pins σ H s)(k:∀b u,s.heap.get? b=some u->h'.get? b=some u):Inv X pins σ H { s with heap:=h',toks:=t' }:=I.un (Un.kept k) (I.hok.kept k)
theorem Inv.laid{a:uH}{o:HO}{t':Nat}(I:Inv X pins σ H s)(k:∀b u,s.heap.get? b=some u->h'.get? b=some u)(hp:s.heap.objs.size<=a)(new:Br X.prog X.w (upd H a o) h' a o):
   Inv X pins σ (upd H a o) { s with heap:=h',toks:=t' }:=I.un (Un.laid k hp (I.hok.fresh hp)) (I.hok.laid k hp new)
theorem Inv.write{x e:uH}{o:HO}{t':Nat}(I:Inv X pins σ H s)(mu:Mut (H x))(he:e=x\/H e=some (.own x))(k:∀b u,b≠e->s.heap.get? b=some u->h'.get? b=some u)(heo:∃u,h'.get? e=some u)
   (new:Br X.prog X.w (upd H x o) h' x o):Inv X pins σ (upd H x o) { s with heap:=h',toks:=t' }:=I.un (Un.write mu he k heo) (I.hok.write mu he k heo new)
theorem Inv.pins_of{pins':List (uH×Obj)}(I:Inv X pins σ H s)(h:∀p∈pins',s.heap.get? p.1=some p.2/\H p.1=none/\p.1≠X.env.locals/\p.1 ∉ X.fs/\∀v,p.2.data≠.cell v):Inv X pins' σ H s:=
 ⟨I.ok,I.os,I.bare,I.base,I.loc,I.cell,I.free,I.freeC,λp hp=>(θ.mp hp).elim (λz=>I.pin p (μ _ z)) (h p),I.hok,I.len⟩
theorem ZF{N:List Str}(hN:N.Nodup){i j:Nat}{x:Str}(a:N[i]?=some x)(b:N[j]?=some x):i=j:=by
 obtain⟨h1,e1⟩:=γ.mp a;obtain⟨h2,e2⟩:=γ.mp b;exact(List.getElem_inj hN).mp (e1.trans e2.symm)
theorem ZG{M:vv}{A:uM}{i:Nat}{x:Str}{v:V}{u:uG}{Q:Unit->uI->Prop}(I:Inv X pins σ H s)(hN:X.N.Nodup)(hi:X.N[i]?=some x)(hx:Loc X.env.scope x)(r:RelV v u)
   (h:∀s',Inv X pins (σ.set i (some v)) H s'->(∃a,lx a s.heap s'.heap/\(a=X.env.locals\/X.env.cells.lookup x=some a))->Q () s') (hf:X.fn x=true\/X.env.scope.names.lookup x=some .local:=by first | exact .inl rfl | exact .inr rfl | assumption):uY M A (storeName X.env x u) Q E s:=by
 obtain⟨m,hn,hl⟩:=id I.loc;have hcls:(X.env.scope.kind==.class||(X.env.scope.kind==.module&&X.env.locals != X.env.globals))=false:=by rw[I.ok.kind];rfl
 have hiσ:i<σ.length:=by rw[I.len];exact(γ.mp hi).1
 have cne:=I.cne;have tracked:∀{a:uH}{h':vq},(∃o,s.heap.get? a=some o/\H a=none)->lx a s.heap h'->HOk X.prog X.w H h':=λ{a h'} ha hs b ob e=>by
   obtain⟨_,_,hfree⟩:=ha;refine(I.hok b ob e).stay (λc w' hc q=>(hs.2 c ?_).trans q) (λ_ q=>q) λ_ _ q=>q;rintro rfl;rcases hc with rfl | hc
   . rw[hfree] at e;cases e
   . rw[hfree] at hc;cases hc
 rcases hx with hk | hk
 . refine wpAny_storeName_local hk hn (λh' hn' hs=>?_) hcls;obtain⟨oL,_,_,hoL,_⟩:=id hn;refine h _ ⟨I.ok,I.os,I.bare,⟨λb o e n hb hx=>?_,λb o e n hb hx=>?_,I.base.free,λb o e hx=>?_,I.base.tups,I.base.frzs,I.base.tbls⟩,⟨_,hn',λj y v' e1 e2 e3=>?_⟩,λy c e=>?_,I.free,I.freeC,λp hp=>?_,tracked ⟨oL,hoL,I.free⟩ hs,by simpa using I.len⟩ ⟨_,hs,.inl rfl⟩
   . exact(hs.2 b (bu (ba (ad e) I.ok.above))).trans (I.base.keep b o e n hb hx)
   . obtain⟨sl,e1⟩:=I.base.slot b o e n hb hx;exact⟨sl,(hs.2 b (bu (ba (ad e) I.ok.above))).trans e1⟩
   . obtain⟨o',e1⟩:=I.base.there b o e hx;exact⟨o',(hs.2 b (bu (ba (ad e) I.ok.above))).trans e1⟩
   . by_cases hj:j=i
     . subst hj;rw[hi] at e1;cases e1;rw[aj hiσ] at e2;cases e2;exact⟨u,r,.inl ⟨hk,by simp⟩⟩
     . rw[aa (dn hj)] at e2;obtain⟨u',r',q⟩:=hl j y v' e1 e2 e3;refine⟨u',r',?_⟩;rcases q with ⟨k,e⟩ | ⟨k,c,e,z⟩
       . refine .inl ⟨k,?_⟩;have:y≠x:=λe=>hj (ZF hN e1 (e▸hi));simp [this,e]
       . exact .inr ⟨k,c,e,z.sameBut hs (cne y c e)⟩
   . obtain⟨w',z⟩:=I.cell y c e;exact⟨w',z.sameBut hs (cne y c e)⟩
   . obtain⟨e,n,ne,nf,d⟩:=I.pin p hp;exact⟨(hs.2 p.1 ne).trans e,n,ne,nf,d⟩
 . have hfn:X.fn x=true:=by
     rcases hf with z | z
     . exact z
     . rw[z] at hk;cases hk
   obtain⟨c,hc⟩:=I.ok.has x (.inl hk);obtain⟨w',z⟩:=I.cell x c hc;refine wpAny_storeName_cell I.ok.kind hk hc z (λh' hc' hs=>?_);obtain⟨oc,hoc,hocd⟩:=id z;refine h { s with heap:=h' } ⟨I.ok,I.os,I.bare,⟨λb o e n hb hx=>?_,λb o e n hb hx=>?_,I.base.free,λb o e hx=>?_,I.base.tups,I.base.frzs,I.base.tbls⟩,⟨m,hn.sameBut hs (dn (cne x c hc)),λj y v' e1 e2 e3=>?_⟩,λy c' e=>?_,I.free,I.freeC,λp hp=>?_,tracked ⟨oc,hoc,I.freeC x c hc⟩ hs,by simpa using I.len⟩ ⟨c,hs,.inr hc⟩
   . exact(hs.2 b (bu (ba (ad e) (I.ok.cab x c hfn hc)))).trans (I.base.keep b o e n hb hx)
   . obtain⟨sl,e1⟩:=I.base.slot b o e n hb hx;exact⟨sl,(hs.2 b (bu (ba (ad e) (I.ok.cab x c hfn hc)))).trans e1⟩
   . obtain⟨o',e1⟩:=I.base.there b o e hx;exact⟨o',(hs.2 b (bu (ba (ad e) (I.ok.cab x c hfn hc)))).trans e1⟩
   . by_cases hj:j=i
     . subst hj;rw[hi] at e1;cases e1;rw[aj hiσ] at e2;cases e2;exact⟨u,r,.inr ⟨.inl hk,c,hc,hc'⟩⟩
     . rw[aa (dn hj)] at e2;obtain⟨u',r',q⟩:=hl j y v' e1 e2 e3;refine⟨u',r',?_⟩;rcases q with q | ⟨k,c',e,z'⟩
       . exact .inl q
       . refine .inr ⟨k,c',e,z'.sameBut hs ?_⟩;rintro rfl;exact hj (ZF hN e1 (I.ok.inj _ _ _ e hc▸hi))
   . by_cases hcc:c'=c
     . subst hcc;exact⟨_,hc'⟩
     . obtain⟨w2,z2⟩:=I.cell y c' e;exact⟨w2,z2.sameBut hs hcc⟩
   . obtain⟨e,n,ne,nf,d⟩:=I.pin p hp;refine⟨(hs.2 p.1 ?_).trans e,n,ne,nf,d⟩;intro q;rw[q,hoc] at e;have q':oc=p.2:=χ e;exact d w' (by rw[<-q'];exact hocd)
theorem Sm{M:vv}{A:uM}{i:Nat}{x:Str}{v:V}{u:uG}{Q:Unit->uI->Prop}(I:Inv X pins σ H s)(hN:X.N.Nodup)(hi:X.N[i]?=some x)(hx:Loc X.env.scope x)(r:RelV v u)
   (h:∀s',Inv X pins (σ.set i (some v)) H s'->Q () s') (hf:X.fn x=true\/X.env.scope.names.lookup x=some .local:=by first | exact .inl rfl | exact .inr rfl | assumption):uY M A (storeName X.env x u) Q E s:=
 ZG I hN hi hx r (λs' I' _=>h s' I') hf
theorem Inv.call'{s':uI}{ch:List uH}(I:Inv X pins σ H s)(ho:s'.os=s.os)(u:Un (frs X.stack) ch H H' s.heap s'.heap)(hok:HOk X.prog X.w H' s'.heap)(hg:AllBare s'.gens)
   (hch:∀b∈ch,(b∈X.ex\/X.s₀.heap.objs.size<=b)/\b≠X.env.locals/\(∀x c,X.env.cells.lookup x=some c->c≠b)/\∀p∈X.pn++pins,p.1≠b):Inv X pins σ H' s':=by
 obtain⟨h',g',d',t',o'⟩:=s';have e:o'=s.os:=ho;subst e;exact I.call (g':=g') (t':=t') (d':=d') u hok hg hch
end
abbrev XK:=uG->Option uH->Hp->Prop
abbrev St:=List (Option V)
abbrev VK:=V->Hp->Prop
abbrev TE:=St->Hp->VK->Prop
abbrev TT:=St->Hp->(Bool->Hp->Prop)->Prop
abbrev TA:=St->Hp->(List V->Hp->Prop)->Prop
structure Ends where
 nx:St->Hp->Prop
 rt:VK
 bk:St->Hp->Prop:=λ_ _=>False
 ct:St->Hp->Prop:=λ_ _=>False
abbrev TS:=Ends->St->Hp->Prop
def EP(X:Cx)(pins:List (uH×Obj))(σ:St)(Q:VK)(u:uG)(s':uI):Prop:=∃v H',Inv X pins σ H' s'/\RelV v u/\Q v H'
def TP(X:Cx)(pins:List (uH×Obj))(σ:St)(Q:Bool->Hp->Prop)(b:Bool)(s':uI):Prop:=∃H',Inv X pins σ H' s'/\Q b H'
def AP(X:Cx)(pins:List (uH×Obj))(σ:St)(Q:List V->Hp->Prop)(us:List uG)(s':uI):Prop:=∃vs H',Inv X pins σ H' s'/\Vals vs us/\Q vs H'
def SP(X:Cx)(pins:List (uH×Obj))(D:Ends)(f:Flow)(s':uI):Prop:=
 match f with
 | .next=>∃σ' H',Inv X pins σ' H' s'/\D.nx σ' H'
 | .brk=>∃σ' H',Inv X pins σ' H' s'/\D.bk σ' H'
 | .cont=>∃σ' H',Inv X pins σ' H' s'/\D.ct σ' H'
 | .ret u=>∃v σ' H',Inv X pins σ' H' s'/\RelV v u/\D.rt v H'
def PE(X:Cx)(e:uN)(t:TE):Prop:=
 ∀(pins:List (uH×Obj)) (s:uI) (σ:St) (H:Hp) (Q:VK),Inv X pins σ H s->t σ H Q->uY (vi X.prog X.w) X.A (vh e X.env) (EP X pins σ Q) X.xe s
def PT(X:Cx)(e:uN)(t:TT):Prop:=
 ∀(pins:List (uH×Obj)) (s:uI) (σ:St) (H:Hp) (Q:Bool->Hp->Prop),Inv X pins σ H s->t σ H Q->uY (vi X.prog X.w) X.A (isTrue e X.env (vh e X.env)) (TP X pins σ Q) X.xe s
def PW(X:Cx)(e:uN)(t:TT):Prop:=
 ∀(whole:vo uG) (pins:List (uH×Obj)) (s:uI) (σ:St) (H:Hp) (Q:Bool->Hp->Prop),Inv X pins σ H s->t σ H Q->uY (vi X.prog X.w) X.A (isTrue e X.env whole) (TP X pins σ Q) X.xe s
theorem PW.pt{X:Cx}{e:uN}{t:TT}(h:PW X e t):PT X e t:=h _
def PA(X:Cx)(es:List uN)(t:TA):Prop:=
 ∀(pos:Pos) (pins:List (uH×Obj)) (s:uI) (σ:St) (H:Hp) (Q:List V->Hp->Prop),Inv X pins σ H s->t σ H Q->uY (vi X.prog X.w) X.A (spliced (uZ pos (uR es X.env))) (AP X pins σ Q) X.xe s
def PS(X:Cx)(st:uO)(t:TS):Prop:=
 ∀(pins:List (uH×Obj)) (s:uI) (σ:St) (H:Hp) (D:Ends),Inv X pins σ H s->t D σ H->uY (vi X.prog X.w) X.A (exec st X.env) (SP X pins D) X.xe s
def PSs(X:Cx)(st:List uO)(t:TS):Prop:=
 ∀(pins:List (uH×Obj)) (s:uI) (σ:St) (H:Hp) (D:Ends),Inv X pins σ H s->t D σ H->uY (vi X.prog X.w) X.A (execs st X.env) (SP X pins D) X.xe s
theorem thn{α:Type}{t:vo α}{Q Q':α->uI->Prop}{M:vv}{A:uM}{s:uI}(h:uY M A t Q E s)(hQ:∀a s,Q a s->Q' a s):uY M A t Q' E s:=uX h hQ λ_ _ x=>x
section
variable {X:Cx}
theorem bin{a b:uN}{ta tb:TE}(ha:PE X a ta)(hb:PE X b tb){s:uI}{σ:St}{R:V->V->Hp->Prop}(I:Inv X pins σ H s)(h:ta σ H λx H1=>tb σ H1 λy H2=>R x y H2)
   {α:Type} {Q:α->uI->Prop} {f:uG->uG->vo α}
   (hf:∀v u s2 x y H2,Inv X pins σ H2 s2->RelV x v->RelV y u->R x y H2->uY (vi X.prog X.w) X.A (f v u) Q X.xe s2):
   uY (vi X.prog X.w) X.A (vh a X.env) (λv s₁=>uY (vi X.prog X.w) X.A (vh b X.env) (λu s₂=>uY (vi X.prog X.w) X.A (f v u) Q X.xe s₂) X.xe s₁) X.xe s:=by
 refine thn (ha pins s σ H _ I h) λv s1 hZ=>?_;obtain⟨x,H1,I1,r1,q1⟩:=hZ;refine thn (hb pins s1 σ H1 _ I1 q1) λu s2 hZ=>?_;obtain⟨y,H2,I2,r2,q2⟩:=hZ;exact hf v u s2 x y H2 I2 r1 r2 q2
def tVar(i:Nat):TE:=λσ H Q=>∃v,σ[i]?=some (some v)/\Q v H
def tC(v:V):TE:=λ_ H Q=>Q v H
theorem zo{i:Nat}{x:Str}{pos:Pos}(hN:X.N[i]?=some x)(hv:Vis X.env.scope x)(hd:(x==("__debug__":Str))=false:=by decide)(hcd:(x==("__classdict__":Str))=false:=by decide):PE X (.Name x pos) (tVar i):=by
 intro pins s σ H Q I h;obtain⟨v,e,h⟩:=h;obtain⟨m,hn,hl⟩:=I.loc;obtain⟨u,r,l⟩:=hl i x v hN e hv;have fin:EP X pins σ Q u s:=⟨v,H,I,r,h⟩
 rcases l with ⟨hk,hm⟩ | ⟨hk,c,hc,hcell⟩
 . exact wpAny_Name (wpAny_loadName_local I.ok.kind hk hn hm fin) hd
 . rcases hk with hk | hk
   . exact wpAny_Name (wpAny_loadName_cell I.ok.kind hk hc hcell fin) hd
   . exact wpAny_Name (wpAny_loadName_free I.ok.kind hk hc hcell fin hcd) hd
theorem Ac{i j pos}:PE X (.Constant (.int i) j pos) (tC (.int i)):=λ_ _ _ H _ I h=>wpAny_Constant_int ⟨.int i,H,I.tok _,⟨_,rfl⟩,h⟩
theorem AR{b j pos}:PE X (.Constant (.bool b) j pos) (tC (.bl b)):=λ_ _ _ H _ I h=>Constant_bool ⟨.bl b,H,I,rfl,h⟩
theorem CQ{j pos}:PE X (.Constant .none j pos) (tC .non):=λ_ _ _ H _ I h=>Constant_none ⟨.non,H,I,rfl,h⟩
theorem AM{x j pos}:PE X (.Constant (.str x) j pos) (tC (.str x)):=λ_ _ _ H _ I h=>Calls.Constant_str ⟨.str x,H,I.tok _,⟨_,rfl⟩,h⟩
def Gl(X:Cx)(x:Str):Prop:=X.env.kindOf x=some .globalImplicit
theorem EC{s:uI}{σ:St}{x:Str}{u:uG}{pos:Pos}{Q:uG->uI->Prop}(I:Inv X pins σ H s)(hg:Gl X x)(hm:X.mg x=some u)(h:Q u s)
   (hd:(x==("__debug__":Str))=false:=by decide):uY (vi X.prog X.w) X.A (vh (.Name x pos) X.env) Q E s:=
 ko I.ok.kind hg (Calls.loadGlobal_global (by rw[I.ok.glob];exact I.mod.glob.keeps I.bk) hm h) hd
theorem Ks{s:uI}{σ:St}{x:Str}{u:uG}{pos:Pos}{Q:uG->uI->Prop}(I:Inv X pins σ H s)(hg:Gl X x)(hm:X.mg x=none)(hv:bootBuiltins x=some u)(h:Q u s)
   (hn:x≠"__name__":=by decide) (hd:(x==("__debug__":Str))=false:=by decide):uY (vi X.prog X.w) X.A (vh (.Name x pos) X.env) Q E s:=by
 obtain⟨mb,h1,h2⟩:=I.mod.blt;exact ko I.ok.kind hg (Calls.loadGlobal_builtin (by rw[I.ok.glob];exact I.mod.glob.keeps I.bk) hm (by rw[I.ok.blt];exact h1.keeps I.bk) ((h2 x hn).trans hv) h) hd
theorem ED{x:Str}{v:V}{u:uG}{pos:Pos}(hg:Gl X x)(hm:X.mg x=some u)(r:RelV v u)(hd:(x==("__debug__":Str))=false:=by decide):PE X (.Name x pos) (tC v):=
 λ_ _ _ H _ I h=>EC I hg hm ⟨v,H,I,r,h⟩ hd
theorem Sn{x:Str}{v:V}{u:uG}{pos:Pos}(hg:Gl X x)(hm:X.mg x=none)(hv:bootBuiltins x=some u)(r:RelV v u)(hn:x≠"__name__":=by decide)(hd:(x==("__debug__":Str))=false:=by decide):PE X (.Name x pos) (tC v):=
 λ_ _ _ H _ I h=>Ks I hg hm hv ⟨v,H,I,r,h⟩ hn hd
variable {a b:uN}{ta tb:TE}{pos:Pos}
def PC(X:Cx)(op:CmpOp)(a b:uN)(t:TE):Prop:=
 ∀(pins:List (uH×Obj)) (s:uI) (σ:St) (H:Hp) (Q:VK),Inv X pins σ H s->t σ H Q ->
   uY (vi X.prog X.w) X.A (vh a X.env) (λv s₁=>uY (vi X.prog X.w) X.A (vh b X.env) (λu s₂=>uY (vi X.prog X.w) X.A (vd op v u) (EP X pins σ Q) X.xe s₂) X.xe s₁) X.xe s
theorem iN(b:uN){op:CmpOp}(h:op≠.In)(h2:op≠.NotIn):behindInMarks op b=false:=by
 have e1:(op==CmpOp.In)=false:=by cases op <;> first | rfl | exact absurd rfl h
 have e2:(op==CmpOp.NotIn)=false:=by cases op <;> first | rfl | exact absurd rfl h2
 cases b <;> simp [behindInMarks,e1,e2]
def tB(t:TE):TT:=λσ H Q=>t σ H λx H1=>∃c,x = .bl c/\Q c H1
theorem zk{op:CmpOp}{t:TE}(h:PC X op a b t)(h1:behindInMarks op b=false:=by first | exact iN _ (by decide) (by decide) | rfl):PT X (.Compare a [op] [b] pos) (tB t):=by
 intro pins s σ H Q I hw;refine wpAny_isTrue_Compare1 (thn (h pins s σ H _ I hw) λv s1 h1=>thn h1 λu s2 h2=>thn h2 λc s3 hZ=>?_) h1;obtain⟨x,H1,I1,r1,q1⟩:=hZ;obtain⟨d,rfl,q⟩:=q1;cases r1;exact vk ⟨H1,I1,q⟩
theorem Cy{e:uN}{t:TE}(h:PE X e t)(he:∀whole,isTrue e X.env whole=(do let v <-whole;standAt e.pos;holding [v] (truthy v)):=by intro _;rfl):PT X e (tB t):=by
 intro pins s σ H Q I hw;refine isTrue_plain (thn (h pins s σ H _ I hw) λv s1 hZ=>?_) (he _);obtain⟨x,H1,I1,r1,q1⟩:=hZ;obtain⟨d,rfl,q⟩:=q1;cases r1;exact vk ⟨H1,I1,q⟩
variable {tA tB':TT}{xm:List uN}
def tAnd(t u:TT):TT:=λσ H Q=>t σ H λc H1=>if c=true then u σ H1 Q else Q false H1
def tOr(t u:TT):TT:=λσ H Q=>t σ H λc H1=>if c=true then Q true H1 else u σ H1 Q
def tNot(t:TT):TT:=λσ H Q=>t σ H λc H1=>Q (!c) H1
theorem BQ(ha:PT X a tA):PW X (.BoolOp .And [a] pos) tA:=by
 intro wh pins s σ H Q I h;refine isTrue_and (thn (ha pins s σ H Q I h) λc s1 e=>?_);cases c with
 | true=>exact isTrue_and_nil e
 | false=>exact e
theorem BR(ha:PT X a tA):PW X (.BoolOp .Or [a] pos) tA:=by
 intro wh pins s σ H Q I h;refine isTrue_or (thn (ha pins s σ H Q I h) λc s1 e=>?_);cases c with
 | false=>exact isTrue_or_nil e
 | true=>exact e
theorem Bw(ha:PT X a tA)(hb:PW X (.BoolOp .And (b::xm) pos) tB'):PW X (.BoolOp .And (a::b::xm) pos) (tAnd tA tB'):=by
 intro wh pins s σ H Q I h;refine isTrue_and (thn (ha pins s σ H _ I h) λc s1 hZ=>?_);obtain⟨H1,I1,q1⟩:=hZ;cases c with
 | true=>exact hb wh pins s1 σ H1 Q I1 q1
 | false=>exact⟨H1,I1,q1⟩
theorem Bn(ha:PT X a tA)(hb:PW X (.BoolOp .Or (b::xm) pos) tB'):PW X (.BoolOp .Or (a::b::xm) pos) (tOr tA tB'):=by
 intro wh pins s σ H Q I h;refine isTrue_or (thn (ha pins s σ H _ I h) λc s1 hZ=>?_);obtain⟨H1,I1,q1⟩:=hZ;cases c with
 | true=>exact⟨H1,I1,q1⟩
 | false=>exact hb wh pins s1 σ H1 Q I1 q1
theorem Bo(ha:PT X a tA):PT X (.UnaryOp .Not a pos) (tNot tA):=by
 intro pins s σ H Q I h;exact isTrue_not (ha pins s σ H (λc H1=>Q (!c) H1) I h)
def Kt(ta tb:TE):TE:=λσ H Q=>ta σ H λx H1=>∃c,x = .bl c/\if c=true then tb σ H1 Q else Q (.bl false) H1
def H_(ta tb:TE):TE:=λσ H Q=>ta σ H λx H1=>∃c,x = .bl c/\if c=true then Q (.bl true) H1 else tb σ H1 Q
def yK(ta:TE):TE:=λσ H Q=>ta σ H λx H1=>∃c,x = .bl c/\Q (.bl (!c)) H1
theorem Ku{op}{t:TE}(h:PE X a t):PE X (.BoolOp op [a] pos) t:=λpins s σ H Q I hw=>BoolOp_one (h pins s σ H Q I hw)
theorem Lu(ha:PE X a ta)(hb:PE X (.BoolOp .And (b::xm) pos) tb):PE X (.BoolOp .And (a::b::xm) pos) (Kt ta tb):=by
 intro pins s σ H Q I h;refine BoolOp_and (thn (ha pins s σ H _ I h) λv s1 hZ=>?_);obtain⟨x,H1,I1,r1,q1⟩:=hZ;obtain⟨c,rfl,q1⟩:=q1;cases r1;refine vk ?_;cases c with
 | true=>exact hb pins s1 σ H1 Q I1 q1
 | false=>exact⟨.bl false,H1,I1,rfl,q1⟩
theorem pe_or(ha:PE X a ta)(hb:PE X (.BoolOp .Or (b::xm) pos) tb):PE X (.BoolOp .Or (a::b::xm) pos) (H_ ta tb):=by
 intro pins s σ H Q I h;refine BoolOp_or (thn (ha pins s σ H _ I h) λv s1 hZ=>?_);obtain⟨x,H1,I1,r1,q1⟩:=hZ;obtain⟨c,rfl,q1⟩:=q1;cases r1;refine vk ?_;cases c with
 | false=>exact hb pins s1 σ H1 Q I1 q1
 | true=>exact⟨.bl true,H1,I1,rfl,q1⟩
theorem ZH(ha:PE X a ta):PE X (.UnaryOp .Not a pos) (yK ta):=by
 intro pins s σ H Q I h;refine UnaryOp_ (thn (ha pins s σ H _ I h) λv s1 hZ=>?_);obtain⟨x,H1,I1,r1,q1⟩:=hZ;obtain⟨c,rfl,q1⟩:=q1;cases r1;exact not_of (vk ⟨.bl (!c),H1,I1,rfl,q1⟩)
def tIf(t:TT)(ta tb:TE):TE:=λσ H Q=>t σ H λc H1=>if c=true then ta σ H1 Q else tb σ H1 Q
theorem iO{c:uN}(hc:PT X c tA)(ha:PE X a ta)(hb:PE X b tb):PE X (.IfExp c a b pos) (tIf tA ta tb):=by
 intro pins s σ H Q I h;refine wpAny_IfExp (thn (hc pins s σ H _ I h) λd s1 hZ=>?_);obtain⟨H1,I1,q1⟩:=hZ;cases d with
 | true=>exact ha pins s1 σ H1 Q I1 q1
 | false=>exact hb pins s1 σ H1 Q I1 q1
end
def SqL(K:δ)(H:Hp)(a:uH)(xs:List V):Prop:=
 Rd H a (.lst xs) \/
   ∃(o:Obj)(its:Array uG)(n:Nat),K.lookup a=some o/\o.cls = .type "list"/\o.dict=none/\o.data = .seq its n/\its.size<=uU/\Vals xs its.toList
def SqT(K:δ)(H:Hp)(a:uH)(xs:List V):Prop:=
 Rd H a (.tup xs) \/
   ∃(o:Obj)(its:Array uG)(n:Nat),K.lookup a=some o/\o.cls = .type "tuple"/\o.data = .seq its n/\its.size<=uU/\Vals xs its.toList
def absV:uG->Option V
 | .none=>some .non
 | .bool b=>some (.bl b)
 | .int i _=>some (.int i)
 | .str x _=>some (.str x)
 | .bytes b _=>some (.byt b)
 | .float b _=>some (.flt b)
 | .ref a=>some (.ref a)
 | .type n=>some (.ty n)
 | _=>none
theorem RelV.abs{x:V}{u:uG}(r:RelV x u):absV u=some x:=by
 cases x with
 | non=>cases r;rfl
 | bl _=>cases r;rfl
 | int _=>obtain⟨t,rfl⟩:=r;rfl
 | str _=>obtain⟨t,rfl⟩:=r;rfl
 | byt _=>obtain⟨t,rfl⟩:=r;rfl
 | flt _=>obtain⟨t,rfl⟩:=r;rfl
 | ref _=>cases r;rfl
 | ty _=>cases r;rfl
theorem RelV.inj{x y:V}{u:uG}(r:RelV x u)(q:RelV y u):x=y:=χ (r.abs.symm.trans q.abs)
theorem Vals.inj:∀{xs ys:List V}{us:List uG},Vals xs us->Vals ys us->xs=ys
 | _,_,_,.nil,.nil=>rfl
 | _,_,_,.cons r t,.cons r' t'=>by rw[r.inj r',Vals.inj t t']
section
variable {X:Cx}{pins:List (uH×Obj)}{σ:St}{H:Hp}{s:uI}{a:uH}{xs ys:List V}
theorem SqL.of{K:δ}(h:H a=some (.lst xs)):SqL K H a xs:=.inl (.inl h)
theorem SqT.of{K:δ}(h:H a=some (.tup xs)):SqT K H a xs:=.inl (.inl h)
theorem Inv.list(I:Inv X pins σ H s)(h:SqL X.K H a xs):∃its:List uG,Vals xs its/\PlainL s.heap a its.toArray/\xs.length<=uU:=by
 rcases h with h | ⟨o,its,n,hk,hc,hd,hs,hz,r⟩
 . obtain⟨z,its,n,r,e⟩:=h.ok I.hok;exact⟨its,r,⟨_,n,e,rfl,rfl,rfl⟩,z⟩
 . refine⟨its.toList,r,⟨o,n,I.kIn a o hk,hc,hd,by simpa using hs⟩,?_⟩;have e:=r.length;simp only [kc] at e;omega
theorem Inv.tuple(I:Inv X pins σ H s)(h:SqT X.K H a xs):∃its:List uG,Vals xs its/\IsTup s.heap a its.toArray/\xs.length<=uU:=by
 rcases h with h | ⟨o,its,n,hk,hc,hs,hz,r⟩
 . obtain⟨z,its,r,p⟩:=h.ok I.hok;exact⟨its,r,p,z⟩
 . refine⟨its.toList,r,⟨o,I.kIn a o hk,hc,n,by simpa using hs⟩,?_⟩;have e:=r.length;simp only [kc] at e;omega
theorem Inv.list_inj(I:Inv X pins σ H s)(h:SqL X.K H a xs)(h':SqL X.K H a ys):xs=ys:=by
 obtain⟨its,r,⟨o,n,e,_,_,d⟩,_⟩:=I.list h;obtain⟨its',r',⟨o',n',e',_,_,d'⟩,_⟩:=I.list h';rw[e] at e';cases e';rw[d] at d'
 injection d' with d1 _
 have:its=its':=by simpa using congrArg Array.toList d1
 subst this;exact r.inj r'
end
abbrev Cx.wish(X:Cx)(E:uG->uI->Prop):Cx:={ X with xe:=E }
abbrev Cx.nox(X:Cx):Cx:=X.wish λ_ _=>False
theorem Cx.Ok.wish{X:Cx}(ok:X.Ok)(E:uG->uI->Prop):(X.wish E).Ok:=
 ⟨ok.mod,ok.kind,ok.glob,ok.blt,ok.above,ok.inj,ok.has,ok.cab,ok.hd,ok.frames,ok.stk,ok.exf,ok.bs,ok.bsz,ok.noex,ok.exfs,ok.funs,ok.frf⟩
theorem Cx.Ok.unwish{X:Cx}(ok:(X.wish E).Ok):X.Ok:=
 ⟨ok.mod,ok.kind,ok.glob,ok.blt,ok.above,ok.inj,ok.has,ok.cab,ok.hd,ok.frames,ok.stk,ok.exf,ok.bs,ok.bsz,ok.noex,ok.exfs,ok.funs,ok.frf⟩
section
variable {X:Cx}{pins:List (uH×Obj)}{σ:St}{H:Hp}{s:uI}{E:uG->uI->Prop}
theorem Inv.wish(I:Inv X pins σ H s)(E:uG->uI->Prop):Inv (X.wish E) pins σ H s:=⟨I.ok.wish E,I.os,I.bare,I.base,I.loc,I.cell,I.free,I.freeC,I.pin,I.hok,I.len⟩
theorem Inv.unwish(I:Inv (X.wish E) pins σ H s):Inv X pins σ H s:=⟨I.ok.unwish,I.os,I.bare,I.base,I.loc,I.cell,I.free,I.freeC,I.pin,I.hok,I.len⟩
theorem SP.unwish{D:Ends}{f:Flow}{s':uI}(h:SP (X.wish E) pins D f s'):SP X pins D f s':=by
 cases f with
 | next=>obtain⟨σ',H',I,q⟩:=h;exact⟨σ',H',I.unwish,q⟩
 | brk=>obtain⟨σ',H',I,q⟩:=h;exact⟨σ',H',I.unwish,q⟩
 | cont=>obtain⟨σ',H',I,q⟩:=h;exact⟨σ',H',I.unwish,q⟩
 | ret u=>obtain⟨v,σ',H',I,r,q⟩:=h;exact⟨v,σ',H',I.unwish,r,q⟩
theorem PSs.nox{st:List uO}{t:TS}(h:PSs X.nox st t):PSs X st t:=λpins s σ H D I hw=>
 uX (h pins s σ H D (I.wish _) hw) (λ_ _ q=>q.unwish) λ_ _ z=>cm z
end
section
variable {X:Cx}{st:uO}{xm:List uO}{t u:TS}{e:uN}{te:TE}{pos:Pos}
def xK:TS:=λD σ H=>D.nx σ H
def xJ(t u:TS):TS:=λD σ H=>t { D with nx:=u D } σ H
theorem Az:PSs X [] xK:=λ_ _ σ H _ I h=>vn ⟨σ,H,I,h⟩
theorem Ad(h1:PS X st t)(h2:PSs X xm u):PSs X (st::xm) (xJ t u):=by
 intro pins s σ H D I h;refine wpAny_execs_cons (thn (h1 pins s σ H { D with nx:=u D } I h) λf s1 q=>?_);cases f with
 | next=>
   obtain⟨σ',H',I',q⟩:=q;exact h2 pins s1 σ' H' D I' q
 | ret v=>exact q
 | brk=>exact q
 | cont=>exact q
theorem Af(h1:PS X st t):PSs X [st] t:=by
 intro pins s σ H D I h;refine wpAny_execs_cons (thn (h1 pins s σ H D I h) λf s1 q=>?_);cases f with
 | next=>exact vn q
 | ret v=>exact q
 | brk=>exact q
 | cont=>exact q
theorem iP:PS X (.Pass pos) xK:=λ_ _ σ H _ I h=>wpAny_Pass ⟨σ,H,I,h⟩
theorem Inv.quiet{σ:St}{s:uI}(I:Inv X pins σ H s):interactive X.env=false:=by simp [interactive,I.ok.kind]
def yL(te:TE):TS:=λD σ H=>te σ H λ_ H1=>D.nx σ H1
theorem Bd(he:PE X e te)(hs:swapsWith e none pos.line X.env=pure false:=by rfl):PS X (.Expr e pos) (yL te):=by
 intro pins s σ H D I h;exact wpAny_Expr_any (thn (he pins s σ H _ I h) λv s1 ⟨x,H1,I1,r1,q1⟩=>⟨σ,H1,I1,q1⟩) I.quiet hs
def tRet(te:TE):TS:=λD σ H=>te σ H D.rt
theorem Ao(he:PE X e te):PS X (.Return (some e) pos) (tRet te):=by
 intro pins s σ H D I h;exact wpAny_Return_some (thn (he pins s σ H _ I h) λv s1 ⟨x,H1,I1,r1,q1⟩=>⟨x,σ,H1,I1,r1,q1⟩)
def I_(c:TT)(t u:TS):TS:=λD σ H=>c σ H λb H1=>if b=true then t D σ H1 else u D σ H1
theorem Ay{c:uN}{a b:List uO}{tc:TT}(hc:PT X c tc)(ha:PSs X a t)(hb:PSs X b u):PS X (.If c a b pos) (I_ tc t u):=by
 intro pins s σ H D I h;refine wpAny_If (thn (hc pins s σ H _ I h) λd s1 hZ=>?_);obtain⟨H1,I1,q1⟩:=hZ;cases d with
 | true=>exact ha pins s1 σ H1 D I1 q1
 | false=>exact hb pins s1 σ H1 D I1 q1
end
abbrev TG:=V->St->Hp->(St->Hp->Prop)->Prop
abbrev TGs:=List V->St->Hp->(St->Hp->Prop)->Prop
def PG(X:Cx)(target:uN)(t:TG):Prop:=
 ∀(pins:List (uH×Obj)) (s:uI) (σ:St) (H:Hp) (v:V) (u:uG) (Q:St->Hp->Prop),Inv X pins σ H s->RelV v u->t v σ H Q ->
   uY (vi X.prog X.w) X.A (assign target X.env u) (λ_ s'=>∃σ' H',Inv X pins σ' H' s'/\Q σ' H') X.xe s
def PGs(X:Cx)(ts:List uN)(t:TGs):Prop:=
 ∀(pins:List (uH×Obj)) (s:uI) (σ:St) (H:Hp) (vs:List V) (us:List uG) (Q:St->Hp->Prop),Inv X pins σ H s->Vals vs us->t vs σ H Q ->
   uY (vi X.prog X.w) X.A (assignInOrder ((assignEach ts X.env).map (·.2)) us) (λ_ s'=>∃σ' H',Inv X pins σ' H' s'/\Q σ' H') X.xe s
abbrev K_:=V->V->V->Hp->(Hp->Prop)->Prop
def PSet(X:Cx)(t:K_):Prop:=
 ∀(pins:List (uH×Obj)) (s:uI) (σ:St) (H:Hp) (o i v:V) (ov iv u:uG) (Q:Hp->Prop),Inv X pins σ H s->RelV o ov->RelV i iv->RelV v u->t o i v H Q ->
   uY (vi X.prog X.w) X.A (setItem ov iv u) (λ_ s'=>∃H',Inv X pins σ H' s'/\Q H') X.xe s
section
variable {X:Cx}{pos:Pos}
def GY(i:Nat):TG:=λv σ H Q=>Q (σ.set i (some v)) H
theorem AF{i:Nat}{x:Str}(hN:X.N.Nodup)(hi:X.N[i]?=some x)(hx:Loc X.env.scope x)(hf:X.fn x=true\/X.env.scope.names.lookup x=some .local:=by first | exact .inl rfl | exact .inr rfl | assumption):PG X (.Name x pos) (GY i):=by
 intro pins s σ H v u Q I r h;exact wpAny_assign_Name (Sm I hN hi hx r (λs' I'=>⟨_,H,I',h⟩) hf)
def gNil:TGs:=λvs σ H Q=>vs=[]/\Q σ H
def zS(t:TG)(u:TGs):TGs:=λvs σ H Q=>∃v r,vs=v::r/\t v σ H λσ' H'=>u r σ' H' Q
theorem Cl:PGs X [] gNil:=by
 intro pins s σ H vs us Q I r h;obtain⟨e,h⟩:=h;subst e;cases r;exact assignInOrder_nil ⟨σ,H,I,h⟩
theorem AO{e:uN}{es:List uN}{t:TG}{u:TGs}(h1:PG X e t)(h2:PGs X es u)
   (hs:(assignEach (e::es) X.env).map (·.2)=assign e X.env::(assignEach es X.env).map (·.2):=by rfl):PGs X (e::es) (zS t u):=by
 intro pins s σ H vs us Q I r h;obtain⟨v,vr,e1,h⟩:=h;subst e1;cases r with
 | cons r rr=>
   rw[hs];refine assignInOrder_cons (thn (h1 pins s σ H _ _ _ I r h) λ_ s1 hZ=>?_);obtain⟨σ1,H1,I1,q1⟩:=hZ;exact h2 pins s1 σ1 H1 _ _ Q I1 rr q1
def gTup(K:δ)(n:Nat)(t:TGs):TG:=λv σ H Q=>∃a xs,v = .ref a/\SqT K H a xs/\xs.length=n/\t xs σ H Q
theorem DS{es:List uN}{k:Nat}{t:TGs}{n:Nat}(hc:X.calm=true)(h:PGs X es t)
   (hn:(assignEach es X.env).length=n:=by rfl) (hst:(assignEach es X.env).findIdx? (·.1)=none:=by rfl):PG X (.Tuple es k pos) (gTup X.K n t):=by
 intro pins s σ H v u Q I r hw;obtain⟨a,xs,e1,hq,hl,hw⟩:=hw;subst e1;cases r;obtain⟨its,rv,ht,hz⟩:=I.tuple hq;refine assign_Tuple_tuple (I.ok.hd hc) ht (by simp [hn,<-hl,rv.length]) hst λh' hx=>?_;have I1:Inv X pins σ H { s with heap:=h' }:=I.kept (t':=s.toks) λb o e=>hx b o (bu (ad e)) e;exact h pins _ σ H xs _ Q I1 (by simpa using rv) hw
def gSub(to ti:TE)(t:K_):TG:=λv σ H Q=>to σ H λo H1=>ti σ H1 λi H2=>t o i v H2 λH3=>Q σ H3
theorem GZ{o i:uN}{to ti:TE}{t:K_}(ho:PE X o to)(hi:PE X i ti)(hs:PSet X t)
   (ha:∀v,assign (.Subscript o i pos) X.env v=(do
     let ov <-holding [v] (vh o X.env)
     let iv <-holding [v,ov] (vh i X.env)
     standAt pos
     holding [v,ov,iv] (setItem ov iv v)
     release [v,ov,iv] []):=by intro _;rfl):PG X (.Subscript o i pos) (gSub to ti t):=by
 intro pins s σ H v u Q I r h;rw[ha];refine uV (wpAny_holding (thn (ho pins s σ H _ I h) λov s1 hZ=>?_));obtain⟨x,H1,I1,r1,q1⟩:=hZ;refine uV (wpAny_holding (thn (hi pins s1 σ H1 _ I1 q1) λiv s2 hZ=>?_));obtain⟨y,H2,I2,r2,q2⟩:=hZ;refine uV (wpAny_standAt (uV (wpAny_holding (thn (hs pins s2 σ H2 x y v ov iv u _ I2 r1 r2 r q2) λ_ s3 hZ=>?_))));obtain⟨H3,I3,q3⟩:=hZ;exact wpAny_release ⟨σ,H3,I3,q3⟩
def yD(te:TE)(g:TG):TS:=λD σ H=>te σ H λx H1=>g x σ H1 D.nx
theorem CT{tg e:uN}{te:TE}{g:TG}(he:PE X e te)(hg:PG X tg g)(hs:swapsWithSole [tg] e pos.line X.env=pure false:=by rfl)(hw:swappedStores [tg] e X.env=pure none:=by rfl)
   (h1:(assignEach [tg] X.env).map (·.2)=[assign tg X.env]:=by rfl):PS X (.Assign [tg] e pos) (yD te g):=by
 intro pins s σ H D I h;refine wpAny_Assign_stores (thn (he pins s σ H _ I h) λv s1 hZ=>?_) hs hw;obtain⟨x,H1,I1,r1,q1⟩:=hZ;rw[h1];exact thn (hg pins s1 σ H1 x v _ I1 r1 q1) λ_ s2 q=>q
theorem Aw{i:Nat}{x:Str}{e:uN}{te:TE}{pos':Pos}(hN:X.N.Nodup)(hi:X.N[i]?=some x)(hx:Loc X.env.scope x)(he:PE X e te)(hs:swapsWith e (some (.Name x pos')) pos.line X.env=pure false:=by rfl)(hf:X.fn x=true\/X.env.scope.names.lookup x=some .local:=by first | exact .inl rfl | exact .inr rfl | assumption):
   PS X (.Assign [.Name x pos'] e pos) (yD te (GY i)):=by
 intro pins s σ H D I h;refine wpAny_Assign_Name (thn (he pins s σ H _ I h) λv s1 hZ=>?_) hs;obtain⟨y,H1,I1,r1,q1⟩:=hZ;exact Sm I1 hN hi hx r1 (λs2 I2=>⟨_,H1,I2,q1⟩) hf
end
section
variable {X:Cx}{pos:Pos}
def yG(c:TT)(tb:TS):TS:=λD σ H=>∃W:Nat->St->Hp->Prop,(∃m,W m σ H)/\∀m σ H,W m σ H ->
 c σ H λb H1=>if b=true then ∃N:St->Hp->Prop,(∀σ' H',N σ' H'->∃m',m'<m/\W m' σ' H')/\tb { D with nx:=N,ct:=N,bk:=D.nx } σ H1 else D.nx σ H1
theorem Lv{c:uN}{body:List uO}{tc:TT}{tb:TS}(hp:PassesOwn (vi X.prog X.w) X.A X.env X.xe)(hc:PT X c tc)(hb:PSs X body tb):PS X (.While c body [] pos) (yG tc tb):=by
 intro pins s σ H D I h;obtain⟨W,⟨m0,w0⟩,turn⟩:=h;refine wpAny_While (codeAny_whileLoop (λn s'=>∃σ' H',Inv X pins σ' H' s'/\W n σ' H') ?_ m0 ⟨σ,H,I,w0⟩);rintro n s1 ⟨σ1,H1,I1,w1⟩;refine wpAny_passesOwn hp (thn (hc pins s1 σ1 H1 _ I1 (turn n σ1 H1 w1)) λb s2 hZ=>?_);obtain⟨H2,I2,q2⟩:=hZ;cases b with
 | true=>
   obtain⟨N,hN,q2⟩:=q2;rw[if_pos rfl];refine wpAny_passesOwn hp (thn (hb pins s2 σ1 H2 _ I2 q2) λf s3 q3=>?_);cases f with
   | next=>
     obtain⟨σ3,H3,I3,n3⟩:=q3;obtain⟨m',hm,w3⟩:=hN σ3 H3 n3;exact⟨m',hm,σ3,H3,I3,w3⟩
   | cont=>
     obtain⟨σ3,H3,I3,n3⟩:=q3;obtain⟨m',hm,w3⟩:=hN σ3 H3 n3;exact⟨m',hm,σ3,H3,I3,w3⟩
   | brk=>exact q3
   | ret v=>exact q3
 | false=>
   rw[if_neg ν];exact vn ⟨σ1,H2,I2,q2⟩
end
structure It where
 go:Nat->Hp->Prop
 yld:Nat->Hp->V->Hp->Prop
 stop:Nat->Hp->Prop
def xA(X:Cx)(pins:List (uH×Obj))(H:Hp)(b:uH):Prop:=
 H b=none/\b≠X.env.locals/\b ∉ X.fs/\(b∈X.ex\/X.s₀.heap.objs.size<=b)/\(∀x c,X.env.cells.lookup x=some c->c≠b)/\∀p∈X.pn++pins,p.1≠b
theorem Inv.fpOk{X:Cx}{σ:St}{H':Hp}{s:uI}{b:uH}(I:Inv X pins σ H s)(hb:s.heap.objs.size<=b)(hn:H' b=none):xA X pins H' b:=by
 refine⟨hn,pd (ba I.lt hb),I.nofs hb,.inr (de I.sz hb),λx c e z=>?_,λp hp z=>?_⟩
 . obtain⟨v,q⟩:=I.cell x c e;exact absurd (ba q.lt (by rw[z];exact hb)) (dy _)
 . exact absurd (ba (ad (I.pin p hp).1) (by rw[z];exact hb)) (dy _)
structure D_(P:uK)(w:uL)(K:δ)(tg:uN)(J:It)(fp:List uH)(it:uH)(tn:Nat->vq->Prop):Prop where
 mem:it∈fp
 obj:∀i h,tn i h->∀b∈fp,∃o,h.get? b=some o/\∀v,o.data≠.cell v
 keep:∀i h h',tn i h->(∀b∈fp,∀o,h.get? b=some o->h'.get? b=some o)->tn i h'
 item:∀(X:Cx),X.prog=P->X.w=w->X.K=K->X.calm=true->∀(i:Nat) (pins:List (uH×Obj)) (s:uI) (σ:St) (H:Hp) (E:uG->uI->Prop),Inv X pins σ H s->(∀b∈fp,xA X pins H b)->tn i s.heap->J.go i H ->
   uY (vi P w) X.A (pyNext (.ref it)) (λr s1=>∃u,r=some u /\
     uY (vi P w) X.A (letOwnedTupleGo tg (.ref it) u) (λ_ s2=>∃x H',Inv X pins σ H' s2/\RelV x u/\J.yld i H x H'/\tn (i+1) s2.heap/\∀b∈fp,H' b=none) E s1) E s
 done:∀(X:Cx),X.prog=P->X.w=w->X.K=K->X.calm=true->∀(i:Nat) (pins:List (uH×Obj)) (s:uI) (σ:St) (H:Hp) (E:uG->uI->Prop),Inv X pins σ H s->(∀b∈fp,xA X pins H b)->tn i s.heap->J.stop i H ->
   uY (vi P w) X.A (pyNext (.ref it)) (λr s1=>r=none/\Inv X pins σ H s1) E s
 self:∀(A:uM)(i:Nat)(s:uI)(Q:uG->uI->Prop)(E:uG->uI->Prop),tn i s.heap->Q (.ref it) s->uY (vi P w) A (pyIter (.ref it)) Q E s
abbrev TI:=St->Hp->(It->Hp->Prop)->Prop
def PIE(X:Cx)(pins:List (uH×Obj))(σ:St)(tg:uN)(R:It->Hp->Prop)(itv:uG)(s2:uI):Prop:=
 ∃(it:uH)(fp:List uH)(tn:Nat->vq->Prop)(J:It)(H':Hp),itv = .ref it/\Inv X pins σ H' s2/\D_ X.prog X.w X.K tg J fp it tn/\tn 0 s2.heap/\(∀b∈fp,xA X pins H' b)/\R J H'
def PI(X:Cx)(tg iter:uN)(wi:TI):Prop:=
 ∀(pins:List (uH×Obj)) (s:uI) (σ:St) (H:Hp) (R:It->Hp->Prop),Inv X pins σ H s->wi σ H R ->
   uY (vi X.prog X.w) X.A (vh iter X.env) (λv s1=>uY (vi X.prog X.w) X.A (pyIter v) (PIE X pins σ tg R) X.xe s1) X.xe s
theorem yh{M:vv}{A:uM}{s:uI}{tg:uN}{it:uH}{u:uG}{o:Obj}{n:String}{vs:Array uG}{Q:Unit->uI->Prop}(ho:s.heap.get? it=some o)(hc:o.cls = .type n)(hd:o.data = .fields vs)
   (hn:["enumerate","zip","dict_itemiterator","dict_reverseitemiterator","odict_iterator","itertools.zip_longest","itertools.pairwise"].contains n=false) (hQ:Q () s):uY M A (letOwnedTupleGo tg (.ref it) u) Q E s:=by
 unfold letOwnedTupleGo;cases tg <;> first
   | exact uW hQ
   | (cases u <;> first
       | exact uW hQ
       | (refine uV (wpAny_load ho ?_)
          rw[hc,hd];show uY M A (if (["enumerate","zip","dict_itemiterator","dict_reverseitemiterator","odict_iterator","itertools.zip_longest","itertools.pairwise"].contains n&&vs[0]?==some (rawInt _))=true then _ else _) Q E s;rw[if_neg (by intro h;rw[hn,my] at h;cases h)];exact uW hQ))
def Itl(K:δ)(a:uH):It:=
 ⟨λi H=>∃xs x,SqL K H a xs/\xs[i]?=some x,λi H x H'=>H'=H/\∀xs,SqL K H a xs->xs[i]?=some x,λi H=>∃xs,SqL K H a xs/\xs.length<=i⟩
def Itr(lo:Int)(n:Nat):It:=⟨λi _=>i<n,λi H x H'=>H'=H/\x = .int (lo+i),λi _=>n<=i⟩
theorem iQ{P:uK}{w:uL}{K:δ}{tg:uN}(a it:uH):D_ P w K tg (Itl K a) [it] it (λi h=>h.IsListIter it a i) where
 mem:=by simp
 obj:=λi h st b hb=>by
   have e:b=it:=by simpa using hb
   subst e
   obtain⟨o,e,c,d⟩:=st
   exact⟨o,e,λv z=>by rw[d] at z;cases z⟩
 keep:=λi h h' st k=>st.at λo e=>k it (by simp) o e
 item:=by
   intro X hP hw hK hc i pins s σ H E I hf st hg;subst hP hw hK;obtain⟨xs,x,hq,hx⟩:=hg;obtain⟨its,rv,p,hz⟩:=I.list hq;obtain⟨u,hu,ru⟩:=rv.get hx;obtain⟨f0,f1,f2,f3,f4,f5⟩:=hf it (by simp);refine wpAny_pyNext_list_item st p.isList (x:=u) (by simpa using hu) λh' st' sb=>?_;have I1:Inv X pins σ H { s with heap:=h' }:=I.turned (t':=s.toks) (λb o hb e=>(sb.2 b hb).trans e) f0 f1 f3 f4 f5;obtain⟨o,e,c,d⟩:=id st';exact⟨u,rfl,yh (s:={ s with heap:=h' }) e c d (by decide) ⟨x,H,I1,ru,⟨rfl,λys hy=>by rw[I.list_inj hy hq];exact hx⟩,st',λb hb=>(hf b hb).1⟩⟩
 done:=by
   intro X hP hw hK hc i pins s σ H E I hf st hg;subst hP hw hK;obtain⟨xs,hq,hx⟩:=hg;obtain⟨its,rv,p,hz⟩:=I.list hq;obtain⟨f0,f1,f2,f3,f4,f5⟩:=hf it (by simp);have hl:=rv.length;exact wpAny_pyNext_list_end (I.ok.hd hc) st p.isList (by simp;omega) λh' eb=>⟨rfl,I.turned (t':=s.toks) (λb o hb e=>eb b o hb e) f0 f1 f3 f4 f5⟩
 self:=λ_ _ _ _ _ st h=>wpAny_pyIter_listiter st h
theorem iR{P:uK}{w:uL}{K:δ}{tg:uN}(it:uH)(lo:Int)(n:Nat):D_ P w K tg (Itr lo n) [it] it (λi h=>IsRangeIter h it (lo+(i:Nat)*1) ((n:Int)-(i:Nat)) 1) where
 mem:=by simp
 obj:=λi h st b hb=>by
   have e:b=it:=by simpa using hb
   subst e
   exact⟨_,st,λv z=>by
     have z':Data.fields _=Data.cell v:=z
     cases z'⟩
 keep:=λi h h' st k=>k it (by simp) _ st
 item:=by
   intro X hP hw hK hc i pins s σ H E I hf st hg;subst hP hw hK;obtain⟨f0,f1,f2,f3,f4,f5⟩:=hf it (by simp);have W:=Walks.range (prog:=X.prog) (w:=X.w) (I.ok.hd hc) it lo 1 n;refine W.item i s _ _ hg st λv h' tk hv st' kk=>?_;obtain⟨t,rfl⟩:=hv;have I1:Inv X pins σ H { s with heap:=h',toks:=tk }:=I.turned (λb o hb e=>kk b o (by simpa using hb) e) f0 f1 f3 f4 f5;refine⟨_,rfl,yh (s:={ s with heap:=h',toks:=tk }) (n:="range_iterator") st' rfl rfl (by decide) ⟨.int (lo+i),H,I1,⟨t,?_⟩,⟨rfl,rfl⟩,st',λb hb=>(hf b hb).1⟩⟩;rw[mz]
 done:=by
   intro X hP hw hK hc i pins s σ H E I hf st hg;subst hP hw hK;obtain⟨f0,f1,f2,f3,f4,f5⟩:=hf it (by simp);exact wpAny_pyNext_range_end (I.ok.hd hc) st (by have:n<=i:=hg;omega) λh' eb=>⟨rfl,I.turned (t':=s.toks) (λb o hb e=>eb b o hb e) f0 f1 f3 f4 f5⟩
 self:=λ_ _ _ _ _ st h=>wpAny_pyIter_rangeiter st h
section
variable {X:Cx}{tg:uN}
def zP(K:δ)(tl:TE):TI:=λσ H R=>tl σ H λx H1=>∃a,x = .ref a/\(∃xs,SqL K H1 a xs)/\R (Itl K a) H1
theorem BU{l:uN}{tl:TE}(hl:PE X l tl):PI X tg l (zP X.K tl):=by
 intro pins s σ H R I h;refine thn (hl pins s σ H _ I h) λv s1 hZ=>?_;obtain⟨x,H1,I1,r1,q1⟩:=hZ;obtain⟨a,e,⟨xs,hq⟩,q⟩:=q1;subst e;cases r1;obtain⟨its,rv,p,hz⟩:=I1.list hq;refine wpAny_pyIter_list p.isList ?_;refine⟨s1.heap.objs.size,[s1.heap.objs.size],_,_,H1,rfl,I1.kept (t':=s1.toks) λb o e=>Γ _ e,iQ a _,⟨_,bc _ rfl,rfl,rfl⟩,λb hb=>?_,q⟩;have e:b=s1.heap.objs.size:=by simpa using hb
 subst e;exact I1.fpOk (ψ _) (I1.hok.fresh (ψ _))
theorem ZI{σ:St}{s:uI}{R:It->Hp->Prop}{lo hi:Int}{t u v:Tok}{tk:Nat}(I:Inv X pins σ H s)(h1 : -(2^62)<=lo)(h2:lo<2^62)(h3 : -(2^62)<=hi)(h4:hi<2^62)
   (q:R (Itr lo (hi-lo).toNat) H):uY (vi X.prog X.w) X.A (pyIter (.ref s.heap.objs.size)) (PIE X pins σ tg R) E { s with heap:=s.heap.push { cls:=.type "range",data:=.fields #[.int lo t,.int hi u,.int 1 v] },toks:=tk }:=by
 refine wpAny_pyIter_range (IsRange.new ..) (small_one h1 h2 h3 h4) ?_;have I1:Inv X pins σ H { s with heap:=s.heap.push { cls:=.type "range",data:=.fields #[.int lo t,.int hi u,.int 1 v] },toks:=tk }:=I.kept λb o e=>Γ _ e;refine⟨(s.heap.push { cls:=.type "range",data:=.fields #[.int lo t,.int hi u,.int 1 v] }).objs.size,[(s.heap.push { cls:=.type "range",data:=.fields #[.int lo t,.int hi u,.int 1 v] }).objs.size],_,_,H,rfl,
   I1.kept (t':=tk) λb o e=>Γ _ e,iR _ lo (hi-lo).toNat,?_,λb hb=>?_,q⟩
 . have e1:lo+((0:Nat):Int)*1=lo:=by simp
   have e2:(((hi-lo).toNat:Nat):Int)-((0:Nat):Int)=ak lo hi 1:=by rw[rangeSize_one];split <;> omega
   show IsRangeIter _ _ (lo+((0:Nat):Int)*1) ((((hi-lo).toNat:Nat):Int)-((0:Nat):Int)) 1;rw[e1,e2];exact bc _ rfl
 . have e:b=(s.heap.push { cls:=.type "range",data:=.fields #[.int lo t,.int hi u,.int 1 v] }).objs.size:=by simpa using hb
   subst e;exact I1.fpOk (ψ _) (I1.hok.fresh (ψ _))
def zO(ta:TA):TI:=λσ H R=>ta σ H λvs H1=>∃j:Int,vs=[.int j]/\-(2^62)<=j/\j<2^62/\R (Itr 0 j.toNat) H1
def zN(ta:TA):TI:=λσ H R=>ta σ H λvs H1=>∃i j:Int,vs=[.int i,.int j]/\(-(2^62)<=i/\i<2^62/\-(2^62)<=j/\j<2^62)/\R (Itr i (j-i).toNat) H1
theorem So{a:uN}{ta:TA}{p pos:Pos}(hg:Gl X "range")(hm:X.mg "range"=none)(ha:PA X [a] ta)(hs:uR [a] X.env=[(false,vh a X.env)]:=by rfl):PI X tg (.Call (.Name "range" p) [a] [] pos) (zO ta):=by
 intro pins s σ H R I h;refine Call_ (Ks I hg hm boot_range (fj (thn (ha pos pins s σ H _ I h) λus s1 hZ=>?_) hs rfl));obtain⟨vs,H1,I1,r1,q1⟩:=hZ;obtain⟨j,e,q1,q2,q⟩:=q1;subst e;cases r1 with
 | cons r rr=>
   cases rr;obtain⟨t,rfl⟩:=r;exact call_range_1 (ZI I1 (by omega) (by omega) q1 q2 (by simpa using q))
theorem iS{a b:uN}{ta:TA}{p pos:Pos}(hg:Gl X "range")(hm:X.mg "range"=none)(ha:PA X [a,b] ta)(hs:uR [a,b] X.env=[(false,vh a X.env),(false,vh b X.env)]:=by rfl)(hs2:uR [b] X.env=[(false,vh b X.env)]:=by rfl):
   PI X tg (.Call (.Name "range" p) [a,b] [] pos) (zN ta):=by
 intro pins s σ H R I h;refine Call_ (Ks I hg hm boot_range (fj (thn (ha pos pins s σ H _ I h) λus s1 hZ=>?_) (by rw[hs,hs2]) (by rw[hs2];rfl)));obtain⟨vs,H1,I1,r1,q1⟩:=hZ;obtain⟨i,j,e,⟨q1,q2,q3,q4⟩,q⟩:=q1;subst e;cases r1 with
 | cons r rr=>
   cases rr with
   | cons r' rr=>
     cases rr;obtain⟨t,rfl⟩:=r;obtain⟨t',rfl⟩:=r';exact call_range_2 (ZI I1 q1 q2 q3 q4 q)
def tFor(wi:TI)(g:TG)(tb:TS):TS:=λD σ H=>wi σ H λJ H1=>∃W:Nat->Nat->St->Hp->Prop,(∃m,W 0 m σ H1)/\∀i m σ H,W i m σ H ->
 (J.stop i H/\D.nx σ H)\/(J.go i H/\∃N:St->Hp->Prop,(∀σ' H',N σ' H'->∃m',m'<m/\W (i+1) m' σ' H')/\∀x H',J.yld i H x H'->g x σ H' λσ2 H2=>tb { D with nx:=N,ct:=N,bk:=D.nx } σ2 H2)
def Lw(fp:List uH)(h:vq):List (uH×Obj):=fp.filterMap λb=>(h.get? b).map λo=>(b,o)
theorem P3{fp:List uH}{h:vq}{b:uH}{o:Obj}(hb:b∈fp)(e:h.get? b=some o):(b,o)∈Lw fp h:=kq.mpr ⟨b,hb,by rw[e];rfl⟩
theorem iT{fp:List uH}{h:vq}{p:uH×Obj}(hp:p∈Lw fp h):p.1∈fp/\h.get? p.1=some p.2:=by
 obtain⟨b,hb,e⟩:=kq.mp hp;cases q:h.get? b with
 | none=>rw[q] at e;cases e
 | some o=>
   rw[q] at e;have e':(b,o)=p:=χ e;subst e';exact⟨hb,q⟩
theorem Inv.pinned{σ:St}{s:uI}{fp:List uH}(I:Inv X pins σ H s)(hf:∀b∈fp,xA X pins H b)(ho:∀b∈fp,∃o,s.heap.get? b=some o/\∀v,o.data≠.cell v):Inv X (pins++Lw fp s.heap) σ H s:=
 I.pins_of λp hp=>(θ.mp hp).elim (λz=>I.pin p (ζ _ z)) λz=>by
   obtain⟨hb,e⟩:=iT z
   obtain⟨f0,f1,f2,_⟩:=hf p.1 hb
   obtain⟨o,e',d⟩:=ho p.1 hb
   rw[e] at e';cases e'
   exact⟨e,f0,f1,f2,d⟩
theorem Inv.unpinned{pl:List (uH×Obj)}{σ:St}{s:uI}(I:Inv X (pins++pl) σ H s):Inv X pins σ H s:=I.pins_of λp hp=>I.pin p (ζ _ (μ _ hp))
theorem Db{iter:uN}{body:List uO}{wi:TI}{g:TG}{tb:TS}{pos:Pos}(hp:PassesOwn (vi X.prog X.w) X.A X.env X.xe)(hc:X.calm=true)(hi:PI X tg iter wi)(hg:PG X tg g)(hb:PSs X body tb)
   (hs:∀x,foldedSetIterable iter X.env x=pure x:=by intro _;rfl):PS X (.For tg iter body [] pos) (tFor wi g tb):=by
 intro pins s σ H D I h;refine wpAny_For (thn (hi pins s σ H _ I h) λv s1 h1=>thn h1 λitv s2 h2=>?_) hs;obtain⟨it,fp,tn,J,H2,e,I2,T,st2,f2,W,⟨m0,w0⟩,turn⟩:=h2;subst e
 have stat:∀{H':Hp},(∀b∈fp,H' b=none)->∀b∈fp,xA X pins H' b:=λhn b hb=>⟨hn b hb,(f2 b hb).2⟩
 refine codeAny_forLoop_any (λn s'=>∃i σ' H',Inv X pins σ' H' s'/\tn i s'.heap/\(∀b∈fp,H' b=none)/\W i n σ' H') ?_ m0 ⟨0,σ,H2,I2,st2,λb hb=>(f2 b hb).1,w0⟩;rintro n s3 ⟨i,σ3,H3,I3,st3,fr3,w3⟩;rcases turn i n σ3 H3 w3 with ⟨stop,qn⟩ | ⟨go,N,hN,step⟩
 . refine wpAny_passesOwn hp (thn (T.done X rfl rfl rfl hc i pins s3 σ3 H3 X.xe I3 (stat fr3) st3 stop) λr s4 hZ=>?_);obtain⟨hr,I4⟩:=hZ;subst hr;exact vn ⟨σ3,H3,I4,qn⟩
 . refine wpAny_passesOwn hp (thn (T.item X rfl rfl rfl hc i pins s3 σ3 H3 X.xe I3 (stat fr3) st3 go) λr s4 hZ=>?_);obtain⟨u,hr,h4⟩:=hZ;subst hr;refine wpAny_passesOwn hp (thn h4 λ_ s5 hZ=>?_);obtain⟨x,H5,I5,r5,y5,st5,fr5⟩:=hZ;have I5':=I5.pinned (stat fr5) (T.obj _ _ st5);refine wpAny_passesOwn hp (thn (hg _ s5 σ3 H5 x u _ I5' r5 (step x H5 y5)) λ_ s6 hZ=>?_);obtain⟨σ6,H6,I6,q6⟩:=hZ;refine wpAny_passesOwn hp (thn (hb _ s6 σ6 H6 _ I6 q6) λf s7 q7=>?_);have again:∀{σ7:St}{H7:Hp},Inv X (pins++Lw fp s5.heap) σ7 H7 s7->N σ7 H7->∃m,m<n/\∃i σ' H',Inv X pins σ' H' s7/\tn i s7.heap/\(∀b∈fp,H' b=none)/\W i m σ' H':=λ{σ7 H7} I7 n7=>by
     obtain⟨m',hm,w7⟩:=hN σ7 H7 n7;refine⟨m',hm,i+1,σ7,H7,I7.unpinned,T.keep _ _ _ st5 λb hb o e=>(I7.pin (b,o) (ζ _ (ζ _ (P3 hb e)))).1,λb hb=>?_,w7⟩;obtain⟨o,e,d⟩:=T.obj _ _ st5 b hb;exact(I7.pin (b,o) (ζ _ (ζ _ (P3 hb e)))).2.1
   cases f with
   | next=>obtain⟨σ7,H7,I7,n7⟩:=q7;exact again I7 n7
   | cont=>obtain⟨σ7,H7,I7,n7⟩:=q7;exact again I7 n7
   | brk=>obtain⟨σ7,H7,I7,q7⟩:=q7;exact⟨σ7,H7,I7.unpinned,q7⟩
   | ret v=>obtain⟨x7,σ7,H7,I7,r7,q7⟩:=q7;exact⟨x7,σ7,H7,I7.unpinned,r7,q7⟩
end
theorem Ey{K:δ}{a:uH}{xs:List V}{g:TG}{tb:TS}{D:Ends}{σ:St}(Pv:Nat->St->Hp->Prop)(h0:Pv 0 σ H)(hl:∀i σ H,i<=xs.length->Pv i σ H->SqL K H a xs)
   (hs:∀i x σ H,xs[i]?=some x->Pv i σ H->g x σ H λσ2 H2=>tb { D with nx:=Pv (i+1),ct:=Pv (i+1),bk:=D.nx } σ2 H2) (hd:∀σ H,Pv xs.length σ H->D.nx σ H):
   ∃W:Nat->Nat->St->Hp->Prop,(∃m,W 0 m σ H)/\∀i m σ H,W i m σ H ->
     ((Itl K a).stop i H/\D.nx σ H)\/((Itl K a).go i H/\∃N:St->Hp->Prop,(∀σ' H',N σ' H'->∃m',m'<m/\W (i+1) m' σ' H')/\∀x H',(Itl K a).yld i H x H'->g x σ H' λσ2 H2=>tb { D with nx:=N,ct:=N,bk:=D.nx } σ2 H2):=by
 refine⟨λi m σ H=>m=xs.length-i/\i<=xs.length/\Pv i σ H,⟨xs.length,by simp,dz _,h0⟩,?_⟩;rintro i m σ H ⟨rfl,hi,p⟩;have q:=hl i σ H hi p;by_cases hlt:i<xs.length
 . refine .inr ⟨⟨xs,xs[i],q,by simp [hlt]⟩,Pv (i+1),λσ' H' p'=>⟨xs.length-(i+1),by omega,rfl,hlt,p'⟩,λx H' y=>?_⟩;obtain⟨e,y⟩:=y;subst e;exact hs i x σ _ (y xs q) p
 . have e:i=xs.length:=by omega
   subst e;exact .inl ⟨⟨xs,q,ψ _⟩,hd σ H p⟩
theorem Sq{lo:Int}{n:Nat}{g:TG}{tb:TS}{D:Ends}{σ:St}(Pv:Nat->St->Hp->Prop)(h0:Pv 0 σ H)
   (hs:∀i σ H,i<n->Pv i σ H->g (.int (lo+i)) σ H λσ2 H2=>tb { D with nx:=Pv (i+1),ct:=Pv (i+1),bk:=D.nx } σ2 H2) (hd:∀σ H,Pv n σ H->D.nx σ H):
   ∃W:Nat->Nat->St->Hp->Prop,(∃m,W 0 m σ H)/\∀i m σ H,W i m σ H ->
     ((Itr lo n).stop i H/\D.nx σ H)\/((Itr lo n).go i H/\∃N:St->Hp->Prop,(∀σ' H',N σ' H'->∃m',m'<m/\W (i+1) m' σ' H')/\∀x H',(Itr lo n).yld i H x H'->g x σ H' λσ2 H2=>tb { D with nx:=N,ct:=N,bk:=D.nx } σ2 H2):=by
 refine⟨λi m σ H=>m=n-i/\i<=n/\Pv i σ H,⟨n,by simp,dz _,h0⟩,?_⟩;rintro i m σ H ⟨rfl,hi,p⟩;by_cases hlt:i<n
 . refine .inr ⟨hlt,Pv (i+1),λσ' H' p'=>⟨n-(i+1),by omega,rfl,hlt,p'⟩,λx H' y=>?_⟩;obtain⟨e,y⟩:=y;subst e y;exact hs i σ _ hlt p
 . have e:i=n:=by omega
   subst e;exact .inl ⟨ψ _,hd σ H p⟩
abbrev R2:=V->V->Hp->VK->Prop
def OpR(X:Cx)(f:uG->uG->vo uG)(r:R2):Prop:=
 ∀(pins:List (uH×Obj)) (s:uI) (σ:St) (H:Hp) (x y:V) (v u:uG) (Q:VK),Inv X pins σ H s->RelV x v->RelV y u->r x y H Q ->
   uY (vi X.prog X.w) X.A (f v u) (EP X pins σ Q) X.xe s
def UnR(X:Cx)(f:uG->vo uG)(r:V->Hp->VK->Prop):Prop:=
 ∀(pins:List (uH×Obj)) (s:uI) (σ:St) (H:Hp) (x:V) (v:uG) (Q:VK),Inv X pins σ H s->RelV x v->r x H Q ->
   uY (vi X.prog X.w) X.A (f v) (EP X pins σ Q) X.xe s
def D4(X:Cx)(f:uG)(r:List V->Hp->VK->Prop):Prop:=
 ∀(pins:List (uH×Obj)) (s:uI) (σ:St) (H:Hp) (xs:List V) (us:List uG) (Q:VK),Inv X pins σ H s->Vals xs us->r xs H Q ->
   uY (vi X.prog X.w) X.A (call f us) (EP X pins σ Q) X.xe s
def TruR(X:Cx)(r:V->Hp->(Bool->Hp->Prop)->Prop):Prop:=
 ∀(pins:List (uH×Obj)) (s:uI) (σ:St) (H:Hp) (x:V) (v:uG) (Q:Bool->Hp->Prop),Inv X pins σ H s->RelV x v->r x H Q ->
   uY (vi X.prog X.w) X.A (truthy v) (TP X pins σ Q) X.xe s
def tOp(r:R2)(ta tb:TE):TE:=λσ H Q=>ta σ H λx H1=>tb σ H1 λy H2=>r x y H2 Q
def tUn(r:V->Hp->VK->Prop)(ta:TE):TE:=λσ H Q=>ta σ H λx H1=>r x H1 Q
def rI(C:Int->Int->Prop)(g:Int->Int->V):R2:=λx y H Q=>∃i j,x = .int i/\y = .int j/\C i j/\Q (g i j) H
def rI0(g:Int->Int->V):R2:=λx y H Q=>∃i j,x = .int i/\y = .int j/\Q (g i j) H
def rU(g:Int->V):V->Hp->VK->Prop:=λx H Q=>∃i,x = .int i/\Q (g i) H
section
variable {X:Cx}{a b c:uN}{ta tb tc:TE}{pos:Pos}
theorem binT(ha:PE X a ta)(hb:PE X b tb){s:uI}{σ:St}{R:V->V->Hp->Prop}(I:Inv X pins σ H s)
   (h:ta σ H λx H1=>tb σ H1 λy H2=>R x y H2) {Q:uG->uI->Prop} {f:uG->uG->vo uG}
   (hf:∀v u s2 x y H2,Inv X pins σ H2 s2->RelV x v->RelV y u->R x y H2->uY (vi X.prog X.w) X.A (f v u) Q X.xe s2):
   uY (vi X.prog X.w) X.A (vh a X.env) (λv s₁=>uY (vi X.prog X.w) X.A (vh b X.env) (λu s₂=>uY (vi X.prog X.w) X.A (f v u) Q X.xe s₂) X.xe s₁) X.xe s:=by
 refine thn (ha pins s σ H _ I h) λv s1 hZ=>?_;obtain⟨x,H1,I1,r1,q1⟩:=hZ;refine thn (hb pins s1 σ H1 _ I1 q1) λu s2 hZ=>?_;obtain⟨y,H2,I2,r2,q2⟩:=hZ;exact hf v u s2 x y H2 I2 r1 r2 q2
theorem Am{op:Operator}{r:R2}(ho:OpR X (binaryOp op) r)(ha:PE X a ta)(hb:PE X b tb):PE X (.BinOp a op b pos) (tOp r ta tb):=by
 intro pins s σ H Q I h;exact wpAny_BinOp (binT ha hb I h λv u s2 x y H2 I2 rx ry q=>ho pins s2 σ H2 x y v u Q I2 rx ry q)
theorem Gp{op:UnaryOp}{r:V->Hp->VK->Prop}(ho:UnR X (unaryOp op) r)(ha:PE X a ta):PE X (.UnaryOp op a pos) (tUn r ta):=by
 intro pins s σ H Q I h;exact UnaryOp_ (thn (ha pins s σ H _ I h) λv s1 ⟨x,H1,I1,r1,q1⟩=>ho pins s1 σ H1 x v Q I1 r1 q1)
theorem opI{f:uG->uG->vo uG}{C:Int->Int->Prop}{g:Int->Int->Int}
   (rule:∀(i j:Int)(t u:Tok)(s:uI)(Q:uG->uI->Prop)(E:uG->uI->Prop),C i j->Q (.int (g i j) s.toks) { s with toks:=s.toks+1 }->uY (vi X.prog X.w) X.A (f (.int i t) (.int j u)) Q E s):
   OpR X f (rI C λi j=>.int (g i j)):=by
 intro pins s σ H x y v u Q I rx ry h;obtain⟨i,j,rfl,rfl,hc,q⟩:=h;obtain⟨t,rfl⟩:=rx;obtain⟨t',rfl⟩:=ry;exact rule i j t t' s _ _ hc ⟨.int (g i j),H,I.tok _,⟨_,rfl⟩,q⟩
theorem zt{f:uG->uG->vo uG}{g:Int->Int->Int}
   (rule:∀(i j:Int)(t u:Tok)(s:uI)(Q:uG->uI->Prop)(E:uG->uI->Prop),Q (.int (g i j) s.toks) { s with toks:=s.toks+1 }->uY (vi X.prog X.w) X.A (f (.int i t) (.int j u)) Q E s):
   OpR X f (rI0 λi j=>.int (g i j)):=by
 intro pins s σ H x y v u Q I rx ry h;obtain⟨i,j,rfl,rfl,q⟩:=h;obtain⟨t,rfl⟩:=rx;obtain⟨t',rfl⟩:=ry;exact rule i j t t' s _ _ ⟨.int (g i j),H,I.tok _,⟨_,rfl⟩,q⟩
theorem J_{f:uG->uG->vo uG}{g:Int->Int->Bool}
   (rule:∀(i j:Int)(t u:Tok)(s:uI)(Q:uG->uI->Prop)(E:uG->uI->Prop),Q (.bool (g i j)) s->uY (vi X.prog X.w) X.A (f (.int i t) (.int j u)) Q E s):
   OpR X f (rI0 λi j=>.bl (g i j)):=by
 intro pins s σ H x y v u Q I rx ry h;obtain⟨i,j,rfl,rfl,q⟩:=h;obtain⟨t,rfl⟩:=rx;obtain⟨t',rfl⟩:=ry;exact rule i j t t' s _ _ ⟨.bl (g i j),H,I,rfl,q⟩
def CDiv(i j:Int):Prop:=0<j/\j<1073741824
def CPow(i j:Int):Prop:=0<=j/\j<=1000000/\i.natAbs<2^64
def CMul(i j:Int):Prop:=(-(2^64)<i/\i<2^64)\/(-(2^64)<j/\j<2^64)
theorem CMul.ok{i j:Int}(h:CMul i j):IntMulOk i j:=by
 rcases h with ⟨h1,h2⟩ | ⟨h1,h2⟩
 . exact .of_left (intBits_le_64 h1 h2)
 . exact .of_right (intBits_le_64 h1 h2)
theorem iU(k:Nat):(0:Int)<=2^k:=by
 rw[two_pow_cast];exact Int.natCast_nonneg _
theorem AL:OpR X (binaryOp .Add) (rI0 λi j=>.int (i+j)):=zt λ_ _ _ _ _ _ _ q=>add_int q
theorem Bk:OpR X (binaryOp .Sub) (rI0 λi j=>.int (i-j)):=zt λ_ _ _ _ _ _ _ q=>sub_int q
theorem Dc:OpR X (binaryOp .Mult) (rI CMul λi j=>.int (i*j)):=opI λ_ _ _ _ _ _ _ hc q=>mul_int q hc.ok
theorem Ez:OpR X (binaryOp .FloorDiv) (rI CDiv λi j=>.int (i/j)):=opI λi j _ _ _ _ _ hc q=>by
 have h1:(0:Int)<j:=hc.1;have h2:j<1073741824:=hc.2;exact floordiv_int (by omega) (by rw[kr i (by omega)];exact q) (.inl (ly (by omega)))
theorem A6:OpR X (binaryOp .Mod) (rI (λ_ j=>0<j) λi j=>.int (i%j)):=opI λi j _ _ _ _ _ hc q=>by
 have h1:(0:Int)<j:=hc;exact mod_int' (by omega) (by rw[Int.fmod_eq_emod_of_nonneg i (by omega)];exact q)
theorem ZJ:OpR X (binaryOp .Pow) (rI CPow λi j=>.int (i^j.toNat)):=opI λ_ _ _ _ _ _ _ hc q=>pow_int_small hc.1 hc.2.1 hc.2.2 q
theorem zq:OpR X (binaryOp .RShift) (rI (λ_ j=>0<=j) λi j=>.int (i/2^j.toNat)):=opI λi j _ _ _ _ _ hc q=>
 rshift_int hc (by rw[kr i (iU _)];exact q)
theorem ZK:OpR X (binaryOp .BitAnd) (rI0 λi j=>.int (Builtin.bitAnd i j)):=zt λ_ _ _ _ _ _ _ q=>and_int q
theorem op_or:OpR X (binaryOp .BitOr) (rI0 λi j=>.int (Builtin.bitOr i j)):=zt λ_ _ _ _ _ _ _ q=>or_int q
theorem ZL:OpR X (binaryOp .BitXor) (rI0 λi j=>.int (Builtin.bitXor i j)):=zt λ_ _ _ _ _ _ _ q=>xor_int q
theorem unI{f:uG->vo uG}{g:Int->Int}
   (rule:∀(i:Int)(t:Tok)(s:uI)(Q:uG->uI->Prop)(E:uG->uI->Prop),Q (.int (g i) s.toks) { s with toks:=s.toks+1 }->uY (vi X.prog X.w) X.A (f (.int i t)) Q E s):
   UnR X f (rU λi=>.int (g i)):=by
 intro pins s σ H x v Q I rx h;obtain⟨i,rfl,q⟩:=h;obtain⟨t,rfl⟩:=rx;exact rule i t s _ _ ⟨.int (g i),H,I.tok _,⟨_,rfl⟩,q⟩
theorem Gq:UnR X (unaryOp .USub) (rU λi=>.int (-i)):=unI λ_ _ _ _ _ q=>neg_int q
end
def scal:V->V->Bool
 | .non,.non=>true | .non,.int _=>true | .int _,.non=>true | .non,.bl _=>true | .bl _,.non=>true | .non,.str _=>true | .str _,.non=>true
 | .int _,.int _=>true | .bl _,.bl _=>true | .str _,.str _=>true | .byt _,.byt _=>true
 | .int _,.str _=>true | .str _,.int _=>true | .bl _,.str _=>true | .str _,.bl _=>true
 | _,_=>false
def rEq:R2:=λx y H Q=>scal x y=true/\Q (.bl (decide (x=y))) H
def rNe:R2:=λx y H Q=>scal x y=true/\Q (.bl (!decide (x=y))) H
theorem P4{i j:Int}:decide (V.int i=V.int j)=(i==j):=by
 rw[cy];simp
theorem ZM{i j:Bool}:decide (V.bl i=V.bl j)=(i==j):=by
 rw[cy];simp
theorem Sr{i j:Str}:decide (V.str i=V.str j)=(i==j):=by
 rw[cy];simp
theorem ZN{i j:Array UInt8}:decide (V.byt i=V.byt j)=(i.toList==j.toList):=by
 rw[cy];cases i;cases j;simp
section
variable {X:Cx}{a b c:uN}{ta tb tc:TE}{pos:Pos}
theorem A8{σ:St}{s:uI}{Q:VK}{k k':Bool}(I:Inv X pins σ H s)(q:Q (.bl k) H)(e:k=k'):EP X pins σ Q (.bool k') s:=by
 subst e;exact⟨.bl k,H,I,rfl,q⟩
theorem AN:OpR X (vd .Eq) rEq:=by
 intro pins s σ H x y v u Q I rx ry h;obtain⟨hs,q⟩:=h;cases x with
 | non=>
   cases rx;cases y with
   | non=>cases ry;exact PySem.EqNone.eq_none_none (A8 I q (by simp))
   | bl j=>cases ry;exact PySem.EqNone.eq_none_bool (A8 I q (by simp))
   | int j=>obtain⟨t',rfl⟩:=ry;exact PySem.EqNone.eq_none_int (A8 I q (by simp))
   | str j=>obtain⟨t',rfl⟩:=ry;exact PySem.EqNone.eq_none_str (A8 I q (by simp))
   | _=>exact absurd (show false=true from hs) ν
 | bl i=>
   cases rx;cases y with
   | non=>cases ry;exact PySem.EqNone.eq_bool_none (A8 I q (by simp))
   | bl j=>cases ry;exact eq_bool (A8 I q ZM)
   | str j=>obtain⟨t',rfl⟩:=ry;exact PySem.EqMixed.eq_bool_str (A8 I q (by simp))
   | _=>exact absurd (show false=true from hs) ν
 | int i=>
   obtain⟨t,rfl⟩:=rx;cases y with
   | non=>cases ry;exact PySem.EqNone.eq_int_none (A8 I q (by simp))
   | int j=>obtain⟨t',rfl⟩:=ry;exact eq_int (A8 I q P4)
   | str j=>obtain⟨t',rfl⟩:=ry;exact PySem.EqMixed.eq_int_str (A8 I q (by simp))
   | _=>exact absurd (show false=true from hs) ν
 | str i=>
   obtain⟨t,rfl⟩:=rx;cases y with
   | non=>cases ry;exact PySem.EqNone.eq_str_none (A8 I q (by simp))
   | bl j=>cases ry;exact PySem.EqMixed.eq_str_bool (A8 I q (by simp))
   | int j=>obtain⟨t',rfl⟩:=ry;exact PySem.EqMixed.eq_str_int (A8 I q (by simp))
   | str j=>obtain⟨t',rfl⟩:=ry;exact eq_str (A8 I q Sr)
   | _=>exact absurd (show false=true from hs) ν
 | byt i=>
   obtain⟨t,rfl⟩:=rx;cases y with
   | byt j=>obtain⟨t',rfl⟩:=ry;exact PySem.W.eq_bytes (A8 I q ZN)
   | _=>exact absurd (show false=true from hs) ν
 | _=>cases y <;> exact absurd (show false=true from hs) ν
theorem CU:OpR X (vd .NotEq) rNe:=by
 intro pins s σ H x y v u Q I rx ry h;obtain⟨hs,q⟩:=h;cases x with
 | non=>
   cases rx;cases y with
   | non=>cases ry;exact PySem.EqNone.ne_none_none (A8 I q (by simp))
   | bl j=>cases ry;exact PySem.EqNone.ne_none_bool (A8 I q (by simp))
   | int j=>obtain⟨t',rfl⟩:=ry;exact PySem.EqNone.ne_none_int (A8 I q (by simp))
   | str j=>obtain⟨t',rfl⟩:=ry;exact PySem.EqNone.ne_none_str (A8 I q (by simp))
   | _=>exact absurd (show false=true from hs) ν
 | bl i=>
   cases rx;cases y with
   | non=>cases ry;exact PySem.EqNone.ne_bool_none (A8 I q (by simp))
   | bl j=>cases ry;exact ne_bool (A8 I q (congrArg not ZM))
   | str j=>obtain⟨t',rfl⟩:=ry;exact PySem.EqMixed.ne_bool_str (A8 I q (by simp))
   | _=>exact absurd (show false=true from hs) ν
 | int i=>
   obtain⟨t,rfl⟩:=rx;cases y with
   | non=>cases ry;exact PySem.EqNone.ne_int_none (A8 I q (by simp))
   | int j=>obtain⟨t',rfl⟩:=ry;exact ne_int (A8 I q (congrArg not P4))
   | str j=>obtain⟨t',rfl⟩:=ry;exact PySem.EqMixed.ne_int_str (A8 I q (by simp))
   | _=>exact absurd (show false=true from hs) ν
 | str i=>
   obtain⟨t,rfl⟩:=rx;cases y with
   | non=>cases ry;exact PySem.EqNone.ne_str_none (A8 I q (by simp))
   | bl j=>cases ry;exact PySem.EqMixed.ne_str_bool (A8 I q (by simp))
   | int j=>obtain⟨t',rfl⟩:=ry;exact PySem.EqMixed.ne_str_int (A8 I q (by simp))
   | str j=>obtain⟨t',rfl⟩:=ry;exact ne_str (A8 I q (congrArg not Sr))
   | _=>exact absurd (show false=true from hs) ν
 | byt i=>
   obtain⟨t,rfl⟩:=rx;cases y with
   | byt j=>obtain⟨t',rfl⟩:=ry;exact PySem.W.ne_bytes (A8 I q (congrArg not ZN))
   | _=>exact absurd (show false=true from hs) ν
 | _=>cases y <;> exact absurd (show false=true from hs) ν
theorem Ct:OpR X (vd .Lt) (rI0 λi j=>.bl (decide (i<j))):=J_ λ_ _ _ _ _ _ _ q=>lt_int q
theorem Lx:OpR X (vd .LtE) (rI0 λi j=>.bl (decide (i<=j))):=J_ λ_ _ _ _ _ _ _ q=>le_int q
theorem DT:OpR X (vd .Gt) (rI0 λi j=>.bl (decide (j<i))):=J_ λ_ _ _ _ _ _ _ q=>gt_int q
theorem Gr:OpR X (vd .GtE) (rI0 λi j=>.bl (decide (j<=i))):=J_ λ_ _ _ _ _ _ _ q=>ge_int q
theorem Ly:OpR X (vd .Is) (λx y H Q=>y = .non/\Q (.bl (decide (x = .non))) H):=by
 intro pins s σ H x y v u Q I rx ry h;obtain⟨rfl,q⟩:=h;cases ry;refine is_none_gen (A8 I q ?_);cases x <;> first
   | (cases rx;rfl)
   | (obtain⟨t,rfl⟩:=rx;rfl)
theorem Ss:OpR X (vd .IsNot) (λx y H Q=>y = .non/\Q (.bl (!decide (x = .non))) H):=by
 intro pins s σ H x y v u Q I rx ry h;obtain⟨rfl,q⟩:=h;cases ry;refine isnot_none_gen (A8 I q ?_);cases x <;> first
   | (cases rx;rfl)
   | (obtain⟨t,rfl⟩:=rx;rfl)
theorem Ap(b:uN){op:CmpOp}(h:op≠.In:=by decide)(h2:op≠.NotIn:=by decide):behindInMarks op b=false:=by
 have e1:(op==CmpOp.In)=false:=by cases op <;> first | rfl | exact absurd rfl h
 have e2:(op==CmpOp.NotIn)=false:=by cases op <;> first | rfl | exact absurd rfl h2
 cases b <;> simp [behindInMarks,e1,e2]
theorem CV{op:CmpOp}{r:R2}(ho:OpR X (vd op) r)(ha:PE X a ta)(hb:PE X b tb)(hm:behindInMarks op b=false:=by exact Ap _):PE X (.Compare a [op] [b] pos) (tOp r ta tb):=by
 intro pins s σ H Q I h;exact wpAny_Compare1 (binT ha hb I h λv u s2 x y H2 I2 rx ry q=>ho pins s2 σ H2 x y v u Q I2 rx ry q) hm
def yI(t:TE):TT:=λσ H Q=>t σ H λx H'=>∃k,x = .bl k/\Q k H'
theorem As{op:CmpOp}{r:R2}(ho:OpR X (vd op) r)(ha:PE X a ta)(hb:PE X b tb)(hm:behindInMarks op b=false:=by exact Ap _):PT X (.Compare a [op] [b] pos) (yI (tOp r ta tb)):=by
 intro pins s σ H Q I h;refine wpAny_isTrue_Compare1 (thn (ha pins s σ H _ I h) λv s1 ⟨x,H1,I1,r1,q1⟩=>thn (hb pins s1 σ H1 _ I1 q1) λu s2 ⟨y,H2,I2,r2,q2⟩=>
   thn (ho pins s2 σ H2 x y v u _ I2 r1 r2 q2) λc s3 ⟨z,H3,I3,r3,k,e,q3⟩=>?_) hm
 subst e;cases r3;exact vk ⟨H3,I3,q3⟩
def E_(K:δ)(x:V)(H:Hp)(k:Bool):Prop:=
 match x with
 | .non=>k=false
 | .bl b=>k=b
 | .int i=>k=(i != 0)
 | .str y=>y.length<=uU/\k=((y.length:Int) != 0)
 | .byt y=>y.size<=uU/\k=((y.size:Int) != 0)
 | .ref p=>(∃xs,SqL K H p xs/\k = !xs.isEmpty)\/(∃xs,SqT K H p xs/\k = !xs.isEmpty)\/∃kvs,H p=some (.dK kvs)/\k = !kvs.isEmpty
 | _=>False
theorem iV{κ:Type}{kvs:List (κ×V)}{vs:List (κ×uG)}(r:KV kvs vs):(!vs.isEmpty) = !kvs.isEmpty:=by
 cases r <;> rfl
theorem ZO{xs:List V}{its:List uG}(r:Vals xs its):(!its.toArray.isEmpty) = !xs.isEmpty:=by
 cases r <;> simp
theorem Lz:(uU:Nat)<2^63:=by rw[sizeLine_eq];decide
theorem yE:TruR X (λx H Q=>∃k,E_ X.K x H k/\Q k H):=by
 intro pins s σ H x v Q I rx h;obtain⟨k,e,q⟩:=h;have hl:=Lz;have hs:uU=16777216:=sizeLine_eq;cases x with
 | non=>
   cases rx;have e':k=false:=e;subst e';exact truthy_none ⟨H,I,q⟩
 | bl b=>
   cases rx;have e':k=b:=e;subst e';exact vk ⟨H,I,q⟩
 | int i=>
   obtain⟨t,rfl⟩:=rx;have e':k=(i != 0):=e;subst e';exact PySem.P.truthy_int ⟨H,I,q⟩
 | str y=>
   obtain⟨t,rfl⟩:=rx;obtain⟨hy,e'⟩:y.length<=uU/\k=((y.length:Int) != 0):=e;subst e';exact PySem.P.truthy_str (by omega) ⟨H,I.tok _,q⟩
 | byt y=>
   obtain⟨t,rfl⟩:=rx;obtain⟨hy,e'⟩:y.size<=uU/\k=((y.size:Int) != 0):=e;subst e';exact PySem.W.truthy_bytes (by omega) ⟨H,I.tok _,q⟩
 | ref p=>
   cases rx;have e':(∃xs,SqL X.K H p xs/\k = !xs.isEmpty)\/(∃xs,SqT X.K H p xs/\k = !xs.isEmpty)\/∃kvs,H p=some (.dK kvs)/\k = !kvs.isEmpty:=e;rcases e' with ⟨xs,hx,e'⟩ | ⟨xs,hx,e'⟩ | ⟨kvs,hx,e'⟩
   . subst e';obtain⟨its,r,pl,hz⟩:=I.list hx;have hlen:=r.length;exact wpAny_truthy_list pl.isList (by simp only [Δ];omega) ⟨H,I.tok _,by rw[ZO r];exact q⟩
   . subst e';obtain⟨its,r,pl,hz⟩:=I.tuple hx;have hlen:=r.length;exact truthy_tuple pl (by simp only [Δ];omega) ⟨H,I.tok _,by rw[ZO r];exact q⟩
   . subst e';obtain⟨hz,hS,vs,r,m⟩:kvs.length<=uU/\(p==sysModules)=false/\∃vs,KV kvs vs/\s.heap.DictOf (Ci X.prog X.w) p vs:=I.hok p _ hx;have hlen:kvs.length=vs.length:=Paired.length r;exact wpAny_truthy_dict hS m (by omega) ⟨H,I.tok _,by rw[iV r];exact q⟩
 | _=>exact(show False from e).elim
theorem BV(ha:PE X a ta)(he:∀whole,isTrue a X.env whole=(do let v <-whole;standAt a.pos;holding [v] (truthy v))):
   PT X a (λσ H Q=>ta σ H λx H'=>∃k,E_ X.K x H' k/\Q k H'):=by
 intro pins s σ H Q I h;exact isTrue_plain (thn (ha pins s σ H _ I h) λv s1 ⟨x,H1,I1,r1,q1⟩=>yE pins s1 σ H1 x v Q I1 r1 q1) (he _)
theorem P5{x:V}{us:List uG}(r:Vals [x] us):∃u,us=[u]/\RelV x u:=by
 cases r with
 | cons r1 r2=>cases r2;exact⟨_,rfl,r1⟩
theorem Su{x y:V}{us:List uG}(r:Vals [x,y] us):∃u w',us=[u,w']/\RelV x u/\RelV y w':=by
 cases r with
 | cons r1 r2=>
   cases r2 with
   | cons r3 r4=>cases r4;exact⟨_,_,rfl,r1,r3⟩
theorem iW(hc:X.calm=true):D4 X (.builtin "max") (λxs H Q=>∃i j,xs=[.int i,.int j]/\Q (.int (if j>i then j else i)) H):=by
 intro pins s σ H xs us Q I r h;obtain⟨i,j,rfl,q⟩:=h;obtain⟨u,w',rfl,⟨t,rfl⟩,⟨t',rfl⟩⟩:=Su r;refine max_two_ints (I.ok.hd hc) λh' tk k=>⟨_,H,I.kept k,?_,q⟩
 by_cases hj:j>i
 . rw[if_pos hj,if_pos hj];exact⟨_,rfl⟩
 . rw[if_neg hj,if_neg hj];exact⟨_,rfl⟩
theorem Sv(hc:X.calm=true):D4 X (.builtin "min") (λxs H Q=>∃i j,xs=[.int i,.int j]/\Q (.int (if j<i then j else i)) H):=by
 intro pins s σ H xs us Q I r h;obtain⟨i,j,rfl,q⟩:=h;obtain⟨u,w',rfl,⟨t,rfl⟩,⟨t',rfl⟩⟩:=Su r;refine min_two_ints (I.ok.hd hc) λh' tk k=>⟨_,H,I.kept k,?_,q⟩
 by_cases hj:j<i
 . rw[if_pos hj,if_pos hj];exact⟨_,rfl⟩
 . rw[if_neg hj,if_neg hj];exact⟨_,rfl⟩
end
structure ObjM(h:vq)(x dx C:uH)(mA:Str->Option uG):Prop where
 obj:h.get? x=some (instObj C dx)
 ns:h.Ns1 dx mA
 ne:dx≠x
theorem iX{h:vq}{dx:uH}{mA:Str->Option uG}(n:h.Ns1 dx mA):∃od,h.get? dx=some od/\∀name,lookIn name od=some (mA name):=by
 obtain⟨o,es,ep,ho,hd,hk,_,hm⟩:=n;refine⟨o,ho,λname=>?_⟩;have e:=hm name;unfold nsFind findBy at e;rw[<-Array.find?_toList] at e;unfold lookIn;rw[hd];dsimp only
 split
 . rename_i y q;rw[q] at e;exact congrArg some e
 . rename_i q;rw[q] at e;have a:es.toList.any (·.refKey)=false:=by
     rw[je];intro y hy;obtain⟨z,t,hkey⟩:=hk y (Array.mem_toList_iff.mp hy);simp [DictEntry.refKey,hkey]
   have a':¬es.toList.any (·.refKey)=true:=by rw[a];exact ν
   rw[if_neg a'];exact congrArg some e
theorem ObjM.look{h:vq}{x dx C:uH}{mA:Str->Option uG}(I:ObjM h x dx C mA):∃od,PySem.W.InstAt h x (instObj C dx) C (some od)/\∀name,lookIn name od=some (mA name):=
 let ⟨od,ho,hl⟩:=iX I.ns
 ⟨od,⟨I.obj,rfl,rfl,ho⟩,hl⟩
section
variable {prog:uK}{w:uL}{A:uM}{E:uG->uI->Prop}{s:uI}{K:δ}{x dx C f:uH}{mA:Str->Option uG}{name:Str}{v:uG}
theorem yi{expr:Bool}{Q:uG->uI->Prop}(X:K.In s.heap)(I:ObjM s.heap x dx C mA)(hg:plainGet K C name=true)(hh:hasDictIn K C=true)
   (ha:bo K (.ref C) name=some none) (hv:mA name=some v) (hv':handedIn v=true) (h:Q v { s with toks:=s.toks+1 }):
   uY (vi prog w) A (getAttr (.ref x) name expr) Q E s:=by
 obtain⟨od,J,hl⟩:=I.look;exact PySem.W.get_value X J (plainGet_of hg).1 (PySem.W.findObj_own hh ha rfl (by rw[hl,hv])) hv' h
theorem iY{pl:vo Bool}{Q:uG×List uG->uI->Prop}(X:K.In s.heap)(I:ObjM s.heap x dx C mA)(hg:plainGet K C name=true)
   (hf:bo K (.ref C) name=some (some (.ref f))) (ht:isFn K (.ref f)=true) (hv:mA name=none) (h:Q (.ref f,[.ref x]) s):
   uY (vi prog w) A (getMethod (.ref x) name pl) Q E s:=by
 obtain⟨od,J,hl⟩:=I.look;exact PySem.W.method_fn X J (plainGet_of hg).1 (plainGet_of hg).2 hf (beq_iff_eq.mp ht) (by show (lookIn name od).map (·.isSome)=some false;rw[hl,hv];rfl) h
theorem iZ{ns:List Str}{Q:Unit->uI->Prop}(X:K.In s.heap)(I:ObjM s.heap x dx C mA)
   (hs:bo K (.ref C) "__setattr__"=some (some (.builtin "object.__setattr__"))) (hp:plainOver K C=true) (ht:takerIn K C name=some none) (hh:hasDictIn K C=true)
   (hw:kf mA ns) (hsz:ns.length<=uU)
   (h:∀h',ObjM h' x dx C (λy=>if y=name then some v else mA y)->lx dx s.heap h'->Q () { s with heap:=h',toks:=s.toks+2 }):
   uY (vi prog w) A (setAttr (.ref x) name v) Q E s:=by
 obtain⟨od,J,hl⟩:=I.look;refine PySem.W.set_plain X J hs (PySem.W.osa_open (s:={ s with toks:=s.toks+1 }) (r:=none) X J hp ht λb=>?_);obtain⟨cd,hc,hd'⟩:=PySem.W.any_some hh;have hx:s.heap.get? x=some ⟨.ref C,some dx,.plain,#[]⟩:=I.obj;refine uV (uW (uV (uV (wpAny_loadPart hx (uV (og.here (s:={ s with toks:=s.toks+1 }) (PySem.W.looks_clsIn X hc) ?_))))));rw[hd'];refine uW (a:=some dx) (uV (uW (uV ?_)));refine wpAny_nsSet1 (s:={ s with toks:=s.toks+1 }) I.ns λh' hn2 hs2=>?_;obtain⟨oD,esD,epD,hoD,hdD,hcD⟩:=hn2.count (kf.cons name v hw);refine uV (wpAny_lookBehind hoD (by rw[hdD];exact pastItsLine_dict (de hcD (by rw[am];omega))) ?_);exact uW (h _ ⟨(hs2.2 _ (dn I.ne)).trans I.obj,hn2,I.ne⟩ hs2)
theorem jA{R:Result->uI->Prop}{vs:List uG}{kw:List (Str×uG)}(X:K.In s.heap)(hm:makesIn K C=true)
   (hi:bo K (.ref C) "__init__"=some (some (.ref f))) (hf:PySem.W.typeIn K (.ref f)=some (.type "function"))
   (h:codeAny (vi prog w) (A.under (.builtin "type.__call__" ⟨.ref C::vs,kw⟩)) (.call (.ref f) ⟨.ref (s.heap.objs.size+1)::vs,kw⟩) (PySem.W.InitBack (s.heap.objs.size+1) R)
     { s with heap:=(s.heap.push emptyDict).push (instObj C s.heap.objs.size) }):
   codeAny (vi prog w) A (.call (.ref C) ⟨vs,kw⟩) R s:=by
 obtain⟨hh,g,d,t,os⟩:=s;exact PySem.W.make_core (PySem.W.makes_of X hm) (nc X hi) (λself=>PySem.W.bind_fn X self hf) (.inl rfl) h
end
def xc(f:Str)(v:V):List (Str×V)->List (Str×V)
 | []=>[(f,v)]
 | (g,x)::r=>if g=f then (g,v)::r else (g,x)::xc f v r
theorem ZP(f g:Str)(v:V):∀fs:List (Str×V),(xc f v fs).lookup g=if g=f then some v else fs.lookup g
 | []=>by
   show gz g [(f,v)]=_
   by_cases h:g=f
   . have hb:(g==f)=true:=beq_iff_eq.mpr h
     simp only [gz,hb,if_pos h]
   . have hb:(g==f)=false:=beq_eq_false_iff_ne.mpr h
     simp only [gz,hb,if_neg h]
 | (k,x)::r=>by
   have ih:=ZP f g v r
   rw[show xc f v ((k,x)::r)=(if k=f then (k,v)::r else (k,x)::xc f v r) from rfl]
   by_cases hk:k=f
   . rw[if_pos hk]
     by_cases h:g=k
     . have hb:(g==k)=true:=beq_iff_eq.mpr h
       simp only [gz,hb,if_pos (h.trans hk)]
     . have hb:(g==k)=false:=beq_eq_false_iff_ne.mpr h
       simp only [gz,hb,if_neg (λe:g=f=>h (e.trans hk.symm))]
   . rw[if_neg hk]
     by_cases h:g=k
     . have hb:(g==k)=true:=beq_iff_eq.mpr h
       simp only [gz,hb,if_neg (λe:g=f=>hk (h.symm.trans e))]
     . have hb:(g==k)=false:=beq_eq_false_iff_ne.mpr h
       simp only [gz,hb]
       exact ih
theorem Sw(f:Str)(v:V):∀fs:List (Str×V),f∈(xc f v fs).map (·.1)/\∀g,g∈fs.map (·.1)->g∈(xc f v fs).map (·.1)
 | []=>⟨by simp [xc],λg h=>by simp at h⟩
 | (k,x)::r=>by
   obtain⟨i1,i2⟩:=Sw f v r
   rw[show xc f v ((k,x)::r)=(if k=f then (k,v)::r else (k,x)::xc f v r) from rfl]
   by_cases hk:k=f
   . rw[if_pos hk]
     subst hk
     exact⟨by simp,λg h=>by simpa using h⟩
   . rw[if_neg hk]
     refine⟨?_,λg h=>?_⟩
     . rw[av]
       exact ρ _ i1
     . rw[av] at h ⊢
       rcases Φ.mp h with e | e
       . exact Φ.mpr (.inl e)
       . exact ρ _ (i2 g e)
theorem ZQ(f:Str)(v:V):∀fs:List (Str×V),(xc f v fs).length<=fs.length+1
 | []=>by simp [xc]
 | (k,x)::r=>by
   have ih:=ZQ f v r
   rw[show xc f v ((k,x)::r)=(if k=f then (k,v)::r else (k,x)::xc f v r) from rfl]
   by_cases hk:k=f
   . rw[if_pos hk,am,am];omega
   . rw[if_neg hk,am,am];omega
theorem RelO.some_of{v:V}{o:Option uG}(r:RelO (some v) o):∃u,o=some u/\RelV v u:=by
 cases o with
 | none=>exact(show False from r).elim
 | some u=>exact⟨u,rfl,r⟩
theorem RelO.none_of{o:Option uG}(r:RelO none o):o=none:=by
 cases o with
 | none=>rfl
 | some u=>exact(show False from r).elim
theorem jB{v:V}{u:uG}(r:RelV v u):handedIn u=true:=by
 cases v with
 | non=>cases (show u=Value.none from r);rfl
 | bl b=>cases (show u=Value.bool b from r);rfl
 | int i=>obtain⟨t,e⟩:=(show ∃t,u=Value.int i t from r);cases e;rfl
 | str x=>obtain⟨t,e⟩:=(show ∃t,u=Value.str x t from r);cases e;rfl
 | byt b=>obtain⟨t,e⟩:=(show ∃t,u=Value.bytes b t from r);cases e;rfl
 | flt b=>obtain⟨t,e⟩:=(show ∃t,u=Value.float b t from r);cases e;rfl
 | ref a=>cases (show u=Value.ref a from r);rfl
 | ty n=>cases (show u=Value.type n from r);rfl
section
variable {P:uK}{w:uL}{H H':Hp}{h h':vq}{a C dx:uH}{fs fs':List (Str×V)}
theorem P6(hok:HOk P w H h)(e:H a=some (.ins C dx fs)):∃mA,ObjM h a dx C mA/\(∀f,RelO (fs.lookup f) (mA f))/\kf mA (fs.map (·.1))/\fs.length<=1000/\H dx=some (.own a):=by
 obtain⟨d,z,ne,ob,mA,n,r,q⟩:=(show Br P w H h a (.ins C dx fs) from hok a _ e)
 exact⟨mA,⟨ob,n,ne⟩,r,q,z,d⟩
end
structure Cls(K:δ)(C:uH):Prop where
 pg:plainGet K C Str.empty=true
 hd:hasDictIn K C=true
 po:plainOver K C=true
 sa:bo K (.ref C) "__setattr__"=some (some (.builtin "object.__setattr__"))
theorem Cls.get{K:δ}{C:uH}(c:Cls K C)(f:Str):plainGet K C f=true:=c.pg
def BX(K:δ)(C:uH)(f:Str):Prop:=bo K (.ref C) f=some none
theorem BX.taker{K:δ}{C:uH}{f:Str}(n:BX K C f):takerIn K C f=some none:=by
 unfold takerIn;rw[show bo K (.ref C) f=some none from n];rfl
structure Con(K:δ)(C:uH)(f:Str)(v:V)(u:uG):Prop where
 at_:bo K (.ref C) f=some (some u)
 rel:RelV v u
 get:specialIn K u "__get__"=some none
 cp:PySem.W.copiedNames.contains f=false
structure wT(K:δ)(C:uH)(m:Str)(f:uH):Prop where
 at_:bo K (.ref C) m=some (some (.ref f))
 fn:isFn K (.ref f)=true
 kp:keepIn K (.ref f)=true
section
variable {X:Cx}{pins:List (uH×Obj)}{σ:St}{H:Hp}{s:uI}{a C dx:uH}{fs:List (Str×V)}{f:Str}{v:V}{A:uM}{E:uG->uI->Prop}
theorem jC{b:Bool}{Q:uG->uI->Prop}(I:Inv X pins σ H s)(e:H a=some (.ins C dx fs))(c:Cls X.K C)(n:BX X.K C f)(l:fs.lookup f=some v)
   (h:∀u s',Inv X pins σ H s'->RelV v u->Q u s'):uY (vi X.prog X.w) A (getAttr (.ref a) f b) Q E s:=by
 obtain⟨mA,O,r,_,_,_⟩:=P6 I.hok e;obtain⟨u,hu,ru⟩:=RelO.some_of (v:=v) (o:=mA f) (by rw[<-l];exact r f);exact yi I.kIn O (c.get f) c.hd n hu (jB ru) (h u _ (I.tok _) ru)
theorem P7{m:Str}{g:uH}{pl:vo Bool}{Q:uG×List uG->uI->Prop}(I:Inv X pins σ H s)(e:H a=some (.ins C dx fs))(c:Cls X.K C)(k:wT X.K C m g)(l:fs.lookup m=none)
   (h:Q (.ref g,[.ref a]) s):uY (vi X.prog X.w) A (getMethod (.ref a) m pl) Q E s:=by
 obtain⟨mA,O,r,_,_,_⟩:=P6 I.hok e;have hn:mA m=none:=RelO.none_of (by rw[<-l];exact r m);exact iY I.kIn O (c.get m) k.at_ k.fn hn h
theorem jD{y:V}{u:uG}{Q:Unit->uI->Prop}(I:Inv X pins σ H s)(e:H a=some (.ins C dx fs))(c:Cls X.K C)(n:BX X.K C f)(hl:fs.length<1000)(ry:RelV y u)
   (h:∀s',Inv X pins σ (upd H a (.ins C dx (xc f y fs))) s'->Q () s'):uY (vi X.prog X.w) A (setAttr (.ref a) f u) Q E s:=by
 obtain⟨mA,O,r,wi,_,ho⟩:=P6 I.hok e;have hz:(fs.map (·.1)).length<=uU:=by rw[Ξ,sizeLine_eq];omega
 refine iZ I.kIn O c.sa c.po n.taker c.hd wi hz λh' O' sb=>h _ ?_;have hd:∃o,h'.get? dx=some o:=let ⟨o,_,_,e',_⟩:=O'.ns;⟨o,e'⟩;refine I.write (x:=a) (e:=dx) (by rw[e];exact bh) (.inr ho) (λb q hb z=>(sb.2 b hb).trans z) hd ?_;refine⟨by rw[AI O.ne];exact ho,?_,O.ne,O'.obj,_,O'.ns,λg=>?_,λg hg=>?_⟩
 . have:=ZQ f y fs;omega
 . show RelO ((xc f y fs).lookup g) (if g=f then some u else mA g);rw[ZP];by_cases q:g=f
   . rw[if_pos q,if_pos q];exact ry
   . rw[if_neg q,if_neg q];exact r g
 . by_cases q:g=f
   . rw[q];exact(Sw f y fs).1
   . refine(Sw f y fs).2 g (wi g λz=>hg ?_);show (if g=f then some u else mA g)=none;rw[if_neg q];exact z
theorem Inv.made(I:Inv X pins σ H s):Inv X pins σ (upd (upd H s.heap.objs.size (.own (s.heap.objs.size+1))) (s.heap.objs.size+1) (.ins C s.heap.objs.size []))
   { s with heap:=(s.heap.push emptyDict).push (instObj C s.heap.objs.size) }:=by
 have e1:(s.heap.push emptyDict).get? s.heap.objs.size=some emptyDict:=bc s.heap rfl;have e2:((s.heap.push emptyDict).push (instObj C s.heap.objs.size)).get? (s.heap.objs.size+1)=some (instObj C s.heap.objs.size):=by
   have:=bc (s.heap.push emptyDict) (o:=instObj C s.heap.objs.size) rfl
   rwa [jf] at this
 have e3:(s.heap.push emptyDict).Ns s.heap.objs.size (λ_=>none):=⟨emptyDict,#[],_,e1,rfl,(λe he=>absurd he (by simp)),λ_=>rfl⟩
 have I1:=I.laid (a:=s.heap.objs.size) (o:=.own (s.heap.objs.size+1)) (h':=s.heap.push emptyDict) (t':=s.toks) (λb u q=>Γ _ q) (ψ _) ⟨_,e1⟩;refine I1.laid (a:=s.heap.objs.size+1) (o:=.ins C s.heap.objs.size []) (t':=s.toks) (λb u q=>Γ _ q) (rp (jf _ _)) ?_;have ne:s.heap.objs.size≠s.heap.objs.size+1:=bu (jr _);refine⟨by rw[AI ne,upd_same],dz _,ne,e2,λ_=>none,(uz.of_empty e3).at λo q=>Γ _ q,λ_=>bh,λy hy=>absurd rfl hy⟩
theorem yy{prog:uK}{w:uL}{env:vt}{e:uN}{f:Str}{pos:Pos}{s:uI}{Q:uG->uI->Prop}(hb:attributeBase e f env (vh e env)=vh e env)
   (h:uY (vi prog w) A (vh e env) (λo s₁=>uY (vi prog w) A (getAttr o f true) Q E s₁) E s):uY (vi prog w) A (vh (.Attribute e f pos) env) Q E s:=
 Attribute_any_ h (by rw[arm_eval_Attribute,hb])
end
def tFld(K:δ)(ta:TE)(f:Str):TE:=λσ H Q=>ta σ H λx H1=>∃a C dx fs v,x = .ref a/\H1 a=some (.ins C dx fs)/\Cls K C/\BX K C f/\fs.lookup f=some v/\Q v H1
def sFld(K:δ)(ta tv:TE)(f:Str):TS:=λD σ H=>tv σ H λy H1=>ta σ H1 λx H2=>∃a C dx fs,x = .ref a/\H2 a=some (.ins C dx fs)/\Cls K C/\BX K C f/\fs.length<1000 /\
 D.nx σ (upd H2 a (.ins C dx (xc f y fs)))
section
variable {X:Cx}{o e value:uN}{f:Str}{pos pos' tpos:Pos}{ta tv:TE}
theorem BO(he:PE X e ta)(hb:attributeBase e f X.env (vh e X.env)=vh e X.env):PE X (.Attribute e f pos) (tFld X.K ta f):=by
 intro pins s σ H Q I h;refine yy hb (thn (he pins s σ H _ I h) λu s1 hZ=>?_);obtain⟨x,H1,I1,rx,a,C,dx,fs,v,ex,ea,c,n,l,q⟩:=hZ;subst ex;obtain rfl:u=Value.ref a:=rx;exact jC I1 ea c n l λu' s2 I2 ru=>⟨v,H1,I2,ru,q⟩
theorem Cz(ha:PE X o ta)(hv:PE X value tv)(hs:swapsWith value (some (.Attribute o f pos')) pos.line X.env=pure false):PS X (.Assign [.Attribute o f pos'] value pos) (sFld X.K ta tv f):=by
 intro pins s σ H D I h;refine plainObj_wpAny_Assign_Attribute (thn (hv pins s σ H _ I h) λu s1 ⟨y,H1,I1,ry,q⟩=>thn (ha pins s1 σ H1 _ I1 q) λov s2 hZ=>?_) hs;obtain⟨x,H2,I2,rx,a,C,dx,fs,ex,ea,c,n,l,q2⟩:=hZ;subst ex;obtain rfl:ov=Value.ref a:=rx;exact jD I2 ea c n l ry λs3 I3=>⟨σ,_,I3,q2⟩
end
section
variable {X:Cx}{pins:List (uH×Obj)}{σ:St}{H:Hp}{s:uI}{A:uM}{E:uG->uI->Prop}{Q:uG->uI->Prop}{c:uG}{b:Bool}
inductive TyOf(K:δ)(H:Hp):V->uG->Prop where
 | non:TyOf K H .non (.type "NoneType")
 | bl (x:Bool):TyOf K H (.bl x) (.type "bool")
 | int (i:Int):TyOf K H (.int i) (.type "int")
 | str (x:Str):TyOf K H (.str x) (.type "str")
 | flt (x:UInt64):TyOf K H (.flt x) (.type "float")
 | lst {a:uH} {xs:List V} (e:H a=some (.lst xs)):TyOf K H (.ref a) (.type "list")
 | frz {a:uH} {o:Obj} {xs:List V} (e:H a=some (.frz o (.lst xs))):TyOf K H (.ref a) (.type "list")
 | tup {a:uH} {xs:List V} (e:H a=some (.tup xs)):TyOf K H (.ref a) (.type "tuple")
 | dK {a:uH} {kvs:List (Key×V)} (e:H a=some (.dK kvs)):TyOf K H (.ref a) (.type "dict")
 | dT {a:uH} {kvs:List (List Key×V)} (e:H a=some (.dT kvs)):TyOf K H (.ref a) (.type "dict")
 | ins {a C dx:uH} {fs:List (Str×V)} (e:H a=some (.ins C dx fs)) (cl:Cls K C) (ha:bo K (.ref C) "__class__"=some (some (.builtin "object.__class__")))
     (hn:specialIn K (.builtin "object.__class__") "__get__"=some (some (.builtin "getset_descriptor.__get__"))) (htk:takesIn K (.builtin "object.__class__")=some true)
     (hm:gn K C (.type "object")=some true):TyOf K H (.ref a) (.ref C)
theorem jE{x:V}{u t:uG}(I:Inv X pins σ H s)(rx:RelV x u)(ty:TyOf X.K H x t)(e:kitOne X.K t c=some b)(h:∀tk,Q (.bool b) { s with toks:=tk }):
   uY (vi X.prog X.w) A (call (.builtin "isinstance") [u,c]) Q E s:=by
 cases ty with
 | non=>cases (show u=Value.none from rx);exact kia_one PySem.W.kitx_none I.kIn bh e (λz=>nomatch z) h
 | bl y=>cases (show u=Value.bool y from rx);exact kia_one PySem.W.kitx_bool I.kIn bh e (λz=>nomatch z) h
 | int i=>obtain⟨t,q⟩:=(show ∃t,u=Value.int i t from rx);cases q;exact kia_one PySem.W.kitx_int I.kIn bh e (λz=>nomatch z) h
 | str y=>obtain⟨t,q⟩:=(show ∃t,u=Value.str y t from rx);cases q;exact kia_one PySem.W.kitx_str I.kIn bh e (λz=>nomatch z) h
 | flt y=>obtain⟨t,q⟩:=(show ∃t,u=Value.float y t from rx);cases q;exact kia_one PySem.W.kitx_float I.kIn bh e (λz=>nomatch z) h
 | @lst a xs ea=>
   cases (show u=Value.ref a from rx);obtain⟨_,_,n,_,h1⟩:=(show Br X.prog X.w H s.heap a (.lst xs) from I.hok a _ ea)
   exact kia_one kitx_list I.kIn ⟨_,h1,rfl⟩ e (λz=>nomatch z) h
 | @frz a ob xs ea=>
   cases (show u=Value.ref a from rx);obtain⟨_,_,_,n,_,h1⟩:=(show Br X.prog X.w H s.heap a (.frz ob (.lst xs)) from I.hok a _ ea)
   exact kia_one kitx_list I.kIn ⟨_,h1,rfl⟩ e (λz=>nomatch z) h
 | @tup a xs ea=>
   cases (show u=Value.ref a from rx);obtain⟨_,_,_,p⟩:=(show Br X.prog X.w H s.heap a (.tup xs) from I.hok a _ ea)
   obtain⟨o,h1,h2,_⟩:=p;exact kia_one PySem.W.kitx_tuple I.kIn ⟨o,h1,h2⟩ e (λz=>nomatch z) h
 | @dK a kvs ea=>
   cases (show u=Value.ref a from rx);obtain⟨_,_,vs,_,p⟩:=(show Br X.prog X.w H s.heap a (.dK kvs) from I.hok a _ ea)
   obtain⟨o,es,ep,h1,h2,_⟩:=p;exact kia_one kitx_dict I.kIn ⟨o,h1,h2.1⟩ e (λz=>nomatch z) h
 | @dT a kvs ea=>
   cases (show u=Value.ref a from rx);obtain⟨_,_,xs,_,o,es,ep,h1,h2,_⟩:=(show Br X.prog X.w H s.heap a (.dT kvs) from I.hok a _ ea)
   exact kia_one kitx_dict I.kIn ⟨o,h1,h2.1⟩ e (λz=>nomatch z) h
 | @ins a C dx fs ea cl ha hn htk hm=>
   cases (show u=Value.ref a from rx);obtain⟨mA,O,_⟩:=P6 I.hok ea;obtain⟨od,J,_⟩:=O.look;exact kia_one (PySem.W.kitx_own (cl.get _) cl.hd ha hn htk hm) I.kIn J e (λz=>nomatch z) h
end
structure Room(k:Nat)(A:uM):Prop where
 hd:A.handled=none
 dp:A.depth+3*k+5<recursionLimit
 un:A.units+16*k+200<vj
theorem Room.mono{j k:Nat}{A:uM}(r:Room k A)(h:j<=k):Room j A:=⟨r.hd,by have:=r.dp;omega,by have:=r.un;omega⟩
theorem Room.deeper{k:Nat}{A:uM}(r:Room (k+1) A)(env:vt):Room k (A.deeper env):=
 ⟨r.hd,by have:=r.dp;show A.depth+1+3*k+5<_;omega,by have:=r.un;show A.units+3+16*k+200<_;omega⟩
theorem jF{A:uM}{C:uH}{us:List uG}{kw:List (Str×uG)}:(A.under (.builtin "type.__call__" ⟨.ref C::us,kw⟩)).depth=A.depth+1:=by
 first | rfl | simp [Around.under,Code.weight,Code.isCreation,Code.isGuard,Code.isCaller,Code.frames,Code.isFrame,guardIds]
theorem jG{A:uM}{C:uH}{us:List uG}{kw:List (Str×uG)}:(A.under (.builtin "type.__call__" ⟨.ref C::us,kw⟩)).units=A.units+1:=by
 first | rfl | simp [Around.under,Code.cUnits,Code.frames,Code.isFrame]
theorem Room.make{k:Nat}{A:uM}(r:Room (k+1) A)(C:uH)(us:List uG)(kw:List (Str×uG)):Room k (A.under (.builtin "type.__call__" ⟨.ref C::us,kw⟩)):=
 ⟨r.hd,by have:=r.dp;rw[jF];omega,by have:=r.un;rw[jG];omega⟩
theorem Room.depth{k:Nat}{A:uM}(r:Room k A):A.depth<recursionLimit:=by have:=r.dp;omega
theorem Room.units{k:Nat}{A:uM}(r:Room k A):A.units+64<vj:=by have:=r.un;omega
def tNil:TA:=λ_ H Q=>Q [] H
def yN(ta:TE)(tr:TA):TA:=λσ H Q=>ta σ H λx H1=>tr σ H1 λxs H2=>Q (x::xs) H2
section
variable {X:Cx}{e:uN}{es:List uN}{te:TE}{t:TA}{pos:Pos}
theorem Ab:PA X [] tNil:=λ_ _ _ _ H Q I h=>lg ⟨[],H,I,.nil,h⟩
theorem Aa(ha:PE X e te)(hr:PA X es t)(hs:uR (e::es) X.env=(false,vh e X.env)::uR es X.env:=by rfl):PA X (e::es) (yN te t):=by
 intro pos pins s σ H Q I h;rw[hs];show uY _ _ (spliced ((false,vh e X.env)::uZ pos (uR es X.env))) _ _ s;refine kt (thn (ha pins s σ H _ I h) λu s1 hZ=>?_);obtain⟨x,H1,I1,r1,q1⟩:=hZ;exact thn (hr pos pins s1 σ H1 _ I1 q1) λus s2 ⟨xs,H2,I2,r2,q2⟩=>⟨x::xs,H2,I2,.cons r1 r2,q2⟩
def tTup(t:TA):TE:=λσ H Q=>t σ H λxs H1=>xs.length<=uU/\∀p,H1 p=none->Q (.ref p) (upd H1 p (.tup xs))
def tLst(t:TA):TE:=λσ H Q=>t σ H λxs H1=>xs.length<=uU/\∀p,H1 p=none->Q (.ref p) (upd H1 p (.lst xs))
theorem Cg{x1}(h:PA X es t):PE X (.Tuple es x1 pos) (tTup t):=by
 intro pins s σ H Q I hq;refine wpAny_Tuple_spliced (thn (h pos pins s σ H _ I hq) λus s1 ⟨xs,H1,I1,r,z,q⟩=>⟨by rw[<-r.length];exact z,?_⟩);have hf:H1 s1.heap.objs.size=none:=I1.hok.fresh (ψ _);refine⟨.ref s1.heap.objs.size,upd H1 s1.heap.objs.size (.tup xs),I1.laid (t':=s1.toks) (λb u e=>Γ _ e) (ψ _) ?_,rfl,q _ hf⟩;exact⟨z,us,r,⟨_,bc _ rfl,rfl,_,rfl⟩⟩
theorem DU(h:PA X es t):PE X (.List es pos) (tLst t):=by
 intro pins s σ H Q I hq;refine wpAny_List_spliced (thn (h pos pins s σ H _ I hq) λus s1 ⟨xs,H1,I1,r,z,q⟩=>⟨by rw[<-r.length];exact z,?_⟩);have hf:H1 s1.heap.objs.size=none:=I1.hok.fresh (ψ _);refine⟨.ref s1.heap.objs.size,upd H1 s1.heap.objs.size (.lst xs),I1.laid (t':=s1.toks) (λb u e=>Γ _ e) (ψ _) ?_,rfl,q _ hf⟩;exact⟨z,us,0,r,bc _ rfl⟩
end
abbrev Sp:=List V->Hp->VK->XK->Prop
abbrev CXT:=List vt->Hp->uI->XK->uG->uI->Prop
structure Env0(P:uK)(w:uL)(K:δ)(mg:Str->Option uG)(base:vq)(A:uM)(outer:List vt)(s:uI)(H:Hp):Prop where
 frames:A.frames=some outer
 mod:Mod K mg base
 bs:∀b o,base.get? b=some o->s.heap.get? b=some o/\H b=none
 bsz:base.objs.size<=s.heap.objs.size
 funs:s.heap.FunFrames base outer
 frf:∀b∈frs outer,H b=none
 hok:HOk P w H s.heap
 bare:AllBare s.gens
def CE(outer:List vt)(P:uK)(w:uL)(H:Hp)(s:uI)(Q:VK)(u:uG)(s':uI):Prop:=
 ∃v H',s'.os=s.os/\AllBare s'.gens/\Un (frs outer) [] H H' s.heap s'.heap/\HOk P w H' s'.heap/\RelV v u/\Q v H'
def CR(CX:CXT)(outer:List vt)(P:uK)(w:uL)(H:Hp)(s:uI)(Q:VK)(E:XK)(r:Result)(s':uI):Prop:=
 match r with
 | .ok (.ret u)=>CE outer P w H s Q u s'
 | .ok _=>False
 | .error e=>CX outer H s E e s'
structure FnOk(P:uK)(w:uL)(K:δ)(mg:Str->Option uG)(base:vq)(CX:CXT)(k:Nat)(f:uH)(fd:uJ)(ps:List Str)(sp:Sp):Prop where
 len:∀vs H Q E,sp vs H Q E->vs.length=ps.length
 run:∀(A:uM)(outer:List vt)(s:uI)(H:Hp)(args:Args)(us:List uG)(vs:List V)(Q:VK)(E:XK),Room k A->Env0 P w K mg base A outer s H->BindsTo s fd args (ps.zip us)->Vals vs us->sp vs H Q E ->
   codeAny (vi P w) A (.call (.ref f) args) (CR CX outer P w H s Q E) s
theorem FnOk.mono{P:uK}{w:uL}{K:δ}{mg:Str->Option uG}{base:vq}{CX:CXT}{j k:Nat}{f:uH}{fd:uJ}{ps:List Str}{sp:Sp}(F:FnOk P w K mg base CX j f fd ps sp)(h:j<=k):
   FnOk P w K mg base CX k f fd ps sp:=⟨F.len,λA outer s H args us vs Q E hr=>F.run A outer s H args us vs Q E (hr.mono h)⟩
theorem FnOk.imp{P:uK}{w:uL}{K:δ}{mg:Str->Option uG}{base:vq}{CX:CXT}{k:Nat}{f:uH}{fd:uJ}{ps:List Str}{sp sp':Sp}(F:FnOk P w K mg base CX k f fd ps sp)
   (h:∀vs H Q E,sp' vs H Q E->sp vs H Q E):FnOk P w K mg base CX k f fd ps sp':=
 ⟨λvs H Q E q=>F.len vs H Q E (h _ _ _ _ q),λA outer s H args us vs Q E hr he hb hv hs=>F.run A outer s H args us vs Q E hr he hb hv (h _ _ _ _ hs)⟩
theorem Env0.make{P:uK}{w:uL}{K:δ}{mg:Str->Option uG}{base:vq}{A:uM}{outer:List vt}{s:uI}(e:Env0 P w K mg base A outer s H)(C:uH)(us:List uG)(kw:List (Str×uG)):
   Env0 P w K mg base (A.under (.builtin "type.__call__" ⟨.ref C::us,kw⟩)) outer s H:=⟨by first | exact e.frames | (simpa [Around.under,Code.envs,Code.isFrame,pushEnvs] using e.frames),e.mod,e.bs,e.bsz,e.funs,e.frf,e.hok,e.bare⟩
section
variable {X:Cx}{pins:List (uH×Obj)}{σ:St}{H:Hp}{s s':uI}
theorem Inv.env0(I:Inv X pins σ H s):Env0 X.prog X.w X.K X.mg X.base X.A X.stack s H:=
 ⟨I.ok.frames,I.ok.mod,I.bs,de I.ok.bsz I.sz,I.stack,I.stkFree,I.hok,I.bare⟩
theorem Inv.after{Q:VK}{u:uG}(I:Inv X pins σ H s)(h:CE X.stack X.prog X.w H s Q u s'):EP X pins σ Q u s':=by
 obtain⟨v,H',os,bare,un,hok,r,q⟩:=h;obtain⟨hh,g,d,t,os'⟩:=s';obtain rfl:os'=s.os:=os;exact⟨v,H',I.call (h':=hh) (g':=g) (d':=d) (t':=t) (ch:=[]) un hok bare (λb z=>absurd z (by simp)),r,q⟩
end
def G2(sp:Sp)(dvs:List V)(E:XK)(t:TA):TE:=λσ H Q=>t σ H λvs H1=>sp (vs++dvs) H1 Q E
def P8(C:uH)(sp:Sp)(dvs:List V)(E:XK)(t:TA):TE:=λσ H Q=>t σ H λvs H1=>∀x dx,H1 x=none->H1 dx=none->dx≠x ->
 sp (.ref x::(vs++dvs)) (upd (upd H1 dx (.own x)) x (.ins C dx [])) (λv H2=>v = .non/\Q (.ref x) H2) E
def Bx(K:δ)(fd:uJ)(ps:List Str)(ds:List uG):Prop:=
 ∀(s:uI)(us:List uG),K.In s.heap->(us++ds).length=ps.length->BindsTo s fd ⟨us,[]⟩ (ps.zip (us++ds))
theorem Bx.all{K:δ}{fd:uJ}{ps:List Str}(h:∀us:List uG,us.length=ps.length->uS fd ⟨us,[]⟩=pure (ps.zip us)):Bx K fd ps []:=λs us _ hl=>by
 rw[ae] at hl ⊢;exact .of_eq (h us hl)
def D6(CX:CXT)(X:Cx)(E:XK):Prop:=∀(pins:List (uH×Obj)) (σ:St) (H:Hp) (s:uI) (e:uG) (s':uI),Inv X pins σ H s->CX X.stack H s E e s'->X.xe e s'
section
variable {X:Cx}{CX:CXT}{k:Nat}{f C:uH}{fd:uJ}{ps:List Str}{sp:Sp}{dvs:List V}{ds:List uG}{E:XK}{x m:Str}{p pos apos:Pos}{e o:uN}{es:List uN}{ta:TE}{t:TA}
theorem LA{σ:St}{s:uI}{Q:VK}{us:List uG}{vs:List V}(F:FnOk X.prog X.w X.K X.mg X.base CX k f fd ps sp)(hr:Room k X.A)(hb:Bx X.K fd ps ds)(hd:Vals dvs ds)(hx:D6 CX X E)
   (I:Inv X pins σ H s) (r:Vals vs us) (h:sp (vs++dvs) H Q E):uY (vi X.prog X.w) X.A (call (.ref f) us) (EP X pins σ Q) X.xe s:=by
 have r2:Vals (vs++dvs) (us++ds):=r.append hd;have hl:(us++ds).length=ps.length:=by rw[<-r2.length];exact F.len _ _ _ _ h
 refine wpAny_call (codeAny_mono (F.run X.A X.stack s H ⟨us,[]⟩ (us++ds) (vs++dvs) Q E hr I.env0 (hb s us I.kIn hl) r2 h) λr s' hq=>?_);cases r with
 | error e=>exact hx pins σ H s e s' I hq
 | ok fl=>
   cases fl with
   | ret u=>exact I.after hq
   | next=>exact cm hq
   | brk=>exact cm hq
   | cont=>exact cm hq
theorem Sx(F:FnOk X.prog X.w X.K X.mg X.base CX k f fd ps sp)(hr:Room k X.A)(hg:Gl X x)(hm:X.mg x=some (.ref f))(hk:keepIn X.K (.ref f)=true)(hb:Bx X.K fd ps ds)(hd:Vals dvs ds)(hx:D6 CX X E)
   (ha:PA X (e::es) t) (hdb:(x==("__debug__":Str))=false:=by decide) (he:uR (e::es) X.env=(false,vh e X.env)::uR es X.env:=by rfl) (hpl:(uZ pos (uR es X.env)).any (·.1)=false:=by rfl):
   PE X (.Call (.Name x p) (e::es) [] pos) (G2 sp dvs E t):=by
 intro pins s σ H Q I h;refine wpAny_Call_Name_kw (EC I hg hm ?_ hdb);refine callWith_K (h₀:=X.base) I.ok.mod.kin hk (thn (ha pos pins s σ H _ I h) λus s1 ⟨vs,H1,I1,r,q⟩=>⟨I1.kIn,?_⟩) he hpl;exact LA F hr hb hd hx I1 r q
structure Mk(K:δ)(C f:uH):Prop where
 makes:makesIn K C=true
 init:bo K (.ref C) "__init__"=some (some (.ref f))
 fn:isFn K (.ref f)=true
 kp:keepIn K (.ref C)=true
theorem jH{σ:St}{s:uI}{Q:VK}{us:List uG}{vs:List V}(M:Mk X.K C f)(F:FnOk X.prog X.w X.K X.mg X.base CX k f fd ps sp)(hr:Room (k+1) X.A)(hb:Bx X.K fd ps ds)(hd:Vals dvs ds)
   (hx:D6 CX X E) (I:Inv X pins σ H s) (r:Vals vs us)
   (h:∀x dx,H x=none->H dx=none->dx≠x->sp (.ref x::(vs++dvs)) (upd (upd H dx (.own x)) x (.ins C dx [])) (λv H2=>v = .non/\Q (.ref x) H2) E):
   uY (vi X.prog X.w) X.A (call (.ref C) us) (EP X pins σ Q) X.xe s:=by
 have hq:=h (s.heap.objs.size+1) s.heap.objs.size (I.hok.fresh (qj _)) (I.hok.fresh (ψ _)) (bu (jr _));have I2:=Inv.made (C:=C) I;have r2:Vals (V.ref (s.heap.objs.size+1)::(vs++dvs)) (Value.ref (s.heap.objs.size+1)::(us++ds)):=.cons rfl (r.append hd);have hl:(Value.ref (s.heap.objs.size+1)::us++ds).length=ps.length:=by
   have e:=r2.length;rw[F.len _ _ _ _ hq] at e;exact e.symm
 refine wpAny_call (jA (f:=f) I.kIn M.makes M.init (beq_iff_eq.mp M.fn) (codeAny_mono (F.run _ X.stack _ _ ⟨Value.ref (s.heap.objs.size+1)::us,[]⟩ (Value.ref (s.heap.objs.size+1)::(us++ds)) _ _ E (hr.make C us [])
   (I2.env0.make C us []) (hb _ (Value.ref (s.heap.objs.size+1)::us) I2.kIn hl) r2 hq) λr s' hq'=>?_))
 cases r with
 | error e=>exact hx pins σ _ _ e s' I2 hq'
 | ok fl=>
   cases fl with
   | ret u=>
     obtain⟨v,H',I3,rv,ev,q3⟩:=I2.after hq';subst ev;exact⟨rv,⟨V.ref (s.heap.objs.size+1),H',I3,rfl,q3⟩⟩
   | next=>exact cm hq'
   | brk=>exact cm hq'
   | cont=>exact cm hq'
theorem xY(M:Mk X.K C f)(F:FnOk X.prog X.w X.K X.mg X.base CX k f fd ps sp)(hr:Room (k+1) X.A)(hg:Gl X x)(hm:X.mg x=some (.ref C))(hb:Bx X.K fd ps ds)(hd:Vals dvs ds)(hx:D6 CX X E)
   (ha:PA X (e::es) t) (hdb:(x==("__debug__":Str))=false:=by decide) (he:uR (e::es) X.env=(false,vh e X.env)::uR es X.env:=by rfl) (hpl:(uZ pos (uR es X.env)).any (·.1)=false:=by rfl):
   PE X (.Call (.Name x p) (e::es) [] pos) (P8 C sp dvs E t):=by
 intro pins s σ H Q I h;refine wpAny_Call_Name_kw (EC I hg hm ?_ hdb);refine callWith_K (h₀:=X.base) I.ok.mod.kin M.kp (thn (ha pos pins s σ H _ I h) λus s1 ⟨vs,H1,I1,r,q⟩=>⟨I1.kIn,?_⟩) he hpl;exact jH M F hr hb hd hx I1 r q
end
section
variable {X:Cx}{CX:CXT}{k:Nat}{f C:uH}{fd:uJ}{ps ks:List Str}{sp:Sp}{E:XK}{x m:Str}{p pos apos kpos:Pos}{e o:uN}{es:List uN}{kws:List Keyword}{te ta:TE}{t tk:TA}{nm:Option Str}
structure KBinds(K:δ)(fd:uJ)(ps ks:List Str)(g:List uG->List uG->List uG)(gV:List V->List V->List V):Prop where
 to:∀(s:uI)(us ws:List uG),K.In s.heap->(g us ws).length=ps.length->BindsTo s fd ⟨us,ks.zip ws⟩ (ps.zip (g us ws))
 rel:∀{vs:List V}{us:List uG}{zs:List V}{ws:List uG},Vals vs us->Vals zs ws->Vals (gV vs zs) (g us ws)
variable {g:List uG->List uG->List uG}{gV:List V->List V->List V}
end
structure wN(N P:List Str)(sc:uP):Prop where
 kind:sc.kind = .function
 co:sc.isCoroutine=false
 gen:sc.isGenerator=false
 nd:N.Nodup
 pre:N.take P.length=P
 par:∀x∈P,sc.names.lookup x=some .local\/sc.names.lookup x=some .cell
 nofree:∀y∈sc.names,y.2≠.free
theorem ZR{kindOf:Str->Option NameKind}{x:Str}:∀{binds:List (Str×uG)} {m:Str->Option uG},(∀v,(x,v) ∉ binds)->bindL kindOf binds m x=m x
 | [],_,_=>rfl
 | (n,v)::r,m,h=>by
   unfold bindL
   rw[ZR λw hw=>h w (ρ _ hw)]
   split
   . have:x≠n:=by rintro rfl;exact h v ω
     simp [this]
   . rfl
theorem ZS{kindOf:Str->Option NameKind}{x:Str}:∀{binds:List (Str×uG)} {m:Str->Option uG},(∀v,(x,v) ∉ binds)->bindC kindOf binds m x=m x
 | [],_,_=>rfl
 | (n,v)::r,m,h=>by
   unfold bindC
   rw[ZS λw hw=>h w (ρ _ hw)]
   split
   . rfl
   . have:x≠n:=by rintro rfl;exact h v ω
     simp [this]
theorem ZT{kindOf:Str->Option NameKind}{x:Str}{v:uG}:∀{P:List Str}{vs:List uG}{i:Nat}{m:Str->Option uG},P.Nodup->P[i]?=some x->vs[i]?=some v->kindOf x=some .local ->
   bindL kindOf (P.zip vs) m x=some v
 | [],_,_,_,_,h,_,_=>by simp at h
 | _::_,[],_,_,_,_,h,_=>by simp at h
 | p::P,w::vs,0,m,nd,h1,h2,hk=>by
   simp at h1 h2;subst h1;subst h2
   show bindL kindOf ((p,w)::P.zip vs) m p=_
   unfold bindL
   rw[ZR λv hv=>(ce.mp nd).1 (mh hv).1,if_pos hk]
   simp
 | p::P,w::vs,i+1,m,nd,h1,h2,hk=>by
   show bindL kindOf ((p,w)::P.zip vs) m x=_
   unfold bindL
   exact ZT (i:=i) (ce.mp nd).2 (by simpa using h1) (by simpa using h2) hk
theorem ZU{kindOf:Str->Option NameKind}{x:Str}{v:uG}:∀{P:List Str}{vs:List uG}{i:Nat}{m:Str->Option uG},P.Nodup->P[i]?=some x->vs[i]?=some v->kindOf x≠some .local ->
   bindC kindOf (P.zip vs) m x=some v
 | [],_,_,_,_,h,_,_=>by simp at h
 | _::_,[],_,_,_,_,h,_=>by simp at h
 | p::P,w::vs,0,m,nd,h1,h2,hk=>by
   simp at h1 h2;subst h1;subst h2
   show bindC kindOf ((p,w)::P.zip vs) m p=_
   unfold bindC
   rw[ZS λv hv=>(ce.mp nd).1 (mh hv).1,if_neg hk]
   simp
 | p::P,w::vs,i+1,m,nd,h1,h2,hk=>by
   show bindC kindOf ((p,w)::P.zip vs) m x=_
   unfold bindC
   exact ZU (i:=i) (ce.mp nd).2 (by simpa using h1) (by simpa using h2) hk
def start(N:List Str)(vs:List V):St:=vs.map some++ο (N.length-vs.length) none
def cxOf(CX:CXT)(P:uK)(w:uL)(K:δ)(mg:Str->Option uG)(base:vq)(N:List Str)(qual:Str)(scope:uP)(f:uH)(cd:uG)(A:uM)(outer:List vt)(s:uI)(H:Hp)(E:XK):Cx where
 prog:=P
 w:=w
 K:=K
 mg:=mg
 base:=base
 A:=A.deeper (envOfC qual scope s.heap.objs.size f cd)
 N:=N
 s₀:=s
 H₀:=H
 env:=envOfC qual scope s.heap.objs.size f cd
 outer:=outer
 stack:=envOfC qual scope s.heap.objs.size f cd::outer
 ex:=[]
 calm:=true
 fn:=λ_=>true
 pn:=[]
 xe:=λe s'=>uY (vi P w) (A.deeper (envOfC qual scope s.heap.objs.size f cd)) (leaving (envOfC qual scope s.heap.objs.size f cd) e) (λ_ s''=>CX outer H s E e s'') (λe' s''=>CX outer H s E e' s'') s'
theorem ZV{sc:uP}{n:Nat}{x:Str}(h:sc.names.lookup x=some .cell):∃c,(cellsFrom n sc.names []).lookup x=some c:=by
 have q:=cellsFrom_some sc.names n [] (.inl h);exact ll.mp q
theorem jI{CX:CXT}{P:uK}{w:uL}{K:δ}{mg:Str->Option uG}{base:vq}{N ps:List Str}{qual:Str}{scope:uP}{f:uH}{cd:uG}{A:uM}{outer:List vt}{s s1:uI}{E:XK}{us:List uG}{vs:List V}
   (S:wN N ps scope) (hd:A.handled=none) (e0:Env0 P w K mg base A outer s H) (hl:vs.length=ps.length) (r:Vals vs us)
   (x:InCallC s s.heap.objs.size (bindL (envOfC qual scope s.heap.objs.size f cd).kindOf (ps.zip us) λ_=>none) (cellsFrom (s.heap.objs.size+1) scope.names []) (bindC (envOfC qual scope s.heap.objs.size f cd).kindOf (ps.zip us) λ_=>none) s1):
   Inv (cxOf CX P w K mg base N qual scope f cd A outer s H E) [] (start N vs) H s1:=by
 have hpl:ps.length<=N.length:=by have:=congrArg jb S.pre;rw[cj] at this;omega
 obtain⟨h1,tk,rfl,hk⟩:=x.done;have noA:∀b:uH,b ∉ (cxOf CX P w K mg base N qual scope f cd A outer s H E).ex:=λb z=>absurd (show b∈([]:List uH) from z) (by simp);refine⟨⟨e0.mod,S.kind,rfl,rfl,ψ _,λy z c h1 h2=>?_,λy hy=>?_,λy c _ h=>?_,λ_=>hd,Around.frames_deeper e0.frames,.inr ⟨rfl,rfl⟩,λb z=>absurd z (noA b),e0.bs,e0.bsz,λb _ _=>noA b,λb z=>absurd z (noA b),e0.funs,e0.frf⟩,
   rfl,e0.bare,Un.kept hk,⟨_,x.toInCall.ns,λi y v h1 h2 h3=>?_⟩,λy c h=>⟨_,x.cell y c h⟩,e0.hok.fresh (ψ _),λy c h=>?_,λp hp=>absurd (show p∈([]:List (uH×Obj)) from hp) (by simp),e0.hok.kept hk,?_⟩
 . exact name_of_addr x.apart (gr h1) (gr h2)
 . have hy:scope.names.lookup y=some .cell\/scope.names.lookup y=some .free:=hy;rcases hy with hy | hy
   . exact ZV hy
   . exact absurd rfl (S.nofree _ (gr hy))
 . exact fh (x.above y c (gr h))
 . have hi:i<vs.length:=by
     unfold start at h2;by_cases hi:i<vs.length
     . exact hi
     . rw[η (by simpa using hi)] at h2;rw[gu] at h2
       split at h2 <;> cases h2
   have ha:vs[i]?=some v:=by
     unfold start at h2;rw[ξ (by simpa using hi),cr] at h2;cases e:vs[i]? with
     | none=>rw[e] at h2;cases h2
     | some a=>rw[e] at h2;cases h2;rfl
   obtain⟨u,hu,rv⟩:=r.get ha;have hp:ps[i]?=some y:=by
     rw[<-S.pre,gp (by omega)];exact h1
   have ndP:ps.Nodup:=by rw[<-S.pre];exact S.nd.sublist (List.take_sublist _ _)
   refine⟨u,rv,?_⟩;rcases S.par y (ε hp) with k | k
   . exact .inl ⟨k,ZT ndP hp hu k⟩
   . obtain⟨c,e⟩:=ZV (n:=s.heap.objs.size+1) k;refine .inr ⟨.inl k,c,e,?_⟩;have q:=x.cell y c e;rw[ZU ndP hp hu (by show scope.names.lookup y≠_;rw[k];decide)] at q;exact q
 . exact e0.hok.fresh (fh (x.above y c (gr h)))
 . unfold start;show _=N.length;rw[ι,Ξ,ag];omega
theorem zV{CX:CXT}{P:uK}{w:uL}{K:δ}{mg:Str->Option uG}{base:vq}{k:Nat}{f:uH}{name qual:Str}{params:Arguments}{body:List uO}{scope:uP}{dV kV doc pm cdv ct oc:uG}{an od:Option uH}
   {osl:Array (Option uG)} {N ps:List Str} {sp:Sp} (lk:K.lookup f=some ⟨oc,od,.func (fnOf name qual params body scope dV kV doc pm an cdv ct),osl⟩) (hcd:codeIn K cdv qual=true) (S:wN N ps scope)
   (len:∀vs H Q E,sp vs H Q E->vs.length=ps.length)
   (hbody:∀(A:uM)(outer:List vt)(s:uI)(H:Hp)(vs:List V)(Q:VK)(E:XK),Room k (A.deeper (envOfC qual scope s.heap.objs.size f cdv))->sp vs H Q E ->
     ∃t,PSs (cxOf CX P w K mg base N qual scope f cdv A outer s H E) body t/\t { nx:=λ_ H'=>Q .non H',rt:=Q } (start N vs) H):
   FnOk P w K mg base CX (k+1) f (fnOf name qual params body scope dV kV doc pm an cdv ct) ps sp:=by
 refine⟨len,λA outer s H args us vs Q E hr e0 hb r hsp=>?_⟩;have hl:=len _ _ _ _ hsp;have KX:K.In s.heap:=e0.mod.kin.keeps λb o e=>(e0.bs b o e).1;have lim:s.heap.NoLimit:=e0.mod.nolimit.keeps λb o e=>(e0.bs b o e).1;have hkind:∀y∈ps.zip us,scope.names.lookup y.1=some .local\/(scope.names.lookup y.1=some .cell/\((cellsFrom (s.heap.objs.size+1) scope.names []).lookup y.1).isSome=true):=λ⟨n,v⟩ hy=>by
   rcases S.par n (mh hy).1 with q | q
   . exact .inl q
   . exact .inr ⟨q,cellsFrom_some _ _ _ (.inl q)⟩
 refine codeAny_call_function hr.depth (KX _ _ lk) rfl S.co S.gen rfl (PySem.W.codeRec_of KX hcd) (hb _ _ _ _ ?_);refine wpAny_newFunctionEnv_cells S.kind hkind λenv he s1 x=>?_;subst he;refine⟨lim.keeps x.toInCall.keep,codeAny_func ?_⟩;obtain⟨t,ht,hq⟩:=hbody A outer s H vs Q E (hr.deeper _) hsp;have I:Inv (cxOf CX P w K mg base N qual scope f cdv A outer s H E) [] (start N vs) H s1:=jI S hr.hd e0 hl r x;refine uX (ht [] s1 (start N vs) H _ I hq) (λfl s' hs=>?_) λe s' hs=>hs;have fin:∀{σ':St}{H':Hp}{v:V}{u:uG},Inv (cxOf CX P w K mg base N qual scope f cdv A outer s H E) [] σ' H' s'->RelV v u->Q v H'->CE outer P w H s Q u s':=
   λ{σ' H' v u} J rv q=>⟨v,H',J.os,J.bare,J.base,J.hok,rv,q⟩
 cases fl with
 | ret u=>
   obtain⟨v,σ',H',J,rv,q⟩:=hs;exact fin J rv q
 | next=>
   obtain⟨σ',H',J,q⟩:=hs;exact fin (v:=V.non) (u:=Value.none) J rfl q
 | brk=>
   obtain⟨_,_,_,q⟩:=hs;exact cm q
 | cont=>
   obtain⟨_,_,_,q⟩:=hs;exact cm q
section
variable {X:Cx}{x:Str}{p pos:Pos}{e:uN}{es:List uN}{t:TA}{id T:String}{r:List V->Hp->VK->Prop}
def tCB(r:List V->Hp->VK->Prop)(t:TA):TE:=λσ H Q=>t σ H λvs H1=>r vs H1 Q
theorem Bs(hc:D4 X (.builtin id) r)(hg:Gl X x)(hm:X.mg x=none)(hv:bootBuiltins x=some (.builtin id))(ha:PA X (e::es) t)(hn:x≠"__name__":=by decide)(hdb:(x==("__debug__":Str))=false:=by decide)
   (he:uR (e::es) X.env=(false,vh e X.env)::uR es X.env:=by rfl) (hpl:(uZ pos (uR es X.env)).any (·.1)=false:=by rfl):PE X (.Call (.Name x p) (e::es) [] pos) (tCB r t):=by
 intro pins s σ H Q I h;refine wpAny_Call_Name_kw (Ks I hg hm hv ?_ hn hdb);exact px (thn (ha pos pins s σ H _ I h) λus s1 ⟨vs,H1,I1,r1,q1⟩=>hc pins s1 σ H1 vs us Q I1 r1 q1) he hpl
theorem EE(hc:D4 X (.type T) r)(hg:Gl X x)(hm:X.mg x=none)(hv:bootBuiltins x=some (.type T))(ha:PA X (e::es) t)(hn:x≠"__name__":=by decide)(hdb:(x==("__debug__":Str))=false:=by decide)
   (he:uR (e::es) X.env=(false,vh e X.env)::uR es X.env:=by rfl) (hpl:(uZ pos (uR es X.env)).any (·.1)=false:=by rfl):PE X (.Call (.Name x p) (e::es) [] pos) (tCB r t):=by
 intro pins s σ H Q I h;refine wpAny_Call_Name_kw (Ks I hg hm hv ?_ hn hdb);exact fj (thn (ha pos pins s σ H _ I h) λus s1 ⟨vs,H1,I1,r1,q1⟩=>hc pins s1 σ H1 vs us Q I1 r1 q1) he hpl
end
end L2
namespace HT
open PySem PyProof.Rows
def lexLt:List Int->List Int->Bool
 | [],[]=>false
 | [],_::_=>true
 | _::_,[]=>false
 | x::xs,y::ys=>if x=y then lexLt xs ys else decide (x<y)
theorem jJ(x y:Int)(xs ys:List Int):lexLt (x::xs) (y::ys)=if x=y then lexLt xs ys else decide (x<y):=rfl
theorem jK:lexLt [] []=false:=rfl
theorem jL(y:Int)(ys:List Int):lexLt [] (y::ys)=true:=rfl
theorem jM(x:Int)(xs:List Int):lexLt (x::xs) []=false:=rfl
theorem jN(A:uM)(s:uI)(a:Int)(t:Tok)(c:Int)(u:Tok):∃e,SeqAt.EqAt A s (.int a t) (.int c u) e/\(e=true↔a=c):=
 ⟨(a==c),oq a t c u,by simp⟩
theorem jO(A:uM)(s:uI)(a:Int)(t:Tok)(c:Int)(u:Tok)(prog:uK)(w:uL)(E:uG->uI->Prop)(Q:uG->uI->Prop)(h:Q (.bool (decide (a<c))) s):
   uY (vi prog w) A (richCompare .Lt (.int a t) (.int c u)) Q E s:=
 (ug h:uY (vi prog w) A (vd .Lt (.int a t) (.int c u)) Q E s)
section
open PySem.SeqAt
open PySem.AutoSeq1 (wpAny_loadPart')
open PySem.MeetsSeq PySem.MeetsSeq2 PySem.MeetsSeq3
theorem jP(l b:uH)(items items2:Array uG)(n n2:Nat)(dd dd2:Option uH)(sl sl2:Array (Option uG))(ns ms:List Int)(hi:IntsAre items.toList ns)(hj:IntsAre items2.toList ms):
   Meets (Builtin.«tuple.__lt__» ⟨[.ref l,.ref b],[]⟩)
     (λ_ R s=>s.heap.get? l=some { cls:=.type "tuple",dict:=dd,data:=.seq items n,slots:=sl }/\s.heap.get? b=some { cls:=.type "tuple",dict:=dd2,data:=.seq items2 n2,slots:=sl2 } /\
       R (.ok (.ret (.bool (lexLt ns ms)))) s):=
 .of_wp λprog w A R s h=>by
   obtain⟨hp,g,d,tk,os⟩:=s;obtain⟨hl,hb,h⟩:=h
   have f2:=AutoSeq1.sub_tuple_tuple
   have z1:items.size=ns.length:=by rw[<-hi.length];simp
   have z2:items2.size=ms.length:=by rw[<-hj.length];simp
   wp_walk using wpAny_loadPart' hl,wpAny_loadPart' hb,wpAny_forIn_list _ (λxm b s'=>b.1=none/\s'=⟨hp,g,d,tk,os⟩/\∃(vs ws:List uG)(ns' ms':List Int),xm=vs.zip ws /\
     IntsAre vs ns'/\IntsAre ws ms'/\ns'.length+items2.size=ms'.length+items.size/\R (.ok (.ret (.bool (lexLt ns' ms')))) ⟨hp,g,d,tk,os⟩) _
   case turn=>
     rintro⟨y,x⟩ xm b s' ⟨hb',rfl,vs,ws,ns',ms',hz,hvi,hwi,hlen,hR⟩
     cases hvi with
     | nil=>rw[List.zip_nil_left] at hz;cases hz
     | cons a t hvi'=>
       cases hwi with
       | nil=>rw[List.zip_nil_right] at hz;cases hz
       | cons c u hwi'=>
         rw[ot] at hz
         injection hz with hyx hrest
         injection hyx with hy hx
         subst hy hx
         rw[jJ] at hR
         simp only [am] at hlen
         obtain⟨e,he,hiff⟩:=jN A.in1 ⟨hp,g,d,tk,os⟩ a t c u
         refine uV (he prog w _ _ ?_)
         cases e with
         | true=>
           rw[if_pos (hiff.mp rfl)] at hR
           wp_walk
           exact⟨rfl,rfl,_,_,_,_,hrest,hvi',hwi',by omega,hR⟩
         | false=>
           rw[if_neg (λq=>absurd (hiff.mpr q) ν)] at hR
           have hri:=jO A.in1 ⟨hp,g,d,tk,os⟩ a t c u prog w
           wp_walk using hri
           exact⟨_,rfl,by simpa using hR⟩
   case fin=>
     rintro⟨b1,b2⟩ s' ⟨hb',rfl,vs,ws,ns',ms',hz,hvi,hwi,hlen,hR⟩
     simp only at hb'
     subst hb'
     have hv:lexLt ns' ms'=decide (items.size<items2.size):=by
       cases hvi with
       | nil=>
         cases hwi with
         | nil=>
           simp only [db] at hlen;rw[jK];exact(decide_eq_false (by omega)).symm
         | cons c u hw=>
           simp only [db,am] at hlen;rw[jL];exact(decide_eq_true (by omega)).symm
       | cons a t hv=>
         cases hwi with
         | nil=>
           simp only [db,am] at hlen;rw[jM];exact(decide_eq_false (by omega)).symm
         | cons c u hw=>
           rw[ot] at hz;cases hz
     rw[hv] at hR
     wp_walk
     exact⟨_,rfl,by simpa [Builtin.Tuple.tupleCompareSizes] using hR⟩
   case h=>
     exact⟨rfl,rfl,items.toList,items2.toList,ns,ms,rfl,hi,hj,by omega,h⟩
end
section
variable {prog:uK}{w:uL}{A:uM}{E:uG->uI->Prop}{s:uI}
theorem lt_tupInts{l b:uH}{items items2:Array uG}{ns ms:List Int}{Q:uG->uI->Prop}(hl:IsTup s.heap l items)(hb:IsTup s.heap b items2)(hi:IntsAre items.toList ns)(hj:IntsAre items2.toList ms)
   (hu:A.units<vj) (h:Q (.bool (lexLt ns ms)) s):uY (vi prog w) A (vd .Lt (.ref l) (.ref b)) Q E s:=by
 obtain⟨⟨cls,dd,data,sl⟩,ho,hc,n,hd⟩:=id hl;obtain⟨⟨cls2,dd2,data2,sl2⟩,Ew,hc2,n2,hd2⟩:=id hb;simp only at hc hd hc2 hd2;subst hc hd hc2 hd2;exact richCompare_meets_room (op:=.Lt) ⟨_,ho,rfl⟩ ⟨_,Ew,rfl⟩ PySem.F.slot_tuple_lt PySem.F.entry_tuple_lt (PySem.F.args_tuple_lt_2 _ _) (jP l b items items2 n n2 dd dd2 sl sl2 ns ms hi hj)
   ⟨ho,Ew,show Value.bool (lexLt ns ms)≠Value.notImplemented/\Q (.bool (lexLt ns ms)) s from ⟨(λx=>nomatch x),h⟩⟩ hu
def sIx(n d:Nat):Option Int->Nat
 | none=>d
 | some v=>if v<0 then (v+(n:Int)).toNat else min v.toNat n
theorem sIx_none(n d:Nat):sIx n d none=d:=rfl
theorem sIx_nat(n d k:Nat):sIx n d (some (k:Int))=min k n:=by
 show (if (k:Int)<0 then ((k:Int)+(n:Int)).toNat else min (k:Int).toNat n)=min k n;rw[if_neg (by omega),jg]
end
end HT
namespace L2
open PySem PySem.Spec PyProof.Rows
abbrev TO:=St->Hp->(Option Int->Hp->Prop)->Prop
def PO(X:Cx)(e:Option uN)(t:TO):Prop:=
 ∀(pins:List (uH×Obj)) (s:uI) (σ:St) (H:Hp) (Q:Option Int->Hp->Prop),Inv X pins σ H s->t σ H Q ->
   uY (vi X.prog X.w) X.A (evalPart e X.env) (λu s'=>∃o H',Inv X pins σ H' s'/\IsPart u o/\Q o H') X.xe s
def ZW:TO:=λ_ H Q=>Q none H
def yJ(t:TE):TO:=λσ H Q=>t σ H λx H1=>∃i,x = .int i/\Q (some i) H1
theorem Sy{ns:List Int}:∀{us:List uG},Vals (ns.map V.int) us->IntsAre us ns:=by
 induction ns with
 | nil=>intro us r;rw[ib] at r;cases r;exact .nil
 | cons n ns ih=>
   intro us r;rw[av] at r;cases r with
   | cons r1 r2=>
     obtain⟨t,e⟩:=r1;subst e;exact .cons n t (ih r2)
section
variable {X:Cx}{e:uN}{te:TE}{lo hi:Option uN}{tl th:TO}{pos p2:Pos}
theorem Sz:PO X none ZW:=by
 intro pins s σ H Q I h;rw[evalPart_none];exact uW ⟨none,H,I,.none,h⟩
theorem G3(h:PE X e te):PO X (some e) (yJ te):=by
 intro pins s σ H Q I hw;rw[evalPart_some];refine thn (h pins s σ H _ I hw) λu s1 hZ=>?_;obtain⟨x,H1,I1,r1,q1⟩:=hZ;obtain⟨i,rfl,q⟩:=q1;obtain⟨t,rfl⟩:=r1;exact⟨some i,H1,I1,.int i t,q⟩
def SlR(X:Cx)(r:V->Option Int->Option Int->Hp->VK->Prop):Prop:=
 ∀(pins:List (uH×Obj)) (s:uI) (σ:St) (H:Hp) (x:V) (v vl vu:uG) (lo hi:Option Int) (sl:uH) (Q:VK),Inv X pins σ H s->RelV x v->s.heap.IsSliceOf sl vl vu .none->IsPart vl lo->IsPart vu hi->r x lo hi H Q ->
   ∃T id,typeLookup (.type T) "__getitem__"=pure (some (.builtin id))/\s.TypeIs v T/\uY (vi X.prog X.w) X.A (getItem v (.ref sl)) (EP X pins σ Q) X.xe s
def tSl(r:V->Option Int->Option Int->Hp->VK->Prop)(te:TE)(tl th:TO):TE:=λσ H Q=>te σ H λx H1=>tl σ H1 λl H2=>th σ H2 λu H3=>r x l u H3 Q
theorem LB{r:V->Option Int->Option Int->Hp->VK->Prop}(hr:SlR X r)(he:PE X e te)(hl:PO X lo tl)(hu:PO X hi th):PE X (.Subscript e (.Slice lo hi none p2) pos) (tSl r te tl th):=by
 intro pins s σ H Q I h;refine Subscript_ (thn (he pins s σ H _ I h) λv s1 hZ=>?_);obtain⟨x,H1,I1,r1,q1⟩:=hZ;refine wpAny_Slice (thn (hl pins s1 σ H1 _ I1 q1) λvl s2 ⟨l,H2,I2,pl,q2⟩=>thn (hu pins s2 σ H2 _ I2 q2) λvu s3 hZ=>?_);obtain⟨u,H3,I3,pu,q3⟩:=hZ;rw[evalPart_none];refine uW ?_;have I4:Inv X pins σ H3 { s3 with heap:=s3.heap.push { cls:=.type "slice",data:=.fields #[vl,vu,.none] } }:=I3.kept (t':=s3.toks) λb ob q=>Γ _ q;obtain⟨T,id,hT,ht,hg⟩:=hr pins { s3 with heap:=s3.heap.push { cls:=.type "slice",data:=.fields #[vl,vu,.none] } } σ H3 x v vl vu l u s3.heap.objs.size Q I4 r1 (Heap.IsSliceOf.new ..) pl pu q3;show uY (vi X.prog X.w) X.A (subscriptTail e (.Slice lo hi none p2) v (.ref s3.heap.objs.size)) (EP X pins σ Q) X.xe { s3 with heap:=s3.heap.push { cls:=.type "slice",data:=.fields #[vl,vu,.none] } };exact tail_any (ops:=[.ref s3.heap.objs.size,v]) ht hT hg (by with_unfolding_all rfl)
def xz(xs:List V)(lo hi:Option Int):List V:=(xs.drop (HT.sIx xs.length 0 lo)).take (HT.sIx xs.length xs.length hi-HT.sIx xs.length 0 lo)
theorem jQ(xs:List V)(lo hi:Option Int):(xz xs lo hi).length<=xs.length:=by
 unfold xz;rw[cj,gv];omega
end
def ixN(n:Nat)(i:Int):Option Nat:=if 0<=i then (if i<n then some i.toNat else none) else if -(n:Int)<=i then some (i+n).toNat else none
def atI{α:Type}(xs:List α)(i:Int):Option α:=(ixN xs.length i).bind λj=>xs[j]?
theorem ZX{n:Nat}{i:Int}{j:Nat}(h:ixN n i=some j):seqIndex? i n=some j/\j<n/\-(n:Int)<=i/\i<n:=by
 unfold ixN at h;by_cases h0:0<=i
 . rw[if_pos h0] at h;by_cases h1:i<n
   . rw[if_pos h1] at h;have e:i.toNat=j:=χ h;exact⟨by rw[seqIndex_of h0 h1,e],by omega,by omega,h1⟩
   . rw[if_neg h1] at h;cases h
 . rw[if_neg h0] at h;by_cases h1 : -(n:Int)<=i
   . rw[if_pos h1] at h;have e:(i+n).toNat=j:=χ h;exact⟨by rw[seqIndex_neg (by omega) h1,e],by omega,h1,by omega⟩
   . rw[if_neg h1] at h;cases h
theorem ZY{α:Type}{xs:List α}{i:Int}{v:α}(h:atI xs i=some v):∃j,seqIndex? i xs.length=some j/\xs[j]?=some v/\j<xs.length/\-(xs.length:Int)<=i/\i<xs.length:=by
 unfold atI at h;cases e:ixN xs.length i with
 | none=>rw[e] at h;cases h
 | some j=>
   rw[e] at h;obtain⟨h1,h2,h3,h4⟩:=ZX e;exact⟨j,h1,h,h2,h3,h4⟩
theorem Kv{α:Type}{xs:List α}{j:Nat}{v:α}(h:xs[j]?=some v):atI xs (j:Int)=some v:=by
 have hj:j<xs.length:=(γ.mp h).1;have e:ixN xs.length (j:Int)=some j:=by
   unfold ixN;rw[if_pos (by omega),if_pos (by omega)];simp
 unfold atI;rw[e];exact h
theorem jR{α:Type}(xs:List α)(v:α):atI (xs++[v]) (-1)=some v:=by
 have hl:(xs++[v]).length=xs.length+1:=by simp
 have e:ixN (xs++[v]).length (-1)=some xs.length:=by
   unfold ixN;rw[hl,if_neg (by decide),if_pos (by omega)]
   congr 1
   omega
 unfold atI;rw[e];show (xs++[v])[xs.length]?=some v;simp
def yB(b:uN):Prop:=∀o i,subscripted b false o i=operate [o,i] (getItem o i)
def IxR(X:Cx)(r:R2):Prop:=
 ∀(value slice:uN) (pins:List (uH×Obj)) (s:uI) (σ:St) (H:Hp) (x y:V) (v u:uG) (Q:VK),Inv X pins σ H s->RelV x v->RelV y u->r x y H Q ->
   subscripted slice false v u=operate [v,u] (getItem v u)->uY (vi X.prog X.w) X.A (subscriptTail value slice v u) (EP X pins σ Q) X.xe s
def MtR(X:Cx)(id:String)(r:V->List V->Hp->VK->Prop):Prop:=
 ∀(pins:List (uH×Obj)) (s:uI) (σ:St) (H:Hp) (x:V) (xs:List V) (v:uG) (us:List uG) (Q:VK),Inv X pins σ H s->RelV x v->Vals xs us->r x xs H Q ->
   uY (vi X.prog X.w) X.A (call (.builtin id) (v::us)) (EP X pins σ Q) X.xe s
section
variable {X:Cx}{a b:uN}{ta tb:TE}{pos:Pos}
theorem Ar{r:R2}(hr:IxR X r)(ha:PE X a ta)(hb:PE X b tb)(hs:yB b:=by exact λ_ _=>rfl):PE X (.Subscript a b pos) (tOp r ta tb):=by
 intro pins s σ H Q I h;exact Subscript_ (binT ha hb I h λv u s2 x y H2 I2 rx ry q=>hr a b pins s2 σ H2 x y v u Q I2 rx ry q (hs _ _))
def zj(K:δ):R2:=λx y H Q=>∃p xs i v,x = .ref p/\y = .int i/\SqL K H p xs/\atI xs i=some v/\Q v H
def rIxT(K:δ):R2:=λx y H Q=>∃p xs i v,x = .ref p/\y = .int i/\SqT K H p xs/\atI xs i=some v/\Q v H
theorem AY:IxR X (zj X.K):=by
 intro value slice pins s σ H x y v u Q I rx ry h hs;obtain⟨p,xs,i,z,rfl,rfl,hq,he,q⟩:=h;cases rx;obtain⟨t,rfl⟩:=ry;obtain⟨its,r,pl,hz⟩:=I.list hq;obtain⟨j,h1,h2,h3,h4,h5⟩:=ZY he;obtain⟨w,ew,rw'⟩:=r.get h2;have hl:=r.length;have hn:=Lz;have fin:EP X pins σ Q w s:=⟨z,H,I,rw',q⟩
 by_cases h0:0<=i
 . have hj:i.toNat=j:=by
     rw[seqIndex_of h0 h5] at h1;exact χ h1
   exact item_listR pl.isList h0 (by omega) (by rw[hj];simpa using ew) fin hs
 . have hj:(i+(its.toArray.size:Int)).toNat=j:=by
     rw[seqIndex_neg (by omega) h4] at h1;rw[Δ,<-hl];exact χ h1
   exact subscriptTail_builtinR (x:=w) pl.isList.typeIs slot_list_getitem.lookup
     (wpAny_getItem_list_neg (Q:=λr s'=>r=w/\EP X pins σ Q r s') pl.isList (by omega) (by rw[Δ] <;> omega) (by omega) (by rw[hj];simpa using ew) ⟨rfl,fin⟩) hs
theorem AG:IxR X (rIxT X.K):=by
 intro value slice pins s σ H x y v u Q I rx ry h hs;obtain⟨p,xs,i,z,rfl,rfl,hq,he,q⟩:=h;cases rx;obtain⟨t,rfl⟩:=ry;obtain⟨its,r,pl,hz⟩:=I.tuple hq;obtain⟨j,h1,h2,h3,h4,h5⟩:=ZY he;obtain⟨w,ew,rw'⟩:=r.get h2;have hl:=r.length;have hn:=Lz;have fin:EP X pins σ Q w s:=⟨z,H,I,rw',q⟩
 exact subscriptTail_builtinR (x:=w) pl.typeIs slot_tuple_getitem.lookup
   (getItem_tuple (j:=j) (Q:=λr s'=>r=w/\EP X pins σ Q r s') pl (by omega) (by omega) (by rw[Δ,<-hl];exact h1) (by simpa using ew) ⟨rfl,fin⟩) hs
theorem jS(its:List uG)(n j:Nat)(u:uG):lz (·.setIfInBounds j u) { cls:=.type "list",data:=.seq its.toArray n }={ cls:=.type "list",data:=.seq (its.set j u).toArray n }:=by
 simp [lz]
theorem Inv.lst{pins:List (uH×Obj)}{σ:St}{H:Hp}{s:uI}{p:uH}{xs:List V}(I:Inv X pins σ H s)(h:H p=some (.lst xs)):
   ∃(its:List uG)(n:Nat),Vals xs its/\s.heap.get? p=some { cls:=.type "list",data:=.seq its.toArray n }/\xs.length<=uU:=by
 obtain⟨z,its,n,r,e⟩:=I.hok p _ h;exact⟨its,n,r,e,z⟩
theorem Inv.lstUpd{pins:List (uH×Obj)}{σ:St}{H:Hp}{s:uI}{p:uH}{xs ys:List V}{its its':List uG}{n n':Nat}{f:Obj->Obj}(I:Inv X pins σ H s)(h:H p=some (.lst xs))
   (ho:s.heap.get? p=some { cls:=.type "list",data:=.seq its.toArray n }) (hf:f { cls:=.type "list",data:=.seq its.toArray n }={ cls:=.type "list",data:=.seq its'.toArray n' }) (r:Vals ys its') (hz:ys.length<=uU) (t:Nat):
   Inv X pins σ (upd H p (.lst ys)) { s with heap:=s.heap.update p f,toks:=t }:=by
 have e:(s.heap.update p f).get? p=some { cls:=.type "list",data:=.seq its'.toArray n' }:=by
   rw[dv f ho (by rw[hf] <;> rfl),hf]
 refine I.write (x:=p) (e:=p) (by rw[h];trivial) (.inl rfl) (λb u hb q=>(ah _ _ (dn hb)).trans q) ⟨_,e⟩ ?_;exact⟨hz,its',n',r,e⟩
def xT:V->V->V->Hp->(Hp->Prop)->Prop:=λo i v H Q=>∃p xs k j,o = .ref p/\i = .int k/\H p=some (.lst xs)/\ixN xs.length k=some j/\Q (upd H p (.lst (xs.set j v)))
theorem G4:PSet X xT:=by
 intro pins s σ H o i v ov iv u Q I ro ri rv h;obtain⟨p,xs,k,j,rfl,rfl,hp,hj,q⟩:=h;cases ro;obtain⟨t,rfl⟩:=ri;obtain⟨its,n,r,ho,hz⟩:=I.lst hp;obtain⟨h1,h2,h3,h4⟩:=ZX hj;have hl:=r.length;have hn:=Lz;have I':Inv X pins σ (upd H p (.lst (xs.set j v))) { s with heap:=s.heap.update p (lz (·.setIfInBounds j u)) }:=
   I.lstUpd hp ho (jS its n j u) (r.set rv j) (by rw[ax];exact hz) s.toks
 by_cases h0:0<=k
 . have hk:k.toNat=j:=by
     rw[seqIndex_of h0 h4] at h1;exact χ h1
   exact PySem.W.ki_setAt ho h0 (by omega) (by rw[Δ,<-hl];exact h4) (by rw[hk];exact⟨_,I',q⟩)
 . have hk:(k+(its.toArray.size:Int)).toNat=j:=by
     rw[seqIndex_neg (by omega) h3] at h1;rw[Δ,<-hl];exact χ h1
   exact PySem.W.ki_setBack ho (by omega) (by rw[Δ,<-hl];exact h3) (by omega) (by rw[hk];exact⟨_,I',q⟩)
theorem jT(lo hi:Option Int)(n:Nat):(sliceBounds lo hi none n).1=((HT.sIx n 0 lo:Nat):Int)/\(sliceBounds lo hi none n).2.1=((HT.sIx n n hi:Nat):Int)/\(sliceBounds lo hi none n).2.2=1:=by
 refine⟨?_,?_,rfl⟩
 . cases lo with
   | none=>simp [sliceBounds,HT.sIx]
   | some i=>
     simp only [sliceBounds,HT.sIx,pz,show (1:Int)>0 by decide,if_true];by_cases h:i<0
     . simp only [h,if_true] <;> omega
     . simp only [h,if_false] <;> omega
 . cases hi with
   | none=>simp [sliceBounds,HT.sIx]
   | some i=>
     simp only [sliceBounds,HT.sIx,pz,show (1:Int)>0 by decide,if_true];by_cases h:i<0
     . simp only [h,if_true] <;> omega
     . simp only [h,if_false] <;> omega
theorem jU(its:List uG)(lo hi:Option Int):slicePick its.toArray lo hi none=((its.drop (HT.sIx its.length 0 lo)).take (HT.sIx its.length its.length hi-HT.sIx its.length 0 lo)).toArray:=by
 obtain⟨h1,h2,h3⟩:=jT lo hi its.toArray.size;unfold slicePick;rw[h1,h2,h3];simp only [sliceRange_one,pick_run,Δ] <;> rfl
def rSlL(K:δ):V->Option Int->Option Int->Hp->VK->Prop:=λx lo hi H Q=>∃a xs,x = .ref a/\SqL K H a xs/\∀p,H p=none->Q (.ref p) (upd H p (.lst (xz xs lo hi)))
theorem LC:SlR X (rSlL X.K):=by
 intro pins s σ H x v vl vu lo hi sl Q I rx hs pl pu h;obtain⟨a,xs,rfl,hx,q⟩:=h;cases rx;obtain⟨its,r,ht,hz⟩:=I.list hx;have hlen:=r.length;refine⟨"list",_,slot_list_getitem.lookup,ht.isList.typeIs,?_⟩;refine wpAny_getItem_list_slice ht.isList hs pl pu .none (by simp) ?_ (by rw[Δ] <;> omega);rw[jU,<-hlen];refine⟨.ref s.heap.objs.size,_,I.laid (t':=s.toks) (o:=.lst (xz xs lo hi)) (λb ob q=>Γ _ q) (ψ _) ?_,rfl,q _ (I.hok.fresh (ψ _))⟩;exact⟨de (jQ xs lo hi) hz,_,0,(r.drop (HT.sIx xs.length 0 lo)).take (HT.sIx xs.length xs.length hi-HT.sIx xs.length 0 lo),bc _ rfl⟩
def Ch:V->Bool
 | .non=>true
 | .bl _=>true
 | .int _=>true
 | .str _=>true
 | _=>false
def eqV:V->V->Bool
 | .non,.non=>true
 | .bl a,.bl b=>a==b
 | .bl a,.int b=>(if a then 1 else 0)==b
 | .int a,.bl b=>a==(if b then 1 else 0)
 | .int a,.int b=>a==b
 | .str a,.str b=>a==b
 | _,_=>false
theorem ZZ{A:uM}{s:uI}{y x:V}{u v:uG}(ry:RelV y u)(rx:RelV x v)(fy:Ch y=true)(fx:Ch x=true):SeqAt.EqAt A s u v (eqV y x):=by
 cases y with
 | non=>
   cases ry;cases x with
   | non=>cases rx;exact jx _
   | bl b=>cases rx;exact tp b
   | int b=>obtain⟨t,rfl⟩:=rx;exact uh b t
   | str b=>obtain⟨t,rfl⟩:=rx;exact uj b t
   | _=>exact absurd (show false=true from fx) ν
 | bl a=>
   cases ry;cases x with
   | non=>cases rx;exact tq a
   | bl b=>cases rx;exact tw a b
   | int b=>obtain⟨t,rfl⟩:=rx;exact uk a b t
   | str b=>obtain⟨t,rfl⟩:=rx;exact ul a b t
   | _=>exact absurd (show false=true from fx) ν
 | int a=>
   obtain⟨t',rfl⟩:=ry;cases x with
   | non=>cases rx;exact um a t'
   | bl b=>cases rx;exact uo a t' b
   | int b=>obtain⟨t,rfl⟩:=rx;exact oq a t' b t
   | str b=>obtain⟨t,rfl⟩:=rx;exact oj a t' b t
   | _=>exact absurd (show false=true from fx) ν
 | str a=>
   obtain⟨t',rfl⟩:=ry;cases x with
   | non=>cases rx;exact uq a t'
   | bl b=>cases rx;exact ur a t' b
   | int b=>obtain⟨t,rfl⟩:=rx;exact ol a t' b t
   | str b=>obtain⟨t,rfl⟩:=rx;exact ut a t' b t
   | _=>exact absurd (show false=true from fx) ν
 | _=>exact absurd (show false=true from fy) ν
def eqU(x:V)(u:uG):Bool:=match u with
 | .none=>eqV .non x
 | .bool b=>eqV (.bl b) x
 | .int i _=>eqV (.int i) x
 | .str z _=>eqV (.str z) x
 | _=>false
theorem Z0{x y:V}{u:uG}(r:RelV y u)(f:Ch y=true):eqU x u=eqV y x:=by
 cases y with
 | non=>cases r;rfl
 | bl b=>cases r;rfl
 | int i=>obtain⟨t,rfl⟩:=r;rfl
 | str z=>obtain⟨t,rfl⟩:=r;rfl
 | _=>exact absurd (show false=true from f) ν
theorem LD{x:V}:∀{xs:List V}{us:List uG},Vals xs us->xs.all Ch=true->us.any (eqU x)=xs.any λy=>eqV y x
 | _,_,.nil,_=>rfl
 | y::xs,u::us,.cons r t,f=>by
   rw[ra,df] at f
   rw[eo,eo,Z0 r f.1,LD t f.2]
theorem LE{A:uM}{s:uI}{x:V}{v:uG}(rx:RelV x v)(fx:Ch x=true):∀{xs:List V}{us:List uG},Vals xs us->xs.all Ch=true->∀u∈us,SeqAt.EqAt A s u v (eqU x u)
 | _,_,.nil,_=>λu hu=>by cases hu
 | y::xs,u::us,.cons r t,f=>λu' hu=>by
   rw[ra,df] at f
   rcases Φ.mp hu with rfl | hu
   . rw[Z0 r f.1];exact ZZ r rx f.1 fx
   . exact LE rx fx t f.2 u' hu
def inV(x:V)(xs:List V):Bool:=xs.any λy=>eqV y x
def rIn(K:δ)(neg:Bool):R2:=λx y H Q=>∃p xs,y = .ref p/\(SqL K H p xs\/SqT K H p xs)/\Ch x=true/\xs.all Ch=true/\Q (.bl (if neg then !inV x xs else inV x xs)) H
theorem jV:OpR X (vd .In) (rIn X.K false):=by
 intro pins s σ H x y v u Q I rx ry h;obtain⟨p,xs,rfl,hq,fx,fs,q⟩:=h;cases ry;rcases hq with hq | hq
 . obtain⟨its,r,pl,hz⟩:=I.list hq;refine SeqAt.in_listAt (eqU x) pl.isList (λw hw=>LE rx fx r fs w (by simpa using hw)) ⟨.bl _,H,I,rfl,?_⟩;rw[show its.toArray.any (eqU x)=its.any (eqU x) by simp,LD r fs];exact q
 . obtain⟨its,r,pl,hz⟩:=I.tuple hq;refine SeqAt.in_tupleAt (eqU x) pl (λw hw=>LE rx fx r fs w (by simpa using hw)) ⟨.bl _,H,I,rfl,?_⟩;rw[show its.toArray.any (eqU x)=its.any (eqU x) by simp,LD r fs];exact q
theorem jW:OpR X (vd .NotIn) (rIn X.K true):=by
 intro pins s σ H x y v u Q I rx ry h;obtain⟨p,xs,rfl,hq,fx,fs,q⟩:=h;cases ry;rcases hq with hq | hq
 . obtain⟨its,r,pl,hz⟩:=I.list hq;refine SeqAt.notIn_listAt (eqU x) pl.isList (λw hw=>LE rx fx r fs w (by simpa using hw)) ⟨.bl _,H,I,rfl,?_⟩;rw[show its.toArray.any (eqU x)=its.any (eqU x) by simp,LD r fs];exact q
 . obtain⟨its,r,pl,hz⟩:=I.tuple hq;refine SeqAt.notIn_tupleAt (eqU x) pl (λw hw=>LE rx fx r fs w (by simpa using hw)) ⟨.bl _,H,I,rfl,?_⟩;rw[show its.toArray.any (eqU x)=its.any (eqU x) by simp,LD r fs];exact q
theorem CW:D4 X (.builtin "len") (λxs H Q=>∃p ys,xs=[.ref p]/\(SqL X.K H p ys\/SqT X.K H p ys)/\Q (.int ys.length) H):=by
 intro pins s σ H xs us Q I r h;obtain⟨p,ys,rfl,hq,q⟩:=h;obtain⟨u,rfl,rx⟩:=P5 r;cases rx;have hn:=Lz;rcases hq with hq | hq
 . obtain⟨its,r',pl,hz⟩:=I.list hq;have hlen:=r'.length;exact Calls.call_len_list pl.isList (by simp only [Δ] <;> omega) ⟨.int ys.length,H,I.tok _,⟨s.toks+1,by rw[Δ,hlen]⟩,q⟩
 . obtain⟨its,r',pl,hz⟩:=I.tuple hq;have hlen:=r'.length;exact len_tuple pl (by simp only [Δ] <;> omega) ⟨.int ys.length,H,I.tok _,⟨s.toks+1,by rw[Δ,hlen]⟩,q⟩
theorem Gu:D4 X (.type "list") (λxs H Q=>∃p ys,xs=[.ref p]/\(SqL X.K H p ys\/SqT X.K H p ys)/\∀l,H l=none->Q (.ref l) (upd H l (.lst ys))):=by
 intro pins s σ H xs us Q I r h;obtain⟨p,ys,rfl,hq,q⟩:=h;obtain⟨u,rfl,rx⟩:=P5 r;cases rx;have fin:∀(its:List uG),Vals ys its->ys.length<=uU->∀(h':vq)(c':Nat),(∀b o',s.heap.get? b=some o'->h'.get? b=some o') ->
     h'.get? s.heap.objs.size=some { cls:=.type "list",dict:=none,data:=.seq its.toArray c',slots:=#[] }->EP X pins σ Q (.ref s.heap.objs.size) { s with heap:=h' }:=λits r' hz h' c' kp e=>
   ⟨.ref s.heap.objs.size,_,I.laid (t':=s.toks) kp (ψ _) (show Br X.prog X.w _ h' _ (.lst ys) from ⟨hz,its,c',r',e⟩),rfl,q _ (I.hok.fresh (ψ _))⟩
 rcases hq with hq | hq
 . obtain⟨its,r',pl,hz⟩:=I.list hq;have hlen:=r'.length;obtain⟨o,ho,hc,n,hd⟩:=pl.isList;exact call_list_seq p (.inl rfl) ho hc hd (λh' c' kp e=>fin its r' hz h' c' kp e) (by simp only [Δ] <;> omega)
 . obtain⟨its,r',pl,hz⟩:=I.tuple hq;have hlen:=r'.length;obtain⟨o,ho,hc,n,hd⟩:=pl;exact call_list_seq p (.inr rfl) ho hc hd (λh' c' kp e=>fin its r' hz h' c' kp e) (by simp only [Δ] <;> omega)
def tyV(K:δ)(T:String)(x:V)(H:Hp):Prop:=match x with
 | .str _=>T="str"
 | .int _=>T="int"
 | .ref p=>(T="list"/\∃xs,SqL K H p xs)\/(T="tuple"/\∃o,K.lookup p=some o/\o.cls = .type "tuple"/\o.dict=none) \/
     (T="dict"/\((∃kvs,H p=some (.dK kvs))\/∃kvs,H p=some (.dT kvs)))\/(T="set"/\∃S n,H p=some (.set S n))
 | _=>False
theorem Z1{pins:List (uH×Obj)}{σ:St}{H:Hp}{s:uI}{T:String}{x:V}{v:uG}(I:Inv X pins σ H s)(r:RelV x v)(ty:tyV X.K T x H):
   s.TypeIs v T/\∀a,v = .ref a->∃ob,s.heap.get? a=some ob/\ob.dict=none:=by
 cases x with
 | str z=>
   obtain⟨t,rfl⟩:=r;cases (show T="str" from ty);exact⟨typeIs_str s z t,λ_ e=>nomatch e⟩
 | int i=>
   obtain⟨t,rfl⟩:=r;cases (show T="int" from ty);exact⟨typeIs_int s i t,λ_ e=>nomatch e⟩
 | ref p=>
   cases r;rcases ty with ⟨rfl,xs,hq⟩ | ⟨rfl,o,hk,hc,hd⟩ | ⟨rfl,hk⟩ | ⟨rfl,S,n,hk⟩
   . obtain⟨its,_,pl,_⟩:=I.list hq;refine⟨pl.isList.typeIs,λa e=>?_⟩;cases e;obtain⟨o,n,e,c,hd,_⟩:=pl;exact⟨o,e,hd⟩
   . refine⟨⟨o,I.kIn p o hk,hc⟩,λa e=>?_⟩;cases e;exact⟨o,I.kIn _ o hk,hd⟩
   . have z:∃o,s.heap.get? p=some o/\o.ExactDict:=by
       rcases hk with ⟨kvs,hk⟩ | ⟨kvs,hk⟩
       . obtain⟨_,_,_,_,o,_,_,e,ex,_⟩:=I.hok p _ hk;exact⟨o,e,ex⟩
       . obtain⟨_,_,_,_,o,_,_,e,ex,_⟩:=I.hok p _ hk;exact⟨o,e,ex⟩
     obtain⟨o,e,ex⟩:=z;refine⟨⟨o,e,ex.1⟩,λa e2=>?_⟩;cases e2;exact⟨o,e,ex.2.1⟩
   . obtain⟨o,_,_,_,e,ex,_⟩:=I.hok p _ hk;refine⟨⟨o,e,ex.1⟩,λa e2=>?_⟩;cases e2;exact⟨o,e,ex.2.1⟩
 | _=>exact cm ty
def tBM0(K:δ)(T:String)(r:V->List V->Hp->VK->Prop)(to:TE):TE:=λσ H Q=>to σ H λx H1=>tyV K T x H1/\r x [] H1 Q
def tBM(K:δ)(T:String)(r:V->List V->Hp->VK->Prop)(to:TE)(t:TA):TE:=λσ H Q=>to σ H λx H1=>tyV K T x H1/\t σ H1 λxs H2=>r x xs H2 Q
variable {o e:uN}{es:List uN}{to:TE}{t:TA}{name:Str}{apos cpos:Pos}{T id:String}{r:V->List V->Hp->VK->Prop}
theorem SA(pa:PlainAttrs T)(slot:Slot T name id)(hty:typeOf (.builtin id)=pure (.type "method_descriptor"))(hm:MtR X id r)(ho:PE X o to)
   (hbase:attributeBase o name X.env (vh o X.env)=vh o X.env:=by rfl) (hline:(apos.endLine==cpos.line)=true:=by rfl):PE X (.Call (.Attribute o name apos) [] [] cpos) (tBM0 X.K T r to):=by
 intro pins s σ H Q I h;refine wpAny_Call_method0_late hbase hline (thn (ho pins s σ H _ I h) λv s1 hZ=>?_);obtain⟨x,H1,I1,r1,ty,q1⟩:=hZ;obtain⟨h1,h2⟩:=Z1 I1 r1 ty;exact⟨T,id,pa,slot,hty,h1,h2,ic rfl (PySem.evalArgs_none (hm pins s1 σ H1 x [] v [] Q I1 r1 .nil q1))⟩
theorem LF(pa:PlainAttrs T)(slot:Slot T name id)(hty:typeOf (.builtin id)=pure (.type "method_descriptor"))(hm:MtR X id r)(ho:PE X o to)(ha:PA X (e::es) t)
   (hbase:attributeBase o name X.env (vh o X.env)=vh o X.env:=by rfl)
   (hfew:((uZ cpos (uR (e::es) X.env)).all (λx=>!x.1)&&(backToKw cpos (keywordEach [] X.env)).all (λx=>x.1.isSome)
     && decide ((e::es).length+([]:List Keyword).length+(if ([]:List Keyword).isEmpty then 0 else 1)<30))=true:=by rfl)
   (hline:(apos.endLine==cpos.line)=true:=by rfl) (hs:uR (e::es) X.env=(false,vh e X.env)::uR es X.env:=by rfl) (hplain:(uZ cpos (uR es X.env)).any (·.1)=false:=by rfl):
   PE X (.Call (.Attribute o name apos) (e::es) [] cpos) (tBM X.K T r to t):=by
 intro pins s σ H Q I h;refine wpAny_Call_method_late hbase hfew hline rfl (thn (ho pins s σ H _ I h) λv s1 hZ=>?_);obtain⟨x,H1,I1,r1,ty,q1⟩:=hZ;obtain⟨h1,h2⟩:=Z1 I1 r1 ty;refine⟨T,id,pa,slot,hty,h1,h2,?_⟩;have hA:=ha cpos pins s1 σ H1 _ I1 q1;rw[hs] at hA ⊢;refine ic (by show (false||(uZ cpos (uR es X.env)).any (·.1))=false;rw[hplain] <;> rfl) (io ?_);exact thn hA λus s2 ⟨vs,H2,I2,r2,q2⟩=>hm pins s2 σ H2 x vs v us Q I2 r1 r2 q2
end
def MtM(X:Cx)(id:String)(r:V->List V->Hp->VK->Prop):Prop:=
 ∀(pins:List (uH×Obj)) (s:uI) (σ:St) (H:Hp) (x:V) (xs:List V) (v:uG) (us:List uG) (Q:VK),Inv X pins σ H s->RelV x v->Vals xs us->r x xs H Q ->
   uY (vi X.prog X.w) X.A (call (.builtin id) (v::us)) (EP X pins σ Q) X.xe s
theorem Vals.one:∀{x:V}{us:List uG},Vals [x] us->∃u,us=[u]/\RelV x u
 | _,_,.cons r .nil=>⟨_,rfl,r⟩
theorem Vals.zero:∀{us:List uG},Vals [] us->us=[]
 | _,.nil=>rfl
theorem Vals.rep{xs:List V}{us:List uG}(h:Vals xs us):∀k:Nat,Vals (ο k xs).flatten (ο k us).flatten
 | 0=>.nil
 | k+1=>by
   rw[cb,cb,cu,cu]
   exact Vals.append h (Vals.rep h k)
theorem Z2(its:List uG):∀(k:Nat)(acc:List uG),
   ou (λx1 x2=>x1++x2) acc.toArray (ο k its.toArray)=(acc++(ο k its).flatten).toArray
 | 0,acc=>by simp
 | k+1,acc=>by
   have e:acc.toArray++its.toArray=(acc++its).toArray:=by simp
   have e2:(acc++its)++(ο k its).flatten=acc++(ο (k+1) its).flatten:=by
     rw[cb,cu,ao]
   rw[<-e2,<-Z2 its k (acc++its),<-e,cb,gf]
section
variable {X:Cx}{pins:List (uH×Obj)}{σ:St}{H:Hp}{s:uI}{l b:uH}{xs ys zs:List V}
theorem Inv.lset{its its':List uG}{n:Nat}{f:Array uG->Array uG}{t':Nat}(I:Inv X pins σ H s)(hH:H l=some (.lst xs))
   (e:s.heap.get? l=some { cls:=.type "list",data:=.seq its.toArray n }) (hf:f its.toArray=its'.toArray) (hv:Vals ys its') (hz:ys.length<=uU):
   Inv X pins σ (upd H l (.lst ys)) { s with heap:=s.heap.update l (lz f),toks:=t' }:=by
 have q:=PySem.IsL.update e f;rw[hf] at q;refine I.write (x:=l) (e:=l) (by rw[hH];exact trivial) (.inl rfl) (λb' u hb hu=>(ah s.heap (lz f) (dn hb)).trans hu) ⟨_,q⟩ ?_;exact⟨hz,its',_,hv,q⟩
theorem Inv.lnew{its:List uG}{t':Nat}(I:Inv X pins σ H s)(hv:Vals ys its)(hz:ys.length<=uU):
   Inv X pins σ (upd H s.heap.objs.size (.lst ys)) { s with heap:=s.heap.push { cls:=.type "list",data:=.seq its.toArray },toks:=t' }:=
 I.laid (λ_ _ q=>Γ _ q) (ψ _) ⟨hz,its,0,hv,bc _ rfl⟩
theorem Inv.fresh(I:Inv X pins σ H s):H s.heap.objs.size=none:=I.hok.fresh (ψ _)
theorem Inv.lstM(I:Inv X pins σ H s)(hH:H l=some (.lst xs)):xs.length<=uU/\∃(its:List uG)(n:Nat),Vals xs its/\xs.length=its.length/\s.heap.get? l=some { cls:=.type "list",data:=.seq its.toArray n }:=by
 obtain⟨z,its,n,r,e⟩:=I.hok l _ hH;exact⟨z,its,n,r,r.length,e⟩
theorem Z3{n:Nat}(h:n<=uU):Builtin.List.listTooLong n=false:=by
 unfold Builtin.List.listTooLong;exact decide_eq_false (by omega)
end
section
variable {X:Cx}
def Z4:V->List V->Hp->VK->Prop:=λx vs H Q=>∃l xs y,x = .ref l/\vs=[y]/\H l=some (.lst xs)/\xs.length<uU/\Q .non (upd H l (.lst (xs++[y])))
theorem Kw:MtM X "list.append" Z4:=by
 intro pins s σ H x vs v us Q I rx rv h;obtain⟨l,xs,y,rfl,rfl,hH,hz,q⟩:=h;cases rx;obtain⟨u,rfl,ru⟩:=rv.one;obtain⟨z,its,n,r,hl,e⟩:=I.lstM hH;refine call_meets F.slot_list_append ⟨_,e,rfl⟩ F.entry_list_append (F.args_list_append_2 _ _) (PySem.list_append l its.toArray n u (by rw[Δ];omega)) ⟨e,?_⟩;refine⟨.non,_,I.lset (its':=its++[u]) hH e (by simp) (r.append (.cons ru .nil)) ?_,rfl,q⟩;rw[ι,Θ];omega
def jX:V->List V->Hp->VK->Prop:=λx vs H Q=>∃l b xs zs,x = .ref l/\vs=[.ref b]/\H l=some (.lst xs)/\H b=some (.lst zs)/\xs.length+zs.length<=uU/\Q .non (upd H l (.lst (xs++zs)))
theorem zy:MtM X "list.extend" jX:=by
 intro pins s σ H x vs v us Q I rx rv h;obtain⟨l,b,xs,zs,rfl,rfl,hH,hB,hz,q⟩:=h;cases rx;obtain⟨u,rfl,ru⟩:=rv.one;cases ru;obtain⟨z,its,n,r,hl,e⟩:=I.lstM hH;obtain⟨z2,its2,n2,r2,hl2,e2⟩:=I.lstM hB;have hsz:its.toArray.size+its2.toArray.size<=uU:=by rw[Δ,Δ];omega
 have hlong:¬(!its.toArray.isEmpty&&Builtin.List.listTooLong (its.toArray.size+its2.toArray.size))=true:=by
   rw[Z3 hsz,Bool.and_false];exact ν
 refine call_meets F.slot_list_extend ⟨_,e,rfl⟩ F.entry_list_extend (F.args_list_extend_2 _ _)
   (AutoSeq1.list_extend_list_list_0 l its.toArray n b its2.toArray n2 hlong (by rw[Δ];omega) (by omega)) ⟨e,e2,?_⟩
 refine⟨.non,_,I.lset (its':=its++its2) hH e (by simp) (r.append r2) ?_,rfl,q⟩;rw[ι];omega
def rCat:R2:=λx y H Q=>∃l b xs zs,x = .ref l/\y = .ref b/\H l=some (.lst xs)/\H b=some (.lst zs)/\xs.length+zs.length<=uU/\∀p,H p=none->Q (.ref p) (upd H p (.lst (xs++zs)))
theorem SB:OpR X (binaryOp .Add) rCat:=by
 intro pins s σ H x y v u Q I rx ry h;obtain⟨l,b,xs,zs,rfl,rfl,hH,hB,hz,q⟩:=h;cases rx;cases ry;obtain⟨z,its,n,r,hl,e⟩:=I.lstM hH;obtain⟨z2,its2,n2,r2,hl2,e2⟩:=I.lstM hB;refine PySem.P.add_list e e2 ?_ (by rw[Δ,Δ];omega);have ea:its.toArray++its2.toArray=(its++its2).toArray:=by simp
 rw[ea];exact⟨.ref _,_,I.lnew (t':=s.toks) (r.append r2) (by rw[ι];omega),rfl,q _ I.fresh⟩
def rRep:R2:=λx y H Q=>∃l k xs,x = .ref l/\y = .int k/\H l=some (.lst xs)/\-(2^63)<=k/\k<2^63/\xs.length*k.toNat<=uU /\
 ∀p,H p=none->Q (.ref p) (upd H p (.lst (ο k.toNat xs).flatten))
theorem yd{α:Type}(xs:List α)(k:Nat):(ο k xs).flatten.length=k*xs.length:=by
 induction k with
 | zero=>simp
 | succ k ih=>rw[cb,cu,ι,ih,Nat.succ_mul,Nat.add_comm]
theorem SC:OpR X (binaryOp .Mult) rRep:=by
 intro pins s σ H x y v u Q I rx ry h;obtain⟨l,k,xs,rfl,rfl,hH,h1,h2,hz,q⟩:=h;cases rx;obtain⟨t,rfl⟩:=ry;obtain⟨z,its,n,r,hl,e⟩:=I.lstM hH;have hlen:its.toArray.size*k.toNat<=uU:=by rw[Δ,<-hl];exact hz
 have hcap:¬its.toArray.size*k.toNat>(2^63-1)/8:=by
   have:(uU:Nat)<=(2^63-1)/8:=by decide
   omega
 have hfit:¬(!Builtin.List.listFitsIndex k)=true:=by
   rw[fitsIndex_both h1 h2];exact ν
 have hlong:¬Builtin.List.listTooLong (its.toArray.size*k.toNat)=true:=by
   rw[Z3 hlen];exact ν
 have hnew:ou (λx1 x2=>x1++x2) #[] (ο (if its.toArray.isEmpty=true then 0 else k.toNat) its.toArray)=(ο k.toNat its).flatten.toArray:=by
   have f0:∀m:Nat,ou (λx1 x2=>x1++x2) #[] (ο m its.toArray)=(ο m its).flatten.toArray:=λm=>by
     have:=Z2 its m [];rw[bz] at this;exact this
   rw[f0];cases its with
   | nil=>simp
   | cons a r'=>rw[if_neg (by simp)]
 refine wpAny_binaryOp_repeat_ref (T:="list") (U:="int") (by decide) ⟨_,e,rfl⟩ (λs'=>typeIs_int s' k t) noFill_list_mul F.fills_int_mul F.slot_int_rmul repeat_list F.slot_int_index.lookup
   (call_meets F.slot_int_rmul (typeIs_int s k t) F.entry_int_rmul (F.args_int_rmul_2 _ _) (int___rmul___int_list k t l its.toArray n)
     ⟨e,rfl,⟨_,e,rfl⟩,call_meets F.slot_list_mul ⟨_,e,rfl⟩ F.entry_list_mul (F.args_list_mul_2 _ _) (AutoListH.list___mul___list_int_3 l its.toArray n k t hfit hcap hlong) ⟨e,?_⟩⟩)
 rw[hnew];exact⟨.ref _,_,I.lnew (t':=s.toks) (r.rep k.toNat) (by rw[yd,Nat.mul_comm];exact hz),rfl,q _ I.fresh⟩
end
section
variable {prog:uK}{w:uL}{A:uM}{E:uG->uI->Prop}{s:uI}
end
section
variable {X:Cx}
end
end L2
namespace Att
open PySem PySem.W PySem.Calls PyProof.Rows
theorem jY{P:vp}{h:vq}:∀(ns:List Int)(vs:List uG),WellAll P h vs (ns.map WData.int)->IntsAre vs ns:=by
 intro ns
 induction ns with
 | nil=>
   intro vs w;rw[ib] at w;cases w;exact .nil
 | cons n ns ih=>
   intro vs w;rw[av] at w;cases w with
   | cons a b=>
     cases a;exact .cons _ _ (ih _ b)
theorem jZ{l:OpenLaw}{n:Nat}(hn:l.most=some n){P:vp}{h:vq}{args:List WData}{vals:List uG}
   (hpre:l.row.toRowW.claim.pre args=true) (hwl:WellAll P h vals args):
   ∃a vs ns,vals=[Value.ref a]/\args=[WData.list (ns.map WData.int)]/\h.get? a=some { cls:=.type "list",data:=.seq vs.toArray }/\IntsAre vs ns/\ns.length<=n:=by
 have hsh:WShape.hasAll [] args [.list .int]=true:=(pre_splitW hpre).1;have hc:l.pre.holds [] { args:=args }=true:=(pre_splitW hpre).2;obtain⟨d,r,rfl,h1,h2⟩:=hasAllW_cons hsh;obtain rfl:=hasAllW_nil h2;obtain⟨xs,rfl,h3⟩:=hasW_list h1;obtain⟨ns,rfl⟩:=items_int h3;have hlen:ns.length<=n:=by
   unfold OpenLaw.pre at hc;have h4:(WTm.not (.lt (.lit (.int (n:Int))) (.len (.arg 0)))).holds [] { args:=[.list (ns.map .int)] }=true:=by
     have h4:=(holds_andW hc).1;rw[hn] at h4;exact h4
   have h5:=condW_of h4 (w_not (w_lt w_lit (w_len_list (w_arg rfl))));rw[Ξ] at h5;refine qc λq=>?_;have q':(n:Int)<((ns.length:Nat):Int):=by omega
   first
     | (rw[decide_eq_true q'] at h5;exact absurd h5 (by decide))
     | (simp at h5;omega)
 cases hwl with
 | cons w1 w2=>
   cases w2;cases w1 with
   | list ho hall=>exact⟨_,_,ns,rfl,rfl,ho,jY ns _ hall,hlen⟩
theorem kA(l:OpenLaw)(args:List WData):l.row.toRowW.claim.post args (.bool true) args=true:=
 postW_of (r:=l.row.toRowW) (X:=(true==true))
   (show WShape.has [] (.bool true) .bool=true by first | rfl | decide | simp [WShape.has,WShape.arms,WShape.armsAll])
   (show (WTm.eq .res (.lit (.bool true))).value [] { args:=args,res:=some (.bool true),after:=args }=some (.bool (true==true)) from w_eq_bool (w_res rfl) w_lit) rfl
theorem attach_call{l:OpenLaw}{n:Nat}{q:uK}{loose:List Str}{XP:(Str->Option uG)->vq->Prop}{YP:uL->vq->Prop}{d:DefRec}
   (hn:l.most=some n) (hdf:d.params.defaults=[])
   (call:∀(w:uL)(s₀ s₁:uI)(mg mb:Str->Option uG)(fa:uH)(o:Obj)(pm cd doc:uG)(a:uH)(vs:List uG)(ns:List Int),
     Ground q loose [] XP w s₀ mg mb s₁.heap->YP w s₁.heap ->
     s₁.heap.get? fa=some o->o.data = .func (docDef d.name d.params d.body d.scope pm cd doc)->s₁.heap.CodeRec cd d.name->mg d.name=some (.ref fa) ->
     s₁.heap.get? a=some { cls:=.type "list",data:=.seq vs.toArray }->IntsAre vs ns->ns.length<=n->s₁.gens=#[] ->
     codeAny (vi l.prog w) callerA (.call (.ref fa) ⟨[.ref a],[]⟩) (λr s'=>r = .ok (.ret (.bool true))/\OldK s₁.heap s'.heap/\s'.os=s₁.os/\AllBare s'.gens) s₁):
   WalkO q loose XP YP l.row.toRowW d [] (λf vs=>qv f vs):=by
 intro w s₀ s₁ mg mb G Y fa o pm cd doc dV kV ho hd hcd hD hmg hg args vals as hpre hlay hrd hwl hlo;obtain rfl:dV = .none:=Dflts.none hD hdf;obtain rfl:kV = .none:=Dflts.noKw hD;obtain⟨a,vs,ns,rfl,rfl,hobj,hints,hlen⟩:=jZ hn hpre hwl;refine enter_call (codeAny_mono (call w s₀ s₁ mg mb fa o pm cd doc a vs ns G Y ho (fd_plain hd) hcd hmg hobj hints hlen hg) λr s' hq=>?_);obtain⟨rfl,h2,h3,h4⟩:=hq;exact⟨.inl ⟨.bool true,.bool true,[],rfl,λ_=>rfl,.bool true,kA l _,λ_=>⟨List.Pairwise.nil,λ_ hm=>(nomatch hm)⟩⟩,h2,h3,h4⟩
section
variable {prog:uK}{w:uL}{A:uM}{E:uG->uI->Prop}{s:uI}{K:Frag}
end
end Att
namespace L2
open PySem PySem.Spec PyProof.Rows
theorem Z5:∀{vs:List uG}{ns:List Int},IntsAre vs ns->Vals (ns.map V.int) vs
 | _,_,.nil=>.nil
 | _,_,.cons n t h=>.cons ⟨t,rfl⟩ (Z5 h)
def Only(H:Hp):Prop:=∀b,H b=none\/∃o xs,H b=some (.frz o (.lst xs))
theorem kB{P:uK}{w:uL}{K:δ}{mg mb:Str->Option uG}{CX:CXT}{k:Nat}{fa a:uH}{fd:uJ}{x:Str}{sp:Sp}{s₁:uI}{vs:List uG}{ns:List Int}
   (KX:K.In s₁.heap) (hns:s₁.heap.Ns ve mg) (hb:s₁.heap.Ns builtinsNs mb) (hbb:∀x:Str,x≠"__name__"->mb x=bootBuiltins x) (hlim:s₁.heap.NoLimit) (hg:s₁.gens=#[])
   (ha:s₁.heap.get? a=some { cls:=.type "list",data:=.seq vs.toArray }) (hi:IntsAre vs ns) (hl:ns.length<=uU) (hr:Room k callerA)
   (F:∀base:vq,K.In base->base.Ns ve mg->FnOk P w K mg base CX k fa fd [x] sp) (hbind:∀(s:uI)(u:uG),BindsTo s fd ⟨[u],[]⟩ [(x,u)])
   (hsp:∀H:Hp,Only H->SqL K H a (ns.map V.int)->sp [.ref a] H (λv _=>v = .bl true) λ_ _ _=>False)
   (hCX:∀H e s',CX [] H s₁ (λ_ _ _=>False) e s'->False):
   codeAny (vi P w) callerA (.call (.ref fa) ⟨[.ref a],[]⟩) (λr s'=>r = .ok (.ret (.bool true))/\OldK s₁.heap s'.heap/\s'.os=s₁.os/\AllBare s'.gens) s₁:=by
 have rv:=Z5 hi;have lenV:=hi.length
 have core:∀H:Hp,Only H->SqL K H a (ns.map V.int)->HOk P w H s₁.heap->(∀b,H b≠none->b=a)->(H a≠none->K.lookup a=none) ->
     codeAny (vi P w) callerA (.call (.ref fa) ⟨[.ref a],[]⟩) (λr s'=>r = .ok (.ret (.bool true))/\OldK s₁.heap s'.heap/\s'.os=s₁.os/\AllBare s'.gens) s₁:=by
   intro H hO hS hok hA hK;have base_of:∀{b:uH}{o:Obj},s₁.heap.get? b=some o->H b=none->(xC s₁.heap H).get? b=some o:=λe n=>iK e n;have noA:∀{b:uH}{o:Obj}{es:Array DictEntry}{ep:Nat},s₁.heap.get? b=some o->o.data = .dict es ep->H b=none:=λ{b o es ep} e d=>by
     cases q:H b with
     | none=>rfl
     | some u=>
       have e':b=a:=hA b (by rw[q];simp);subst e';rw[ha] at e;cases e;have d':Data.seq vs.toArray _=Data.dict es ep:=d;cases d'
   have nsK:∀{b:uH}{m:Str->Option uG},s₁.heap.Ns b m->(xC s₁.heap H).Ns b m:=λ{b m} ⟨o,es,ep,e,d,r⟩=>⟨o,es,ep,base_of e (noA e d),d,r⟩
   have hKb:K.In (xC s₁.heap H):=λb o e=>base_of (KX b o e) (by
     cases q:H b with
     | none=>rfl
     | some u=>
       have e':b=a:=hA b (by rw[q];simp);subst e';rw[hK (by rw[q];simp)] at e;cases e)
   have hM:Mod K mg (xC s₁.heap H):=⟨hKb,nsK hns,⟨mb,nsK hb,hbb⟩,let ⟨mc,h1,h2⟩:=hlim;⟨mc,nsK h1,h2⟩⟩
   have e0:Env0 P w K mg (xC s₁.heap H) callerA [] s₁ H:=⟨rfl,hM,λb o e=>iL e,rp (iJ _ _),trivial,λb hb=>absurd (show b∈([]:List uH) from hb) (by simp),hok,.of_eq hg⟩
   refine codeAny_mono ((F _ hKb (nsK hns)).run callerA [] s₁ H ⟨[.ref a],[]⟩ [.ref a] [.ref a] _ _ hr e0 (hbind s₁ (.ref a)) (.cons rfl .nil) (hsp H hO hS)) λr s' h=>?_;cases r with
   | error e=>exact(hCX H e s' h).elim
   | ok fl=>
     cases fl with
     | next=>exact cm h
     | brk=>exact cm h
     | cont=>exact cm h
     | ret u=>
       obtain⟨v,H',os,bare,un,hok',r',q⟩:=h;have q':v = .bl true:=q;subst q';obtain rfl:u=Value.bool true:=r';refine⟨rfl,OldK.of_keep λb o e=>?_,os,bare⟩;cases q:H b with
       | none=>exact un.keep b o e q (by intro z;exact absurd (show b∈([]:List uH) from z) (by simp)) (by simp)
       | some u=>
         rcases hO b with z | ⟨ob,xs,z⟩
         . rw[q] at z;cases z
         . have z2:=un.frzs b ob _ z;obtain⟨e1,_⟩:=hok b _ z;obtain⟨e2,_⟩:=hok' b _ z2;rw[e] at e1;cases e1;exact e2
 cases hk:K.lookup a with
 | some o=>
   have e:=KX a o hk;rw[ha] at e;cases e;refine core (λ_=>none) (λ_=>.inl rfl) (.inr ⟨_,vs.toArray,_,hk,rfl,rfl,rfl,by rw[Δ,lenV];exact hl,by simpa using rv⟩) (λb u z=>by have z':(none:Option HO)=some u:=z;cases z') (λb z=>absurd rfl z) λz=>absurd rfl z
 | none=>
   refine core (λb=>if b=a then some (.frz { cls:=.type "list",data:=.seq vs.toArray } (.lst (ns.map V.int))) else none) (λb=>?_) (.inl (.inr ⟨{ cls:=.type "list",data:=.seq vs.toArray },if_pos rfl⟩)) (λb u z=>?_) (λb z=>?_) λ_=>hk
   . by_cases hb:b=a
     . exact .inr ⟨_,_,if_pos hb⟩
     . exact .inl (if_neg hb)
   . by_cases hb:b=a
     . have z':=(if_pos hb).symm.trans z;cases z';subst hb;exact⟨ha,by rw[Ξ];exact hl,vs,_,rv,ha⟩
     . have z':=(if_neg hb).symm.trans z;cases z'
   . by_cases hb:b=a
     . exact hb
     . exact absurd (if_neg hb) z
theorem walk_of{l:mi}{n k:Nat}{q:uK}{loose:List Str}{XP:(Str->Option uG)->vq->Prop}{YP:uL->vq->Prop}{d:DefRec}{K:vp->δ}{CX:uL->CXT}{sp:uL->Sp}{x:Str}
   (hn:l.most=some n) (hn2:n<=uU) (hdf:d.params.defaults=[]) (hr:Room k callerA)
   (hY:∀(w:uL)(h:vq),YP w h->(K w.params).In h)
   (F:∀(w:uL)(mg:Str->Option uG)(fa:uH)(h:vq),(K w.params).In h->h.Ns ve mg->mg d.name=some (.ref fa) ->
     ∃fd:uJ,(∀(s:uI)(u:uG),BindsTo s fd ⟨[u],[]⟩ [(x,u)]) /\
       ∀base:vq,(K w.params).In base->base.Ns ve mg->FnOk l.prog w (K w.params) mg base (CX w) k fa fd [x] (sp w))
   (hsp:∀(w:uL)(H:Hp)(a:uH)(ns:List Int),ns.length<=n->Only H->SqL (K w.params) H a (ns.map V.int)->sp w [.ref a] H (λv _=>v = .bl true) λ_ _ _=>False)
   (hCX:∀(w:uL)(H:Hp)(s:uI)(e:uG)(s':uI),CX w [] H s (λ_ _ _=>False) e s'->False):
   rb q loose XP YP l.row.toRowW d [] (λf vs=>qv f vs):=by
 refine Att.attach_call hn hdf λw s₀ s₁ mg mb fa o pm cd doc a vs ns G Y ho hd hcd hmg hobj hints hlen hg=>?_;have KX:=hY w _ Y;obtain⟨fd,hb,hF⟩:=F w mg fa _ KX G.T.g hmg;exact kB KX G.T.g G.T.b G.T.builtins G.T.nolimit hg hobj hints (de hlen hn2) hr hF hb (λH hO hS=>hsp w H a ns hlen hO hS) λH e s'=>hCX w H s₁ e s'
abbrev CX0:CXT:=λ_ _ _ _ _ _=>False
abbrev E0:XK:=λ_ _ _=>False
structure Fun(K:δ)(x qual:Str)(st:uO)(f:uH)(fd:uJ):Prop where
 ex:∃(oc:uG)(od:Option uH)(kV doc pm:uG)(an:Option uH)(cdv ct:uG) (osl:Array (Option uG)),
   fd=fnOf x qual (A1 st) (AZ st) (An st) .none kV doc pm an cdv ct/\K.lookup f=some ⟨oc,od,.func fd,osl⟩/\codeIn K cdv qual=true
 kp:keepIn K (.ref f)=true
section
variable {P:uK}{w:uL}{K:δ}{mg:Str->Option uG}{base:vq}
theorem Fun.binds{x qual:Str}{st:uO}{f:uH}{fd:uJ}{ps:List Str}(F:Fun K x qual st f fd)
   (h:∀(kV doc pm:uG)(an:Option uH)(cdv ct:uG)(us:List uG),us.length=ps.length->uS (fnOf x qual (A1 st) (AZ st) (An st) .none kV doc pm an cdv ct) ⟨us,[]⟩=pure (ps.zip us)):Bx K fd ps []:=by
 obtain⟨oc,od,kV,doc,pm,an,cdv,ct,osl,rfl,lk,hcd⟩:=F.ex;exact .all (h kV doc pm an cdv ct)
theorem A2{x qual:Str}{st:uO}{f:uH}{oc:uG}{od an:Option uH}{osl:Array (Option uG)}{kV doc pm cdv ct:uG}(l:K.lookup f=some ⟨oc,od,.func (fnOf x qual (A1 st) (AZ st) (An st) .none kV doc pm an cdv ct),osl⟩)
   (c:codeIn K cdv qual=true) (k:keepIn K (.ref f)=true):Fun K x qual st f (fnOf x qual (A1 st) (AZ st) (An st) .none kV doc pm an cdv ct):=⟨⟨oc,od,kV,doc,pm,an,cdv,ct,osl,rfl,l,c⟩,k⟩
end
theorem small1000{n:Nat}(h:n<=1000):n<uU:=iu h (by decide)
section
variable {X:Cx}
theorem pv(i:Nat){x:Str}{pos:Pos}(hN:X.N[i]?=some x:=by rfl)(hv:Vis X.env.scope x:=by first | exact π rfl | exact ku (π rfl) | exact ku (ku rfl))(hd:(x==("__debug__":Str))=false:=by decide)
   (hcd:(x==("__classdict__":Str))=false:=by decide):PE X (.Name x pos) (tVar i):=zo hN hv hd hcd
end
theorem iteF{A B:Prop}(h:B):if false=true then A else B:=by
 rw[if_neg ν];exact h
theorem iteT{A B:Prop}(h:A):if true=true then A else B:=by
 rw[if_pos rfl];exact h
def Same(H H':Hp):Prop:=∀b o,H b=some o->H' b=some o
theorem Same.refl(H:Hp):Same H H:=λ_ _ h=>h
theorem Same.trans{H H1 H2:Hp}(a:Same H H1)(b:Same H1 H2):Same H H2:=λc o h=>b c o (a c o h)
theorem Same.free{H H':Hp}(e:Same H H'){l:uH}(h:H' l=Option.none):H l=Option.none:=by
 cases q:H l with
 | none=>rfl
 | some o=>
   rw[e l o q] at h;cases h
theorem Same.seq{K:δ}{H H':Hp}{a:uH}{xs:List V}(e:Same H H')(h:SqL K H a xs):SqL K H' a xs:=by
 rcases h with (h | ⟨o,h⟩) | h
 . exact .inl (.inl (e _ _ h))
 . exact .inl (.inr ⟨o,e _ _ h⟩)
 . exact .inr h
end L2
namespace Stow
variable{ns cs:List Int}{k:Int}{H:Hp}{Q:Unit->uI->Prop}{pins:List (uH×Obj)}
structure Pc where
 a:Int
 l:Int
 v:Bool
 deriving DecidableEq
variable{ps:List Pc}{z:Pc}
def xg(l:Int)(v:Bool):Int:=l*2+(if v then 1 else 0)
def Pc.mk'(p:Pc):Int:=xg p.l p.v
def Ak:Int->List Pc->Int->Prop
 | s,[],e=>s=e
 | s,p::r,e=>p.a=s/\1<=p.l/\(p.v=true->3<=p.l)/\Ak (s+p.l) r e
theorem Ak.le:∀{ps:List Pc}{s e:Int},Ak s ps e->s+ps.length<=e
 | [],s,e,h=>by have h:s=e:=h;simp [h]
 | p::r,s,e,h=>by
   obtain⟨_,h1,_,h2⟩:=h
   have:=Ak.le h2
   simp only [am];omega
theorem Ak.app:∀{ps qs:List Pc}{s m e:Int},Ak s ps m->Ak m qs e->Ak s (ps++qs) e
 | [],_,s,m,e,h,k=>by have h:s=m:=h;subst h;exact k
 | p::r,qs,s,m,e,h,k=>by
   obtain⟨h0,h1,h2,h3⟩:=h
   exact⟨h0,h1,h2,Ak.app h3 k⟩
theorem Ak.one{p:Pc}(h1:1<=p.l)(h3:p.v=true->3<=p.l):Ak p.a [p] (p.a+p.l):=⟨rfl,h1,h3,rfl⟩
theorem Ak.snoc{s:Int}{p:Pc}(h:Ak s ps p.a)(h1:1<=p.l)(h3:p.v=true->3<=p.l):Ak s (ps++[p]) (p.a+p.l):=h.app (.one h1 h3)
theorem Ak.mem:∀{ps:List Pc}{s e:Int},Ak s ps e->∀p∈ps,s<=p.a/\1<=p.l/\(p.v=true->3<=p.l)/\p.a+p.l<=e
 | [],_,_,_,p,hp=>by cases hp
 | q::r,s,e,h,p,hp=>by
   obtain⟨h0,h1,h2,h3⟩:=h
   rcases Φ.mp hp with rfl | hp
   . have:=h3.le
     exact⟨by omega,h1,h2,by omega⟩
   . obtain⟨a,b,c,d⟩:=Ak.mem h3 p hp
     exact⟨by omega,b,c,d⟩
def Au(cs:List Int)(ps:List Pc):Prop:=∀p∈ps,cs[p.a.toNat]?=some p.mk'/\cs[(p.a+p.l-1).toNat]?=some p.mk'
theorem Au.nil(cs:List Int):Au cs []:=λp hp=>by cases hp
theorem G5(l:Int)(v:Bool):xg l v/2=l:=by unfold xg;split <;> omega
theorem LG(l:Int)(v:Bool):decide (xg l v%2=1)=v:=by
 unfold xg;cases v
 . exact decide_eq_false (by simp)
 . exact decide_eq_true (by simp)
def CY(ns:List Int)(k:Int):Bool:=
 if ns.getD k.toNat 0/2<1\/(ns.length:Int)<k+ns.getD k.toNat 0/2 then false else decide (3<=ns.getD k.toNat 0/2)||!decide (ns.getD k.toNat 0%2=1)
def BY(ns:List Int)(k:Int):Option Int:=
 if CY ns k=true then (if ns.getD (k+ns.getD k.toNat 0/2-1).toNat 0=ns.getD k.toNat 0 then none else some (k+ns.getD k.toNat 0/2-1)) else some k
theorem G6{k:Nat}{x:Int}(h:ns[k]?=some x):ns.getD k 0=x:=by rw[au,h];rfl
theorem kC{p:Pc}(h1:1<=p.l)(h3:p.v=true->3<=p.l)(hl:p.a+p.l<=ns.length)(m1:ns[p.a.toNat]?=some p.mk')(m2:ns[(p.a+p.l-1).toNat]?=some p.mk'):BY ns p.a=none:=by
 have e1:=G6 m1;have e2:=G6 m2;have e3:ns.getD p.a.toNat 0/2=p.l:=by rw[e1];exact G5 _ _
 have hc:CY ns p.a=true:=by
   unfold CY;rw[e3,if_neg (by omega),e1];show (decide (3<=p.l)||!decide (xg p.l p.v%2=1))=true;rw[LG];cases hv:p.v with
   | false=>simp
   | true=>simp [h3 hv]
 unfold BY;rw[if_pos hc,e3,e2,e1,if_pos rfl]
theorem Z6(ns:List Int)(k:Int):CY ns k=true↔(1<=ns.getD k.toNat 0/2/\k+ns.getD k.toNat 0/2<=ns.length/\(ns.getD k.toNat 0%2=1->3<=ns.getD k.toNat 0/2)):=by
 unfold CY;by_cases h:ns.getD k.toNat 0/2<1\/(ns.length:Int)<k+ns.getD k.toNat 0/2
 . rw[if_pos h];constructor
   . intro z;cases z
   . intro z;omega
 . rw[if_neg h];simp only [qm,decide_eq_true_eq,lh,decide_eq_false_iff_not];constructor
   . intro z;refine⟨by omega,by omega,λw=>?_⟩;rcases z with z | z
     . exact z
     . exact absurd w z
   . rintro⟨_,_,z⟩;by_cases w:ns.getD k.toNat 0%2=1
     . exact .inl (z w)
     . exact .inr w
def xH(ns:List Int)(k:Int):Pc:=⟨k,ns.getD k.toNat 0/2,decide (ns.getD k.toNat 0%2=1)⟩
theorem yx(h:BY ns k=none):CY ns k=true:=by
 unfold BY at h
 split at h
 . assumption
 . cases h
theorem P9(h:BY ns k=none):1<=ns.getD k.toNat 0/2/\k+ns.getD k.toNat 0/2<=ns.length/\(ns.getD k.toNat 0%2=1->3<=ns.getD k.toNat 0/2):=(Z6 ns k).mp (yx h)
theorem A_(h:CY ns k=false):BY ns k=some k:=by
 unfold BY;rw[if_neg (by rw[h];exact ν)]
theorem kD(h:CY ns k=true)(h2:ns.getD (k+ns.getD k.toNat 0/2-1).toNat 0≠ns.getD k.toNat 0):BY ns k=some (k+ns.getD k.toNat 0/2-1):=by
 unfold BY;rw[if_pos h,if_neg h2]
theorem kE(h:CY ns k=true)(h2:ns.getD (k+ns.getD k.toNat 0/2-1).toNat 0=ns.getD k.toNat 0):BY ns k=none:=by
 unfold BY;rw[if_pos h,if_pos h2]
def DV(ns:List Int):Nat->Int->List Pc×Option Int
 | 0,_=>([],none)
 | n+1,k=>
   if k<ns.length/\BY ns k=none then
     (xH ns k::(DV ns n (k+ns.getD k.toNat 0/2)).1,(DV ns n (k+ns.getD k.toNat 0/2)).2)
   else ([],if k<ns.length then BY ns k else none)
theorem SD(ns:List Int):∀(n m:Nat)(k:Int),(ns.length-k).toNat<=n->(ns.length-k).toNat<=m->DV ns n k=DV ns m k:=by
 have z:∀(m:Nat)(k:Int),(ns.length-k).toNat<=0->DV ns m k=([],none):=by
   intro m k h;cases m with
   | zero=>rfl
   | succ m=>rw[DV,if_neg (by omega),if_neg (by omega)]
 intro n
 induction n with
 | zero=>intro m k h _;rw[z m k h];rfl
 | succ n ih=>
   intro m k h1 h2;cases m with
   | zero=>rw[z (n+1) k h2];rfl
   | succ m=>
     rw[DV,DV];by_cases h:k<ns.length/\BY ns k=none
     . have:=P9 h.2;rw[if_pos h,if_pos h,ih m _ (by omega) (by omega)]
     . rw[if_neg h,if_neg h]
def By(ns:List Int)(k:Int):List Pc×Option Int:=DV ns (ns.length-k).toNat k
theorem SE(h:¬k<ns.length):By ns k=([],none):=
 (SD ns _ 0 k (ψ _) (by omega)).trans rfl
theorem Z7(ns:List Int)(k:Int):By ns k=DV ns ((ns.length-k).toNat+1) k:=SD ns _ _ k (ψ _) (by omega)
theorem Z8{b:Int}(h:k<ns.length)(hb:BY ns k=some b):By ns k=([],some b):=by
 rw[Z7,DV,if_neg (λz=>by rw[hb] at z;cases z.2),if_pos h,hb]
theorem SG(h:k<ns.length)(hb:BY ns k=none):By ns k=(xH ns k::(By ns (k+ns.getD k.toNat 0/2)).1,(By ns (k+ns.getD k.toNat 0/2)).2):=by
 rw[Z7,DV,if_pos ⟨h,hb⟩];have:=P9 hb;rw[By,SD ns _ (ns.length-k).toNat _ (ψ _) (by omega)]
def WPre(ns:List Int)(ds:List Pc)(k:Int):Prop:=By ns 0=(ds++(By ns k).1,(By ns k).2)
theorem WPre.nil(ns:List Int):WPre ns [] 0:=by unfold WPre;simp
theorem WPre.step{ds:List Pc}(w:WPre ns ds k)(h:k<ns.length)(hb:BY ns k=none):WPre ns (ds++[xH ns k]) (k+ns.getD k.toNat 0/2):=by
 unfold WPre at *;rw[w,SG h hb];simp
theorem WPre.fin{ds:List Pc}(w:WPre ns ds k)(h:¬k<ns.length):By ns 0=(ds,none):=by
 unfold WPre at w;rw[w,SE h];simp
theorem WPre.bad{ds:List Pc}{b:Int}(w:WPre ns ds k)(h:k<ns.length)(hb:BY ns k=some b):By ns 0=(ds,some b):=by
 unfold WPre at w;rw[w,Z8 h hb];simp
theorem Z9(ns:List Int):∀(n:Nat)(k:Int),0<=k->(ns.length-k).toNat<=n->((By ns k).1.length:Int)<=n
 | n,k,h0,hn=>by
   by_cases h:k<ns.length
   . cases hb:BY ns k with
     | some b=>rw[Z8 h hb];simp
     | none=>
       obtain⟨b1,b2,_⟩:=P9 hb
       rw[SG h hb]
       cases n with
       | zero=>omega
       | succ n=>
         have:=Z9 ns n (k+ns.getD k.toNat 0/2) (by omega) (by omega)
         simp only [am]
         omega
   . rw[SE h];simp
 termination_by n=>n
theorem x_{p:Pc}(m:cs[p.a.toNat]?=some p.mk'):xH cs p.a=p:=by
 have e:=G6 m;unfold xH;rw[e];show (⟨p.a,xg p.l p.v/2,decide (xg p.l p.v%2=1)⟩:Pc)=p;rw[G5,LG]
theorem BZ{cs:List Int}:∀{ps:List Pc}{k:Int},Ak k ps cs.length->Au cs ps->By cs k=(ps,none)
 | [],k,h,_=>by
   have h:k=cs.length:=h
   exact SE (by omega)
 | p::r,k,h,m=>by
   obtain⟨ea,h1,h3,h4⟩:=h
   have le:=h4.le
   obtain⟨m1,m2⟩:=m p ω
   have bn:=kC h1 h3 (by omega) m1 m2
   rw[ea] at bn
   have e2:cs.getD k.toNat 0/2=p.l:=by rw[<-ea,G6 m1];exact G5 _ _
   have ih:=BZ (cs:=cs) h4 λq hq=>m q (ρ _ hq)
   rw[SG (by omega) bn,e2,ih,<-ea,x_ m1]
open PySem L2 PyProof.Rows
structure Def(P:uK)(w:uL)(K:δ)(mg:Str->Option uG)(base:vq)(x:Str)(k:Nat)(ps:List Str)(sp:Sp):Prop where
 ex:∃(f:uH)(fd:uJ),FnOk P w K mg base CX0 k f fd ps sp/\mg x=some (.ref f)/\keepIn K (.ref f)=true/\Bx K fd ps []
structure Src(K:δ)(mg:Str->Option uG)(x:Str)(st:uO):Prop where
 ex:∃(f:uH)(fd:uJ),Fun K x x st f fd/\mg x=some (.ref f)
theorem kF{K:δ}{h:vq}{mg:Str->Option uG}{x:Str}{st:uO}{f:uH}{oc kV doc pm cdv ct:uG}{od an:Option uH}{osl:Array (Option uG)}(X:K.In h)(G:h.Ns ve mg)
   (a:nsIn K ve x=some (some (.ref f))) (l:K.lookup f=some ⟨oc,od,.func (fnOf x x (A1 st) (AZ st) (An st) .none kV doc pm an cdv ct),osl⟩)
   (c:codeIn K cdv x=true) (k:keepIn K (.ref f)=true):Src K mg x st:=⟨f,_,A2 l c k,mg_of X G a⟩
section
variable {P:uK}{w:uL}{K:δ}{mg:Str->Option uG}{base:vq}
end
section
variable {X:Cx}
theorem SH:D4 X (.builtin "isinstance") (λxs H Q=>∃x n t b,xs=[x,.ty n]/\TyOf X.K H x t/\kitOne X.K t (.type n)=some b/\Q (.bl b) H):=by
 intro pins s σ H xs us Q I r h;obtain⟨x,n,t,b,rfl,ty,e,q⟩:=h;obtain⟨u,u',rfl,rx,ry⟩:=Su r;cases (show u'=Value.type n from ry);exact jE I rx ty e λtk=>⟨.bl b,H,I.tok tk,rfl,q⟩
theorem kG{x:V}(h:Ch x=true):eqV x x=true:=by
 cases x <;> first | rfl | (simp [eqV];done) | (exact absurd h ν)
end
theorem _root_.L2.Same.new{p:uH}{o:HO}(h:H p=none):Same H (upd H p o):=λb u e=>by
 rw[AI (BF e h)];exact e
theorem _root_.L2.Same.put{H':Hp}{p:uH}{o:HO}(s:Same H H')(h:H p=none):Same H (upd H' p o):=λb u e=>by
 rw[AI (BF e h)];exact s b u e
theorem small4000{n:Nat}(h:n<=4000):n<uU:=iu h (by decide)
theorem two1:(2:Int)^(1:Int).toNat=2:=by decide
theorem kH(ns:List Int)(k:Int)(h0:0<=k)(h:k<ns.length):atI (ns.map V.int) k=some (.int (ns.getD k.toNat 0)):=by
 have e:(ns.map V.int)[k.toNat]?=some (.int (ns.getD k.toNat 0)):=by
   rw[cr,au,Ω (by omega)];rfl
 have:=Kv e
 rwa [bg h0] at this
theorem kJ(n:Int):decide (V.int (Builtin.bitAnd n 1)=V.int 1)=decide (n%2=1):=by
 rw[P4,bitAnd_m1];rfl
section
variable {K:δ}
theorem kit_ii:kitOne K (.type "int") (.type "int")=some true:=by rfl
theorem kit_ll:kitOne K (.type "list") (.type "list")=some true:=by rfl
theorem kit_ib:kitOne K (.type "int") (.type "bool")=some false:=by
 show (if (Value.type "int"==Value.type "bool")=true then some true else PySem.W.kitCls K (.type "int") (.type "bool"))=some false;rw[if_neg (by decide)];show (if PySem.W.kitMeta "bool"=true then PySem.W.subIn K (.type "int") (.type "bool") else none)=some false;rw[if_pos (by decide +kernel)];show (fastBuiltinMro "int").map (·.contains (Value.type "bool"))=some false;decide +kernel
end
structure Noted(fr:List uH)(e:uH)(oe:Obj)(fl:uG)(h h':vq):Prop where
 keep:∀b o,b≠e->b ∉ fr->h.get? b=some o->h'.get? b=some o
 slot:∀b o,b≠e->h.get? b=some o->∃sl,h'.get? b=some { o with slots:=sl }
 ent:∃(T:uH)(oT:Obj)(ts:Array uG),h.get? T=none/\T≠e/\h'.get? e=some (oe.mapFields (·.setIfInBounds 1 (.ref T)))/\h'.get? T=some oT/\oT.data = .fields ts/\ts[3]?=some fl
section
variable {M:vv}{A:uM}{E:uG->uI->Prop}{s:uI}
theorem aA{base:vq}{env:vt}{outer:List vt}{L e:uH}{oe:Obj}{vs:Array uG}{head:uG}{had:Bool}(hfr:A.frames=some (env::outer))(hl:s.heap.FunFrames base (env::outer))(hf:env.frame=some L)
   (he:s.heap.get? e=some oe) (hd:oe.data = .fields vs) (hsz:1<vs.size) (h:∀h',Noted ((env::outer).filterMap (·.frame)) e oe (rawInt L) s.heap h'->Q () { s with heap:=h' }):
   uY M A (do
     let a <-frameOf env
     let pl <-entryPlaceOf L had
     let b <-EntryCells.newEntry head a .none (rawInt L) .none pl
     setField (.ref e) 1 b) Q E s:=by
 have out:e ∉ (env::outer).filterMap (·.frame):=λz=>by
   obtain⟨_,o,q,nf⟩:=hl.mem z;rw[he] at q;cases q;exact nf vs hd
 refine uV (wpAny_frameOf_fun hfr hl hf λhA sA=>?_);refine uV (wpAny_entryPlaceOf λpl isP=>?_);unfold EntryCells.newEntry newFields;refine uV (wpAny_newObj_type ?_ (isP.sizeOk5 _ _ _ _ _));have eA:hA.get? e=some oe:=(sA.2.1 e out).trans he;refine wpAny_setField (Γ _ eA) hd hsz (h _ ?_);have apart:hA.objs.size≠e:=pd (ad eA);have other:∀{ob:Obj} b o,b≠e->hA.get? b=some o->((hA.push ob).update e (ju (·.setIfInBounds 1 (Value.ref hA.objs.size)))).get? b=some o:=λb o nb q=>by
   rw[ah _ _ (λz=>nb z.symm)];exact Γ _ q
 refine⟨λb o nb nf q=>other b o nb ((sA.2.1 b nf).trans q),λb o nb q=>?_,hA.objs.size,_,_,?_,apart,?_,(ah _ _ (λz=>apart z.symm)).trans (bc _ rfl),rfl,?_⟩
 . obtain⟨sl,q'⟩:=sA.2.2 b o q;exact⟨sl,other b _ nb q'⟩
 . rw[sA.1];exact dw (ψ _)
 . exact dv _ (Γ _ eA) (jl (ie hd _))
 . first
     | (simp;done)
     | (rcases isP with rfl | ⟨_,_,_,_,_,_,_,rfl⟩ <;> simp)
theorem kK(o:Obj)(f:Array uG->Array uG):(o.mapFields f).dict=o.dict:=by
 obtain⟨c,d,dt,sl⟩:=o;cases dt <;> rfl
end
def Exc(h:vq)(x:uH)(cls:uG)(od:Option uH)(T:uH)(fl:uG):Prop:=
 ∃(oe:Obj)(vs:Array uG)(oT:Obj)(ts:Array uG),T≠x/\h.get? x=some oe/\oe.cls=cls/\oe.dict=od/\oe.data = .fields vs/\vs[1]?=some (.ref T)/\h.get? T=some oT/\oT.data = .fields ts/\ts[3]?=some fl
def Exc0(h:vq)(x:uH)(cls:uG)(od:Option uH):Prop:=∃(oe:Obj)(vs:Array uG),h.get? x=some oe/\oe.cls=cls/\oe.dict=od/\oe.data = .fields vs/\vs[1]?=some .none
structure Upto(fr ex:List uH)(h h':vq):Prop where
 keep:∀b o,b ∉ ex->b ∉ fr->h.get? b=some o->h'.get? b=some o
 slot:∀b o,b ∉ ex->h.get? b=some o->∃sl,h'.get? b=some { o with slots:=sl }
theorem Upto.trans{fr ex ex':List uH}{h1 h2 h3:vq}(a:Upto fr ex h1 h2)(b:Upto fr ex' h2 h3):Upto fr (ex++ex') h1 h3:=
 ⟨λc o n1 n2 q=>b.keep c o (λz=>n1 (ζ _ z)) n2 (a.keep c o (λz=>n1 (μ _ z)) n2 q),λc o n1 q=>by
   obtain⟨sl,q1⟩:=a.slot c o (λz=>n1 (μ _ z)) q
   obtain⟨sl',q2⟩:=b.slot c _ (λz=>n1 (ζ _ z)) q1
   exact⟨sl',q2⟩⟩
theorem Upto.update{fr:List uH}{h:vq}{a:uH}{f:Obj->Obj}:Upto fr [a] h (h.update a f):=
 ⟨λb o n _ q=>by rw[ah _ _ (λz=>n (by simp [z]))];exact q,λb o n q=>⟨o.slots,by rw[ah _ _ (λz=>n (by simp [z]))];exact q⟩⟩
section
variable {M:vv}{A:uM}{E:uG->uI->Prop}{s:uI}
theorem Qa{fr:List uH}{x:uH}{cls:uG}{od:Option uH}{T:uH}{fl:uG}(ht:Exc s.heap x cls od T fl)
   (h:∀h',Upto fr [T] s.heap h'->Exc h' x cls od T .none->Q () { s with heap:=h' }):uY M A (setFlight (.ref x) none) Q E s:=by
 obtain⟨oe,vs,oT,ts,ne,ex,hc,hdi,hd,h1,eT,dT,h3⟩:=ht;unfold setFlight;refine uV (wpAny_field ex hd h1 ?_);rw[if_pos (show (Value.ref T != Value.none)=true by simp)];have sz:3<ts.size:=(ft.mp h3).1;refine wpAny_setField eT dT sz (h _ .update ⟨oe,vs,_,_,ne,?_,hc,hdi,hd,h1,dv _ eT (jl (ie dT _)),ie dT _,?_⟩)
 . rw[ah _ _ ne];exact ex
 . simp [sz]
theorem Noted.exc{fr:List uH}{x:uH}{oe:Obj}{vs:Array uG}{fl:uG}{h h':vq}(n:Noted fr x oe fl h h')(hd:oe.data = .fields vs)(hsz:1<vs.size):∃T,h.get? T=none/\Exc h' x oe.cls oe.dict T fl:=by
 obtain⟨T,oT,ts,nT,ne,ex,eT,dT,h3⟩:=n.ent;exact⟨T,nT,_,_,oT,ts,ne,ex,Obj.cls_mapFields _ _,kK _ _,ie hd _,by simp [hsz],eT,dT,h3⟩
theorem Noted.upto{fr:List uH}{x:uH}{oe:Obj}{fl:uG}{h h':vq}(n:Noted fr x oe fl h h'):Upto fr [x] h h':=
 ⟨λb o nb nf q=>n.keep b o (λz=>nb (by simp [z])) nf q,λb o nb q=>n.slot b o (λz=>nb (by simp [z])) q⟩
theorem look0{base:vq}{env:vt}{outer:List vt}{L x:uH}{cls:uG}{od:Option uH}(hfr:A.frames=some (env::outer))(hl:s.heap.FunFrames base (env::outer))(hf:env.frame=some L)(hx:Exc0 s.heap x cls od)
   (h:∀h' T,s.heap.get? T=none->Upto ((env::outer).filterMap (·.frame)) [x] s.heap h'->Exc h' x cls od T (rawInt L)->Q () { s with heap:=h' }):uY M A (noteFrame (.ref x) env) Q E s:=by
 obtain⟨oe,vs,ex,rfl,rfl,hd,h1⟩:=hx;have sz:=(ft.mp h1).1;unfold noteFrame;simp only [hf];refine uV (wpAny_field ex hd h1 ?_);rw[if_neg (by decide)];refine aA hfr hl hf ex hd sz λh' n=>?_;obtain⟨T,nT,t⟩:=n.exc hd sz;exact h h' T nT n.upto t
theorem zA{base:vq}{env:vt}{outer:List vt}{L x T:uH}{cls:uG}{od:Option uH}(hfr:A.frames=some (env::outer))(hl:s.heap.FunFrames base (env::outer))(hf:env.frame=some L)(hx:Exc s.heap x cls od T .none)
   (h:∀h' T',s.heap.get? T'=none->Upto ((env::outer).filterMap (·.frame)) [T,x] s.heap h'->Exc h' x cls od T' (rawInt L)->Q () { s with heap:=h' }):uY M A (noteFrame (.ref x) env) Q E s:=by
 obtain⟨oe,vs,oT,ts,ne,ex,rfl,rfl,hd,h1,eT,dT,h3⟩:=hx;have sz:=(ft.mp h1).1;have sz3:=(ft.mp h3).1;unfold noteFrame;simp only [hf];refine uV (wpAny_field ex hd h1 ?_);rw[if_pos (show (Value.ref T != Value.none)=true by simp)];refine uV (wpAny_field eT dT h3 ?_);rw[if_neg (show ¬((Value.none==rawInt L)=true) by simp [rawInt])];refine uV (wpAny_setField eT dT sz3 ?_);have u1:Upto ((env::outer).filterMap (·.frame)) [T] s.heap (s.heap.update T (ju (·.setIfInBounds 3 Value.none))):=.update;have hl2:(s.heap.update T (ju (·.setIfInBounds 3 Value.none))).FunFrames base (env::outer):=hl.of_keeps λb o q nf=>by
   have nb:b≠T:=λz=>by
     subst z;rw[eT] at q;cases q;exact nf ts dT
   exact⟨o,by rw[ah _ _ (λz=>nb z.symm)];exact q,rfl⟩
 have ex2:(s.heap.update T (ju (·.setIfInBounds 3 Value.none))).get? x=some oe:=by
   rw[ah _ _ ne];exact ex
 refine aA (s:={ s with heap:=s.heap.update T (ju (·.setIfInBounds 3 Value.none)) }) hfr hl2 hf ex2 hd sz λh' n=>?_;obtain⟨T',nT,t⟩:=n.exc hd sz;refine h h' T' ?_ (u1.trans n.upto) t;cases q:s.heap.get? T' with
 | none=>rfl
 | some o=>
   by_cases z:T'=T
   . subst z;rw[dv _ eT (jl (ie dT _))] at nT;cases nT
   . rw[ah _ _ (λy=>z y.symm),q] at nT;cases nT
theorem zE{base:vq}{env:vt}{outer:List vt}{L x:uH}{cls:uG}{od:Option uH}(hfr:A.frames=some (env::outer))(hl:s.heap.FunFrames base (env::outer))(hf:env.frame=some L)(hx:Exc0 s.heap x cls od)
   (h:∀h' T,s.heap.get? T=none->Upto ((env::outer).filterMap (·.frame)) [x,T] s.heap h'->Exc h' x cls od T .none->Q () { s with heap:=h' }):uY M A (leaving env (.ref x)) Q E s:=by
 unfold leaving;refine uV (look0 hfr hl hf hx λh1 T nT u t=>?_);exact Qa (s:={ s with heap:=h1 }) (fr:=(env::outer).filterMap (·.frame)) t λh2 u2 t2=>h h2 T nT (u.trans u2) t2
theorem zD{base:vq}{env:vt}{outer:List vt}{L x T:uH}{cls:uG}{od:Option uH}(hfr:A.frames=some (env::outer))(hl:s.heap.FunFrames base (env::outer))(hf:env.frame=some L)(hx:Exc s.heap x cls od T .none)
   (h:∀h' T',s.heap.get? T'=none->Upto ((env::outer).filterMap (·.frame)) [T,x,T'] s.heap h'->Exc h' x cls od T' .none->Q () { s with heap:=h' }):uY M A (leaving env (.ref x)) Q E s:=by
 unfold leaving;refine uV (zA hfr hl hf hx λh1 T' nT u t=>?_);exact Qa (s:={ s with heap:=h1 }) (fr:=(env::outer).filterMap (·.frame)) t λh2 u2 t2=>h h2 T' nT (u.trans u2) t2
end
open Sem (wp)
section
variable {M:vv}{A:uM}{E:uG->uI->Prop}
variable {nm q nm0 q0:Str}{C N C0 N0:uH}{bs bm bs0 bm0:List uG}{hdct hdct0:Bool}{sn sn0:List Str}{sub sub0:List uG}{ab ab0:Bool}{col col0:Option Bool}{dd dd0:Option uH}{k0 k1 k2 k3 k5 j0 j1 j2 j3 j5:Option uG}{newId newId0:String}
theorem kL{h:vq}{g:Array uQ}{d:vg}{t:Nat}{os:OsState}{x:uH}{ox:Obj}{b:Bool}{Q:Bool->uI->Prop}
   (hC:h.get? C=some (excClassObj nm q C N bs bm hdct sn sub ab col dd k0 k1 k2 k3 k5 newId)) (hC0:h.get? C0=some (excClassObj nm0 q0 C0 N0 bs0 bm0 hdct0 sn0 sub0 ab0 col0 dd0 j0 j1 j2 j3 j5 newId0))
   (hx:h.get? x=some ox) (hcl:ox.cls = .ref C) (hb0:(Value.ref C0::bm0).contains (.type "BaseException")=true) (hb:(Value.ref C::bm).contains (.ref C0)=b) (k:Q b ⟨h,g,d,t,os⟩):
   uY M A (excMatches (.ref x) (.ref C0)) Q E ⟨h,g,d,t,os⟩:=by
 have f:=tc_notTuple;unfold excMatches
 repeat (first
   | (with_reducible refine vm hx ?_;rw[hcl])
   | with_reducible refine vm hC0 ?_
   | (with_reducible refine wpAny_isSubtype_exc hC0 ?_;rw[hb0])
   | (with_reducible refine wpAny_isSubtype_exc hC ?_;rw[hb])
   | wp_step)
 all_goals (cases b <;> (wp_walk;exact k))
end
open Sem (wp)
def Lk(M:vv)(h:vq){α:Type}(m:vo α)(v:α):Prop:=∀(A:uM)(E:uG->uI->Prop)(g:Array uQ)(d:vg)(t:Nat)(os:OsState)(Q:α->uI->Prop),Q v ⟨h,g,d,t,os⟩->uY M A m Q E ⟨h,g,d,t,os⟩
section
variable {prog:uK}{w:uL}{A:uM}{E:uG->uI->Prop}{h:vq}{g:Array uQ}{d:vg}{t:Nat}{os:OsState}{a C:uH}{o:Obj}
structure tX(prog:uK)(w:uL)(h:vq)(C:uH):Prop where
 ga:Lk (vi prog w) h (typeLookup (.ref C) "__getattribute__") (some (.builtin "BaseException.__getattribute__"))
 gat:Lk (vi prog w) h (typeLookup (.ref C) "__getattr__") none
 cls:Lk (vi prog w) h (typeLookup (.ref C) "__class__") (some (.builtin "object.__class__"))
 obj:Lk (vi prog w) h (isSubtype (.ref C) (.type "object")) true
 exc:Lk (vi prog w) h (isSubtype (.ref C) (.type "BaseException")) true
end
section
variable {P:uK}{w:uL}{H H':Hp}{h h' g:vq}{a:uH}{o:HO}
theorem kM(x:Br P w H h a o):∃ob,h.get? a=some ob:=by
 cases o with
 | lst xs=>obtain⟨_,_,_,_,e⟩:=x;exact⟨_,e⟩
 | tup xs=>obtain⟨_,_,_,ob,e,_⟩:=x;exact⟨_,e⟩
 | dK kvs=>obtain⟨_,_,_,_,ob,_,_,e,_⟩:=x;exact⟨_,e⟩
 | dT kvs=>obtain⟨_,_,_,_,ob,_,_,e,_⟩:=x;exact⟨_,e⟩
 | set S n=>obtain⟨ob,_,_,_,e,_⟩:=x;exact⟨_,e⟩
 | ins C dx fs=>obtain⟨_,_,_,e,_⟩:=x;exact⟨_,e⟩
 | own y=>obtain⟨_,e⟩:=x;exact⟨_,e⟩
 | xd fs=>obtain⟨_,⟨_,_,_,e,_⟩,_⟩:=x;exact⟨_,e⟩
 | rng lo hi=>obtain⟨_,_,_,e⟩:=x;exact⟨_,e⟩
 | frz ob u=>obtain⟨e,_⟩:=x;exact⟨_,e⟩
 | tbl ps=>exact⟨_,(show h.get? a=some _ from x)⟩
 | met f y=>exact⟨_,(show h.get? a=some _ from x)⟩
 | ext φ=>obtain⟨_,e,_⟩:=x;exact e
theorem Gv(x:HOk P w H h)(e:h.get? a=none):H a=none:=by
 cases q:H a with
 | none=>rfl
 | some u=>
   obtain⟨ob,z⟩:=kM (x a u q);rw[e] at z;cases z
theorem SI{fr ex:List uH}(x:HOk P w H h)(u:Upto fr ex h h')(hf:∀b∈fr,H b=none)(he:∀b∈ex,H b=none):HOk P w H h':=λa o e=>by
 have out:∀b v,H b=some v->b ∉ ex/\b ∉ fr:=λb v q=>⟨(λz=>by rw[he b z] at q;cases q),(λz=>by rw[hf b z] at q;cases q)⟩
 refine(x a o e).stay (λb ob hb q=>?_) (λ_ q=>q) λ_ _ q=>q;rcases hb with rfl | hb
 . exact u.keep b ob (out b _ e).1 (out b _ e).2 q
 . exact u.keep b ob (out b _ hb).1 (out b _ hb).2 q
theorem SJ{fs fr ex:List uH}(u:Un fs [] H H' g h)(v:Upto fr ex h h')(hfr:∀b∈fr,b∈fs\/g.get? b=none)(hex:∀b∈ex,g.get? b=none):Un fs [] H H' g h':=by
 have nex:∀b o,g.get? b=some o->b ∉ ex:=λb o q z=>by rw[hex b z] at q;cases q
 refine⟨λb o q n hb hx=>?_,λb o q n hb hx=>?_,u.free,λb o q hx=>?_,u.tups,u.frzs,u.tbls⟩
 . refine v.keep b o (nex b o q) (λz=>?_) (u.keep b o q n hb hx);rcases hfr b z with z | z
   . exact hb z
   . rw[z] at q;cases q
 . obtain⟨sl,q1⟩:=u.slot b o q n hb hx;obtain⟨sl',q2⟩:=v.slot b _ (nex b o q) q1;exact⟨sl',q2⟩
 . obtain⟨o',q1⟩:=u.there b o q hx;obtain⟨sl,q2⟩:=v.slot b o' (nex b o q) q1;exact⟨_,q2⟩
theorem EF{fs:List uH}(u:Un fs [] H H' g h)(e:h.get? a=none):g.get? a=none:=by
 cases q:g.get? a with
 | none=>rfl
 | some o=>
   obtain⟨o',z⟩:=u.there a o q (by simp);rw[e] at z;cases z
end
def CXe(P:uK)(w:uL):CXT:=λouter H s E e s'=>∃(x C T:uH)(od:Option uH)(H':Hp),e = .ref x/\s'.os=s.os/\AllBare s'.gens/\Un (frs outer) [] H H' s.heap s'.heap/\HOk P w H' s'.heap /\
 s.heap.get? x=none/\s.heap.get? T=none/\H' x=none/\H' T=none/\Exc s'.heap x (.ref C) od T .none/\E (.ref C) od H'
section
variable {P:uK}{w:uL}{K:δ}{mg:Str->Option uG}{base:vq}{N:List Str}{qual:Str}{scope:uP}{f:uH}{cd:uG}{A:uM}{outer:List vt}{s₀:uI}{H₀:Hp}{EX:XK}
theorem aB{σ:L2.St}{s:uI}{x C:uH}{od:Option uH}(I:Inv (cxOf (CXe P w) P w K mg base N qual scope f cd A outer s₀ H₀ EX) pins σ H s)(hx:Exc0 s.heap x (.ref C) od)(nx:s₀.heap.get? x=none)(ux:H x=none)(q:EX (.ref C) od H):
   (cxOf (CXe P w) P w K mg base N qual scope f cd A outer s₀ H₀ EX).xe (.ref x) s:=by
 refine zE (base:=base) (outer:=outer) I.ok.frames I.stack rfl hx λh' T nT u t=>?_;have hu:Un (frs outer) [] H₀ H s₀.heap s.heap:=I.base;have uT:H T=none:=Gv I.hok nT;refine⟨x,C,T,od,H,rfl,I.os,I.bare,SJ hu u (λb hb=>?_) (λb hb=>?_),SI I.hok u I.stkFree (λb hb=>?_),nx,EF hu nT,ux,uT,t,q⟩
 . rcases Φ.mp hb with rfl | hb
   . exact .inr (dw (ψ _))
   . exact .inl hb
 . rcases Φ.mp hb with rfl | hb
   . exact nx
   . have e:b=T:=by simpa using hb
     subst e;exact EF hu nT
 . rcases Φ.mp hb with rfl | hb
   . exact ux
   . have e:b=T:=by simpa using hb
     subst e;exact uT
theorem Bl:D6 (CXe P w) (cxOf (CXe P w) P w K mg base N qual scope f cd A outer s₀ H₀ EX) EX:=by
 rintro pins σ H s e s' I ⟨x,C,T,od,H',rfl,os,bare,un,hok,nx,nT,ux,uT,t,q⟩;have I':Inv (cxOf (CXe P w) P w K mg base N qual scope f cd A outer s₀ H₀ EX) pins σ H' s':=by
   obtain⟨hh,gg,dd,tt,oo⟩:=s';obtain rfl:oo=s.os:=os;have z:=I.call (h':=hh) (g':=gg) (d':=dd) (t':=tt) (ch:=[]) un hok bare (λb z=>absurd z (by simp));exact z
 refine zD (base:=base) (outer:=outer) I'.ok.frames I'.stack rfl t λh' T' nT' u t'=>?_;have hu:Un (frs outer) [] H₀ H' s₀.heap s'.heap:=I'.base;have hu0:Un (frs outer) [] H₀ H s₀.heap s.heap:=I.base;have uT':H' T'=none:=Gv hok nT';have n0:∀b∈[T,x,T'],s₀.heap.get? b=none:=λb hb=>by
   rcases Φ.mp hb with rfl | hb
   . exact EF hu0 nT
   . rcases Φ.mp hb with rfl | hb
     . exact EF hu0 nx
     . have e:b=T':=by simpa using hb
       subst e;exact EF hu nT'
 refine⟨x,C,T',od,H',rfl,I'.os,I'.bare,SJ hu u (λb hb=>?_) n0,SI hok u I'.stkFree (λb hb=>?_),n0 x (by simp),n0 T' (by simp),ux,uT',t',q⟩
 . rcases Φ.mp hb with rfl | hb
   . exact .inr (dw (ψ _))
   . exact .inl hb
 . rcases Φ.mp hb with rfl | hb
   . exact uT
   . rcases Φ.mp hb with rfl | hb
     . exact ux
     . have e:b=T':=by simpa using hb
       subst e;exact uT'
end
theorem excS{p:Prop}{f:Option uH->ClassData->Array (Option uG)->Bool}{o}(q:excIn.match_6 (λ_=>Bool) o f (λ_=>false)=true)(k:∀d c s,o=some ⟨.type "type",d,.cls c,s⟩->f d c s=true->p):p:=by
 have F(h:false=true):p:=absurd h ν
 generalize e:o=x at q;rcases x with _|⟨y,d,a,s⟩;exact F q;cases y with
 | type z =>
   delta excIn.match_6 at q;by_cases g:z="type"
   . subst g;cases a with
     | cls c=>exact k d c s e q
     | _=>exact F q
   . exact F ((dif_neg g).symm.trans q)
 | _=>exact F q
theorem excO{p:Prop}{f:uH->List uG->Option uG->Option uG->Option uG->Option uG->String->Option uG->Bool}{l r}(q:excIn.match_1 (λ_ _=>Bool) l r f (λ_ _=>false)=true)(k:∀C m a b c d n e,l=.ref C::m->r=[a,b,c,d,some (.builtin n),e]->f C m a b c d n e=true->p):p:=by
 have F(h:false=true):p:=absurd h ν
 generalize el:l=l' at q;generalize er:r=r' at q;rcases l' with _|⟨v,m⟩;exact F q;cases v with
 | ref C =>
   rcases r' with _|⟨a,_|⟨b,_|⟨c,_|⟨d,_|⟨_|x,y⟩⟩⟩⟩⟩
   all_goals try exact F q
   cases x with
   | builtin n =>
     rcases y with _|⟨e,_|_⟩
     exact F q;exact k _ _ _ _ _ _ _ _ el er q;exact F q
   | _=>exact F q
 | _=>exact F q
theorem aC{K:δ}{h:vq}{C:uH}{bmB:List uG}{newId:String}{p:Prop}(X:K.In h)(q:excIn K C bmB newId=true)(kk:∀bm N nm qn bs hd sn sub ab col dd k0 k1 k2 k3 k5 mN,h.get? C=some (excClassObj nm qn C N bs bm hd sn sub ab col dd k0 k1 k2 k3 k5 newId)->h.Ns N mN->mN "__init__"=none->OwnTail h bmB bm->(∀v,gn K C v=some ((Value.ref C::bm).contains v))->p):p:=by
 refine excS q λd c s lk q1=>excO q1 λC' m a0 a1 a2 a3 n a5 em es q2=>?_
 simp only [df,beq_iff_eq,lh] at q2;obtain⟨⟨⟨⟨⟨e1,e2⟩,e3⟩,tl⟩,okN⟩,noI⟩:=q2;refine kk m c.ns c.name c.qualname c.bases c.hasDict c.slotNames c.subclasses c.abstract c.collection d a0 a1 a2 a3 a5 _ ((X _ _ lk).trans ?_) (.of_isNs (PySem.W.isNs_of_in X okN)) (PySem.W.nsMap_none_of_in X okN noI) (PySem.W.tail_of_in X tl) λv=>?_
 . subst e1 e2;unfold excClassObj;rw[<-em,<-es,<-e3]
 . unfold gn rc;rw[lk,<-e1];show (if c.mro.isEmpty=true then none else some (c.mro.contains v))=_;rw[em];rfl
structure xF(K:δ)(mg:Str->Option uG)(x:Str)(C:uH):Prop where
 bound:mg x=some (.ref C)
 ex:∃(bmB:List uG)(B newId initId:String),excIn K C bmB newId=true/\ExcBaseFacts B newId initId bmB/\bmB.contains (.type "BaseException")=true
def aD(C:uH)(E:XK)(t:TA):TS:=λ_ σ H=>t σ H λxs H1=>xs.length<=uU/\E (.ref C) none H1
section
variable {P:uK}{w:uL}{K:δ}{mg:Str->Option uG}{base:vq}{N:List Str}{qual:Str}{scope:uP}{f:uH}{cd:uG}{A:uM}{outer:List vt}{s₀:uI}{H₀:Hp}{EX:XK}
theorem Cu{x:Str}{C:uH}{np cpos pos:Pos}{e:uN}{es:List uN}{t:TA}(XC:xF K mg x C)(hh:(cxOf (CXe P w) P w K mg base N qual scope f cd A outer s₀ H₀ EX).A.handled=none)
   (hg:Gl (cxOf (CXe P w) P w K mg base N qual scope f cd A outer s₀ H₀ EX) x) (ha:PA (cxOf (CXe P w) P w K mg base N qual scope f cd A outer s₀ H₀ EX) (e::es) t)
   (hdb:(x==("__debug__":Str))=false:=by decide) (he:uR (e::es) (cxOf (CXe P w) P w K mg base N qual scope f cd A outer s₀ H₀ EX).env=(false,vh e (cxOf (CXe P w) P w K mg base N qual scope f cd A outer s₀ H₀ EX).env)::uR es (cxOf (CXe P w) P w K mg base N qual scope f cd A outer s₀ H₀ EX).env:=by rfl)
   (hpl:(uZ cpos (uR es (cxOf (CXe P w) P w K mg base N qual scope f cd A outer s₀ H₀ EX).env)).any (·.1)=false:=by rfl):
   PS (cxOf (CXe P w) P w K mg base N qual scope f cd A outer s₀ H₀ EX) (.Raise (some (.Call (.Name x np) (e::es) [] cpos)) none pos) (aD C EX t):=by
 intro pins s σ H D I h;obtain⟨bmB,B,newId,initId,q,FB,hB⟩:=XC.ex;refine aC I.mod.kin q λbm NN nm qn bs hd sn sub ab col dd k0 k1 k2 k3 k5 mN hC hN noI tl _=>?_;refine wpAny_Raise_call_subT (C:=C) (nm:=nm) (q:=qn) (N:=NN) (bs:=bs) (bm:=bm) (hdct:=hd) (sn:=sn) (sub:=sub) (ab:=ab) (col:=col) (dd:=dd) (k0:=k0) (k1:=k1) (k2:=k2) (k3:=k3) (k5:=k5) FB (mN:=mN) (tl.hasType hB) hh
   (by rw[he];show (false||(uZ cpos (uR es _)).any (·.1))=false;rw[hpl];rfl) noI (EC I hg XC.bound ⟨rfl,?_⟩ hdb)
 have hA:=ha cpos pins s σ H _ I h;rw[he] at hA ⊢;refine io (thn hA λus s2 ⟨xs,H2,I2,r2,hz,q2⟩=>⟨rfl,by rw[<-r2.length];exact hz,I2.bk _ _ hC,hN.keeps I2.bk,tl.keeps I2.bk,λh' x hm=>?_⟩);have I3:Inv (cxOf (CXe P w) P w K mg base N qual scope f cd A outer s₀ H₀ EX) pins σ H2 { s2 with heap:=h' }:=I2.kept (t':=s2.toks) hm.keeps;obtain⟨tt,ht,_,_⟩:=hm.there;exact aB I3 ⟨_,_,ht,rfl,rfl,rfl,rfl⟩ (EF (show Un (frs outer) [] H₀ H2 s₀.heap s2.heap from I2.base) hm.new) (Gv I2.hok hm.new) q2
end
def xI(x C:uH)(od:Option uH):HO:=.ext λh=>∃oe vs,h.get? x=some oe/\oe.cls = .ref C/\oe.dict=od/\oe.data = .fields vs
abbrev Cx.suite(X:Cx)(x:uH):Cx:={ X with A:=X.A.mark (some (.ref x)),calm:=false,xe:=λ_ _=>False }
theorem kN{X:Cx}(ok:X.Ok)(x:uH):(Cx.suite X x).Ok:=
 ⟨ok.mod,ok.kind,ok.glob,ok.blt,ok.above,ok.inj,ok.has,ok.cab,λz=>(nomatch z),ok.frames,ok.stk,ok.exf,ok.bs,ok.bsz,ok.noex,ok.exfs,ok.funs,ok.frf⟩
theorem SK{X:Cx}{σ:L2.St}{s:uI}(I:Inv X pins σ H s)(x:uH):Inv (Cx.suite X x) pins σ H s:=⟨kN I.ok x,I.os,I.bare,I.base,I.loc,I.cell,I.free,I.freeC,I.pin,I.hok,I.len⟩
theorem Qb{X:Cx}{σ:L2.St}{s:uI}{x:uH}(ok:X.Ok)(I:Inv (Cx.suite X x) pins σ H s):Inv X pins σ H s:=⟨ok,I.os,I.bare,I.base,I.loc,I.cell,I.free,I.freeC,I.pin,I.hok,I.len⟩
section
variable {X:Cx}
theorem aE{σ:L2.St}{H':Hp}{s s':uI}{h':vq}{x C T:uH}{od:Option uH}{fr ex:List uH}(I:Inv X pins σ H s)(os:s'.os=s.os)(bare:AllBare s'.gens)(un:Un (frs X.stack) [] H H' s.heap s'.heap)(hok:HOk X.prog X.w H' s'.heap)
   (nx:s.heap.get? x=none) (ux:H' x=none) (u:Upto fr ex s'.heap h') (hfr:fr=frs X.stack) (nex:∀b∈ex,s.heap.get? b=none/\H' b=none) (t:Exc h' x (.ref C) od T .none):Inv X pins σ (upd H' x (xI x C od)) { s' with heap:=h' }:=by
 subst hfr;have un2:Un (frs X.stack) [] H H' s.heap h':=SJ un u (λb hb=>.inl hb) λb hb=>(nex b hb).1;have stk:∀b∈frs X.stack,H' b=none:=λb hb=>by
   obtain⟨_,o,ho,_⟩:=I.stack.mem hb;exact un.free b o ho (I.stkFree b hb) (by simp)
 have hok2:HOk X.prog X.w H' h':=SI hok u stk λb hb=>(nex b hb).2;have nex':∀b v,H' b=some v->b≠x:=λb v e z=>by rw[z,ux] at e;cases e
 have un3:Un (frs X.stack) [] H (upd H' x (xI x C od)) s.heap h':=by
   refine⟨un2.keep,un2.slot,λb o q n hx=>?_,un2.there,λb xs q=>?_,λb o v q=>?_,λb ps q=>?_⟩
   . rw[AI (λz=>by rw[z,nx] at q;cases q)];exact un2.free b o q n hx
   . rw[AI (nex' b _ (un2.tups b xs q))];exact un2.tups b xs q
   . rw[AI (nex' b _ (un2.frzs b o v q))];exact un2.frzs b o v q
   . obtain⟨more,z⟩:=un2.tbls b ps q;exact⟨more,by rw[AI (nex' b _ z)];exact z⟩
 obtain⟨oe,vs,oT,ts,ne,ee,hc,hd,hf,_⟩:=t;have hok3:HOk X.prog X.w (upd H' x (xI x C od)) h':=λb v e=>by
   by_cases z:b=x
   . subst z;rw[upd_same] at e;cases e;exact⟨⟨oe,vs,ee,hc,hd,hf⟩,⟨oe,ee⟩,λh1 h2 ⟨o1,v1,q1,q2,q3,q4⟩ k=>⟨o1,v1,k o1 q1,q2,q3,q4⟩⟩
   . rw[AI z] at e;exact(hok2 b v e).stay (λ_ _ _ q=>q) (λc q=>by rw[AI (nex' c _ q)];exact q) λc xs q=>by rw[AI (nex' c _ q)];exact q
 obtain⟨hh,gg,dd,tt,oo⟩:=s';obtain rfl:oo=s.os:=os;have z:=I.call (h':=h') (g':=gg) (d':=dd) (t':=tt) (ch:=[]) un3 hok3 bare (λb z=>absurd z (by simp));exact z
end
section
variable {X:Cx}
def ECls(K:δ)(C:uH)(bm:List uG):Prop:=∃(nm qn:Str)(N:uH)(bs:List uG)(hd:Bool)(sn:List Str)(sub:List uG)(ab:Bool)(col:Option Bool)(dd:Option uH)(k0 k1 k2 k3 k5:Option uG)(newId:String),
 K.lookup C=some (excClassObj nm qn C N bs bm hd sn sub ab col dd k0 k1 k2 k3 k5 newId)
variable {k:Nat}{f C0:uH}{fd:uJ}{ps:List Str}{sp:Sp}{fx cx:Str}{p cpos epos np hpos pos:Pos}{e:uN}{es:List uN}{ta:TA}{b0:uO}{suite:List uO}{ts:uH->TS}
theorem aF{σ:L2.St}{s s':uI}{EX:XK}{y:uG}{W:uI->Prop}(I:Inv X pins σ H s)(hst:X.stack=X.env::X.outer/\X.env.frame=some X.env.locals)(hq:CXe X.prog X.w X.stack H s EX y s')
   (k:∀(x C:uH)(od:Option uH)(T:uH)(h2:vq)(H2:Hp),y = .ref x->EX (.ref C) od H2->Exc h2 x (.ref C) od T .none->Inv X pins σ (upd H2 x (xI x C od)) { s' with heap:=h2 } ->
     (∀h3,Upto (frs X.stack) [T] h2 h3->Exc h3 x (.ref C) od T .none->H2 x=none/\Inv X pins σ (upd H2 x (xI x C od)) { s' with heap:=h3 })->W { s' with heap:=h2 }) {E':uG->uI->Prop} :
   uY (vi X.prog X.w) X.A (noteFrame y X.env) (λ_ s2=>uY (vi X.prog X.w) X.A (setFlight y none) (λ_ s3=>W s3) E' s2) E' s':=by
 obtain⟨x,C,T,od,H',rfl,os,bare,un,hok,nx,nT,ux,uT,t,q⟩:=hq;have I':Inv X pins σ H' s':=by
   obtain⟨hh,gg,dd,tt,oo⟩:=s';obtain rfl:oo=s.os:=os;have z:=I.call (h':=hh) (g':=gg) (d':=dd) (t':=tt) (ch:=[]) un hok bare (λb z=>absurd z (by simp));exact z
 have efr:(X.env::X.outer).filterMap (·.frame)=frs X.stack:=by rw[hst.1];rfl
 refine zA (base:=X.base) (outer:=X.outer) (by rw[<-hst.1];exact I'.ok.frames) (by rw[<-hst.1];exact I'.stack) hst.2 t λh1 T' nT' u1 t1=>?_;rw[efr] at u1;refine Qa (s:={ s' with heap:=h1 }) (fr:=frs X.stack) t1 λh2 u2 t2=>?_;have new:∀b∈[T,x]++[T']++[T'],s.heap.get? b=none/\H' b=none:=λb hb=>by
   simp only [dh,bz,Φ,List.not_mem_nil,or_false] at hb;rcases hb with rfl | rfl | rfl | rfl
   . exact⟨nT,uT⟩
   . exact⟨nx,ux⟩
   . exact⟨EF un nT',Gv hok nT'⟩
   . exact⟨EF un nT',Gv hok nT'⟩
 refine k x C od T' h2 H' rfl q t2 (aE I os bare un hok nx ux (u1.trans u2) rfl (λb hb=>new b (μ _ hb)) t2) λh3 u3 t3=>⟨ux,aE I os bare un hok nx ux ((u1.trans u2).trans u3) rfl new t3⟩
theorem kO{D:Ends}{x:uH}{fl:Flow}{s':uI}(ok:X.Ok)(h:SP (Cx.suite X x) pins D fl s'):SP X pins D fl s':=by
 cases fl with
 | next=>obtain⟨σ',H',I,q⟩:=h;exact⟨σ',H',Qb ok I,q⟩
 | brk=>obtain⟨σ',H',I,q⟩:=h;exact⟨σ',H',Qb ok I,q⟩
 | cont=>obtain⟨σ',H',I,q⟩:=h;exact⟨σ',H',Qb ok I,q⟩
 | ret u=>obtain⟨v,σ',H',I,r,q⟩:=h;exact⟨v,σ',H',Qb ok I,r,q⟩
end
structure wO(P:uK)(w:uL)(K:δ)(mg:Str->Option uG)(base:vq)(x:Str)(k:Nat)(ps:List Str)(sp:Sp):Prop where
 ex:∃(f:uH)(fd:uJ),FnOk P w K mg base (CXe P w) k f fd ps sp/\mg x=some (.ref f)/\keepIn K (.ref f)=true/\Bx K fd ps []
section
variable {P:uK}{w:uL}{K:δ}{mg:Str->Option uG}{base:vq}
theorem A3{x qual:Str}{st:uO}{f:uH}{fd:uJ}{N ps:List Str}{k:Nat}{sp:Sp}(F:Fun K x qual st f fd)(S:wN N ps (An st))
   (hbody:∀(cdv:uG)(A:uM)(outer:List vt)(s:uI)(H:Hp)(vs:List V)(Q:VK)(E:XK),Room k (A.deeper (envOfC qual (An st) s.heap.objs.size f cdv))->sp vs H Q E ->
     ∃t,PSs (cxOf (CXe P w) P w K mg base N qual (An st) f cdv A outer s H E) (AZ st) t/\t { nx:=λ_ H'=>Q .non H',rt:=Q } (start N vs) H)(len:∀vs H Q E,sp vs H Q E->vs.length=ps.length:=by intro vs H Q E h;revert h;walk_at "l"):FnOk P w K mg base (CXe P w) (k+1) f fd ps sp:=by
 obtain⟨oc,od,kV,doc,pm,an,cdv,ct,osl,rfl,lk,hcd⟩:=F.ex;exact zV lk hcd S len λA outer s H vs Q E hr hsp=>hbody cdv A outer s H vs Q E hr hsp
theorem Src.okx{x:Str}{st:uO}{N ps:List Str}{k:Nat}{sp:Sp}(S:Src K mg x st)(sc:wN N ps (An st))
   (hb:∀(kV doc pm:uG)(an:Option uH)(cdv ct:uG)(us:List uG),us.length=ps.length->uS (fnOf x x (A1 st) (AZ st) (An st) .none kV doc pm an cdv ct) ⟨us,[]⟩=pure (ps.zip us))
   (hbody:∀(f:uH)(cdv:uG)(A:uM)(outer:List vt)(s:uI)(H:Hp)(vs:List V)(Q:VK)(E:XK),Room k (A.deeper (envOfC x (An st) s.heap.objs.size f cdv))->sp vs H Q E ->
     ∃t,PSs (cxOf (CXe P w) P w K mg base N x (An st) f cdv A outer s H E) (AZ st) t/\t { nx:=λ_ H'=>Q .non H',rt:=Q } (start N vs) H)(len:∀vs H Q E,sp vs H Q E->vs.length=ps.length:=by intro vs H Q E h;revert h;walk_at "l"):wO P w K mg base x (k+1) ps sp:=by
 obtain⟨f,fd,F,hm⟩:=S.ex;exact⟨f,fd,A3 F sc (hbody f) len,hm,F.kp,F.binds hb⟩
end
section
variable {X:Cx}
theorem Bz:D6 (CXe X.prog X.w) X E0:=by
 rintro pins σ H s e s' I ⟨x,C,T,od,H',_,_,_,_,_,_,_,_,_,_,q⟩;exact q.elim
theorem Ax{x:Str}{j k:Nat}{ps:List Str}{sp:Sp}{p pos:Pos}{e:uN}{es:List uN}{t:TA}(D:wO X.prog X.w X.K X.mg X.base x j ps sp)(hr:Room k X.A)(hg:Gl X x)(ha:PA X (e::es) t)(hk:j<=k:=by decide)
   (hdb:(x==("__debug__":Str))=false:=by decide) (he:uR (e::es) X.env=(false,vh e X.env)::uR es X.env:=by rfl) (hpl:(uZ pos (uR es X.env)).any (·.1)=false:=by rfl):
   PE X (.Call (.Name x p) (e::es) [] pos) (G2 sp [] E0 t):=by
 obtain⟨f,fd,F,hm,kp,b⟩:=D.ex;exact Sx F (hr.mono hk) hg hm kp b .nil Bz ha hdb he hpl
variable {j k:Nat}{C0:uH}{ps:List Str}{sp:Sp}{fx cx:Str}{p cpos epos np hpos pos:Pos}{e:uN}{es:List uN}{ta:TA}{b0:uO}{suite:List uO}{ts:uH->TS}
end
section
variable{X:Cx}{pos:Pos}
theorem o_(i:Nat){x:Str}{e:uN}{te:TE}{pos':Pos}{u:List Str}{v}(S:wN X.N u v)(he:PE X e te)(hi:X.N[i]?=some x:=by rfl)(hx:Loc X.env.scope x:=by exact π rfl)(hs:swapsWith e (some (.Name x pos')) pos.line X.env=pure false:=by rfl)(hf:X.fn x=true\/X.env.scope.names.lookup x=some .local:=by first | exact .inl rfl | exact .inr rfl | assumption):PS X (.Assign [.Name x pos'] e pos) (yD te (GY i)):=Aw S.nd hi hx he hs hf
theorem p_(i:Nat){x:Str}{u:List Str}{v}(S:wN X.N u v)(hi:X.N[i]?=some x:=by rfl)(hx:Loc X.env.scope x:=by exact π rfl)(hf:X.fn x=true\/X.env.scope.names.lookup x=some .local:=by first | exact .inl rfl | exact .inr rfl | assumption):PG X (.Name x pos) (GY i):=AF S.nd hi hx hf
theorem q_{x:Str}{j k:Nat}{ps:List Str}{sp:Sp}{p pos:Pos}{e:uN}{es:List uN}{t:TA}(D:wO X.prog X.w X.K X.mg X.base x j ps sp)(hr:Room k X.A)(ha:PA X (e::es) t)(hg:Gl X x:=by rfl)(hk:j<=k:=by decide)(hdb:(x==("__debug__":Str))=false:=by decide) (he:uR (e::es) X.env=(false,vh e X.env)::uR es X.env:=by rfl) (hpl:(uZ pos (uR es X.env)).any (·.1)=false:=by rfl):PE X (.Call (.Name x p) (e::es) [] pos) (G2 sp [] E0 t):=Ax D hr hg ha hk hdb he hpl
abbrev r_{X x pos}:=@pv X 1 x pos
abbrev s_{X x pos}:=@pv X 0 x pos
abbrev t_{X x pos}:=@pv X 2 x pos
abbrev u_{X x pos}:=@pv X 3 x pos
abbrev vw{X x pos}:=@pv X 4 x pos
abbrev vx{X x pos}:=@pv X 5 x pos
abbrev vy{X x pos}:=@pv X 7 x pos
abbrev vz{X x pos}:=@pv X 6 x pos
abbrev vA{X x pos}:=@pv X 9 x pos
end
structure XK0(K:δ)(C:uH):Prop where
 ga:bo K (.ref C) "__getattribute__"=some (some (.builtin "BaseException.__getattribute__"))
 gat:bo K (.ref C) "__getattr__"=some none
 cls:bo K (.ref C) "__class__"=some (some (.builtin "object.__class__"))
 obj:gn K C (.type "object")=some true
 exc:gn K C (.type "BaseException")=some true
section
variable {X:Cx}
end
open PySem.W in
theorem kP(self:uG):refuseLoop self "__setattr__" [.type "ValueError",.type "Exception",.type "BaseException",.type "object"]=pure ():=by kernel_rfl
def Qc:List uG->Bool
 | .ref _::r=>Qc r
 | l=>l==[.type "ValueError",.type "Exception",.type "BaseException",.type "object"]
open PySem.W in
theorem aG(self:uG):∀{l:List uG},Qc l=true->refuseLoop self "__setattr__" l=pure ()
 | .ref c::r,e=>by rw[refuseLoop_ref];exact aG self e
 | [],e=>by cases e
 | .none::r,e=>by cases e
 | .type n::r,e=>by
   have e':(Value.type n::r)=[.type "ValueError",.type "Exception",.type "BaseException",.type "object"]:=beq_iff_eq.mp e
   rw[e']
   exact kP self
 | .ellipsis::r,e=>by cases e
 | .notImplemented::r,e=>by cases e
 | .bool b::r,e=>by cases e
 | .int i t::r,e=>by cases e
 | .float i t::r,e=>by cases e
 | .str i t::r,e=>by cases e
 | .bytes i t::r,e=>by cases e
 | .builtin i::r,e=>by cases e
section
variable {prog:uK}{w:uL}{A:uM}{K:δ}{x C:uH}{s:uI}
open PySem.W in
theorem kQ{E:uG->uI->Prop}{ox:Obj}{vs:Array uG}{name:Str}{v:uG}{cd:ClassData}(X:K.In s.heap)(hx:s.heap.get? x=some ox)(hcl:ox.cls = .ref C)(hdi:ox.dict=none)(hda:ox.data = .fields vs)
   (hs:findIn K (.ref C) "__setattr__"=some (some (.builtin "object.__setattr__"))) (hc:clsIn K C=some cd) (ho:Qc cd.mro=true) (hm:mroIn K C (.type "object")=some true) (hd:cd.hasDict=true) (ht:findIn K (.ref C) name=some none)
   (h:∀h' dx,s.heap.get? dx=none->dx≠x->h'.get? x=some { ox with dict:=some dx }->h'.Ns1 dx (λy=>if y=name then some v else none)->(∀b o,b≠x->s.heap.get? b=some o->h'.get? b=some o)->Q () { s with heap:=h',toks:=s.toks+2 }):
   uY (vi prog w) A (setAttr (.ref x) name v) Q E s:=by
 have I:InstAt s.heap x ox C none:=⟨hx,hcl,by unfold notCls;rw[hda],by rw[hdi];trivial⟩
 refine set_plain X I hs ?_;have SF:=PySem.F.store_object;have sub:Looks (vi prog w) s.heap (isInstance (.ref x) (.type "object")) true:=I.type.andThen (looks_mroIn X hm);refine codeAny_call_builtin SF.slot.plain SF.entry (@check_slot (vi prog w) _ _ { s with toks:=s.toks+1 } "object.__setattr__" "object" "__setattr__" (.ref x) [.str name s.toks,v] [] _ SF.kind SF.split sub (SF.args (.ref x) (.str name s.toks) v) ?_);have mro:Looks (vi prog w) s.heap (mroOf (.ref C)) cd.mro:=(looks_clsIn X hc).andThen .now;rw[osa_eq,refuse_eq];refine uV (uV (Looks.here (s:={ s with toks:=s.toks+1 }) I.type (uV (Looks.here (s:={ s with toks:=s.toks+1 }) mro ?_))));rw[aG _ ho];refine uW (uV (Looks.here (s:={ s with toks:=s.toks+1 }) I.type (uV (Looks.here (s:={ s with toks:=s.toks+1 }) (looks_findIn X ht) (uV (uW ?_))))));show uY _ _ (Builtin.ObjectAttr.storeInOwnDict (.ref x) (.ref C) _ name v _) _ _ _;unfold Builtin.ObjectAttr.storeInOwnDict;obtain⟨c0,d0,dt0,sl0⟩:=ox;dsimp only at hcl hdi hda;subst hcl hdi hda;refine uV (uW (uV (uV (wpAny_loadPart hx (uV (Looks.here (s:={ s with toks:=s.toks+1 }) (looks_clsIn X hc) ?_))))));rw[hd];show uY (vi prog w) A.in1 (do
   let d <-alloc { cls:=Value.type "dict",data:=Data.dict #[] }
   update x λo=>{ o with dict:=some d }
   dictMade (.ref C) x d) _ _ _
 refine uV (wpAny_alloc ?_);refine uV (wpAny_update (Γ _ hx) ?_);refine uW (a:=some s.heap.objs.size) (uV (uW (uV ?_)));have ne:s.heap.objs.size≠x:=pd (ad hx);have n0:((s.heap.push { cls:=.type "dict",data:=.dict #[] }).update x λo=>{ o with dict:=some s.heap.objs.size }).Ns1 s.heap.objs.size (λ_=>none):=by
   have e1:(s.heap.push { cls:=.type "dict",data:=.dict #[] }).get? s.heap.objs.size=some { cls:=.type "dict",data:=.dict #[] }:=bc s.heap rfl;have e3:(s.heap.push { cls:=.type "dict",data:=.dict #[] }).Ns s.heap.objs.size (λ_=>none):=⟨_,#[],_,e1,rfl,(λe he=>absurd he (by simp)),λ_=>rfl⟩
   exact(uz.of_empty e3).at λo q=>by rw[ah _ _ (λz=>ne z.symm)];exact q
 refine wpAny_nsSet1 n0 λh' hn2 hs2=>?_;obtain⟨oD,esD,epD,hoD,hdD,hcD⟩:=hn2.count (kf.cons name v (ns:=[]) (λy hy=>absurd rfl hy));refine uV (wpAny_lookBehind hoD (by rw[hdD];exact pastItsLine_dict (de hcD (by show 1<=uU+1;exact Nat.le_add_left 1 _))) ?_);refine uW (h _ s.heap.objs.size (dw (ψ _)) ne ?_ hn2 λb o nb q=>?_)
 . rw[hs2.2 x (λz=>ne z.symm)];exact dv _ (Γ _ hx) rfl
 . rw[hs2.2 b (bu (ad q))];show ((s.heap.push _).update x _).get? b=some o;rw[ah _ _ (λz=>nb z.symm)];exact Γ _ q
end
open Sem (wp)
section
variable {prog:uK}{w:uL}{A:uM}{E:uG->uI->Prop}{h:vq}{g:Array uQ}{d:vg}{t:Nat}{os:OsState}{a C:uH}{o:Obj}{name:Str}{v:uG}
end
structure XSet(K:δ)(C:uH)(f:Str):Prop where
 sa:bo K (.ref C) "__setattr__"=some (some (.builtin "object.__setattr__"))
 cd:∃cd,rc K C=some cd/\Qc cd.mro=true/\cd.hasDict=true
 ob:gn K C (.type "object")=some true
 no:bo K (.ref C) f=some none
def xi(x C:uH)(od:Option uH):HO:=.ext λh=>∃tt,h.get? x=some { cls:=.ref C,dict:=od,data:=.fields #[.ref tt,.none,.none,.none,.bool false,.none] }
def sFldX(K:δ)(ta tv:TE)(f:Str):TS:=λD σ H=>tv σ H λy H1=>ta σ H1 λx H2=>∃a C,x = .ref a/\H2 a=some (xi a C none)/\XSet K C f/\∀dx,H2 dx=none->D.nx σ (upd (upd H2 dx (.xd [(f,y)])) a (xi a C (some dx)))
section
variable {X:Cx}{o e value:uN}{f:Str}{pos pos':Pos}{ta tv:TE}
theorem xX(ha:PE X o ta)(hv:PE X value tv)(hs:swapsWith value (some (.Attribute o f pos')) pos.line X.env=pure false:=by rfl):PS X (.Assign [.Attribute o f pos'] value pos) (sFldX X.K ta tv f):=by
 intro pins s σ H D I h;refine plainObj_wpAny_Assign_Attribute (thn (hv pins s σ H _ I h) λu s1 ⟨y,H1,I1,ry,q⟩=>thn (ha pins s1 σ H1 _ I1 q) λov s2 hZ=>?_) hs;obtain⟨x,H2,I2,rx,a,C,ex,ea,Z,q2⟩:=hZ;subst ex;obtain rfl:ov=Value.ref a:=rx;obtain⟨⟨tt,ee⟩,_⟩:=I2.hok a _ ea;obtain⟨cd,hcd,ht,hdi⟩:=Z.cd;refine kQ I2.kIn ee rfl rfl rfl Z.sa hcd ht Z.ob hdi Z.no λh' dx nd ne e' n' kp=>?_;have ud:H2 dx=none:=Gv I2.hok nd;have nda:a≠dx:=λz=>ne z.symm;refine⟨σ,_,?_,q2 dx ud⟩
 have un:Un X.fs [] H2 (upd (upd H2 dx (.xd [(f,y)])) a (xi a C (some dx))) s2.heap h':=by
   refine⟨λb ob qb n _ _=>kp b ob (λz=>by rw[z,ea] at n;cases n) qb,λb ob qb n _ _=>⟨ob.slots,kp b ob (λz=>by rw[z,ea] at n;cases n) qb⟩,λb ob qb n _=>?_,λb ob qb _=>?_,λb xs qb=>?_,λb ob v' qb=>?_,λb ps qb=>?_⟩
   . rw[AI (λz=>by rw[z,ea] at n;cases n),AI (λz=>by rw[z,nd] at qb;cases qb)];exact n
   . by_cases z:b=a
     . subst z;exact⟨_,e'⟩
     . exact⟨ob,kp b ob z qb⟩
   . rw[AI (λz=>by rw[z,ea] at qb;cases qb),AI (BF qb ud)];exact qb
   . rw[AI (λz=>by rw[z,ea] at qb;cases qb),AI (BF qb ud)];exact qb
   . exact⟨#[],by rw[AI (λz=>by rw[z,ea] at qb;cases qb),AI (BF qb ud),qb];simp⟩
 have hok:HOk X.prog X.w (upd (upd H2 dx (.xd [(f,y)])) a (xi a C (some dx))) h':=λb v' qb=>by
   by_cases z:b=a
   . subst z;rw[upd_same] at qb;cases qb;exact⟨⟨tt,e'⟩,⟨_,e'⟩,λh1 h2 ⟨t1,q1⟩ k=>⟨t1,k _ q1⟩⟩
   . rw[AI z] at qb;by_cases z2:b=dx
     . subst z2;rw[upd_same] at qb;cases qb;refine⟨_,n',λg=>?_⟩;show RelO (gz g [(f,y)]) (if g=f then some u else none);by_cases zg:g=f
       . subst zg;rw[if_pos rfl,im];exact ry
       . rw[if_neg zg,jt,show (g==f)=false from beq_false_of_ne zg]
         trivial
     . rw[AI z2] at qb;refine(I2.hok b v' qb).stay (λc w' hcw q=>kp c w' (λy'=>?_) q) (λc q=>?_) λc xs q=>?_
       . subst y';rcases hcw with r | r
         . exact z r.symm
         . rw[ea] at r;cases r
       . rw[AI (λz=>by rw[z,ea] at q;cases q),AI (BF q ud)];exact q
       . rw[AI (λz=>by rw[z,ea] at q;cases q),AI (BF q ud)];exact q
 exact I2.un un hok
end
open Sem (wp)
section
variable {prog:uK}{w:uL}{A:uM}{E:uG->uI->Prop}{h:vq}{g:Array uQ}{d:vg}{t:Nat}{os:OsState}
variable {nm q:Str}{C N:uH}{bs bm bmB:List uG}{hdct:Bool}{sn:List Str}{sub:List uG}{ab:Bool}{col:Option Bool}{dd:Option uH}{k0 k1 k2 k3 k5:Option uG}{B newId initId:String}
theorem kR(FB:ExcBaseFacts B newId initId bmB)(TL:OwnTail h bmB bm){args:List uG}{fI:uH}{oI:Obj}{Q:Fin->uI->Prop}(hC:h.get? C=some (excClassObj nm q C N bs bm hdct sn sub ab col dd k0 k1 k2 k3 k5 newId))
   (LI:og (vi prog w) h (typeLookup (.ref C) "__init__") (some (.ref fI))) (hfI:h.get? fI=some oI) (hfc:oI.cls = .type "function")
   (k:∀h' e,qw h h' e (.ref C) args->uY (vi prog w) A (call (.ref fI) (.ref e::args)) (λr s'=>r = .none/\Q (.done (.ret (.ref e))) s') E ⟨h',g,d,t,os⟩) (hz:args.length<=uU):
   uY (vi prog w) A (Builtin.«type.__call__» ⟨.ref C::args,[]⟩) Q E ⟨h,g,d,t,os⟩:=by
 repeat (first
   | with_reducible refine vm hC ?_
   | with_reducible refine wpAny_madeBy_exc hC ?_
   | wp_step)
 refine codeAny_call_builtin_code (Code.quiet_builtin _ FB.quiet) (wpAny_check_new_subT FB TL hC (codeAny_exc_new_subT FB TL hC ?_ hz));show uY _ _ _ _ _ _;have kp:∀b o,h.get? b=some o->((h.push { cls:=.type "tuple",data:=.seq args.toArray }).push { cls:=.ref C,data:=.fields #[.ref h.objs.size,.none,.none,.none,.bool false,.none] }).get? b=some o:=
   λb o z=>Γ _ (Γ _ z)
 have gC:=kp _ _ hC;have gE:((h.push { cls:=.type "tuple",data:=.seq args.toArray }).push { cls:=.ref C,data:=.fields #[.ref h.objs.size,.none,.none,.none,.bool false,.none] }).get? (h.objs.size+1)
     = some { cls:=.ref C,data:=.fields #[.ref h.objs.size,.none,.none,.none,.bool false,.none] }:=by heap_get
 have cC:(Value.ref C::bm).contains (.ref C)=true:=by simp
 unfold isInstance
 repeat (first
   | with_reducible refine vm gE ?_
   | (with_reducible refine wpAny_isSubtype_exc gC ?_;rw[cC])
   | wp_step)
 show uY _ _ (typeLookup (.ref C) _) _ _ _;refine LI _ _ _ _ kp ?_;refine wpAny_holding (uV ?_);unfold bindSpecial;refine uV (wpAny_typeOf (T:="function") ⟨_,kp _ _ hfI,hfc⟩ ?_);rw[if_pos (by decide)];refine uW (uV (uX (k _ (h.objs.size+1) ⟨kp,dw (qj _),h.objs.size,gE,dw (ψ _),?_⟩) (λr s' hr=>?_) λ_ _ z=>z))
 . exact Γ _ (Heap.get?_push_at rfl rfl)
 . obtain⟨rfl,z⟩:=hr
   wp_walk
   exact z
theorem kS(FB:ExcBaseFacts B newId initId bmB)(TL:OwnTail h bmB bm){args:List uG}{fI:uH}{oI:Obj}{Q:uG->uI->Prop}(hC:h.get? C=some (excClassObj nm q C N bs bm hdct sn sub ab col dd k0 k1 k2 k3 k5 newId))
   (LI:og (vi prog w) h (typeLookup (.ref C) "__init__") (some (.ref fI))) (hfI:h.get? fI=some oI) (hfc:oI.cls = .type "function")
   (k:∀h' e,qw h h' e (.ref C) args->uY (vi prog w) (A.under (.builtin "type.__call__" ⟨.ref C::args,[]⟩)) (call (.ref fI) (.ref e::args)) (λr s'=>r = .none/\Q (.ref e) s') E ⟨h',g,d,t,os⟩) (hz:args.length<=uU):
   uY (vi prog w) A (call (.ref C) args) Q E ⟨h,g,d,t,os⟩:=by
 have y1:=tc_lookup;have y2:=tc_bind (.ref C);have y3:(⟨h,g,d,t,os⟩:uI).TypeIs (.ref C) "type":=⟨_,hC,rfl⟩
 refine wpAny_call (codeAny_of_tree ?_);show uY _ _ (callAny (.ref C) _) _ _ _
 repeat (any_goals (first
   | assumption
   | with_reducible refine vm hC ?_
   | wp_step))
 refine⟨rfl,codeAny_call_builtin_at (Code.quiet_builtin _ (by decide +kernel)) entry_typeCall (wpAny_check_type_call_sub hC (kR FB TL hC LI hfI hfc (λh' e hm=>?_) hz))⟩;exact k h' e hm
theorem kT{M:vv}{env:vt}{s:uI}{x:vo uG}{Q:Flow->uI->Prop}(hbase:bm.contains (.type "BaseException")=true)(hh:A.handled=none)
   (k:uY M A x (λv s1=>∃e od tt,v = .ref e/\s1.heap.get? C=some (excClassObj nm q C N bs bm hdct sn sub ab col dd k0 k1 k2 k3 k5 newId)/\s1.heap.get? e=some { cls:=.ref C,dict:=od,data:=.fields #[.ref tt,.none,.none,.none,.bool false,.none] }/\E (.ref e) s1) E s):
   uY M A (raiseStmt env (some x) none) Q E s:=by
 have cB:(Value.ref C::bm).contains (.type "BaseException")=true:=by rw[ow,hbase,rq]
 unfold raiseStmt;refine uV (uX k (λv s1 k1=>?_) λ_ _ z=>z);obtain⟨e,od,tt,rfl,hC,he,z⟩:=k1;obtain⟨hp,gg,d1,tk,os1⟩:=s1
 repeat (first
   | with_reducible refine vm he ?_
   | with_reducible refine vm hC ?_
   | (with_reducible refine wpAny_isSubtype_exc hC ?_;rw[cB])
   | wp_step)
 exact wpAny_raiseNew_none hh z
end
structure B_(K:δ)(mg:Str->Option uG)(x:Str)(C C0 fI:uH):Prop where
 bound:mg x=some (.ref C)
 lk:∃(nm qn:Str)(N:uH)(bs:List uG)(hd:Bool)(sn:List Str)(sub:List uG)(ab:Bool)(col:Option Bool)(dd:Option uH)(k0 k1 k2 k3 k5:Option uG),
   K.lookup C=some (excClassObj nm qn C N bs (.ref C0::[.type "ValueError",.type "Exception",.type "BaseException",.type "object"]) hd sn sub ab col dd k0 k1 k2 k3 k5 "ValueError.__new__")
 base:excIn K C0 [.type "ValueError",.type "Exception",.type "BaseException",.type "object"] "ValueError.__new__"=true
 ini:bo K (.ref C) "__init__"=some (some (.ref fI))
 keep:keepIn K (.ref C)=true
 fn:∃(c:uG)(dd:Option uH)(da:Data) (sl:Array (Option uG)),K.lookup fI=some ⟨c,dd,da,sl⟩/\c = .type "function"
def del(H:Hp)(x:uH):Hp:=λb=>if b=x then none else H b
theorem Qd{x:uH}:del H x x=none:=by unfold del;rw[if_pos rfl]
theorem Gw{x b:uH}(h:b≠x):del H x b=H b:=by unfold del;rw[if_neg h]
theorem yg{X:Cx}{σ:L2.St}{s:uI}{x:uH}{φ:vq->Prop}(I:Inv X pins σ H s)(e:H x=some (.ext φ)):Inv X pins σ (del H x) s:=by
 have nx:∀b v,H b=some v->v≠.ext φ->b≠x:=λb v q n z=>by
   subst z;rw[e] at q;exact n (χ q).symm
 have un:Un X.fs [] H (del H x) s.heap s.heap:=by
   refine⟨λb o q _ _ _=>q,λb o q _ _ _=>⟨o.slots,q⟩,λb o q n _=>?_,λb o q _=>⟨o,q⟩,λb xs q=>?_,λb o v q=>?_,λb ps q=>⟨#[],?_⟩⟩
   . by_cases z:b=x
     . rw[z];exact Qd
     . rw[Gw z];exact n
   . rw[Gw (nx b _ q (by intro z;cases z))];exact q
   . rw[Gw (nx b _ q (by intro z;cases z))];exact q
   . rw[Gw (nx b _ q (by intro z;cases z)),q];simp
 have hok:HOk X.prog X.w (del H x) s.heap:=λb v q=>by
   by_cases z:b=x
   . rw[z,Qd] at q;cases q
   . rw[Gw z] at q;refine(I.hok b v q).stay (λ_ _ _ z=>z) (λc q'=>?_) λc xs q'=>?_
     . rw[Gw (nx c _ q' (by intro z;cases z))];exact q'
     . rw[Gw (nx c _ q' (by intro z;cases z))];exact q'
 exact I.un (h':=s.heap) (t':=s.toks) un hok
theorem yf{X:Cx}{σ:L2.St}{s:uI}{h':vq}{x C tt:uH}(I:Inv X pins σ H s)(nx:s.heap.get? x=none)(kp:∀b o,s.heap.get? b=some o->h'.get? b=some o)
   (e:h'.get? x=some { cls:=.ref C,data:=.fields #[.ref tt,.none,.none,.none,.bool false,.none] }):Inv X pins σ (upd H x (xi x C none)) { s with heap:=h' }:=by
 have ux:H x=none:=Gv I.hok nx;have un:Un X.fs [] H (upd H x (xi x C none)) s.heap h':=by
   refine⟨λb o q _ _ _=>kp b o q,λb o q _ _ _=>⟨o.slots,kp b o q⟩,λb o q n _=>?_,λb o q _=>⟨o,kp b o q⟩,λb xs q=>?_,λb o v q=>?_,λb ps q=>⟨#[],?_⟩⟩
   . rw[AI (λz=>by rw[z,nx] at q;cases q)];exact n
   . rw[AI (BF q ux)];exact q
   . rw[AI (BF q ux)];exact q
   . rw[AI (BF q ux),q];simp
 have hok:HOk X.prog X.w (upd H x (xi x C none)) h':=λb v q=>by
   by_cases z:b=x
   . subst z;rw[upd_same] at q;cases q;exact⟨⟨tt,e⟩,⟨_,e⟩,λh1 h2 ⟨t1,q1⟩ k=>⟨t1,k _ q1⟩⟩
   . rw[AI z] at q;refine(I.hok b v q).stay (λc w' _ q'=>kp c w' q') (λc q'=>?_) λc xs q'=>?_
     . rw[AI (BF q' ux)];exact q'
     . rw[AI (BF q' ux)];exact q'
 exact I.un (t':=s.toks) un hok
theorem kU{X:Cx}{x:Str}{C C0 fI:uH}{fd:uJ}{ps:List Str}{sp:Sp}{j:Nat}{σ:L2.St}{s:uI}{Q:VK}{us:List uG}{vs:List V}(XI:B_ X.K X.mg x C C0 fI)(F:FnOk X.prog X.w X.K X.mg X.base (CXe X.prog X.w) j fI fd ps sp)
   (hr:Room (j+1) X.A) (hb:Bx X.K fd ps []) (I:Inv X pins σ H s) (r:Vals vs us) (hz:vs.length<=1000) (h:∀y,H y=none->sp (.ref y::vs) (upd H y (xi y C none)) (λv H2=>v = .non/\Q (.ref y) H2) E0):
   uY (vi X.prog X.w) X.A (call (.ref C) us) (λu s'=>EP X pins σ Q u s'/\∃y,u = .ref y/\s.heap.get? y=none) X.xe s:=by
 obtain⟨nm,qn,NN,bs,hd,sn,sub,ab,col,dd,k0,k1,k2,k3,k5,lkC⟩:=XI.lk;refine aC I.kIn XI.base λbm N0 nm0 qn0 bs0 hd0 sn0 sub0 ab0 col0 dd0 j0 j1 j2 j3 j5 mN0 hC0 hN0 noI tl _=>?_;have FB:=fu;have TL:OwnTail s.heap [.type "ValueError",.type "Exception",.type "BaseException",.type "object"] (.ref C0::[.type "ValueError",.type "Exception",.type "BaseException",.type "object"]):=.own hC0 hN0 noI .base;obtain⟨cI,dI,daI,slI,lkI,ecI⟩:=XI.fn;have gC:=I.kIn _ _ lkC;have gI:=I.kIn _ _ lkI;have LI:=nc (M:=vi X.prog X.w) I.kIn XI.ini;obtain⟨hp,gg,d1,tk,os1⟩:=s;refine kS FB TL gC LI gI ecI (λh' y hm=>?_) (by rw[<-r.length];exact fh (small1000 hz));obtain⟨tt,ey,_,_⟩:=hm.there;have I2:=yf I hm.new hm.keeps ey;have uy:H y=none:=Gv I.hok hm.new;have hq:=h y uy;have r2:Vals (V.ref y::vs) (Value.ref y::us):=.cons rfl r;have hl:((Value.ref y::us)++[]).length=ps.length:=by
   rw[ae,<-F.len _ _ _ _ hq];exact r2.length.symm
 have bd:=hb _ (Value.ref y::us) I2.kIn hl;rw[ae] at bd;refine wpAny_call (codeAny_mono (F.run _ X.stack _ _ ⟨Value.ref y::us,[]⟩ (Value.ref y::us) _ _ E0 (hr.make C us []) (I2.env0.make C us []) bd r2 hq) λrs s' hq'=>?_);cases rs with
 | error e=>obtain⟨_,_,_,_,_,_,_,_,_,_,_,_,_,_,_,z⟩:=hq';exact z.elim
 | ok fl=>
   cases fl with
   | ret u=>
     obtain⟨v,H',I3,rv,ev,q3⟩:=I2.after hq';subst ev;exact⟨rv,⟨V.ref y,H',I3,rfl,q3⟩,y,rfl,hm.new⟩
   | next=>exact cm hq'
   | brk=>exact cm hq'
   | cont=>exact cm hq'
def SL(C:uH)(sp:Sp)(E:XK)(t:TA):TS:=λ_ σ H=>t σ H λvs H1=>vs.length<=1000/\∀y,H1 y=none->sp (.ref y::vs) (upd H1 y (xi y C none)) (λv H2=>v = .non/\∃z,V.ref y=V.ref z/\∃od,H2 z=some (xi z C od)/\E (.ref C) od (del H2 z)) E0
section
variable {P:uK}{w:uL}{K:δ}{mg:Str->Option uG}{base:vq}{N:List Str}{qual:Str}{scope:uP}{f:uH}{cd:uG}{A:uM}{outer:List vt}{s₀:uI}{H₀:Hp}{EX:XK}
theorem kW{x:Str}{C C0 fI:uH}{fd:uJ}{ps:List Str}{sp:Sp}{j k:Nat}{np cpos pos:Pos}{e:uN}{es:List uN}{t:TA}(XI:B_ K mg x C C0 fI)(F:FnOk P w K mg base (CXe P w) j fI fd ps sp)(hb:Bx K fd ps [])
   (hr:Room k (cxOf (CXe P w) P w K mg base N qual scope f cd A outer s₀ H₀ EX).A)
   (hg:Gl (cxOf (CXe P w) P w K mg base N qual scope f cd A outer s₀ H₀ EX) x) (ha:PA (cxOf (CXe P w) P w K mg base N qual scope f cd A outer s₀ H₀ EX) (e::es) t) (hj:j+1<=k:=by decide)
   (hdb:(x==("__debug__":Str))=false:=by decide) (he:uR (e::es) (cxOf (CXe P w) P w K mg base N qual scope f cd A outer s₀ H₀ EX).env=(false,vh e (cxOf (CXe P w) P w K mg base N qual scope f cd A outer s₀ H₀ EX).env)::uR es (cxOf (CXe P w) P w K mg base N qual scope f cd A outer s₀ H₀ EX).env:=by rfl)
   (hpl:(uZ cpos (uR es (cxOf (CXe P w) P w K mg base N qual scope f cd A outer s₀ H₀ EX).env)).any (·.1)=false:=by rfl):
   PS (cxOf (CXe P w) P w K mg base N qual scope f cd A outer s₀ H₀ EX) (.Raise (some (.Call (.Name x np) (e::es) [] cpos)) none pos) (SL C sp EX t):=by
 intro pins s σ H D I h;obtain⟨nm,qn,NN,bs,hd,sn,sub,ab,col,dd,k0,k1,k2,k3,k5,lkC⟩:=id XI.lk;have hB:(Value.ref C0::[.type "ValueError",.type "Exception",.type "BaseException",.type "object"]:List uG).contains (.type "BaseException")=true:=by
   rw[ow,fu.hasBase,rq]
 rw[arm_exec_Raise];refine uV (wpAny_standAt (kT (C:=C) (nm:=nm) (q:=qn) (N:=NN) (bs:=bs) (bm:=.ref C0::[.type "ValueError",.type "Exception",.type "BaseException",.type "object"]) (hdct:=hd) (sn:=sn) (sub:=sub) (ab:=ab) (col:=col) (dd:=dd) (k0:=k0) (k1:=k1) (k2:=k2) (k3:=k3) (k5:=k5) (newId:="ValueError.__new__") hB hr.hd ?_));refine uV (uX ?_ (λv s1 hv=>uV (wpAny_standAt (uW hv))) (λ_ _ z=>z));refine wpAny_Call_Name_kw (EC I hg XI.bound ?_ hdb);refine callWith_K (h₀:=base) I.ok.mod.kin XI.keep (thn (ha cpos pins s σ H _ I h) λus s1 ⟨vs,H1,I1,r,hz,q⟩=>⟨I1.kIn,?_⟩) he hpl;refine thn (kU XI F (hr.mono hj) hb I1 r hz (Q:=λu H2=>∃z,u = .ref z/\∃od,H2 z=some (xi z C od)/\EX (.ref C) od (del H2 z)) (λy hy=>q y hy)) λu s2 hZ=>?_;obtain⟨⟨v,H2,I2,rv,y,ev,od,ey,qe⟩,y',eu,ny⟩:=hZ
 . subst ev;obtain rfl:u=Value.ref y:=rv;cases eu;obtain⟨⟨tt,g1⟩,_⟩:=I2.hok y _ ey;refine⟨y,od,tt,rfl,I2.kIn _ _ lkC,g1,?_⟩;exact aB (yg I2 ey) ⟨_,_,g1,rfl,rfl,rfl,rfl⟩ (EF (show Un (frs outer) [] H₀ H1 s₀.heap s1.heap from I1.base) ny) Qd qe
end
structure DefI(P:uK)(w:uL)(K:δ)(mg:Str->Option uG)(base:vq)(x:Str)(C C0:uH)(j:Nat)(ps:List Str)(sp:Sp):Prop where
 ex:∃(fI:uH)(fd:uJ),B_ K mg x C C0 fI/\FnOk P w K mg base (CXe P w) j fI fd ps sp/\Bx K fd ps []
abbrev vN(C:uH)(f:Str)(y:uH)(v:V)(H:Hp)(Q:VK):Prop:=∀dx,H dx=none->Q .non (upd (upd H dx (.xd [(f,v)])) y (xi y C (some dx)))
def SM(C:uH)(f:Str):Sp:=λvs H Q _=>∃(y:uH)(v:V),vs=[.ref y,v]/\H y=some (xi y C none)/\vN C f y v H Q
section
variable {P:uK}{w:uL}{K:δ}{mg:Str->Option uG}{base:vq}{N:List Str}{qual:Str}{scope:uP}{f:uH}{cd:uG}{A:uM}{outer:List vt}{s₀:uI}{H₀:Hp}{EX:XK}
theorem kX{x:Str}{C C0:uH}{ps:List Str}{sp:Sp}{j k:Nat}{np cpos pos:Pos}{e:uN}{es:List uN}{t:TA}(D:DefI P w K mg base x C C0 j ps sp)
   (hr:Room k (cxOf (CXe P w) P w K mg base N qual scope f cd A outer s₀ H₀ EX).A)
   (hg:Gl (cxOf (CXe P w) P w K mg base N qual scope f cd A outer s₀ H₀ EX) x) (ha:PA (cxOf (CXe P w) P w K mg base N qual scope f cd A outer s₀ H₀ EX) (e::es) t) (hj:j+1<=k:=by decide)
   (hdb:(x==("__debug__":Str))=false:=by decide) (he:uR (e::es) (cxOf (CXe P w) P w K mg base N qual scope f cd A outer s₀ H₀ EX).env=(false,vh e (cxOf (CXe P w) P w K mg base N qual scope f cd A outer s₀ H₀ EX).env)::uR es (cxOf (CXe P w) P w K mg base N qual scope f cd A outer s₀ H₀ EX).env:=by rfl)
   (hpl:(uZ cpos (uR es (cxOf (CXe P w) P w K mg base N qual scope f cd A outer s₀ H₀ EX).env)).any (·.1)=false:=by rfl):
   PS (cxOf (CXe P w) P w K mg base N qual scope f cd A outer s₀ H₀ EX) (.Raise (some (.Call (.Name x np) (e::es) [] cpos)) none pos) (SL C sp EX t):=by
 obtain⟨fI,fd,XI,F,hb⟩:=D.ex;exact kW XI F hb hr hg ha hj hdb he hpl
theorem Bt{x:Str}{j k:Nat}{ps:List Str}{sp:Sp}{p pos:Pos}{e:uN}{es:List uN}{t:TA}(D:wO P w K mg base x j ps sp)(hr:Room k (cxOf (CXe P w) P w K mg base N qual scope f cd A outer s₀ H₀ EX).A)
   (hg:Gl (cxOf (CXe P w) P w K mg base N qual scope f cd A outer s₀ H₀ EX) x) (ha:PA (cxOf (CXe P w) P w K mg base N qual scope f cd A outer s₀ H₀ EX) (e::es) t) (hk:j<=k:=by decide)
   (hdb:(x==("__debug__":Str))=false:=by decide) (he:uR (e::es) (cxOf (CXe P w) P w K mg base N qual scope f cd A outer s₀ H₀ EX).env=(false,vh e (cxOf (CXe P w) P w K mg base N qual scope f cd A outer s₀ H₀ EX).env)::uR es (cxOf (CXe P w) P w K mg base N qual scope f cd A outer s₀ H₀ EX).env:=by rfl)
   (hpl:(uZ pos (uR es (cxOf (CXe P w) P w K mg base N qual scope f cd A outer s₀ H₀ EX).env)).any (·.1)=false:=by rfl):
   PE (cxOf (CXe P w) P w K mg base N qual scope f cd A outer s₀ H₀ EX) (.Call (.Name x p) (e::es) [] pos) (G2 sp [] EX t):=by
 obtain⟨f',fd,F,hm,kp,b⟩:=D.ex;exact Sx F (hr.mono hk) hg hm kp b .nil Bl ha hdb he hpl
end
section
variable {K:δ}{σ:L2.St}{H:Hp}{D:Ends}
theorem r_raise{C:uH}{E:XK}{t:TA}(h:t σ H λxs H1=>xs.length<=uU/\E (.ref C) none H1):aD C E t D σ H:=h
theorem r_raiseI{C:uH}{sp:Sp}{E:XK}{t:TA}(h:t σ H λvs H1=>vs.length<=1000/\∀y,H1 y=none->sp (.ref y::vs) (upd H1 y (xi y C none)) (λv H2=>v = .non/\∃z,V.ref y=V.ref z/\∃od,H2 z=some (xi z C od)/\E (.ref C) od (del H2 z)) E0):
   SL C sp E t D σ H:=h
theorem zf{C:uH}{f:Str}{E:XK}{v:V}(q:∀dx,H dx=none->E (.ref C) (some dx) (upd H dx (.xd [(f,v)]))):
   [v].length<=1000/\∀y,H y=none->SM C f (.ref y::[v]) (upd H y (xi y C none)) (λv H2=>v = .non/\∃z,V.ref y=V.ref z/\∃od,H2 z=some (xi z C od)/\E (.ref C) od (del H2 z)) E0:=by
 refine⟨by show 1<=1000;decide,λy hy=>⟨y,v,rfl,upd_same,λdx hd=>⟨rfl,y,rfl,some dx,upd_same,?_⟩⟩⟩;have ne:dx≠y:=λz=>by rw[z,upd_same] at hd;cases hd
 have hd':H dx=none:=by rw[AI ne] at hd;exact hd
 have e:del (upd (upd (upd H y (xi y C none)) dx (.xd [(f,v)])) y (xi y C (some dx))) y=upd H dx (.xd [(f,v)]):=by
   funext b
   by_cases hb:b=y
   . subst hb;rw[Qd,AI (dn ne)];exact hy.symm
   . rw[Gw hb,AI hb];by_cases hbd:b=dx
     . subst hbd;rw[upd_same,upd_same]
     . rw[AI hbd,AI hb,AI hbd]
 rw[e];exact q dx hd'
end
section
variable {X:Cx}{x:Str}{C:uH}{p pos:Pos}{e:uN}{es:List uN}{t:TA}
end
section
variable {K:δ}{σ:L2.St}{H:Hp}{Q:VK}
end
section
variable {X:Cx}
def PTs(X:Cx)(ifs:List uN)(t:TT):Prop:=∀(pins:List (uH×Obj)) (s:uI) (σ:L2.St) (H:Hp) (Q:Bool->Hp->Prop),Inv X pins σ H s->t σ H Q ->
 uY (vi X.prog X.w) X.A (forIn ifs true λc r=>if r=true then do let ok <-isTrue c X.env (vh c X.env);pure (ForInStep.yield ok) else pure (ForInStep.yield r)) (TP X pins σ Q) X.xe s
theorem Kx:PTs X [] (λ_ H Q=>Q true H):=λpins s σ H Q I q=>wpAny_tests_nil ⟨H,I,q⟩
theorem EG{c:uN}{t:TT}(h:PT X c t):PTs X [c] t:=λpins s σ H Q I q=>wpAny_tests_one (h pins s σ H Q I q)
end
theorem zr{X:Cx}(hu:X.A.units+64<vj):OpR X (vd .NotEq) (λx y H Q=>∃(a b:uH)(ns ms:List Int),x = .ref a/\y = .ref b/\SqL X.K H a (ns.map V.int)/\SqL X.K H b (ms.map V.int)/\Q (.bl (!decide (ns=ms))) H):=by
 intro pins s σ H x y v u Q I rx ry h;obtain⟨a,b,ns,ms,rfl,rfl,ha,hb,q⟩:=h;cases rx;cases ry;obtain⟨its,r1,p1,_⟩:=I.list ha;obtain⟨its2,r2,p2,_⟩:=I.list hb;exact PySem.W.ke_ne_ints p1.isList p2.isList (Sy r1) (Sy r2) hu ⟨.bl _,H,I,rfl,q⟩
section
variable {K:δ}{σ:L2.St}{H:Hp}{Q:VK}{D:Ends}
theorem r_next(h:D.nx σ H):xK D σ H:=h
theorem r_seq{t u:TS}(h:t { D with nx:=u D } σ H):xJ t u D σ H:=h
theorem r_nx{f:L2.St->Hp->Prop}{r:VK}{b c:L2.St->Hp->Prop}(h:f σ H):Ends.nx ⟨f,r,b,c⟩ σ H:=h
theorem r_rt{f:L2.St->Hp->Prop}{r:VK}{b c:L2.St->Hp->Prop}{v:V}(h:r v H):Ends.rt ⟨f,r,b,c⟩ v H:=h
theorem r_drop{te:TE}(h:te σ H λ_ H1=>D.nx σ H1):yL te D σ H:=h
theorem r_ret{te:TE}(h:te σ H D.rt):tRet te D σ H:=h
theorem r_ifS{c:TT}{t u:TS}(h:c σ H λb H1=>if b=true then t D σ H1 else u D σ H1):I_ c t u D σ H:=h
theorem r_asg{te:TE}{g:TG}(h:te σ H λx H1=>g x σ H1 D.nx):yD te g D σ H:=h
theorem r_gname{i:Nat}{v:V}{R:L2.St->Hp->Prop}(h:R (σ.set i (some v)) H):GY i v σ H R:=h
theorem r_gsub{to ti:TE}{t:K_}{v:V}{R:L2.St->Hp->Prop}(h:to σ H λo H1=>ti σ H1 λi H2=>t o i v H2 λH3=>R σ H3):gSub to ti t v σ H R:=h
theorem r_var{i:Nat}{v:V}(e:σ[i]?=some (some v))(h:Q v H):tVar i σ H Q:=⟨v,e,h⟩
theorem r_c{v:V}(h:Q v H):tC v σ H Q:=h
theorem r_op{r:R2}{ta tb:TE}(h:ta σ H λx H1=>tb σ H1 λy H2=>r x y H2 Q):tOp r ta tb σ H Q:=h
theorem r_un{r:V->Hp->VK->Prop}{ta:TE}(h:ta σ H λx H1=>r x H1 Q):tUn r ta σ H Q:=h
theorem r_rI0{g:Int->Int->V}{i j:Int}(h:Q (g i j) H):rI0 g (.int i) (.int j) H Q:=⟨i,j,rfl,rfl,h⟩
theorem r_rI{C:Int->Int->Prop}{g:Int->Int->V}{i j:Int}(c:C i j)(h:Q (g i j) H):rI C g (.int i) (.int j) H Q:=⟨i,j,rfl,rfl,c,h⟩
theorem r_rU{g:Int->V}{i:Int}(h:Q (g i) H):rU g (.int i) H Q:=⟨i,rfl,h⟩
theorem decV{i j:Int}:decide (V.int i=V.int j)=decide (i=j):=by rw[P4];exact Bool.beq_eq_decide_eq i j
theorem r_eqI{i j:Int}(h:Q (.bl (decide (i=j))) H):rEq (.int i) (.int j) H Q:=⟨rfl,by rw[decV];exact h⟩
theorem r_neI{i j:Int}(h:Q (.bl (!decide (i=j))) H):rNe (.int i) (.int j) H Q:=⟨rfl,by rw[decV];exact h⟩
theorem r_isN{P:Prop}(h:P):V.non=V.non/\P:=⟨rfl,h⟩
theorem r_bl{b:Bool}{P:Bool->Prop}(h:P b):∃k,V.bl b=V.bl k/\P k:=⟨b,rfl,h⟩
theorem r_int{i:Int}{P:Int->Prop}(h:P i):∃k,V.int i=V.int k/\P k:=⟨i,rfl,h⟩
theorem r_test{t:TE}{R:Bool->Hp->Prop}(h:t σ H λx H'=>∃k,x = .bl k/\R k H'):yI t σ H R:=h
theorem r_tB{t:TE}{R:Bool->Hp->Prop}(h:t σ H λx H'=>∃k,x = .bl k/\R k H'):tB t σ H R:=h
theorem r_and{t u:TT}{R:Bool->Hp->Prop}(h:t σ H λc H1=>if c=true then u σ H1 R else R false H1):tAnd t u σ H R:=h
theorem r_or{t u:TT}{R:Bool->Hp->Prop}(h:t σ H λc H1=>if c=true then R true H1 else u σ H1 R):tOr t u σ H R:=h
theorem r_not{t:TT}{R:Bool->Hp->Prop}(h:t σ H λc H1=>R (!c) H1):tNot t σ H R:=h
theorem r_andV{ta tb:TE}(h:ta σ H λx H1=>∃c,x = .bl c/\if c=true then tb σ H1 Q else Q (.bl false) H1):Kt ta tb σ H Q:=h
theorem r_orV{ta tb:TE}(h:ta σ H λx H1=>∃c,x = .bl c/\if c=true then Q (.bl true) H1 else tb σ H1 Q):H_ ta tb σ H Q:=h
theorem r_notV{ta:TE}(h:ta σ H λx H1=>∃c,x = .bl c/\Q (.bl (!c)) H1):yK ta σ H Q:=h
theorem r_ifE{t:TT}{ta tb:TE}(h:t σ H λc H1=>if c=true then ta σ H1 Q else tb σ H1 Q):tIf t ta tb σ H Q:=h
theorem r_cons{ta:TE}{tr:TA}{R:List V->Hp->Prop}(h:ta σ H λx H1=>tr σ H1 λxs H2=>R (x::xs) H2):yN ta tr σ H R:=h
theorem r_nil{R:List V->Hp->Prop}(h:R [] H):tNil σ H R:=h
theorem r_tup{t:TA}(h:t σ H λxs H1=>xs.length<=uU/\∀p,H1 p=none->Q (.ref p) (upd H1 p (.tup xs))):tTup t σ H Q:=h
theorem r_lst{t:TA}(h:t σ H λxs H1=>xs.length<=uU/\∀p,H1 p=none->Q (.ref p) (upd H1 p (.lst xs))):tLst t σ H Q:=h
theorem r_call{sp:Sp}{E:XK}{t:TA}(h:t σ H λvs H1=>sp vs H1 Q E):G2 sp [] E t σ H Q:=by
 have e:(λ(vs:List V) H1=>sp (vs++[]) H1 Q E)=λvs H1=>sp vs H1 Q E:=by funext vs H1;rw[ae]
 show t σ H λvs H1=>sp (vs++[]) H1 Q E;rw[e];exact h
theorem r_cb{r:List V->Hp->VK->Prop}{t:TA}(h:t σ H λvs H1=>r vs H1 Q):tCB r t σ H Q:=h
theorem r_sl{r:V->Option Int->Option Int->Hp->VK->Prop}{te:TE}{tl th:TO}(h:te σ H λx H1=>tl σ H1 λl H2=>th σ H2 λu H3=>r x l u H3 Q):tSl r te tl th σ H Q:=h
theorem r_nopart{R:Option Int->Hp->Prop}(h:R none H):ZW σ H R:=h
theorem r_part{t:TE}{R:Option Int->Hp->Prop}(h:t σ H λx H1=>∃i,x = .int i/\R (some i) H1):yJ t σ H R:=h
theorem r_bm{T:String}{r:V->List V->Hp->VK->Prop}{to:TE}{t:TA}(h:to σ H λx H1=>tyV K T x H1/\t σ H1 λxs H2=>r x xs H2 Q):tBM K T r to t σ H Q:=h
theorem r_bm0{T:String}{r:V->List V->Hp->VK->Prop}{to:TE}(h:to σ H λx H1=>tyV K T x H1/\r x [] H1 Q):tBM0 K T r to σ H Q:=h
theorem r_tyL{p:uH}{xs:List V}{P:Prop}(h:H p=some (.lst xs))(q:P):tyV K "list" (.ref p) H/\P:=⟨.inl ⟨rfl,xs,SqL.of h⟩,q⟩
theorem r_append{l:uH}{xs:List V}{y:V}(h:H l=some (.lst xs))(hz:xs.length<uU)(q:Q .non (upd H l (.lst (xs++[y])))):Z4 (.ref l) [y] H Q:=⟨l,xs,y,rfl,rfl,h,hz,q⟩
theorem DN{p:uH}{xs:List V}{i:Int}{v:V}(h:SqL K H p xs)(e:atI xs i=some v)(q:Q v H):zj K (.ref p) (.int i) H Q:=⟨p,xs,i,v,rfl,rfl,h,e,q⟩
theorem r_ixT{p:uH}{xs:List V}{i:Int}{v:V}(h:H p=some (.tup xs))(e:atI xs i=some v)(q:Q v H):rIxT K (.ref p) (.int i) H Q:=⟨p,xs,i,v,rfl,rfl,SqT.of h,e,q⟩
theorem r_ixI{p:uH}(h:SqL K H p (ns.map V.int))(h0:0<=k)(h1:k<ns.length)(q:Q (.int (ns.getD k.toNat 0)) H):zj K (.ref p) (.int k) H Q:=⟨p,_,k,_,rfl,rfl,h,kH ns k h0 h1,q⟩
theorem SN{n:Nat}(h0:0<=k)(h:k<n):ixN n k=some k.toNat:=by
 unfold ixN;rw[if_pos h0,if_pos h]
theorem r_setI{p:uH}{x:Int}{R:Hp->Prop}(h:H p=some (.lst (ns.map V.int)))(h0:0<=k)(h1:k<ns.length)(q:R (upd H p (.lst ((ns.set k.toNat x).map V.int)))):xT (.ref p) (.int k) (.int x) H R:=by
 refine⟨p,_,k,k.toNat,rfl,rfl,h,SN h0 (by rw[Ξ];exact h1),?_⟩;rw[rz] at q;exact q
theorem r_sll{a:uH}{xs:List V}{lo hi:Option Int}(h:SqL K H a xs)(q:∀p,H p=none->Q (.ref p) (upd H p (.lst (xz xs lo hi)))):rSlL K (.ref a) lo hi H Q:=⟨a,xs,rfl,h,q⟩
theorem r_lenI{p:uH}{P:List V->Prop}(h:SqL K H p (ns.map V.int))(q:P (ns.map V.int)):∃p' ys,[V.ref p]=[V.ref p']/\(SqL K H p' ys\/SqT K H p' ys)/\P ys:=⟨p,_,rfl,.inl h,q⟩
theorem r_lenL{p:uH}{xs:List V}{P:List V->Prop}(h:H p=some (.lst xs))(q:P xs):∃p' ys,[V.ref p]=[V.ref p']/\(SqL K H p' ys\/SqT K H p' ys)/\P ys:=⟨p,_,rfl,.inl (SqL.of h),q⟩
theorem r_isi{x:V}{n:String}{t:uG}{b:Bool}{P:Bool->Prop}(ty:TyOf K H x t)(e:kitOne K t (.type n)=some b)(q:P b):∃x' n' t' b',[x,V.ty n]=[x',V.ty n']/\TyOf K H x' t'/\kitOne K t' (.type n')=some b'/\P b':=⟨x,n,t,b,rfl,ty,e,q⟩
theorem r_max{i j:Int}{P:Int->Int->Prop}(q:P i j):∃i' j',[V.int i,V.int j]=[V.int i',V.int j']/\P i' j':=⟨i,j,rfl,q⟩
theorem r_new{xs:List V}{P:Prop}(h:xs.length<=1000)(q:P):xs.length<=uU/\P:=⟨fh (small1000 h),q⟩
theorem r_truB{b:Bool}{P:Bool->Prop}(q:P b):∃k,E_ K (.bl b) H k/\P k:=⟨b,rfl,q⟩
theorem r_truL{p:uH}{xs:List V}{P:Bool->Prop}(h:SqL K H p xs)(q:P (!xs.isEmpty)):∃k,E_ K (.ref p) H k/\P k:=⟨_,.inl ⟨xs,h,rfl⟩,q⟩
theorem r_for{wi:TI}{g:TG}{tb:TS}(h:wi σ H λJ H1=>∃W:Nat->Nat->L2.St->Hp->Prop,(∃m,W 0 m σ H1)/\∀i m σ H,W i m σ H ->
   (J.stop i H/\D.nx σ H)\/(J.go i H/\∃N:L2.St->Hp->Prop,(∀σ' H',N σ' H'->∃m',m'<m/\W (i+1) m' σ' H')/\∀x H',J.yld i H x H'->g x σ H' λσ2 H2=>tb { D with nx:=N,ct:=N,bk:=D.nx } σ2 H2)):tFor wi g tb D σ H:=h
theorem r_iL{tl:TE}{R:It->Hp->Prop}(h:tl σ H λx H1=>∃a,x = .ref a/\(∃xs,SqL K H1 a xs)/\R (Itl K a) H1):zP K tl σ H R:=h
theorem r_iR1{ta:TA}{R:It->Hp->Prop}(h:ta σ H λvs H1=>∃j:Int,vs=[.int j]/\-(2^62)<=j/\j<2^62/\R (Itr 0 j.toNat) H1):zO ta σ H R:=h
theorem r_iR2{ta:TA}{R:It->Hp->Prop}(h:ta σ H λvs H1=>∃i j:Int,vs=[.int i,.int j]/\(-(2^62)<=i/\i<2^62/\-(2^62)<=j/\j<2^62)/\R (Itr i (j-i).toNat) H1):zN ta σ H R:=h
theorem Cv{t u:TS}{M:L2.St->Hp->Prop}(hM:∀σ' H',M σ' H'->u D σ' H')(h:∀nx:L2.St->Hp->Prop,(∀σ' H',M σ' H'->nx σ' H')->t { D with nx:=nx } σ H):xJ t u D σ H:=h (u D) hM
theorem r_isIf{c:TT}{t u v:TS}(h:xJ (I_ c t u) v D σ H):xJ (I_ c t u) v D σ H:=h
end
theorem r_ifN{b:Bool}{A B:Prop}(h:if b=true then B else A):if (!b)=true then A else B:=by cases b <;> exact h
theorem AJ{c A B:Prop}[Decidable c](h1:c->A)(h2:¬c->B):if decide c=true then A else B:=by
 by_cases h:c
 . rw[decide_eq_true h];exact iteT (h1 h)
 . rw[decide_eq_false h];exact iteF (h2 h)
theorem r_ifdT{c A B:Prop}[Decidable c](h:c)(h1:A):if decide c=true then A else B:=AJ (λ_=>h1) λz=>absurd h z
theorem r_ifdF{c A B:Prop}[Decidable c](h:¬c)(h1:B):if decide c=true then A else B:=AJ (λz=>absurd z h) λ_=>h1
theorem CC{b:Bool}{A B:Prop}(h1:b=true->A)(h2:b=false->B):if b=true then A else B:=by
 cases b with
 | true=>exact iteT (h1 rfl)
 | false=>exact iteF (h2 rfl)
theorem look_put{p d:uH}{o v:HO}(hp:H p=none)(h:H d=some v):upd H p o d=some v:=(AI (BF h hp)).trans h
theorem look_ne{p d:uH}{o v:HO}(hp:d≠p)(h:H d=some v):upd H p o d=some v:=(AI hp).trans h
theorem seq_put{K:δ}{p d:uH}{o:HO}{xs:List V}(hp:H p=none)(h:SqL K H d xs):SqL K (upd H p o) d xs:=(Same.new hp).seq h
abbrev TX:=L2.St->Hp->VK->XK->Prop
def PX(X:Cx)(e:uN)(t:TX):Prop:=∀(pins:List (uH×Obj)) (s:uI) (σ:L2.St) (H:Hp) (QV:VK) (EX:XK) (Qp W:uG->uI->Prop),Inv X pins σ H s->t σ H QV EX->(∀u s',EP X pins σ QV u s'->Qp u s') ->
 (∀H1 s1 y s',Inv X pins σ H1 s1->CXe X.prog X.w X.stack H1 s1 EX y s'->W y s')->uY (vi X.prog X.w) X.A (vh e X.env) Qp W s
def Qe(sp:Sp)(dvs:List V)(ta:TA):TX:=λσ H QV EX=>ta σ H λvs H1=>sp (vs++dvs) H1 QV EX
def xMeth(C:uH)(m:Str)(sp:Sp)(dvs:List V)(to:TE)(ta:TA):TX:=λσ H QV EX=>to σ H λx H1=>∃a dx fs,x = .ref a/\H1 a=some (.ins C dx fs)/\fs.lookup m=none/\ta σ H1 λvs H2=>sp (x::(vs++dvs)) H2 QV EX
section
variable {X:Cx}{k:Nat}{f C:uH}{fd:uJ}{ps:List Str}{sp:Sp}{dvs:List V}{ds:List uG}{fx m:Str}{p pos apos:Pos}{e o:uN}{es:List uN}{to:TE}{ta:TA}
theorem zc{σ:L2.St}{s:uI}{us:List uG}{vs:List V}{QV:VK}{EX:XK}{Qp W:uG->uI->Prop}(F:FnOk X.prog X.w X.K X.mg X.base (CXe X.prog X.w) k f fd ps sp)(hr:Room k X.A)(hb:Bx X.K fd ps ds)(hd:Vals dvs ds)
   (I:Inv X pins σ H s) (r:Vals vs us) (h:sp (vs++dvs) H QV EX) (hv:∀u s',EP X pins σ QV u s'->Qp u s') (hx:∀y s',CXe X.prog X.w X.stack H s EX y s'->W y s'):uY (vi X.prog X.w) X.A (call (.ref f) us) Qp W s:=by
 have r2:Vals (vs++dvs) (us++ds):=r.append hd;have hl:(us++ds).length=ps.length:=by rw[<-r2.length];exact F.len _ _ _ _ h
 refine wpAny_call (codeAny_mono (F.run X.A X.stack s H ⟨us,[]⟩ (us++ds) (vs++dvs) QV EX hr I.env0 (hb s us I.kIn hl) r2 h) λr s' hq=>?_);cases r with
 | error y=>exact hx y s' hq
 | ok fl=>
   cases fl with
   | ret u=>exact hv u s' (I.after hq)
   | next=>exact cm hq
   | brk=>exact cm hq
   | cont=>exact cm hq
theorem xW(F:FnOk X.prog X.w X.K X.mg X.base (CXe X.prog X.w) k f fd ps sp)(hr:Room k X.A)(hg:Gl X fx)(hm:X.mg fx=some (.ref f))(hk:keepIn X.K (.ref f)=true)(hb:Bx X.K fd ps ds)(hd:Vals dvs ds)(ha:PA X.nox (e::es) ta)
   (hdb:(fx==("__debug__":Str))=false:=by decide) (he:uR (e::es) X.env=(false,vh e X.env)::uR es X.env:=by rfl) (hpl:(uZ pos (uR es X.env)).any (·.1)=false:=by rfl):
   PX X (.Call (.Name fx p) (e::es) [] pos) (Qe sp dvs ta):=by
 intro pins s σ H QV EX Qp W I h hv hx;refine wpAny_Call_Name_kw (EC I hg hm ?_ hdb);refine callWith_K (h₀:=X.base) I.ok.mod.kin hk (uX (ha pos pins s σ H _ (I.wish _) h) (λus s1 hZ=>?_) (λ_ _ z=>z.elim)) he hpl;obtain⟨vs,H1,I1',r,q⟩:=hZ;have I1:=I1'.unwish;exact⟨I1.kIn,zc F hr hb hd I1 r q hv λy s' hq=>hx H1 s1 y s' I1 hq⟩
theorem px_meth{pl:vo Bool}(ho:PE X.nox o to)(c:Cls X.K C)(hm:wT X.K C m f)(F:FnOk X.prog X.w X.K X.mg X.base (CXe X.prog X.w) k f fd ps sp)(hr:Room k X.A)(hb:Bx X.K fd ps ds)(hd:Vals dvs ds)(ha:PA X.nox (e::es) ta)
   (hst:uR (e::es) X.env=(false,vh e X.env)::uR es X.env:=by rfl) (hpl:(uZ pos (uR es X.env)).any (·.1)=false:=by rfl)
   (ht:vh (.Call (.Attribute o m apos) (e::es) [] pos) X.env=(do
     let ov <-vh o X.env
     standAt apos.atName
     let (f,first) <-holding [ov] (getMethod ov m pl)
     vf pos f first (uZ pos (uR (e::es) X.env)) (backToKw pos (keywordEach [] X.env))):=by rfl):
   PX X (.Call (.Attribute o m apos) (e::es) [] pos) (xMeth C m sp dvs to ta):=by
 intro pins s σ H QV EX Qp W I h hv hx;refine methodCall_KW (pl:=pl) (uX (ho pins s σ H _ (I.wish _) h) (λu s1 hZ=>?_) (λ_ _ z=>z.elim)) ht;obtain⟨x,H1,I1',rx,a,dx,fs,ex,ea,l,q⟩:=hZ;have I1:=I1'.unwish;subst ex;obtain rfl:u=Value.ref a:=rx;refine P7 I1 ea c hm l ?_;refine callWith_K (first:=[.ref a]) (h₀:=X.base) I.ok.mod.kin hm.kp (uX (ha pos pins s1 σ H1 _ (I1.wish _) q) (λus s2 hZ=>?_) (λ_ _ z=>z.elim)) hst hpl;obtain⟨vs,H2,I2',r,q2⟩:=hZ;have I2:=I2'.unwish;exact⟨I2.kIn,zc (us:=.ref a::us) (vs:=.ref a::vs) F hr hb hd I2 (.cons rfl r) q2 hv λy s' hq=>hx H2 s2 y s' I2 hq⟩
end
def xG(K:δ)(C C0:uH)(b:Bool):Prop:=∃(bm bm0:List uG),ECls K C bm/\ECls K C0 bm0/\(Value.ref C0::bm0).contains (.type "BaseException")=true/\(Value.ref C::bm).contains (.ref C0)=b
theorem aH{M:vv}{A:uM}{E:uG->uI->Prop}{K:δ}{C C0 x:uH}{ox:Obj}{s:uI}{b:Bool}{Q:Bool->uI->Prop}(F:xG K C C0 b)(KX:K.In s.heap)(hx:s.heap.get? x=some ox)(hc:ox.cls = .ref C)(k:Q b s):
   uY M A (excMatches (.ref x) (.ref C0)) Q E s:=by
 obtain⟨bm,bm0,⟨nm,qn,N,bs,hd,sn,sub,ab,col,dd,k0,k1,k2,k3,k5,newId,lk⟩,⟨nm',qn',N',bs',hd',sn',sub',ab',col',dd',j0,j1,j2,j3,j5,new',lk0⟩,hb,hm⟩:=F;have hC:=KX _ _ lk;have hC0:=KX _ _ lk0;obtain⟨hh,g,d,t,os⟩:=s;exact kL hC hC0 hx hc hb hm k
abbrev TH:=uH->uH->TS
def PH(X:Cx)(hs:List ExceptHandler)(th:TH):Prop:=∀(pins:List (uH×Obj)) (s:uI) (σ:L2.St) (H:Hp) (D:Ends) (x C T:uH) (od:Option uH),X.Ok->Inv X pins σ H s->Exc s.heap x (.ref C) od T .none ->
 (∀h3,Upto (frs X.stack) [T] s.heap h3->Exc h3 x (.ref C) od T .none->Inv X pins σ H { s with heap:=h3 })->th x C D σ H->uY (vi X.prog X.w) X.A (handleBy (.ref x) X.env hs) (SP X pins D) X.xe s
section
variable {X:Cx}{C0:uH}{cx:Str}{np hpos pos epos:Pos}{b0:uO}{suite:List uO}{ts:uH->TS}{hs:List ExceptHandler}{th:TH}{e:uN}{t:TX}
theorem zn:PH X [] (λ_ _ _ _ _=>False):=λ_ _ _ _ _ _ _ _ _ _ _ _ _ h=>h.elim
theorem SO(hgc:Gl X cx)(hc0:X.mg cx=some (.ref C0))(hss:∀x,PSs (Cx.suite X x) (b0::suite) (ts x))(hr:PH X hs th)(hdc:(cx==("__debug__":Str))=false:=by decide):
   PH X (.ExceptHandler (some (.Name cx np)) none (b0::suite) hpos::hs) (λx C D σ H=>(xG X.K C C0 true/\ts x D σ H)\/(xG X.K C C0 false/\th x C D σ H)):=by
 intro pins s σ H D x C T od ok J t2 again h;obtain⟨oe,vs,oT,tts,ne,ee,hcl,_⟩:=id t2;rcases h with ⟨fit,q⟩ | ⟨fit,q⟩
 . refine wpAny_handleBy_cons (codeAny_handlers_test (EC (X:=Cx.suite X x) (SK J x) hgc hc0 (aH fit J.kIn ee hcl ?_) hdc)) (by intro z;cases z);refine codeAny_handlers_suite ?_;refine Qa (fr:=frs X.stack) t2 λh3 u3 t3=>?_;exact uX (hss x pins _ σ _ D (SK (again h3 u3 t3) x) q) (λfl s4 q4=>kO ok q4) (λ_ _ z=>z.elim)
 . refine wpAny_handleBy_cons (codeAny_handlers_test (EC (X:=Cx.suite X x) (SK J x) hgc hc0 (aH fit J.kIn ee hcl ?_) hdc)) (by intro z;cases z);exact hr pins s σ H D x C T od ok J t2 again q
theorem Upto.refl(fr ex:List uH)(h:vq):Upto fr ex h h:=⟨λ_ _ _ _ q=>q,λb o _ q=>⟨o.slots,q⟩⟩
def tTryE(t:TX)(th:TH):TS:=λD σ H=>t σ H (λ_ H2=>D.nx σ H2) λc od H2=>∃C,c = .ref C/\∀x,H2 x=none->th x C D σ (upd H2 x (xI x C od))
def yH(i:Nat)(t:TX)(th:TH):TS:=λD σ H=>t σ H (λv H2=>D.nx (σ.set i (some v)) H2) λc od H2=>∃C,c = .ref C/\∀x,H2 x=none->th x C D σ (upd H2 x (xI x C od))
theorem ps_tryE{h₀:ExceptHandler}(he:PX X e t)(hst:X.stack=X.env::X.outer/\X.env.frame=some X.env.locals)(hh:PH X (h₀::hs) th)(hsw:swapsWith e none epos.line X.env=pure false:=by rfl):
   PS X (.Try [.Expr e epos] (h₀::hs) [] [] pos) (tTryE t th):=by
 intro pins s σ H D I h;refine wpAny_Try_except (wpAny_execs_cons (wpAny_Expr_any (he pins s σ H _ _ _ _ I h (λu s' ⟨v,H2,I2,_,q2⟩=>vn (vn ⟨σ,H2,I2,q2⟩)) (λH1 s1 y s' I1 hq=>?_)) I.quiet hsw));refine aF I1 hst hq λx C od T h2 H2 ex ⟨C',ec,q⟩ t2 J2 again=>?_;subst ex;cases ec;exact hh pins _ σ _ D x C T od I.ok J2 t2 (λh3 u3 t3=>(again h3 u3 t3).2) (q x (again h2 (Upto.refl _ _ _) t2).1)
theorem kY{h₀:ExceptHandler}{i:Nat}{y:Str}{py:Pos}(hN:X.N.Nodup)(hi:X.N[i]?=some y)(hy:Loc X.env.scope y)(he:PX X e t)(hst:X.stack=X.env::X.outer/\X.env.frame=some X.env.locals)(hh:PH X (h₀::hs) th)
   (hsw:swapsWith e (some (.Name y py)) epos.line X.env=pure false:=by rfl) (hf:X.fn y=true\/X.env.scope.names.lookup y=some .local:=by first | exact .inl rfl | exact .inr rfl | assumption):
   PS X (.Try [.Assign [.Name y py] e epos] (h₀::hs) [] [] pos) (yH i t th):=by
 intro pins s σ H D I h;refine wpAny_Try_except (wpAny_execs_cons (wpAny_Assign_Name (he pins s σ H _ _ _ _ I h (λu s' ⟨v,H2,I2,r2,q2⟩=>Sm I2 hN hi hy r2 (λs3 I3=>vn (vn ⟨_,H2,I3,q2⟩)) hf) (λH1 s1 z s' I1 hq=>?_)) hsw));refine aF I1 hst hq λx C od T h2 H2 ex ⟨C',ec,q⟩ t2 J2 again=>?_;subst ex;cases ec;exact hh pins _ σ _ D x C T od I.ok J2 t2 (λh3 u3 t3=>(again h3 u3 t3).2) (q x (again h2 (Upto.refl _ _ _) t2).1)
end
section
variable {K:δ}{σ:L2.St}{H:Hp}{D:Ends}
theorem r_tryA{i:Nat}{t:TX}{th:TH}(h:t σ H (λv H2=>D.nx (σ.set i (some v)) H2) λc od H2=>∃C,c = .ref C/\∀x,H2 x=none->th x C D σ (upd H2 x (xI x C od))):yH i t th D σ H:=h
theorem r_xCall{sp:Sp}{ta:TA}{QV:VK}{EX:XK}(h:ta σ H λvs H1=>sp vs H1 QV EX):Qe sp [] ta σ H QV EX:=by
 unfold Qe;simp only [ae];exact h
end
structure FunD(K:δ)(x qual:Str)(st:uO)(dV:uG)(f:uH)(fd:uJ):Prop where
 ex:∃(oc:uG)(od:Option uH)(kV doc pm:uG)(an:Option uH)(cdv ct:uG) (osl:Array (Option uG)),
   fd=fnOf x qual (A1 st) (AZ st) (An st) dV kV doc pm an cdv ct/\K.lookup f=some ⟨oc,od,.func fd,osl⟩/\codeIn K cdv qual=true
 kp:keepIn K (.ref f)=true
theorem Gx{K:δ}{x qual:Str}{st:uO}{f:uH}{oc:uG}{od an:Option uH}{osl:Array (Option uG)}{dV kV doc pm cdv ct:uG}(l:K.lookup f=some ⟨oc,od,.func (fnOf x qual (A1 st) (AZ st) (An st) dV kV doc pm an cdv ct),osl⟩)
   (c:codeIn K cdv qual=true) (k:keepIn K (.ref f)=true):FunD K x qual st dV f (fnOf x qual (A1 st) (AZ st) (An st) dV kV doc pm an cdv ct):=⟨⟨oc,od,kV,doc,pm,an,cdv,ct,osl,rfl,l,c⟩,k⟩
section
variable {P:uK}{w:uL}{K:δ}{mg:Str->Option uG}{base:vq}
theorem Gy{x qual:Str}{st:uO}{dV:uG}{f:uH}{fd:uJ}{N ps:List Str}{k:Nat}{sp:Sp}(F:FunD K x qual st dV f fd)(S:wN N ps (An st))(len:∀vs H Q E,sp vs H Q E->vs.length=ps.length)
   (hbody:∀(cdv:uG)(A:uM)(outer:List vt)(s:uI)(H:Hp)(vs:List V)(Q:VK)(E:XK),Room k (A.deeper (envOfC qual (An st) s.heap.objs.size f cdv))->sp vs H Q E ->
     ∃t,PSs (cxOf (CXe P w) P w K mg base N qual (An st) f cdv A outer s H E) (AZ st) t/\t { nx:=λ_ H'=>Q .non H',rt:=Q } (start N vs) H):FnOk P w K mg base (CXe P w) (k+1) f fd ps sp:=by
 obtain⟨oc,od,kV,doc,pm,an,cdv,ct,osl,rfl,lk,hcd⟩:=F.ex;exact zV lk hcd S len λA outer s H vs Q E hr hsp=>hbody cdv A outer s H vs Q E hr hsp
theorem FunD.bindsD{x qual:Str}{st:uO}{T:uH}{f:uH}{fd:uJ}{ps:List Str}{ds:List uG}{tc:uG}{td:Option uH}{tn:Nat}{tsl:Array (Option uG)}(F:FunD K x qual st (.ref T) f fd)
   (lt:K.lookup T=some ⟨tc,td,.seq ds.toArray tn,tsl⟩)
   (h:∀(kV doc pm:uG)(an:Option uH)(cdv ct:uG)(us:List uG),(us++ds).length=ps.length->∃k:Option (Array uG)->vo (List (Str×uG)),
     uS (fnOf x qual (A1 st) (AZ st) (An st) (.ref T) kV doc pm an cdv ct) ⟨us,[]⟩=vc (.ref T) >>= k/\k (some ds.toArray)=pure (ps.zip (us++ds))):Bx K fd ps ds:=by
 obtain⟨oc,od,kV,doc,pm,an,cdv,ct,osl,rfl,lk,hcd⟩:=F.ex;intro s us X hl;obtain⟨k,h1,h2⟩:=h kV doc pm an cdv ct us hl;exact .of_defaults rfl (X _ _ lt) rfl h1 h2
end
structure Methx(P:uK)(w:uL)(K:δ)(mg:Str->Option uG)(base:vq)(C:uH)(m:Str)(j:Nat)(ps:List Str)(dvs:List V)(sp:Sp):Prop where
 ex:∃(f:uH)(fd:uJ)(ds:List uG),FnOk P w K mg base (CXe P w) j f fd ps sp/\wT K C m f/\Bx K fd ps ds/\Vals dvs ds
 cl:Cls K C
structure wY(P:uK)(w:uL)(K:δ)(mg:Str->Option uG)(base:vq)(x:Str)(C:uH)(j:Nat)(ps:List Str)(dvs:List V)(sp:Sp):Prop where
 ex:∃(f:uH)(fd:uJ)(ds:List uG),FnOk P w K mg base (CXe P w) j f fd ps sp/\Mk K C f/\Bx K fd ps ds/\Vals dvs ds
 bound:mg x=some (.ref C)
structure ClsM(K:δ)(C:uH)(m:Str)(f:uH):Prop where
 sp:specialIn K (.ref C) "__getattribute__"=some (some (.builtin "type.__getattribute__"))
 rd:readsIn K C (.type "type")=true
 fc:findCls K (.ref C) (.type "type") m=some (.val (.ref f))
 kp:keepIn K (.ref f)=true
structure xw(P:uK)(w:uL)(K:δ)(mg:Str->Option uG)(base:vq)(x:Str)(m:Str)(j:Nat)(ps:List Str)(sp:Sp):Prop where
 ex:∃(C f:uH)(fd:uJ),FnOk P w K mg base (CXe P w) j f fd ps sp/\ClsM K C m f/\Bx K fd ps []/\mg x=some (.ref C)
section
variable {X:Cx}{j k:Nat}{C:uH}{ps:List Str}{sp:Sp}{dvs:List V}{x m:Str}{p pos apos:Pos}{e o:uN}{es:List uN}{to:TE}{t:TA}{EX:XK}
theorem xV(D:wO X.prog X.w X.K X.mg X.base x j ps sp)(hr:Room k X.A)(hg:Gl X x)(ha:PA X.nox (e::es) t)(hk:j<=k:=by decide)
   (hdb:(x==("__debug__":Str))=false:=by decide) (he:uR (e::es) X.env=(false,vh e X.env)::uR es X.env:=by rfl) (hpl:(uZ pos (uR es X.env)).any (·.1)=false:=by rfl):PX X (.Call (.Name x p) (e::es) [] pos) (Qe sp [] t):=by
 obtain⟨f,fd,F,hm,kp,b⟩:=D.ex;exact xW F (hr.mono hk) hg hm kp b .nil ha hdb he hpl
theorem G7(D:wY X.prog X.w X.K X.mg X.base x C j ps dvs sp)(hp:D6 (CXe X.prog X.w) X EX)(hr:Room k X.A)(hg:Gl X x)(ha:PA X (e::es) t)(hk:j+1<=k:=by decide)
   (hdb:(x==("__debug__":Str))=false:=by decide) (he:uR (e::es) X.env=(false,vh e X.env)::uR es X.env:=by rfl) (hpl:(uZ pos (uR es X.env)).any (·.1)=false:=by rfl):PE X (.Call (.Name x p) (e::es) [] pos) (P8 C sp dvs EX t):=by
 obtain⟨f,fd,ds,F,M,hb,hd⟩:=D.ex;exact xY M F (hr.mono hk) hg D.bound hb hd hp ha hdb he hpl
theorem SQ{pl:vo Bool}{p':Pos}(D:xw X.prog X.w X.K X.mg X.base x m j ps sp)(hp:D6 (CXe X.prog X.w) X EX)(hr:Room k X.A)(hg:Gl X x)(ha:PA X (e::es) t)(hk:j<=k:=by decide)(hdb:(x==("__debug__":Str))=false:=by decide)
   (hst:uR (e::es) X.env=(false,vh e X.env)::uR es X.env:=by rfl) (hpl:(uZ pos (uR es X.env)).any (·.1)=false:=by rfl)
   (ht:vh (.Call (.Attribute (.Name x p') m apos) (e::es) [] pos) X.env=(do
     let ov <-vh (.Name x p') X.env
     standAt apos.atName
     let (f,first) <-holding [ov] (getMethod ov m pl)
     vf pos f first (uZ pos (uR (e::es) X.env)) (backToKw pos (keywordEach [] X.env))):=by rfl):PE X (.Call (.Attribute (.Name x p') m apos) (e::es) [] pos) (G2 sp [] EX t):=by
 obtain⟨C,f,fd,F,M,hb,hm⟩:=D.ex;intro pins s σ H Q I h;refine methodCall_KW (pl:=pl) (EC I hg hm ?_ hdb) ht;refine PySem.W.method_cls I.kIn M.sp (PySem.W.cls_value I.kIn M.rd M.fc rfl ?_);have I':=I.tok (s.toks+1);refine callWith_K (h₀:=X.base) I.ok.mod.kin M.kp (thn (ha pos pins _ σ H _ I' h) λus s1 ⟨vs,H1,I1,r,q⟩=>⟨I1.kIn,?_⟩) hst hpl;exact LA F (hr.mono hk) hb .nil hp I1 r q
end
section
variable {K:δ}{σ:L2.St}{H:Hp}{Q:VK}{D:Ends}
theorem r_fld{f:Str}{ta:TE}(h:ta σ H λx H1=>∃a C dx fs v,x = .ref a/\H1 a=some (.ins C dx fs)/\Cls K C/\BX K C f/\fs.lookup f=some v/\Q v H1):tFld K ta f σ H Q:=h
theorem r_at{a C dx:uH}{fs:List (Str×V)}{f:Str}{v:V}{P:V->Prop}(h:H a=some (.ins C dx fs))(c:Cls K C)(n:BX K C f)(l:fs.lookup f=some v)(q:P v):
   ∃a' C' dx' fs' v',V.ref a=V.ref a'/\H a'=some (.ins C' dx' fs')/\Cls K C'/\BX K C' f/\fs'.lookup f=some v'/\P v':=⟨a,C,dx,fs,v,rfl,h,c,n,l,q⟩
theorem r_sfld{f:Str}{ta tv:TE}(h:tv σ H λy H1=>ta σ H1 λx H2=>∃a C dx fs,x = .ref a/\H2 a=some (.ins C dx fs)/\Cls K C/\BX K C f/\fs.length<1000/\D.nx σ (upd H2 a (.ins C dx (xc f y fs)))):sFld K ta tv f D σ H:=h
end
section
variable {X:Cx}
end
section
variable {a x:Option V}{v:V}{l r:L2.St}{k:Nat}{n:Str}{ns:List Str}{vs:List V}
theorem set0_c:(a::l).set 0 x=x::l:=rfl
theorem kZ:L2.start (n::ns) (v::vs)=some v::L2.start ns vs:=by
 unfold L2.start;rw[am,am,Nat.add_sub_add_right];rfl
theorem set0_0:(L2.start (n::ns) []).set 0 x=x::L2.start ns []:=rfl
theorem setS_c(h:l.set k x=r):(a::l).set (k+1) x=a::r:=h▸rfl
theorem setS_1(h:(L2.start ns vs).set k x=r):(L2.start (n::ns) (v::vs)).set (k+1) x=some v::r:=by
 rw[kZ,<-h];rfl
theorem r_gnameN{σ σ':L2.St}{i:Nat}{R:L2.St->Hp->Prop}(e:σ.set i (some v)=σ')(h:R σ' H):GY i v σ H R:=by
 subst e;exact h
end
def xo(ns:List Int)(l u:Option Int):List Int:=(ns.drop (HT.sIx ns.length 0 l)).take (HT.sIx ns.length ns.length u-HT.sIx ns.length 0 l)
theorem yo(ns:List Int)(l u:Option Int):xz (ns.map V.int) l u=(xo ns l u).map V.int:=by
 unfold xz xo;rw[re,List.map_drop,Ξ]
theorem SR(ns:List Int)(l u:Option Int):(xo ns l u).length<=ns.length:=by
 unfold xo;rw[cj,gv];omega
section
variable {K:δ}{σ:L2.St}{H:Hp}{D:Ends}{Q:VK}
theorem r_sllG{a:uH}{lo hi:Option Int}(h:SqL K H a (ns.map V.int))(q:∀p H',H p=none->Same H H'->H' p=some (.lst ((xo ns lo hi).map V.int))->Q (.ref p) H'):rSlL K (.ref a) lo hi H Q:=
 ⟨a,_,rfl,h,λp hp=>by rw[yo];exact q p _ hp (Same.new hp) upd_same⟩
theorem r_catG{l b:uH}{xs zs:List Int}(h:H l=some (.lst (xs.map V.int)))(h2:H b=some (.lst (zs.map V.int)))(hz:xs.length+zs.length<=4000)(q:∀p H',H p=none->Same H H'->H' p=some (.lst ((xs++zs).map V.int))->Q (.ref p) H'):rCat (.ref l) (.ref b) H Q:=
 ⟨l,b,_,_,rfl,rfl,h,h2,by rw[Ξ,Ξ];exact fh (small4000 hz),λp hp=>by rw[<-af];exact q p _ hp (Same.new hp) upd_same⟩
theorem zi{ta tb:TE}(M:Bool->Prop)(hM:∀v,M v->Q (.bl v) H)(h:∀Q':VK,(∀v,M v->Q' (.bl v) H)->Kt ta tb σ H Q'):Kt ta tb σ H Q:=h Q hM
theorem r_isSeq{t u:TS}(h:xJ t u D σ H):xJ t u D σ H:=h
theorem r_isAnd{ta tb:TE}(h:Kt ta tb σ H Q):Kt ta tb σ H Q:=h
theorem r_isOr{ta tb:TE}(h:H_ ta tb σ H Q):H_ ta tb σ H Q:=h
end
section
variable {K:δ}{σ:L2.St}{H:Hp}{Q:VK}
theorem r_gtup{a:uH}{xs:List V}{n:Nat}{t:TGs}{R:L2.St->Hp->Prop}(h:H a=some (.tup xs))(hl:xs.length=n)(q:t xs σ H R):gTup K n t (.ref a) σ H R:=⟨a,xs,rfl,SqT.of h,hl,q⟩
theorem r_gcons{v:V}{r:List V}{t:TG}{u:TGs}{R:L2.St->Hp->Prop}(h:t v σ H λσ' H'=>u r σ' H' R):zS t u (v::r) σ H R:=⟨v,r,rfl,h⟩
theorem r_gnil{R:L2.St->Hp->Prop}(h:R σ H):gNil [] σ H R:=⟨rfl,h⟩
theorem G8{p:uH}{xs:List V}{v:V}(h:SqL K H p (xs++[v]))(q:Q v H):zj K (.ref p) (.int (-1)) H Q:=DN h (jR xs v) q
theorem lA{p:uH}{xs:List V}{v w:V}{R:Hp->Prop}(h:H p=some (.lst (xs++[v])))(q:R (upd H p (.lst (xs++[w])))):xT (.ref p) (.int (-1)) w H R:=by
 refine⟨p,_,-1,xs.length,rfl,rfl,h,?_,?_⟩
 . unfold ixN;rw[if_neg (by decide),ι,Θ,if_pos (by omega)]
   congr 1
   omega
 . rw[mn _ _ (ψ _),di];exact q
end
def fpl(a b:Int):Int:=a+(b-1-a%b)
def fp(a n L b:Int):Option Int:=if fpl a b+L<=a+n then some (fpl a b) else none
theorem zU{a b:Int}(hb:1<=b):a<=fpl a b:=by
 unfold fpl;have:=bb a (show 0<b by omega);omega
theorem lB{a b:Int}(hb:1<=b):(fpl a b+1)%b=0:=by
 unfold fpl;have e:=jm a b;have:a+(b-1-a%b)+1=b*(a/b+1):=by rw[du,mz];omega
 rw[this];exact fv _ _
def AH(H:Hp)(us:List V)(ps:List Pc):Prop:=us.length=ps.length/\∀(i:Nat)(p:Pc),ps[i]?=some p->∃a,us[i]?=some (.ref a)/\H a=some (.tup [.int p.a,.int p.l,.bl p.v])
theorem AH.nil:AH H [] []:=⟨rfl,λi p h=>by simp at h⟩
theorem AH.mono{H':Hp}{us:List V}(h:AH H us ps)(k:∀b xs,H b=some (.tup xs)->H' b=some (.tup xs)):AH H' us ps:=
 ⟨h.1,λi p e=>let ⟨a,h1,h2⟩:=h.2 i p e;⟨a,h1,k _ _ h2⟩⟩
theorem AH.same{H':Hp}{us:List V}(h:AH H us ps)(k:Same H H'):AH H' us ps:=h.mono λb xs e=>k b _ e
theorem AH.snoc{us:List V}{p:Pc}{a:uH}(h:AH H us ps)(ha:H a=some (.tup [.int p.a,.int p.l,.bl p.v])):AH H (us++[.ref a]) (ps++[p]):=by
 refine⟨by simp [h.1],λi q e=>?_⟩;have hl:=h.1;by_cases hi:i<ps.length
 . rw[ξ hi] at e;obtain⟨b,h1,h2⟩:=h.2 i q e;exact⟨b,by rw[ξ (by omega)];exact h1,h2⟩
 . have hlt:i<(ps++[p]).length:=(γ.mp e).1;have hi2:i=ps.length:=by simp at hlt;omega
   subst hi2;rw[η (ψ _)] at e;have e':p=q:=by simpa using e
   subst e';exact⟨a,by rw[<-hl,η (ψ _)];simp,ha⟩
theorem DO{p:uH}{o:HO}(hp:H p=none\/∃xs,H p=some (.lst xs)):∀b xs,H b=some (.tup xs)->upd H p o b=some (.tup xs):=λb xs e=>by
 have hne:b≠p:=λz=>by
   subst z;rcases hp with h | ⟨ys,h⟩
   . rw[h] at e;cases e
   . rw[h] at e;cases e
 rw[AI hne];exact e
theorem AH.push{us:List V}{p t:uH}(h:AH H us ps)(hp:H p=some (.lst us))(ht:H t=none):
   upd (upd H t (.tup [.int z.a,.int z.l,.bl z.v])) p (.lst (us++[.ref t])) p=some (.lst (us++[.ref t])) /\
   AH (upd (upd H t (.tup [.int z.a,.int z.l,.bl z.v])) p (.lst (us++[.ref t]))) (us++[.ref t]) (ps++[z]):=by
 have hpt:p≠t:=BF hp ht;have hp2:upd H t (.tup [.int z.a,.int z.l,.bl z.v]) p=some (.lst us):=by rw[AI hpt];exact hp
 refine⟨upd_same,?_⟩;refine AH.snoc ?_ ?_
 . exact(h.mono (DO (.inl ht))).mono (DO (.inr ⟨_,hp2⟩))
 . exact DO (.inr ⟨_,hp2⟩) _ _ upd_same
def Cm(H:Hp)(us:List V)(xs:List (List V)):Prop:=us.length=xs.length/\∀(i:Nat)(x:List V),xs[i]?=some x->∃a,us[i]?=some (.ref a)/\H a=some (.tup x)
theorem Cm.nil:Cm H [] []:=⟨rfl,λi p h=>by simp at h⟩
theorem Cm.mono{H':Hp}{us:List V}{xs:List (List V)}(h:Cm H us xs)(k:∀b ys,H b=some (.tup ys)->H' b=some (.tup ys)):Cm H' us xs:=
 ⟨h.1,λi p e=>let ⟨a,h1,h2⟩:=h.2 i p e;⟨a,h1,k _ _ h2⟩⟩
theorem Cm.push{us:List V}{xs:List (List V)}{p t:uH}{z:List V}(h:Cm H us xs)(hp:H p=some (.lst us))(ht:H t=none):
   Cm (upd (upd H t (.tup z)) p (.lst (us++[.ref t]))) (us++[.ref t]) (xs++[z]):=by
 have hpt:p≠t:=BF hp ht;have hp2:upd H t (.tup z) p=some (.lst us):=by rw[AI hpt];exact hp
 have h2:=(h.mono (DO (o:=.tup z) (.inl ht))).mono (DO (o:=.lst (us++[.ref t])) (.inr ⟨_,hp2⟩));have hz:upd (upd H t (.tup z)) p (.lst (us++[.ref t])) t=some (.tup z):=DO (.inr ⟨_,hp2⟩) _ _ upd_same;refine⟨by simp [h.1],λi q e=>?_⟩;have hl:=h.1;by_cases hi:i<xs.length
 . rw[ξ hi] at e;obtain⟨b,h1,h3⟩:=h2.2 i q e;exact⟨b,by rw[ξ (by omega)];exact h1,h3⟩
 . have hlt:i<(xs++[z]).length:=(γ.mp e).1;have hi2:i=xs.length:=by simp at hlt;omega
   subst hi2;rw[η (ψ _)] at e;have e':z=q:=by simpa using e
   subst e';exact⟨t,by rw[<-hl,η (ψ _)];simp,hz⟩
@[reducible] def wS:Option Int->V
 | none=>.non
 | some b=>.int b
def SS:Sp:=λvs H Q _=>∃n:Int,vs=[.int n]/\Q (.int (n/2)) H
def ST:Sp:=λvs H Q _=>∃n:Int,vs=[.int n]/\Q (.bl (decide (n%2=1))) H
def xO(K:δ):Sp:=λvs H Q _=>∃(a:uH)(ns:List Int)(k:Int),vs=[.ref a,.int k]/\SqL K H a (ns.map V.int)/\0<=k/\k<ns.length/\Q (.bl (CY ns k)) H
def SU(K:δ):Sp:=λvs H Q _=>∃(a:uH)(ns:List Int)(k:Int),vs=[.ref a,.int k]/\SqL K H a (ns.map V.int)/\0<=k/\k<ns.length/\Q (wS (BY ns k)) H
abbrev vO(K:δ)(C:uH)(a:uH)(ns:List Int)(H:Hp)(Q:VK)(E:XK):Prop:=(∀b,(By ns 0).2=some b->∀(dx:uH)(H':Hp),Same H H'->H' dx=some (.xd [("cell",.int b)])->E (.ref C) (some dx) H') /\ ((By ns 0).2=none->∀(p:uH)(us:List V)(H':Hp),H p=none->Same H H'->H' p=some (.lst us)->AH H' us (By ns 0).1->Q (.ref p) H')
def aI(K:δ)(C:uH):Sp:=λvs H Q E=>∃(a:uH)(ns:List Int),vs=[.ref a]/\SqL K H a (ns.map V.int)/\ns.length<=4000/\vO K C a ns H Q E
def SV(K:δ):Sp:=λvs H Q _=>∃(a:uH)(ns:List Int)(k:Int),vs=[.ref a,.int k]/\SqL K H a (ns.map V.int)/\0<=k/\Q (.int (ns.getD k.toNat 0)) H
def SW:Sp:=λvs H Q _=>∃n:Int,vs=[.int n]/\Q (.bl true) H
def Qf(K:δ):Sp:=λvs H Q _=>∃(a:uH)(ns:List Int),vs=[.ref a]/\SqL K H a (ns.map V.int)/\ns.length<=63/\∀H',Q (.bl true) H'
section
variable {K:δ}{H:Hp}{Q:VK}{E:XK}
theorem i_long{n:Int}(q:Q (.int (n/2)) H):SS [.int n] H Q E:=⟨n,rfl,q⟩
theorem i_live{n:Int}(q:Q (.bl (decide (n%2=1))) H):ST [.int n] H Q E:=⟨n,rfl,q⟩
theorem i_can{a:uH}(h:SqL K H a (ns.map V.int))(h0:0<=k)(h1:k<ns.length)(q:Q (.bl (CY ns k)) H):xO K [.ref a,.int k] H Q E:=⟨a,ns,k,rfl,h,h0,h1,q⟩
theorem i_bad{a:uH}(h:SqL K H a (ns.map V.int))(h0:0<=k)(h1:k<ns.length)(q:Q (wS (BY ns k)) H):SU K [.ref a,.int k] H Q E:=⟨a,ns,k,rfl,h,h0,h1,q⟩
theorem i_cell{a:uH}(h:SqL K H a (ns.map V.int))(h0:0<=k)(q:Q (.int (ns.getD k.toNat 0)) H):SV K [.ref a,.int k] H Q E:=⟨a,ns,k,rfl,h,h0,q⟩
theorem i_whole{n:Int}(q:Q (.bl true) H):SW [.int n] H Q E:=⟨n,rfl,q⟩
theorem lC(n:Int):decide (Builtin.bitAnd n 1=1)=decide (n%2=1):=by rw[<-kJ,decV]
end
def AS(cs:List Int)(k l:Int)(v:Bool):List Int:=(cs.set k.toNat (l*2+if v then 1 else 0)).set (k+l-1).toNat (l*2+if v then 1 else 0)
theorem B0(cs:List Int)(k l:Int)(v:Bool):(AS cs k l v).length=cs.length:=by
 unfold AS;rw[ax,ax]
theorem De{l:Int}{v:Bool}{j:Nat}(h0:0<=k)(h1:1<=l)(h:(j:Int)<k\/k+l<=j):(AS cs k l v)[j]?=cs[j]?:=by
 unfold AS;rw[aa (by omega),aa (by omega)]
theorem aJ{l:Int}{v:Bool}(h0:0<=k)(h1:1<=l)(h:k+l<=cs.length):(AS cs k l v)[k.toNat]?=some (xg l v):=by
 unfold AS xg;by_cases e:(k+l-1).toNat=k.toNat
 . rw[e,aj (by rw[ax];omega)]
 . rw[aa e,aj (by omega)]
theorem aK{l:Int}{v:Bool}(h0:0<=k)(h1:1<=l)(h:k+l<=cs.length):(AS cs k l v)[(k+l-1).toNat]?=some (xg l v):=by
 unfold AS xg;rw[aj (by rw[ax];omega)]
def Cn(ds:List Pc)(k:Int):Prop:=∀p∈ds,0<=p.a/\1<=p.l/\p.a+p.l<=k
def EA(rs:List Pc)(e:Int):Prop:=∀p∈rs,e<=p.a/\1<=p.l
theorem Ak.endBy{ds:List Pc}{s e:Int}(h:Ak s ds e)(h0:0<=s):Cn ds e:=λp hp=>by
 obtain⟨h1,h2,_,h3⟩:=h.mem p hp;omega
theorem Ak.fromOn{ds:List Pc}{s e:Int}(h:Ak s ds e):EA ds s:=λp hp=>by
 obtain⟨h1,h2,_,_⟩:=h.mem p hp;omega
theorem Cn.mono{ds:List Pc}{k':Int}(h:Cn ds k)(e:k<=k'):Cn ds k':=λp hp=>by have:=h p hp;omega
theorem Cn.app{ds es:List Pc}(h:Cn ds k)(g:Cn es k):Cn (ds++es) k:=λp hp=>(θ.mp hp).elim (h p) (g p)
theorem Au.sub{qs:List Pc}(m:Au cs ps)(h:∀p∈qs,p∈ps):Au cs qs:=λp hp=>m p (h p hp)
theorem Au.lay{ds rs:List Pc}{l:Int}{v:Bool}(h0:0<=k)(h1:1<=l)(hl:k+l<=cs.length)(hd:Cn ds k)(hr:EA rs (k+l))(m:Au cs (ds++rs)):
   Au (AS cs k l v) (ds++⟨k,l,v⟩::rs):=by
 intro p hp;rcases θ.mp hp with h | h
 . obtain⟨a0,a1,a2⟩:=hd p h;obtain⟨m1,m2⟩:=m p (μ _ h);exact⟨by rw[De h0 h1 (by omega)];exact m1,by rw[De h0 h1 (by omega)];exact m2⟩
 . rcases Φ.mp h with h | h
   . subst h;exact⟨aJ h0 h1 hl,aK h0 h1 hl⟩
   . obtain⟨a0,a1⟩:=hr p h;obtain⟨m1,m2⟩:=m p (ζ _ h);exact⟨by rw[De h0 h1 (by omega)];exact m1,by rw[De h0 h1 (by omega)];exact m2⟩
def lfI(cs:List Int)(b e:Int):List Int:=if b=e then cs else AS cs b (e-b) false
def fr(b e:Int):List Pc:=if b=e then [] else [⟨b,e-b,false⟩]
theorem Df(cs:List Int)(b e:Int):(lfI cs b e).length=cs.length:=by
 unfold lfI
 split
 . rfl
 . exact B0 _ _ _ _
theorem Qg{b e:Int}{j:Nat}(h0:0<=b)(h1:b<=e)(h:(j:Int)<b\/e<=j):(lfI cs b e)[j]?=cs[j]?:=by
 unfold lfI
 split
 . rfl
 . exact De h0 (by omega) (by omega)
theorem G9{b e:Int}(h:b<=e):Ak b (fr b e) e:=by
 unfold fr
 split
 . assumption
 . exact⟨rfl,(by show 1<=e-b;omega),(λz=>by cases z),(by show b+(e-b)=e;omega)⟩
theorem Au.layF{ds rs:List Pc}{b e:Int}(h0:0<=b)(h1:b<=e)(hl:e<=cs.length)(hd:Cn ds b)(hr:EA rs e)(m:Au cs (ds++rs)):Au (lfI cs b e) (ds++(fr b e++rs)):=by
 unfold lfI fr
 split
 . exact m
 . exact Au.lay h0 (by omega) (by omega) hd (by rw[show b+(e-b)=e by omega];exact hr) m
def xq(cs:List Int)(a l s L:Int):List Int:=lfI (AS (lfI cs a s) s L true) (s+L) (a+l)
theorem Qh(cs:List Int)(a l s L:Int):(xq cs a l s L).length=cs.length:=by
 unfold xq;rw[Df,B0,Df]
def xE(ds rs:List Pc)(a l s L:Int):List Pc:=ds++(fr a s++(⟨s,L,true⟩::(fr (s+L) (a+l)++rs)))
theorem aL{ds rs:List Pc}{s L:Int}(h0:0<=z.a)(hL:1<=L)(h1:z.a<=s)(h2:s+L<=z.a+z.l)(hl:z.a+z.l<=cs.length)(hd:Cn ds z.a)(hr:EA rs (z.a+z.l))(m:Au cs (ds++z::rs)):
   Au (xq cs z.a z.l s L) (xE ds rs z.a z.l s L):=by
 have m0:Au cs (ds++rs):=m.sub λp hp=>by
   rcases θ.mp hp with h | h
   . exact μ _ h
   . exact ζ _ (ρ _ h)
 have m1:=Au.layF h0 h1 (by omega) hd (λp hp=>by have:=hr p hp;omega) m0;have d1:Cn (ds++fr z.a s) s:=(hd.mono h1).app ((G9 h1).endBy h0);have m2:Au (AS (lfI cs z.a s) s L true) ((ds++fr z.a s)++⟨s,L,true⟩::rs):=
   Au.lay (by omega) hL (by rw[Df];omega) d1 (λp hp=>by have:=hr p hp;omega) (by rw[ao];exact m1)
 have d2:Cn ((ds++fr z.a s)++[⟨s,L,true⟩]) (s+L):=(d1.mono (by omega)).app λp hp=>by
   have:p=⟨s,L,true⟩:=by simpa using hp
   subst this;exact⟨by show 0<=s;omega,hL,aq _⟩
 have m3:=Au.layF (cs:=AS (lfI cs z.a s) s L true) (b:=s+L) (e:=z.a+z.l) (by omega) h2 (by rw[B0,Df];omega) d2 hr (by rw[ao];exact m2);unfold xq xE;simpa only [ao,mq,dh,bz] using m3
theorem lD{ds rs:List Pc}{a l s L n:Int}(hL:3<=L)(h1:a<=s)(h2:s+L<=a+l)(hd:Ak 0 ds a)(hr:Ak (a+l) rs n):Ak 0 (xE ds rs a l s L) n:=
 hd.app ((G9 h1).app ⟨rfl,(by show 1<=L;omega),(λ_=>hL),(G9 h2).app hr⟩)
theorem lE{a l s L:Int}{j:Nat}(h0:0<=a)(hL:1<=L)(h1:a<=s)(h2:s+L<=a+l)(h:(j:Int)<a\/a+l<=j):(xq cs a l s L)[j]?=cs[j]?:=by
 unfold xq;rw[Qg (by omega) h2 (by omega),De (by omega) hL (by omega),Qg h0 h1 (by omega)]
theorem CD:∀{ps:List Pc}{s e:Int}{i:Nat}{z:Pc},Ak s ps e->ps[i]?=some z->∃ds rs,ps=ds++z::rs/\ds.length=i/\Ak s ds z.a/\Ak (z.a+z.l) rs e
 | [],s,e,i,z,_,h=>by simp at h
 | p::r,s,e,0,z,c,h=>by
   have e1:p=z:=by simpa using h
   subst e1
   obtain⟨h0,h1,h2,h3⟩:=c
   exact⟨[],r,rfl,rfl,h0.symm,by rw[h0];exact h3⟩
 | p::r,s,e,i+1,z,c,h=>by
   obtain⟨h0,h1,h2,h3⟩:=c
   obtain⟨ds,rs,e1,e2,c1,c2⟩:=CD h3 (show r[i]?=some z by simpa using h)
   exact⟨p::ds,rs,by rw[e1];rfl,by rw[am,e2],⟨h0,h1,h2,c1⟩,c2⟩
theorem DW{s e:Int}{i:Nat}{y:Pc}(c:Ak s ps e)(h:ps[i]?=some z)(h':ps[i+1]?=some y):y.a=z.a+z.l:=by
 obtain⟨ds,rs,rfl,rfl,_,c2⟩:=CD c h;rw[η (by omega)] at h';rw[show ds.length+1-ds.length=1 by omega] at h';cases rs with
 | nil=>simp at h'
 | cons p r=>
   have:p=y:=by simpa using h'
   subst this;exact c2.1
theorem lF{s e:Int}{i:Nat}(c:Ak s ps e)(h:ps[i]?=some z)(h':ps.length=i+1):z.a+z.l=e:=by
 obtain⟨ds,rs,rfl,rfl,_,c2⟩:=CD c h;rw[ι,am] at h';have:rs=[]:=cv.mp (by omega);subst this;exact c2
theorem lG{s e:Int}(c:Ak s ps e)(h:ps[0]?=some z):z.a=s:=by
 cases ps with
 | nil=>simp at h
 | cons p r=>
   have:p=z:=by simpa using h
   subst this;exact c.1
theorem SX{s e:Int}{i:Nat}(c:Ak s ps e)(h:ps[i]?=some z):s+i<=z.a:=by
 obtain⟨ds,rs,rfl,rfl,c1,_⟩:=CD c h;exact c1.le
theorem lH:∀{b e:Int},Ak b ps e->∀(i j:Nat)(y z:Pc),ps[i]?=some y->ps[j]?=some z->y.a=z.a->y=z:=by
 induction ps with
 | nil=>intro b e _ i j y z hi;simp at hi
 | cons p r ih=>
   intro b e h i j y z hi hj ha;obtain⟨e1,h1,h3,c⟩:=h;have up:∀(i:Nat)(y:Pc),r[i]?=some y->y.a>p.a:=λi y hy=>by
     have:=(c.mem y (ε hy)).1;omega
   cases i with
   | zero=>
     cases j with
     | zero=>simp at hi hj;rw[<-hi,<-hj]
     | succ j=>
       have e2:p=y:=by simpa using hi
       have:=up j z (by simpa using hj);subst e2;omega
   | succ i=>
     cases j with
     | zero=>
       have e2:p=z:=by simpa using hj
       have:=up i y (by simpa using hi);subst e2;omega
     | succ j=>exact ih c i j y z (by simpa using hi) (by simpa using hj) ha
def xa(ps:List Pc)(i:Nat)(z:Pc):Int:=match i with
 | 0=>z.a
 | j+1=>match ps[j]? with
   | some y=>if y.v=true then z.a else y.a
   | none=>z.a
def wQ(ps:List Pc)(i:Nat)(z:Pc):Int:=match ps[i+1]? with
 | some y=>if y.v=true then z.a+z.l else y.a+y.l
 | none=>z.a+z.l
theorem lI{s e:Int}{j:Nat}{y:Pc}(c:Ak s ps e)(m:Au cs ps)(h:ps[j]?=some y)(h':ps[j+1]?=some z):cs.getD (z.a-1).toNat 0=y.mk':=by
 have e:=DW c h h';obtain⟨_,m2⟩:=m y (ε h);rw[au,show z.a-1=y.a+y.l-1 by omega,m2];rfl
theorem lJ{s e:Int}{j:Nat}{y:Pc}(c:Ak s ps e)(m:Au cs ps)(h:ps[j]?=some y)(h':ps[j+1]?=some z):cs.getD (y.a+y.l).toNat 0=z.mk':=by
 have e:=DW c h h';obtain⟨m1,_⟩:=m z (ε h');rw[au,<-e,m1];rfl
theorem aM{s e:Int}{i:Nat}(c:Ak s ps e)(h:ps[i]?=some z):s<=xa ps i z/\xa ps i z<=z.a:=by
 have hz:=SX c h;unfold xa
 split
 . omega
 . rename_i j
   split
   . rename_i y hy;have hy':=SX c hy;have e1:=DW c hy h;have:=c.mem y (ε hy)
     split <;> omega
   . omega
theorem SY{s e:Int}{i:Nat}(c:Ak s ps e)(h:ps[i]?=some z):z.a+z.l<=wQ ps i z/\wQ ps i z<=e:=by
 have hz:=c.mem z (ε h);unfold wQ
 split
 . rename_i y hy;have e1:=DW c h hy;have:=c.mem y (ε hy)
   split <;> omega
 . omega
theorem lK{a b:Int}(hb:1<=b): -(a+1)%b=b-1-a%b:=by
 have e:=jm a b;have h0:=bi a (show b≠0 by omega);have h1:=bb a (show 0<b by omega);have eq : -(a+1)=(b-1-a%b)+b*(-(a/b)-1):=by
   rw[qk,ua];omega
 rw[eq,ip,li (by omega) (by omega)]
theorem Cj{s e:Int}{y:Pc}(c:Ak s ps e)(hy:y∈ps)(hz:z∈ps)(h:y.a=z.a):y=z:=by
 obtain⟨i,hi⟩:=ai hy;obtain⟨j,hj⟩:=ai hz;exact lH c i j y z hi hj h
theorem Qi{j:Nat}{y:Pc}(h:ps[j]?=some y)(hv:y.v=true):xa ps (j+1) z=z.a:=by
 unfold xa;simp only [h];exact if_pos hv
theorem Qj{j:Nat}{y:Pc}(h:ps[j]?=some y)(hv:y.v=false):xa ps (j+1) z=y.a:=by
 unfold xa;simp only [h];exact if_neg (by rw[hv];exact ν)
theorem Qk{j:Nat}{y:Pc}(h:ps[j+1]?=some y)(hv:y.v=true):wQ ps j z=z.a+z.l:=by
 unfold wQ;rw[h];exact if_pos hv
theorem Ql{j:Nat}{y:Pc}(h:ps[j+1]?=some y)(hv:y.v=false):wQ ps j z=y.a+y.l:=by
 unfold wQ;rw[h];exact if_neg (by rw[hv];exact ν)
theorem SZ{j:Nat}(h:ps[j+1]?=none):wQ ps j z=z.a+z.l:=by
 unfold wQ;rw[h]
theorem LH{s e:Int}{i j:Nat}{y:Pc}(c:Ak s ps e)(hi:ps[i]?=some y)(hj:ps[j]?=some z)(h:y.a=z.a):i=j:=by
 rcases gh i j with g | g | g
 . exfalso;obtain⟨ds,rs,e1,e2,c1,c2⟩:=CD c hi;subst e1 e2;rw[η (by omega)] at hj;cases k:j-ds.length with
   | zero=>omega
   | succ n=>
     rw[k] at hj;have hm:z∈rs:=ε (show rs[n]?=some z from hj);have:=(c2.mem z hm).1;have:=(c.mem y (ζ _ ω)).2.1;omega
 . exact g
 . exfalso;obtain⟨ds,rs,e1,e2,c1,c2⟩:=CD c hj;subst e1 e2;rw[η (by omega)] at hi;cases k:i-ds.length with
   | zero=>omega
   | succ n=>
     rw[k] at hi;have hm:y∈rs:=ε (show rs[n]?=some y from hi);have:=(c2.mem y hm).1;have:=(c.mem z (ζ _ ω)).2.1;omega
def BA(acc:List Pc)(z:Pc):List Pc:=match acc.getLast? with
 | some y=>if z.v=false/\y.v=false then acc.dropLast++[⟨y.a,y.l+z.l,false⟩] else acc++[z]
 | none=>acc++[z]
def BP(ps:List Pc):List Pc:=ps.foldl BA []
theorem lL(z:Pc):BA [] z=[z]:=rfl
theorem Ha{acc:List Pc}(h:z.v=true):BA acc z=acc++[z]:=by
 unfold BA
 split
 . rw[if_neg (by rw[h];simp)]
 . rfl
theorem Hb{D:List Pc}{y:Pc}(h:y.v=true):BA (D++[y]) z=D++[y]++[z]:=by
 unfold BA;rw[iq];simp only;rw[if_neg (by rw[h];simp)]
theorem Hc{D:List Pc}{y:Pc}(h:y.v=false)(hz:z.v=false):BA (D++[y]) z=D++[⟨y.a,y.l+z.l,false⟩]:=by
 unfold BA;rw[iq];simp only;rw[if_pos ⟨hz,h⟩,ng]
theorem aN{i:Nat}(h:ps[i]?=some z):BP (ps.take (i+1))=BA (BP (ps.take i)) z:=by
 unfold BP;rw[ck,h,jh];rfl
theorem Ea(l:List Pc):l=[]\/∃D y,l=D++[y]:=by
 rcases mt l with h | ⟨D,y,h⟩
 . exact .inl h
 . exact .inr ⟨D,y,by rw[h,List.concat_eq_append]⟩
theorem Ak.unsnoc{D:List Pc}{y:Pc}{s e:Int}(c:Ak s (D++[y]) e):Ak s D y.a/\1<=y.l/\(y.v=true->3<=y.l)/\y.a+y.l=e:=by
 obtain⟨ds,rs,e1,e2,c1,c2⟩:=CD (i:=D.length) (z:=y) c (by rw[η (ψ _),di];rfl);have hl:=congrArg jb e1;rw[ι,ι,Θ,am] at hl;have er:rs=[]:=cv.mp (by omega);subst er;have:=(List.append_inj e1 (by omega)).1;subst this;obtain⟨h1,h2,h3,_⟩:=c.mem y (ζ _ ω);exact⟨c1,h2,h3,c2⟩
theorem lM{acc:List Pc}{s:Int}(c:Ak s acc z.a)(h1:1<=z.l)(h3:z.v=true->3<=z.l):Ak s (BA acc z) (z.a+z.l):=by
 rcases Ea acc with h | ⟨D,y,h⟩
 . subst h;exact Ak.snoc c h1 h3
 . subst h;cases hy:y.v with
   | true=>rw[Hb hy];exact Ak.snoc c h1 h3
   | false=>
     cases hz:z.v with
     | true=>rw[Ha hz];exact Ak.snoc c h1 h3
     | false=>
       rw[Hc hy hz];obtain⟨c1,y1,_,y2⟩:=c.unsnoc;have:=Ak.snoc (p:=⟨y.a,y.l+z.l,false⟩) c1 (by show 1<=y.l+z.l;omega) (λw=>by cases w)
       rwa [show (⟨y.a,y.l+z.l,false⟩:Pc).a+(⟨y.a,y.l+z.l,false⟩:Pc).l=z.a+z.l by show y.a+(y.l+z.l)=z.a+z.l;omega] at this
theorem aO:∀{ps acc:List Pc}{s m e:Int},Ak s acc m->Ak m ps e->Ak s (ps.foldl BA acc) e
 | [],acc,s,m,e,c,d=>by have d:m=e:=d;subst d;exact c
 | p::r,acc,s,m,e,c,d=>by
   obtain⟨h0,h1,h2,h3⟩:=d
   show Ak s (r.foldl BA (BA acc p)) e
   refine aO (m:=p.a+p.l) (lM (by rw[h0];exact c) h1 h2) (by rw[h0];exact h3)
theorem aP{s e:Int}(c:Ak s ps e):Ak s (BP ps) e:=aO (acc:=[]) rfl c
def Dg(cs:List Int)(ps:List Pc):List Int:=ps.foldl (λc z=>AS c z.a z.l z.v) cs
theorem lN(cs:List Int)(ds:List Pc)(z:Pc):Dg cs (ds++[z])=AS (Dg cs ds) z.a z.l z.v:=by
 unfold Dg;rw[jh];rfl
theorem lO{i:Nat}(h:ps[i]?=some z):Dg cs (ps.take (i+1))=AS (Dg cs (ps.take i)) z.a z.l z.v:=by
 rw[ck,h];exact lN _ _ _
theorem S8:∀(ps:List Pc)(cs:List Int),(Dg cs ps).length=cs.length
 | [],cs=>rfl
 | p::r,cs=>by
   show (Dg (AS cs p.a p.l p.v) r).length=cs.length
   rw[S8 r,B0]
theorem aQ:∀{rs ds:List Pc}{cs:List Int}{m:Int},Ak 0 ds m->Ak m rs cs.length->Au cs ds->Au (Dg cs rs) (ds++rs)
 | [],ds,cs,m,_,_,k=>by rw[ae];exact k
 | p::r,ds,cs,m,c,d,k=>by
   obtain⟨e0,h1,h2,h3⟩:=d
   have l0:=c.le
   have l1:=h3.le
   have:=aQ (rs:=r) (ds:=ds++[p]) (cs:=AS cs p.a p.l p.v) (m:=p.a+p.l) (Ak.snoc (by rw[e0];exact c) h1 h2) (by rw[B0,e0];exact h3)
     (Au.lay (rs:=[]) (by omega) h1 (by omega) (by rw[e0];exact c.endBy (aq 0)) (λp hp=>by cases hp) (by rw[ae];exact k))
   rw[ao,mq] at this
   exact this
theorem aR(ps:List Pc):∀i,i<=ps.length->(BP (ps.take i)).length<=i
 | 0,_=>by simp [BP]
 | i+1,h=>by
   have ih:=aR ps i (by omega)
   have e:ps[i]?=some ps[i]:=by simp [show i<ps.length by omega]
   rw[aN e]
   generalize BP (ps.take i)=acc at ih
   generalize ps[i]=z
   rcases Ea acc with e | ⟨D,w,e⟩
   . subst e;simp [lL]
   . subst e
     rw[ι,Θ] at ih
     cases hw:w.v with
     | true=>rw[Hb hw];simp;omega
     | false=>
       cases hz:z.v with
       | true=>rw[Ha hz];simp;omega
       | false=>rw[Hc hw hz];simp;omega
def AK(ps:List Pc):Prop:=∀j y z,ps[j]?=some y->ps[j+1]?=some z->y.v=true\/z.v=true
theorem AK.snoc{D:List Pc}{w:Pc}(h:AK (D++[w]))(hv:w.v=true\/z.v=true):AK (D++[w]++[z]):=by
 intro j y x hy hx;have hl:j+1<(D++[w]++[z]).length:=(γ.mp hx).1;rw[ι,Θ] at hl;rw[ξ (by omega)] at hy;by_cases e:j+1<(D++[w]).length
 . rw[ξ e] at hx;exact h j y x hy hx
 . rw[ι,Θ] at e hl;rw[η (by rw[ι,Θ];omega),show j+1-(D++[w]).length=0 by rw[ι,Θ];omega] at hx;rw[show j=D.length by omega,η (ψ _),di] at hy;have e1:w=y:=by simpa using hy
   have e2:z=x:=by simpa using hx
   rw[<-e1,<-e2];exact hv
theorem AK.last{D:List Pc}{w u:Pc}(h:AK (D++[w]))(hv:u.v=w.v):AK (D++[u]):=by
 intro j y x hy hx;have hl:j+1<(D++[u]).length:=(γ.mp hx).1;rw[ι,Θ] at hl;rw[ξ (by omega)] at hy;by_cases e:j+1<D.length
 . rw[ξ e] at hx;exact h j y x (by rw[ξ (by omega)];exact hy) (by rw[ξ e];exact hx)
 . rw[η (by omega),show j+1-D.length=0 by omega] at hx;have e2:u=x:=by simpa using hx
   have:=h j y w (by rw[ξ (by omega)];exact hy) (by rw[η (by omega),show j+1-D.length=0 by omega];rfl);rw[<-e2,hv];exact this
theorem lP{acc:List Pc}(h:AK acc):AK (BA acc z):=by
 rcases Ea acc with e | ⟨D,w,e⟩
 . subst e;intro j y x _ hx;have:j+1<[z].length:=(γ.mp hx).1;simp at this
 . subst e;cases hw:w.v with
   | true=>rw[Hb hw];exact h.snoc (.inl hw)
   | false=>
     cases hz:z.v with
     | true=>rw[Ha hz];exact h.snoc (.inr hz)
     | false=>rw[Hc hw hz];exact h.last hw.symm
theorem aS:∀(ps acc:List Pc),AK acc->AK (ps.foldl BA acc)
 | [],_,h=>h
 | p::r,acc,h=>aS r (BA acc p) (lP h)
theorem lQ(ps:List Pc):AK (BP ps):=aS ps [] λj y x hy _=>by simp at hy
theorem aT(z:Pc):AK [z]:=λj y x _ hx=>by
 have:j+1<[z].length:=(γ.mp hx).1;simp at this
theorem AH.unsnoc{us:List V}{y:Pc}(h:AH H us (ps++[y])):∃ui t,us=ui++[.ref t]/\AH H ui ps/\H t=some (.tup [.int y.a,.int y.l,.bl y.v]):=by
 have hl:=h.1;rw[ι,Θ] at hl;obtain⟨t,e1,e2⟩:=h.2 ps.length y (by rw[η (ψ _),di];rfl);have hd:us=us.take ps.length++[.ref t]:=by
   have:=mw ps.length us;have e3:us.drop ps.length=[.ref t]:=by
     apply List.ext_getElem?;intro i;rw[kx];cases i with
     | zero=>exact e1
     | succ i=>rw[cn (by omega)];rfl
   rw[e3] at this;exact this.symm
 refine⟨us.take ps.length,t,hd,⟨by rw[cj];omega,λi p e=>?_⟩,e2⟩;have hi:i<ps.length:=(γ.mp e).1;obtain⟨a,h1,h2⟩:=h.2 i p (by rw[ξ hi];exact e);exact⟨a,by rw[gp hi];exact h1,h2⟩
theorem AH.relast{ui:List V}{p t t0:uH}(h:AH H ui ps)(hp:H p=some (.lst (ui++[.ref t0])))(ht:H t=none):
   AH (upd (upd H t (.tup [.int z.a,.int z.l,.bl z.v])) p (.lst (ui++[.ref t]))) (ui++[.ref t]) (ps++[z]):=by
 have hpt:p≠t:=BF hp ht;have hp2:upd H t (.tup [.int z.a,.int z.l,.bl z.v]) p=some (.lst (ui++[.ref t0])):=by rw[AI hpt];exact hp
 refine AH.snoc ?_ ?_
 . exact(h.mono (DO (.inl ht))).mono (DO (.inr ⟨_,hp2⟩))
 . exact DO (.inr ⟨_,hp2⟩) _ _ upd_same
section
variable {X:Cx}
end
def xv(xs ys:List V):Bool:=(ia (min xs.length ys.length)).all (λj=>eqV (xs.getD j .non) (ys.getD j .non))&&xs.length==ys.length
section
variable {X:Cx}{pins:List (uH×Obj)}{σ:L2.St}{H:Hp}{s:uI}{A:uM}
theorem lR{a b:uH}{xs ys:List V}(I:Inv X pins σ H s)(ha:SqT X.K H a xs)(hb:SqT X.K H b ys)(hf:xs.all Ch=true)(hg:ys.all Ch=true):
   ∃its its2:List uG,s.heap.IsTuple a its.toArray/\s.heap.IsTuple b its2.toArray/\its.length=xs.length/\its2.length=ys.length /\
     ∀j (h1:j<its.toArray.size) (h2:j<its2.toArray.size),SeqAt.EqAt A s its.toArray[j] its2.toArray[j] (eqV (xs.getD j .non) (ys.getD j .non)):=by
 obtain⟨its,r1,p1,_⟩:=I.tuple ha;obtain⟨its2,r2,p2,_⟩:=I.tuple hb;have l1:=r1.length;have l2:=r2.length;refine⟨its,its2,p1,p2,l1.symm,l2.symm,λj h1 h2=>?_⟩;rw[Δ] at h1 h2;have hj:j<xs.length:=by omega
 have hk:j<ys.length:=by omega
 obtain⟨u1,e1,q1⟩:=r1.get (i:=j) (x:=xs[j]) (by simp [hj]);obtain⟨u2,e2,q2⟩:=r2.get (i:=j) (x:=ys[j]) (by simp [hk]);obtain⟨g1,f1⟩:=γ.mp e1;obtain⟨g2,f2⟩:=γ.mp e2;have fl:Ch xs[j]=true:=gw.mp hf _ (bp hj);have gl:Ch ys[j]=true:=gw.mp hg _ (bp hk);have z:=ZZ (A:=A) (s:=s) q1 q2 fl gl;rw[<-f1,<-f2] at z;have ex:xs.getD j .non=xs[j]:=by simp [hj]
 have ey:ys.getD j .non=ys[j]:=by simp [hk]
 rw[ex,ey];simpa using z
theorem S9{a b:uH}{xs ys:List V}(hu:A.units<vj)(I:Inv X pins σ H s)(ha:SqT X.K H a xs)(hb:SqT X.K H b ys)(hf:xs.all Ch=true)(hg:ys.all Ch=true):SeqAt.RcAt A s (.ref a) (.ref b) (xv xs ys):=by
 obtain⟨its,its2,p1,p2,l1,l2,he⟩:=lR (A:=A.in1) I ha hb hf hg;have key:=uu p1 p2 hu he;simp only [Δ,l1,l2] at key;exact key
theorem LJ{xs:List V}(hf:xs.all Ch=true):xv xs xs=true:=by
 unfold xv;rw[df];refine⟨gw.mpr λj hj=>?_,by simp⟩;have hj:j<xs.length:=by simpa using hj
 have ex:xs.getD j .non=xs[j]:=by simp [hj]
 rw[ex];exact kG (gw.mp hf _ (bp hj))
theorem lS{a b:uH}{xs:List V}(hu:A.units<vj)(I:Inv X pins σ H s)(ha:SqT X.K H a xs)(hb:SqT X.K H b xs)(hf:xs.all Ch=true):SeqAt.EqAt A s (.ref a) (.ref b) true:=by
 by_cases e:a=b
 . subst e;exact jx _
 . refine ky e ?_;have:=S9 hu I ha hb hf hf
   rwa [LJ hf] at this
end
section
variable {X:Cx}
theorem ya(hu:X.A.units+64<vj):OpR X (vd .NotEq) (λx y H Q=>∃a b us ws ps,x = .ref a/\y = .ref b/\H a=some (.lst us)/\H b=some (.lst ws)/\AH H us ps/\AH H ws ps/\Q (.bl false) H):=by
 intro pins s σ H x y v u Q I rx ry h;obtain⟨a,b,us,ws,ps,rfl,rfl,ha,hb,pu,pw,q⟩:=h;cases rx;cases ry;obtain⟨its,r1,p1,_⟩:=I.list (SqL.of ha);obtain⟨its2,r2,p2,_⟩:=I.list (SqL.of hb);have l1:=r1.length;have l2:=r2.length;have m1:=pu.1;have m2:=pw.1;have key:SeqAt.RcNeAt X.A s (.ref a) (.ref b) (!((ia its.toArray.size).all (λ_=>true))):=by
   refine SeqAt.RcNeAt.lists p1.isList p2.isList (by rw[Δ,Δ];omega) (by omega) λj h1 h2=>?_;rw[Δ] at h1 h2;have hj:j<ps.length:=by omega
   obtain⟨t1,e1,f1⟩:=pu.2 j ps[j] (by simp [hj]);obtain⟨t2,e2,f2⟩:=pw.2 j ps[j] (by simp [hj]);obtain⟨u1,g1,q1⟩:=r1.get e1;obtain⟨u2,g2,q2⟩:=r2.get e2;cases q1;cases q2;obtain⟨_,k1⟩:=γ.mp g1;obtain⟨_,k2⟩:=γ.mp g2;have z:=lS (A:=X.A.in1) (by show X.A.units+1<vj;omega) I (SqT.of f1) (SqT.of f2) rfl;rw[<-k1,<-k2] at z;simpa using z
 have e:(!((ia its.toArray.size).all (λ_=>true)))=false:=by simp
 rw[e] at key;exact key _ _ _ _ ⟨.bl false,H,I,rfl,q⟩
end
end Stow
namespace L2
open PySem PySem.Spec PyProof.Rows
variable{kvs:List (List Key×V)}
section
variable {κ:Type}[DecidableEq κ]
def wW(kvs:List (κ×V))(k:κ):Option V:=(kvs.find? λkv=>decide (kv.1=k)).map (·.2)
def xn(kvs:List (κ×V))(k:κ)(v:V):List (κ×V):=
 if (kvs.any λkv=>decide (kv.1=k))=true then kvs.map (λkv=>if kv.1=k then (kv.1,v) else kv) else kvs++[(k,v)]
def Ck(kvs:List (κ×V))(k:κ):List (κ×V):=kvs.filter λkv=>decide (kv.1≠k)
theorem DX{p:κ×V}{r:List (κ×V)}{k:κ}(e:p.1=k):wW (p::r) k=some p.2:=by simp [wW,ii,e]
theorem DP{p:κ×V}{r:List (κ×V)}{k:κ}(e:¬p.1=k):wW (p::r) k=wW r k:=by simp [wW,ii,e]
theorem LK(k:κ):∀kvs:List (κ×V),(kvs.any λkv=>decide (kv.1=k))=(wW kvs k).isSome
 | []=>rfl
 | p::r=>by
   rw[eo]
   by_cases e:p.1=k
   . simp only [DX e,decide_eq_true e,sd,Option.isSome_some]
   . rw[DP e,decide_eq_false e,oh];exact LK k r
theorem aU(k j:κ)(y:V):∀kvs:List (κ×V),wW (kvs.map λkv=>if kv.1=k then (kv.1,y) else kv) j=(wW kvs j).map λx=>if j=k then y else x
 | []=>rfl
 | p::r=>by
   have ih:=aU k j y r
   rw[av]
   by_cases h:p.1=k
   . rw[if_pos h]
     by_cases e:p.1=j
     . rw[DX (p:=(p.1,y)) e,DX e,jy,if_pos (e.symm.trans h)]
     . rw[DP (p:=(p.1,y)) e,DP e,ih]
   . rw[if_neg h]
     by_cases e:p.1=j
     . rw[DX (p:=p) e,DX e,jy,if_neg (λz=>h (e.trans z))]
     . rw[DP (p:=p) e,DP e,ih]
theorem aV(k j:κ)(y:V):∀kvs:List (κ×V),wW kvs k=none->wW (kvs++[(k,y)]) j=if j=k then some y else wW kvs j
 | [],_=>by
   by_cases e:k=j
   . rw[if_pos e.symm];exact DX (p:=(k,y)) e
   . rw[if_neg (λz=>e z.symm)];exact DP (p:=(k,y)) e
 | p::r,hn=>by
   rw[dh]
   have hk:¬p.1=k:=λz=>by rw[DX z] at hn;cases hn
   rw[DP hk] at hn
   have ih:=aV k j y r hn
   by_cases e:p.1=j
   . rw[DX e,DX e,if_neg (λz=>hk (e.trans z))]
   . rw[DP e,DP e,ih]
theorem lT(kvs:List (κ×V))(k j:κ)(y:V):wW (xn kvs k y) j=if j=k then some y else wW kvs j:=by
 unfold xn;by_cases a:(kvs.any λkv=>decide (kv.1=k))=true
 . rw[if_pos a,aU];rw[LK] at a;by_cases e:j=k
   . obtain⟨x,hx⟩:=ll.mp a;rw[if_pos e,e,hx,jy,if_pos rfl]
   . rw[if_neg e];cases wW kvs j with
     | none=>rfl
     | some x=>rw[jy,if_neg e]
 . rw[if_neg a];refine aV k j y kvs ?_;rw[LK] at a;cases q:wW kvs k with
   | none=>rfl
   | some x=>rw[q] at a;exact(a rfl).elim
theorem Ta(kvs:List (κ×V))(k:κ)(v:V):(xn kvs k v).length<=kvs.length+1:=by
 unfold xn
 split
 . rw[Ξ];omega
 . rw[ι,am,db];omega
theorem lU{kvs:List (κ×V)}{k:κ}(v:V)(h:wW kvs k=none):xn kvs k v=kvs++[(k,v)]:=by
 unfold xn;rw[LK,h];exact if_neg (by decide)
theorem RelO.isSome_eq{o:Option V}{u:Option uG}(r:RelO o u):o.isSome=u.isSome:=by
 cases o with
 | none=>cases u with
   | none=>rfl
   | some _=>exact(show False from r).elim
 | some _=>cases u with
   | none=>exact(show False from r).elim
   | some _=>rfl
theorem RelO.getD{o:Option V}{u:Option uG}{d:V}{d':uG}(r:RelO o u)(rd:RelV d d'):RelV (o.getD d) (u.getD d'):=by
 cases o with
 | none=>cases u with
   | none=>exact rd
   | some _=>exact(show False from r).elim
 | some _=>cases u with
   | none=>exact(show False from r).elim
   | some _=>exact r
theorem KV.val{kvs:List (κ×V)}{vs:List (κ×uG)}(r:KV kvs vs)(k:κ):RelO (wW kvs k) (valueAt vs k):=by
 unfold KV at r
 induction r with
 | nil=>exact bh
 | @cons p q ps qs h t ih=>
   obtain⟨h1,h2⟩:=h;by_cases e:p.1=k
   . have e':q.1=k:=h1.symm.trans e;have b:valueAt (q::qs) k=some q.2:=by simp [valueAt,ii,e']
     rw[DX e,b];exact h2
   . have e':¬q.1=k:=λz=>e (h1.trans z);have b:valueAt (q::qs) k=valueAt qs k:=by simp [valueAt,ii,e']
     rw[DP e,b];exact ih
theorem KV.any{kvs:List (κ×V)}{vs:List (κ×uG)}(r:KV kvs vs)(k:κ):(kvs.any λkv=>decide (kv.1=k))=vs.any λkv=>decide (kv.1=k):=by
 unfold KV at r
 induction r with
 | nil=>rfl
 | cons h t ih=>rw[eo,eo,ih,h.1]
theorem KV.repl{kvs:List (κ×V)}{vs:List (κ×uG)}(r:KV kvs vs)(k:κ){y:V}{u:uG}(ry:RelV y u):
   KV (kvs.map λkv=>if kv.1=k then (kv.1,y) else kv) (vs.map λkv=>if kv.1=k then (kv.1,u) else kv):=by
 unfold KV at r ⊢
 induction r with
 | nil=>exact .nil
 | @cons p q ps qs h t ih=>
   rw[av,av];refine .cons ?_ ih;obtain⟨h1,h2⟩:=h;by_cases e:p.1=k
   . rw[if_pos e,if_pos (h1.symm.trans e)];exact⟨h1,ry⟩
   . rw[if_neg e,if_neg (λz=>e (h1.trans z))];exact⟨h1,h2⟩
theorem KV.put{kvs:List (κ×V)}{vs:List (κ×uG)}(r:KV kvs vs)(k:κ){y:V}{u:uG}(ry:RelV y u):KV (xn kvs k y) (stored vs k u):=by
 unfold xn stored;rw[r.any k];by_cases e:(vs.any λkv=>decide (kv.1=k))=true
 . rw[if_pos e,if_pos e];exact r.repl k ry
 . rw[if_neg e,if_neg e];exact Paired.snoc r ⟨rfl,ry⟩
theorem KV.drop{kvs:List (κ×V)}{vs:List (κ×uG)}(r:KV kvs vs)(k:κ):KV (Ck kvs k) (without vs k):=by
 unfold KV at r ⊢;unfold Ck without
 induction r with
 | nil=>exact .nil
 | @cons p q ps qs h t ih=>
   obtain⟨h1,h2⟩:=h;rw[bx,bx];by_cases e:p.1=k
   . have a:¬decide (p.1≠k)=true:=by simp [e]
     have b:¬decide (q.1≠k)=true:=by simp [h1.symm.trans e]
     rw[if_neg a,if_neg b];exact ih
   . have e':¬q.1=k:=λz=>e (h1.trans z);have a:decide (p.1≠k)=true:=by simp [e]
     have b:decide (q.1≠k)=true:=by simp [e']
     rw[if_pos a,if_pos b];exact .cons ⟨h1,h2⟩ ih
theorem KV.length{kvs:List (κ×V)}{vs:List (κ×uG)}(r:KV kvs vs):kvs.length=vs.length:=Paired.length r
theorem Tb(kvs:List (κ×V))(k:κ):(Ck kvs k).length<=kvs.length:=jn _ _
end
theorem Hd{P:uK}{w:uL}{k:Key}{u:uG}(r:RelV (kV k) u):(Ci P w).is k u=true:=by
 cases k with
 | inl i=>obtain⟨t,e⟩:=(show ∃t,u=Value.int i t from r);subst e;exact iG P w i t
 | inr x=>obtain⟨t,e⟩:=(show ∃t,u=Value.str x t from r);subst e;exact iH P w x t
theorem aW{P:uK}{w:uL}:∀{ks:List Key}{us:List uG},Vals (ks.map kV) us->ItemsAre (Ci P w) ks us
 | [],_,r=>by rw[ib] at r;cases r;exact .nil
 | k::ks,_,r=>by
   rw[av] at r
   cases r with
   | cons h t=>exact .cons (Hd h) (aW t)
abbrev KT(H:Hp):List (List Key×V)->List (List Key×uH×uG)->Prop:=Paired λp q=>p.1=q.1/\H q.2.1=some (.tup (p.1.map kV))/\RelV p.2 q.2.2
theorem KT.val{H:Hp}{xs:List (List Key×uH×uG)}(r:KT H kvs xs)(k:List Key):RelO (wW kvs k) ((atKey xs k).map (·.2)):=by
 induction r with
 | nil=>exact bh
 | @cons p q ps qs h t ih=>
   obtain⟨h1,_,h2⟩:=h;by_cases e:p.1=k
   . have e':q.1=k:=h1.symm.trans e;have b:atKey (q::qs) k=some q.2:=by simp [atKey,ii,e']
     rw[DX e,b];exact h2
   . have e':¬q.1=k:=λz=>e (h1.trans z);have b:atKey (q::qs) k=atKey qs k:=by simp [atKey,ii,e']
     rw[DP e,b];exact ih
theorem KT.repl{H:Hp}{xs:List (List Key×uH×uG)}(r:KT H kvs xs)(k:List Key){y:V}{u:uG}(ry:RelV y u):
   KT H (kvs.map λkv=>if kv.1=k then (kv.1,y) else kv) (xs.map (putAt k u)):=by
 induction r with
 | nil=>exact .nil
 | @cons p q ps qs h t ih=>
   rw[av,av];refine .cons ?_ ih;obtain⟨h1,h2,h3⟩:=h;unfold putAt;by_cases e:p.1=k
   . rw[if_pos e,if_pos (h1.symm.trans e)];exact⟨h1,h2,ry⟩
   . rw[if_neg e,if_neg (λz=>e (h1.trans z))];exact⟨h1,h2,h3⟩
theorem KT.put{H:Hp}{xs:List (List Key×uH×uG)}(r:KT H kvs xs)(k:List Key){b:uH}{y:V}{u:uG}(hb:H b=some (.tup (k.map kV)))(ry:RelV y u):
   KT H (xn kvs k y) (storedH xs k b u):=by
 have e:(kvs.any λkv=>decide (kv.1=k))=(atKey xs k).isSome:=by
   rw[LK,(r.val k).isSome_eq,pe]
 unfold xn storedH;rw[e];by_cases q:(atKey xs k).isSome=true
 . rw[if_pos q,if_pos q];exact r.repl k ry
 . rw[if_neg q,if_neg q];exact Paired.snoc r ⟨rfl,hb,ry⟩
theorem KT.keeps{H H':Hp}{xs:List (List Key×uH×uG)}(r:KT H kvs xs)(ht:∀b ys,H b=some (.tup ys)->H' b=some (.tup ys)):KT H' kvs xs:=
 Paired.mapP r λ_ _ z=>⟨z.1,ht _ _ z.2.1,z.2.2⟩
section
variable {P:uK}{w:uL}{H:Hp}{h:vq}{a:uH}
theorem ze{u:HO}(ok:HOk P w H h)(e:Rd H a u):Br P w H h a u:=e.ok ok
theorem Gz{kvs:List (Key×V)}(ok:HOk P w H h)(e:Rd H a (.dK kvs)):kvs.length<=uU/\(a==sysModules)=false/\∃vs,KV kvs vs/\h.DictOf (Ci P w) a vs:=
 show Br P w H h a (.dK kvs) from ze ok e
theorem LL{kvs:List (Key×V)}(ok:HOk P w H h)(e:H a=some (.dK kvs)):kvs.length<=uU/\(a==sysModules)=false/\∃vs,KV kvs vs/\h.DictOf (Ci P w) a vs:=Gz ok (.inl e)
theorem LM{ks:List Key}(ok:HOk P w H h)(e:H a=some (.tup (ks.map kV))):(tupleKind (Ci P w)).is h ks a:=by
 obtain⟨_,its,r,o,h1,h2,n,h3⟩:=(show Br P w H h a (.tup (ks.map kV)) from ok a _ e)
 exact⟨o,its.toArray,n,h1,h2,h3,by simpa using aW r⟩
theorem Ky(ok:HOk P w H h)(e:Rd H a (.dT kvs)):kvs.length<=uU/\(a==sysModules)=false /\
   ∃xs,KT H kvs xs/\h.DictOfH (tupleKind (Ci P w)) a xs:=by
 obtain⟨z,y,xs,r,o,es,ep,h1,h2,h3,h4,h5⟩:=(show Br P w H h a (.dT kvs) from ze ok e)
 refine⟨z,y,xs,r,o,es,ep,h1,h2,h3,h4,λx hx=>?_,h5⟩;have all:∀{l:List (List Key×V)} {m:List (List Key×uH×uG)},KT H l m->∀x∈m,(tupleKind (Ci P w)).is h x.1 x.2.1:=by
   intro l m q
   induction q with
   | nil=>intro x hx;exact nomatch hx
   | @cons p q ps qs hq t ih=>
     intro x hx;rcases Φ.mp hx with e | hx
     . subst e;exact LM ok (by rw[<-hq.1];exact hq.2.1)
     . exact ih x hx
 exact all r x hx
theorem dt_of(ok:HOk P w H h)(e:H a=some (.dT kvs)):kvs.length<=uU/\(a==sysModules)=false /\
   ∃xs,KT H kvs xs/\h.DictOfH (tupleKind (Ci P w)) a xs:=Ky ok (.inl e)
end
def DGet(H:Hp)(a:uH)(y:V)(r:Option V):Prop:=
 (∃kvs k,Rd H a (.dK kvs)/\y=kV k/\r=wW kvs k)\/∃kvs k b,Rd H a (.dT kvs)/\y = .ref b/\H b=some (.tup (k.map kV))/\r=wW kvs k
def DPut(H:Hp)(a:uH)(y v:V)(H':Hp):Prop:=
 (∃kvs k,H a=some (.dK kvs)/\y=kV k/\kvs.length<uU/\H'=upd H a (.dK (xn kvs k v))) \/
 ∃kvs k b,H a=some (.dT kvs)/\y = .ref b/\H b=some (.tup (k.map kV))/\kvs.length<uU/\H'=upd H a (.dT (xn kvs k v))
theorem DGet.k{H:Hp}{a:uH}{kvs:List (Key×V)}{k:Key}(e:H a=some (.dK kvs)):DGet H a (kV k) (wW kvs k):=.inl ⟨kvs,k,.inl e,rfl,rfl⟩
theorem DPut.k{H:Hp}{a:uH}{kvs:List (Key×V)}{k:Key}{v:V}(e:H a=some (.dK kvs))(hl:kvs.length<uU):DPut H a (kV k) v (upd H a (.dK (xn kvs k v))):=.inl ⟨kvs,k,e,rfl,hl,rfl⟩
section
variable {X:Cx}{pins:List (uH×Obj)}{σ:St}{H:Hp}{s:uI}{a:uH}{y v:V}{u r:uG}{o:Option V}{A:uM}{E:uG->uI->Prop}
theorem Inv.big(I:Inv X pins σ H s):sysModules<s.heap.objs.size:=by
 have h:ve<s.heap.objs.size:=(I.mod.glob.keeps I.bk).lt;exact Nat.lt_trans (by decide) h
theorem lV{Q:uG->uI->Prop}(hu:A.units+1<vj)(I:Inv X pins σ H s)(g:DGet H a y (some v))(ry:RelV y u)(h:∀w' s',Inv X pins σ H s'->RelV v w'->Q w' s'):
   uY (vi X.prog X.w) A (getItem (.ref a) u) Q E s:=by
 rcases g with ⟨kvs,k,e,ey,l⟩ | ⟨kvs,k,b,e,ey,eb,l⟩
 . subst ey;obtain⟨z,hd,vs,rel,dd⟩:=Gz I.hok e;obtain⟨w',hw,rw'⟩:=RelO.some_of (v:=v) (o:=valueAt vs k) (by rw[l];exact rel.val k);exact wpAny_getItem_of (Hd ry) dd.mapOf hw (h w' _ (I.tok _) rw')
 . subst ey;cases (show u=Value.ref b from ry);obtain⟨z,hd,xs,rel,dd⟩:=Ky I.hok e;obtain⟨w',hw,rw'⟩:=RelO.some_of (v:=v) (o:=(atKey xs k).map (·.2)) (by rw[l];exact rel.val k);obtain⟨p,hp,hp2⟩:=dj.mp hw;refine wpAny_getItem_heap (tupleKind_room_in1 hu) (LM I.hok eb) dd hp ?_;rw[hp2];exact h w' _ (I.tok _) rw'
theorem d_in{Q:uG->uI->Prop}(hu:A.units+1<vj)(I:Inv X pins σ H s)(g:DGet H a y o)(ry:RelV y u)(h:∀s',Inv X pins σ H s'->Q (.bool o.isSome) s'):
   uY (vi X.prog X.w) A (vd .In u (.ref a)) Q E s:=by
 rcases g with ⟨kvs,k,e,ey,l⟩ | ⟨kvs,k,b,e,ey,eb,l⟩
 . subst ey;obtain⟨z,hd,vs,rel,dd⟩:=Gz I.hok e;refine wpAny_in_of (Hd ry) hd dd.mapOf ?_;rw[<-(rel.val k).isSome_eq,<-l];exact h _ (I.tok _)
 . subst ey;cases (show u=Value.ref b from ry);obtain⟨z,hd,xs,rel,dd⟩:=Ky I.hok e;refine wpAny_in_heap (tupleKind_room_in1 hu) (LM I.hok eb) hd dd ?_;have q:=(rel.val k).isSome_eq;rw[pe] at q;rw[<-q,<-l];exact h _ (I.tok _)
theorem LN{h':vq}{t':Nat}{ob:HO}(I:Inv X pins σ H s)(mu:Mut (H a))(hs:lx a s.heap h')(he:∃q,h'.get? a=some q)(new:Br X.prog X.w (upd H a ob) h' a ob):
   Inv X pins σ (upd H a ob) { s with heap:=h',toks:=t' }:=
 I.write (x:=a) (e:=a) mu (.inl rfl) (λb q hb z=>(hs.2 b hb).trans z) he new
theorem Qm{P:uK}{w:uL}{H':Hp}{h':vq}{kvs:List (Key×V)}{vs:List (Key×uG)}(z:kvs.length<=uU)(hd:(a==sysModules)=false)(rel:KV kvs vs)(dd:h'.DictOf (Ci P w) a vs):
   Br P w H' h' a (.dK kvs):=⟨z,hd,vs,rel,dd⟩
theorem lW{H':Hp}{Q:Unit->uI->Prop}(hu:A.units+1<vj)(I:Inv X pins σ H s)(g:DPut H a y v H')(ry:RelV y u)(rv:RelV v r)(h:∀s',Inv X pins σ H' s'->Q () s'):
   uY (vi X.prog X.w) A (setItem (.ref a) u r) Q E s:=by
 rcases g with ⟨kvs,k,e,ey,l,eH⟩ | ⟨kvs,k,b,e,ey,eb,l,eH⟩
 . subst ey eH;obtain⟨z,hd,vs,rel,dd⟩:=LL I.hok e;have hz:vs.length<=uU:=by rw[<-rel.length];exact z
   have hl:(xn kvs k v).length<=uU:=by have:=Ta kvs k v;omega
   refine wpAny_setItem_pairs (hsz:=hz) (Hd ry) dd λh' dd' hs=>h _ ?_;have he:∃q,h'.get? a=some q:=let ⟨q,_,_,hq,_⟩:=dd';⟨q,hq⟩;exact LN I (by rw[e];exact bh) hs he (Qm hl hd (rel.put k rv) dd')
 . subst ey eH;cases (show u=Value.ref b from ry);obtain⟨z,hd,xs,rel,dd⟩:=dt_of I.hok e;have hz:xs.length<=uU:=by rw[<-Paired.length rel];exact z
   have hl:(xn kvs k v).length<=uU:=by have:=Ta kvs k v;omega
   refine wpAny_setItem_heap (hsz:=hz) (tupleKind_room_in1 hu) (LM I.hok eb) dd λh' dd' hs=>h _ ?_;obtain⟨q,es,ep,hq,h2,h3,h4,_,h5⟩:=dd';refine LN I (by rw[e];exact bh) hs ⟨q,hq⟩ ⟨hl,hd,_,(rel.put k eb rv).keeps λc ys ec=>?_,q,es,ep,hq,h2,h3,h4,h5⟩;rw[AI (ne_of ec e (λz=>nomatch z))];exact ec
end
section
variable {X:Cx}{pins:List (uH×Obj)}{σ:St}{H:Hp}{s:uI}{a:uH}{kvs:List (Key×V)}{k:Key}{u:uG}{A:uM}{E:uG->uI->Prop}
theorem zX{Q:Unit->uI->Prop}(I:Inv X pins σ H s)(e:H a=some (.dK kvs))(ry:RelV (kV k) u)(l:(wW kvs k).isSome=true)(h:∀s',Inv X pins σ (upd H a (.dK (Ck kvs k))) s'->Q () s'):
   uY (vi X.prog X.w) A (delItem (.ref a) u) Q E s:=by
 obtain⟨z,hd,vs,rel,dd⟩:=LL I.hok e;refine wpAny_delItem_slot dd.typeIs (by decide) lb
   (call_meetsIn lb dd.typeIs PySem.F.entry_dict_delitem (PySem.F.args_dict_delitem_2 _ _) (meets_dict_delitem_pairs (Ci X.prog X.w) a (Hd ry)) ⟨vs,dd,by rw[<-rel.length];exact z,by rw[<-(rel.val k).isSome_eq];exact l,λh' dd' hs=>h _ ?_⟩)
 have he:∃q,h'.get? a=some q:=let ⟨q,_,_,hq,_⟩:=dd';⟨q,hq⟩;exact LN I (by rw[e];exact bh) hs he (Qm (de (Tb kvs k) z) hd (rel.drop k) dd')
theorem d_pop{v:V}{more:List uG}{Q:uG->uI->Prop}(I:Inv X pins σ H s)(e:H a=some (.dK kvs))(ry:RelV (kV k) u)(l:wW kvs k=some v)(hm:more=[]\/∃x,more=[x])
   (h:∀w' s',Inv X pins σ (upd H a (.dK (Ck kvs k))) s'->RelV v w'->Q w' s'):uY (vi X.prog X.w) A (call (.builtin "dict.pop") (.ref a::u::more)) Q E s:=by
 obtain⟨z,hd,vs,rel,dd⟩:=LL I.hok e;obtain⟨w',hw,rw'⟩:=RelO.some_of (v:=v) (o:=valueAt vs k) (by rw[<-l];exact rel.val k);have hp:(keyPart u).isSome=true:=by
   cases k with
   | inl i=>obtain⟨t,q⟩:=(show ∃t,u=Value.int i t from ry);subst q;rfl
   | inr x=>obtain⟨t,q⟩:=(show ∃t,u=Value.str x t from ry);subst q;rfl
 have ha:argsOk "dict.pop" ⟨.ref a::u::more,[]⟩:=by
   rcases hm with q | ⟨x,q⟩
   . subst q;exact PySem.F.args_dict_pop_2 _ _
   . subst q;exact PySem.F.args_dict_pop_3 _ _ _
 refine call_meetsIn mx dd.typeIs PySem.F.entry_dict_pop ha (meets_dict_pop_there (Ci X.prog X.w) a (Hd ry) more hm hp)
   ⟨vs,w',dd,by rw[<-rel.length];exact z,hw,λh' dd' hs=>h w' _ ?_ rw'⟩
 have he:∃q,h'.get? a=some q:=let ⟨q,_,_,hq,_⟩:=dd';⟨q,hq⟩;exact LN I (by rw[e];exact bh) hs he (Qm (de (Tb kvs k) z) hd (rel.drop k) dd')
theorem lX{Q:uG->uI->Prop}(I:Inv X pins σ H s)(e:H a=some (.dK kvs))(h:∀s',Inv X pins σ (upd H a (.dK [])) s'->Q .none s'):uY (vi X.prog X.w) A (call (.builtin "dict.clear") [.ref a]) Q E s:=by
 obtain⟨z,hd,vs,rel,dd⟩:=LL I.hok e;refine call_meetsIn lr dd.typeIs PySem.F.entry_dict_clear (PySem.F.args_dict_clear_1 _) (meets_dict_clear (Ci X.prog X.w) a) ⟨vs,dd,by rw[<-rel.length];exact z,λh' dd' hs=>h _ ?_⟩;have he:∃q,h'.get? a=some q:=let ⟨q,_,_,hq,_⟩:=dd';⟨q,hq⟩;exact LN (t':=s.toks) I (by rw[e];exact bh) hs he (Qm (dz _) hd .nil dd')
theorem d_len{Q:uG->uI->Prop}(I:Inv X pins σ H s)(e:Rd H a (.dK kvs))(h:∀t s',Inv X pins σ H s'->Q (.int kvs.length t) s'):uY (vi X.prog X.w) A (call (.builtin "len") [.ref a]) Q E s:=by
 obtain⟨z,hd,vs,rel,dd⟩:=Gz I.hok e;refine call_len_dict hd dd (by rw[<-rel.length];rw[sizeLine_eq] at z;omega) ?_;rw[<-rel.length];exact h _ _ (I.tok _)
theorem yn{Q:Bool->uI->Prop}(I:Inv X pins σ H s)(e:Rd H a (.dK kvs))(h:∀s',Inv X pins σ H s'->Q (!kvs.isEmpty) s'):uY (vi X.prog X.w) A (truthy (.ref a)) Q E s:=by
 obtain⟨z,hd,vs,rel,dd⟩:=Gz I.hok e;refine wpAny_truthy_dict hd dd (by rw[<-rel.length];rw[sizeLine_eq] at z;omega) ?_;have q:kvs.isEmpty=vs.isEmpty:=by cases rel <;> rfl
 rw[<-q];exact h _ (I.tok _)
end
def NoSl(i:uN):Prop:=∀ov iv,subscripted i false ov iv=operate [ov,iv] (getItem ov iv)
theorem xL{prog:uK}{w:uL}{A:uM}{E:uG->uI->Prop}{s:uI}{env:vt}{value slice:uN}{pos:Pos}{T id:String}{Q:uG->uI->Prop}
   (hl:typeLookup (.type T) "__getitem__"=pure (some (.builtin id))) (hs:NoSl slice)
   (h:uY (vi prog w) A (vh value env) (λo s₁=>uY (vi prog w) A (vh slice env) (λi s₂=>s₂.TypeIs o T/\uY (vi prog w) A (getItem o i) Q E s₂) E s₁) E s):
   uY (vi prog w) A (vh (.Subscript value slice pos) env) Q E s:=by
 refine Subscript_ (uX h (λo s₁ h₁=>uX h₁ (λi s₂ h₂=>?_) λ_ _ x=>x) λ_ _ x=>x);obtain⟨hT,h₂⟩:=h₂;unfold subscriptTail;refine uV ?_;rw[getitemInPython_of_ne hT.not_modules];refine uV (wpAny_specialOf hT hl ?_);have fin:uY (vi prog w) A (subscripted slice false o i) (λr s₃=>uY (vi prog w) A (letTemporaryGo value o r >>= λ_=>pure r) Q E s₃) E s₂:=by
   rw[hs o i];exact wpAny_operating (uX h₂ (λr s₃ h₃=>uV (wpAny_letTemporaryGo (uW h₃))) λ_ _ x=>x)
 first
   | exact uW (uV fin)
   | exact uV (uW (uV fin))
   | exact uV fin
theorem lY{X:Cx}{pins:List (uH×Obj)}{σ:St}{H:Hp}{s:uI}{a:uH}{y:V}{o:Option V}(I:Inv X pins σ H s)(g:DGet H a y o):s.TypeIs (.ref a) "dict":=by
 rcases g with ⟨kvs,k,e,_,_⟩ | ⟨kvs,k,b,e,_,_,_⟩
 . obtain⟨_,_,vs,_,dd⟩:=Gz I.hok e;exact dd.typeIs
 . obtain⟨_,_,xs,_,dd⟩:=Ky I.hok e;exact dd.typeIs
def yM(td ty:TE):TE:=λσ H Q=>td σ H λx H1=>ty σ H1 λy H2=>∃a v,x = .ref a/\DGet H2 a y (some v)/\Q v H2
def tDIn(ty td:TE):TE:=λσ H Q=>ty σ H λy H1=>td σ H1 λx H2=>∃a o,x = .ref a/\DGet H2 a y o/\Q (.bl o.isSome) H2
def zb(td ty tv:TE):TS:=λD σ H=>tv σ H λv H1=>td σ H1 λx H2=>ty σ H2 λy H3=>∃a H4,x = .ref a/\DPut H3 a y v H4/\D.nx σ H4
section
variable {X:Cx}{o i e value:uN}{pos pos' tpos:Pos}{td ty tv:TE}
theorem Qn(hu:X.A.units+1<vj)(ho:PE X o td)(hi:PE X i ty)(hs:NoSl i):PE X (.Subscript o i pos) (yM td ty):=by
 intro pins s σ H Q I h;refine xL PySem.F.slot_dict_getitem.lookup hs (thn (ho pins s σ H _ I h) λu s1 ⟨x,H1,I1,rx,q1⟩=>thn (hi pins s1 σ H1 _ I1 q1) λiv s2 hZ=>?_);obtain⟨y,H2,I2,ry,a,v,ex,g,q2⟩:=hZ;subst ex;obtain rfl:u=Value.ref a:=rx;exact⟨lY I2 g,lV hu I2 g ry λw' s3 I3 rw'=>⟨v,H2,I3,rw',q2⟩⟩
theorem zp(hu:X.A.units+1<vj)(hi:PE X i ty)(ho:PE X o td):PC X .In i o (tDIn ty td):=by
 intro pins s σ H Q I h;refine thn (hi pins s σ H _ I h) λiv s1 ⟨y,H1,I1,ry,q1⟩=>thn (ho pins s1 σ H1 _ I1 q1) λu s2 hZ=>?_;obtain⟨x,H2,I2,rx,a,ov,ex,g,q2⟩:=hZ;subst ex;obtain rfl:u=Value.ref a:=rx;exact d_in hu I2 g ry λs3 I3=>⟨.bl ov.isSome,H2,I3,rfl,q2⟩
theorem aX(hu:X.A.units+1<vj)(ho:PE X o td)(hi:PE X i ty)(hv:PE X value tv)(hs:swapsWith value (some (.Subscript o i pos')) pos.line X.env=pure false):
   PS X (.Assign [.Subscript o i pos'] value pos) (zb td ty tv):=by
 intro pins s σ H D I h;refine wpAny_Assign_Subscript (thn (hv pins s σ H _ I h) λr s1 ⟨v,H1,I1,rv,q1⟩=>thn (ho pins s1 σ H1 _ I1 q1) λu s2 ⟨x,H2,I2,rx,q2⟩=>thn (hi pins s2 σ H2 _ I2 q2) λiv s3 hZ=>?_) hs;obtain⟨y,H3,I3,ry,a,H4,ex,g,q3⟩:=hZ;subst ex;obtain rfl:u=Value.ref a:=rx;exact lW hu I3 g ry rv λs4 I4=>⟨σ,H4,I4,q3⟩
end
theorem lZ{P:uK}{w:uL}{H:Hp}(h:vq)(hb:sysModules<h.objs.size):Br P w H (h.push { cls:=.type "dict",data:=.dict #[] }) h.objs.size (.dK []):=
 ⟨dz _,beq_eq_false_iff_ne.mpr (dn (bu hb)),[],.nil,Heap.DictOf.new h⟩
def aY:TE:=λ_ H Q=>∀p,H p=none->Q (.ref p) (upd H p (.dK []))
section
variable {X:Cx}{pos:Pos}
theorem aZ:PE X (.Dict [] [] pos) aY:=λpins s σ H Q I h=>
 wpAny_Dict_empty ⟨.ref s.heap.objs.size,_,I.laid (a:=s.heap.objs.size) (o:=.dK []) (t':=s.toks) (λ_ _ q=>Γ _ q) (ψ _) (lZ s.heap I.big),rfl,h _ (I.hok.fresh (ψ _))⟩
end
structure M1(X:Cx)(o:uN)(m:Str)(apos:Pos)(e:uN)(cpos:Pos):Prop where
 base:attributeBase o m X.env (vh o X.env)=vh o X.env
 few:((uZ cpos (uR [e] X.env)).all (λx=>!x.1)&&(backToKw cpos (keywordEach [] X.env)).all (λx=>x.1.isSome)
   && decide (([e]:List uN).length+([]:List Keyword).length+(if ([]:List Keyword).isEmpty then 0 else 1)<30))=true
 line:(apos.endLine==cpos.line)=true
 trees:uZ cpos (uR [e] X.env)=[(false,vh e X.env)]
structure M2(X:Cx)(o:uN)(m:Str)(apos:Pos)(e f:uN)(cpos:Pos):Prop where
 base:attributeBase o m X.env (vh o X.env)=vh o X.env
 few:((uZ cpos (uR [e,f] X.env)).all (λx=>!x.1)&&(backToKw cpos (keywordEach [] X.env)).all (λx=>x.1.isSome)
   && decide (([e,f]:List uN).length+([]:List Keyword).length+(if ([]:List Keyword).isEmpty then 0 else 1)<30))=true
 line:(apos.endLine==cpos.line)=true
 trees:uZ cpos (uR [e,f] X.env)=[(false,vh e X.env),(false,vh f X.env)]
def IsD(H:Hp)(a:uH):Prop:=(∃kvs,Rd H a (.dK kvs))\/∃kvs,Rd H a (.dT kvs)
theorem bA{X:Cx}{pins:List (uH×Obj)}{σ:St}{H:Hp}{s:uI}{a:uH}(I:Inv X pins σ H s)(d:IsD H a):
   s.TypeIs (.ref a) "dict"/\(∀b,Value.ref a = .ref b->∃ob,s.heap.get? b=some ob/\ob.dict=none)/\(a==sysModules)=false:=by
 rcases d with ⟨kvs,e⟩ | ⟨kvs,e⟩
 . obtain⟨_,hd,vs,_,dd⟩:=Gz I.hok e;refine⟨dd.typeIs,λb q=>?_,hd⟩;cases q;obtain⟨ob,_,_,h1,h2,_⟩:=dd;exact⟨ob,h1,h2.2.1⟩
 . obtain⟨_,hd,xs,_,dd⟩:=Ky I.hok e;refine⟨dd.typeIs,λb q=>?_,hd⟩;cases q;obtain⟨ob,_,_,h1,h2,_⟩:=dd;exact⟨ob,h1,h2.2.1⟩
section
variable {X:Cx}{pins:List (uH×Obj)}{σ:St}{H:Hp}{s:uI}{a:uH}{y d:V}{u r:uG}{o:Option V}{A:uM}{E:uG->uI->Prop}
theorem zW{Q:uG->uI->Prop}(hu:A.units+1<vj)(I:Inv X pins σ H s)(g:DGet H a y o)(ry:RelV y u)(h:∀w' s',Inv X pins σ H s'->RelV (o.getD .non) w'->Q w' s'):
   uY (vi X.prog X.w) A (call (.builtin "dict.get") [.ref a,u]) Q E s:=by
 rcases g with ⟨kvs,k,e,ey,l⟩ | ⟨kvs,k,b,e,ey,eb,l⟩
 . subst ey;obtain⟨z,hd,vs,rel,dd⟩:=Gz I.hok e;refine call_meetsIn jo dd.typeIs ma (lu _ _) (meets_dict_get (Ci X.prog X.w) a (Hd ry) hd) ⟨_,dd.mapOf,h _ _ (I.tok _) ?_⟩;rw[l];exact(rel.val k).getD rfl
 . subst ey;cases (show u=Value.ref b from ry);obtain⟨z,hd,xs,rel,dd⟩:=Ky I.hok e;refine call_meetsIn jo dd.typeIs ma (lu _ _) (meetsH_dict_get (tupleKind (Ci X.prog X.w)) a b hd) ⟨tupleKind_room_in1 hu,k,xs,LM I.hok eb,dd,h _ _ (I.tok _) ?_⟩;rw[l];exact(rel.val k).getD rfl
end
def bB(td ty:TE):TE:=λσ H Q=>td σ H λx H1=>∃a,x = .ref a/\IsD H1 a/\ty σ H1 λy H2=>∃o,DGet H2 a y o/\Q (o.getD .non) H2
def bC(td ty:TE):TE:=λσ H Q=>td σ H λx H1=>∃a,x = .ref a/\IsD H1 a/\ty σ H1 λy H2=>∃kvs k v,H2 a=some (.dK kvs)/\y=kV k/\wW kvs k=some v/\Q v (upd H2 a (.dK (Ck kvs k)))
section
variable {X:Cx}{o e f:uN}{apos cpos:Pos}{td ty tx:TE}
theorem bD(hu:X.A.units+1<vj)(ho:PE X o td)(he:PE X e ty)(m:M1 X o "get" apos e cpos):PE X (.Call (.Attribute o "get" apos) [e] [] cpos) (bB td ty):=by
 intro pins s σ H Q I h;refine wpAny_Call_method m.base m.few m.line jd jo PySem.F.type_dict_get (thn (ho pins s σ H _ I h) λu s1 hZ=>?_);obtain⟨x,H1,I1,rx,a,ex,d,q1⟩:=hZ;subst ex;obtain rfl:u=Value.ref a:=rx;obtain⟨t1,t2,_⟩:=bA I1 d;refine⟨t1,t2,?_⟩;rw[m.trees];refine ic rfl (io (kt (thn (he pins s1 σ H1 _ I1 q1) λiv s2 ⟨y,H2,I2,ry,ov,g,q2⟩=>lg ?_)));exact zW hu I2 g ry λw' s3 I3 rw'=>⟨_,H2,I3,rw',q2⟩
theorem bE(ho:PE X o td)(he:PE X e ty)(m:M1 X o "pop" apos e cpos):PE X (.Call (.Attribute o "pop" apos) [e] [] cpos) (bC td ty):=by
 intro pins s σ H Q I h;refine wpAny_Call_method m.base m.few m.line jd mx PySem.F.type_dict_pop (thn (ho pins s σ H _ I h) λu s1 hZ=>?_);obtain⟨x,H1,I1,rx,a,ex,d,q1⟩:=hZ;subst ex;obtain rfl:u=Value.ref a:=rx;obtain⟨t1,t2,_⟩:=bA I1 d;refine⟨t1,t2,?_⟩;rw[m.trees];refine ic rfl (io (kt (thn (he pins s1 σ H1 _ I1 q1) λiv s2 ⟨y,H2,I2,ry,kvs,k,v,ea,ey,l,q2⟩=>lg ?_)));subst ey;exact d_pop I2 ea ry l (.inl rfl) λw' s3 I3 rw'=>⟨v,_,I3,rw',q2⟩
end
section
variable {X:Cx}{pins:List (uH×Obj)}{σ:St}{H:Hp}{s:uI}{a:uH}{kvs:List (Key×V)}{A:uM}{E:uG->uI->Prop}
end
section
variable {X:Cx}{pins:List (uH×Obj)}{σ:St}{H:Hp}{s:uI}{a:uH}{y:V}{u:uG}{A:uM}{E:uG->uI->Prop}
end
section
variable {X:Cx}
theorem bG:D4 X (.builtin "len") (λxs H Q=>∃a kvs,xs=[V.ref a]/\H a=some (.dK kvs)/\Q (.int kvs.length) H):=by
 intro pins s σ H xs us Q I r h;obtain⟨a,kvs,rfl,ha,q⟩:=h;obtain⟨u,rfl,ru⟩:=P5 r;cases ru;exact d_len I (.inl ha) λt s' I'=>⟨.int kvs.length,H,I',⟨t,rfl⟩,q⟩
end
section
variable {κ:Type}[DecidableEq κ]
theorem bH:∀{l:List κ}{k:κ},l.Nodup->¬k∈l->(l++[k]).Nodup
 | [],k,_,_=>by simp
 | a::r,k,h,hk=>by
   obtain⟨h1,h2⟩:=ce.mp h
   show (a::(r++[k])).Nodup
   refine ce.mpr ⟨λm=>?_,bH h2 λm=>hk (Φ.mpr (ku m))⟩
   rcases θ.mp m with q | q
   . exact h1 q
   . exact hk (Φ.mpr (π (υ.mp q).symm))
theorem mB{p:κ×V}{r:List (κ×V)}{k:κ}(e:p.1=k):Ck (p::r) k=Ck r k:=by
 unfold Ck;rw[bx,if_neg (by simp [e])]
theorem mC{p:κ×V}{r:List (κ×V)}{k:κ}(e:¬p.1=k):Ck (p::r) k=p::Ck r k:=by
 unfold Ck;rw[bx,if_pos (by simp [e])]
theorem mD{kvs:List (κ×V)}{k:κ}{p:κ×V}(h:p∈Ck kvs k):p∈kvs:=(cf.mp h).1
theorem Tc:∀{kvs:List (κ×V)} {k:κ},(kvs.map (·.1)).Nodup->((Ck kvs k).map (·.1)).Nodup
 | [],_,_=>ir
 | p::r,k,h=>by
   have h:(p.1::r.map (·.1)).Nodup:=h
   obtain⟨h1,h2⟩:=ce.mp h
   by_cases e:p.1=k
   . rw[mB e]
     exact Tc h2
   . rw[mC e]
     show (p.1::(Ck r k).map (·.1)).Nodup
     refine ce.mpr ⟨λm=>h1 ?_,Tc h2⟩
     obtain⟨q,hq,eq⟩:=aw.mp m
     exact aw.mpr ⟨q,mD hq,eq⟩
end
end L2
namespace Stow
open PySem L2 PyProof.Rows
variable{cs:List Int}{scope:uP}{i j:Nat}{k:Int}{ds:List Pc}{b:List Bool}{z:Pc}
def CShl(i j:Int):Prop:=0<=j/\j<=1000/\i.natAbs<2^220
section
variable {X:Cx}
theorem Td:OpR X (binaryOp .LShift) (rI CShl λi j=>.int (i*2^j.toNat)):=opI λi j _ _ _ _ _ hc q=>
 lshift_int hc.1 (by
   obtain⟨h0,h1,h2⟩:=hc
   have:=rl h2
   omega) q
end
theorem mE(n:Int):Builtin.bitOr (n*2) 1=n*2+1:=by
 rw[se];have e:Builtin.bitAnd (n*2) 1=(n*2)%2:=by rw[bitAnd_m1]
 rw[e];omega
section
variable {prog:uK}{w:uL}{A:uM}{R:Result->uI->Prop}{s:uI}
theorem mF{elt tgt src:uN}{cs:List uN}{sc:uP}{ps:Pos}{itv accv:uG}{ev:vt}(J:Nat->uI->Prop)
   (step:∀k t,J k t->uY (vi prog w) A (pyNext itv) (λr t1=>match r with
     | none=>R (.ok .next) t1
     | some x=>uY (vi prog w) A (letOwnedTupleGo tgt itv x) (λ_ t2=>uY (vi prog w) A (assign tgt ev x) (λ_ t3=>
         uY (vi prog w) A (forIn cs true λc r=>if r=true then do let ok <-isTrue c ev (vh c ev);pure (ForInStep.yield ok) else pure (ForInStep.yield r)) (λgood t4=>
           if good=true then uY (vi prog w) A (vh elt ev) (λy t5=>uY (vi prog w) A (call (.builtin "list.append") [accv,y]) (λ_ t6=>∃j,j<k/\J j t6) (notedBy (vi prog w) A ev λe t'=>R (.error e) t') t5) (notedBy (vi prog w) A ev λe t'=>R (.error e) t') t4
           else ∃j,j<k/\J j t4) (notedBy (vi prog w) A ev λe t'=>R (.error e) t') t3) (notedBy (vi prog w) A ev λe t'=>R (.error e) t') t2) (notedBy (vi prog w) A ev λe t'=>R (.error e) t') t1) (notedBy (vi prog w) A ev λe t'=>R (.error e) t') t)
   (k0:Nat) (j0:J k0 s):codeAny (vi prog w) A (.compLoop (.ListComp elt [⟨tgt,src,cs,0⟩] sc ps) 0 itv accv ev) R s:=by
 refine codeAny_loop rfl J (λk t hJ=>?_) k0 j0;show uY _ A ((compTurn (.ListComp elt [⟨tgt,src,cs,0⟩] sc ps) 0 itv accv ev).onRaise (λx=>do noteFrame x ev;theTreesLotGoes x)) _ _ t;refine wpAny_noted ?_;rw[compTurn_list];refine uV (wpAny_standAt (uV (uX (step k t hJ) (λr t1 g1=>?_) λ_ _ z=>z)));cases r with
 | none=>exact uW g1
 | some x=>
   refine uV (uX g1 (λ_ t2 g2=>?_) λ_ _ z=>z);refine uV (uX g2 (λ_ t3 g3=>?_) λ_ _ z=>z);refine uV (uX g3 (λgood t4 g4=>?_) λ_ _ z=>z);cases good with
   | false=>exact uW ⟨rfl,g4⟩
   | true=>exact uV (uV (uX g4 (λy t5 g5=>uV (uX g5 (λ_ t6 g6=>uW (uW ⟨rfl,g6⟩)) λ_ _ z=>z)) λ_ _ z=>z))
end
theorem Te{env:vt}:∀(names:List (Str×NameKind)) (acc:List (Str×uH)),(∀y∈names,y.2 = .free->∃c,env.cells.lookup y.1=some c)->(∀x c,acc.lookup x=some c->env.cells.lookup x=some c) ->
   ∃cl,(forIn names acc λx r=>(do let (name,kind):=x;if (kind==NameKind.free)=true then do let c <-cellOf env name;pure (ForInStep.yield ((name,c)::r)) else pure (ForInStep.yield r)):vo (List (Str×uH)))=pure cl /\
     (∀x c,cl.lookup x=some c->env.cells.lookup x=some c)/\(∀y∈names,y.2 = .free->∃c,cl.lookup y.1=some c)/\(∀x c,acc.lookup x=some c->∃c',cl.lookup x=some c')
 | [],acc,_,ha=>⟨acc,by simp,ha,λy hy=>by simp at hy,λx c e=>⟨c,e⟩⟩
 | (n,k)::r,acc,h,ha=>by
   by_cases hk:k = .free
   . obtain⟨c,hc⟩:=h (n,k) ω hk
     obtain⟨cl,e1,e2,e3,e4⟩:=Te r ((n,c)::acc) (λy hy=>h y (ρ _ hy)) (λx d e=>by
       by_cases hx:x=n
       . subst hx
         rw[im] at e
         cases e
         exact hc
       . rw[jt,show (x==n)=false by simpa using hx] at e
         exact ha x d e)
     refine⟨cl,?_,e2,λy hy hf=>?_,λx d e=>?_⟩
     . rw[qo]
       subst hk
       have ec:cellOf env n=pure c:=by unfold cellOf;rw[hc]
       simp only [beq_self_eq_true,if_true,ec,pure_bind]
       exact e1
     . rcases Φ.mp hy with z | z
       . subst z
         exact e4 n c (by rw[im])
       . exact e3 y z hf
     . by_cases hx:x=n
       . subst hx
         exact e4 x c (by rw[im])
       . exact e4 x d (by rw[jt,show (x==n)=false by simpa using hx];exact e)
   . obtain⟨cl,e1,e2,e3,e4⟩:=Te r acc (λy hy=>h y (ρ _ hy)) ha
     refine⟨cl,?_,e2,λy hy hf=>?_,e4⟩
     . rw[qo]
       have:(k==NameKind.free)=false:=by simpa using hk
       simp only [this,iw,if_false,pure_bind]
       exact e1
     . rcases Φ.mp hy with z | z
       . subst z
         exact absurd hf hk
       . exact e3 y z hf
theorem bI{env:vt}(h:∀y∈scope.names,y.2 = .free->∃c,env.cells.lookup y.1=some c):
   ∃cl,closureFor scope env=pure cl/\(∀x c,cl.lookup x=some c->env.cells.lookup x=some c)/\(∀y∈scope.names,y.2 = .free->∃c,cl.lookup y.1=some c):=by
 obtain⟨cl,e1,e2,e3,_⟩:=Te scope.names [] h (λx c e=>by simp at e);refine⟨cl,?_,e2,e3⟩;unfold closureFor;simp only [bind_pure] at *;exact e1
section
variable {X:Cx}
abbrev Cx.blockG(X:Cx)(scope:uP)(cl:List (Str×uH))(C:uH)(N:List Str)(s₀:uI)(H₀:Hp)(ex:List uH):Cx:=
 { X with N:=N,s₀:=s₀,H₀:=H₀,env:=compEnvC scope cl C X.env,outer:=X.stack,stack:=X.stack,ex:=ex,fn:=λ_=>false,pn:=[],xe:=λ_ _=>False }
theorem mG{pins:List (uH×Obj)}{σ:L2.St}{H:Hp}{s:uI}{cl:List (Str×uH)}{C:uH}{N:List Str}{fp:List uH}(I:Inv X pins σ H s)(hk:scope.kind = .function)(hC:s.heap.objs.size<=C)
   (hcl:∀x c,cl.lookup x=some c->X.env.cells.lookup x=some c) (hhas:∀y,(relabel scope X.env).names.lookup y=some .cell\/(relabel scope X.env).names.lookup y=some .free->∃c,cl.lookup y=some c)
   (ho:∀b∈fp,∃o,s.heap.get? b=some o/\∀v,o.data≠.cell v) (hf:∀b∈fp,xA X pins H b):
   (Cx.blockG X scope cl C N s H fp).Ok where
 mod:=I.ok.mod
 kind:=hk
 glob:=I.ok.glob
 blt:=I.ok.blt
 above:=hC
 inj:=λx y c e1 e2=>I.ok.inj x y c (hcl x c e1) (hcl y c e2)
 has:=λy e=>hhas y e
 cab:=λ_ _ e=>nomatch e
 hd:=I.ok.hd
 frames:=I.ok.frames
 stk:=.inl rfl
 exf:=λb hb=>⟨λz=>by
   obtain⟨o,e,_⟩:=ho b hb
   have:=ba (ad e) hC
   rw[z] at this
   exact dy _ this,λx c e=>(hf b hb).2.2.2.2.1 x c (hcl x c e)⟩
 bs:=I.bs
 bsz:=de I.ok.bsz I.sz
 noex:=λb o e hb=>by
   rcases(hf b hb).2.2.2.1 with z | z
   . exact I.ok.noex b o e z
   . exact absurd (ba (ad (I.ok.bs b o e).1) z) (dy _)
 exfs:=λb hb z=>by
   rcases Φ.mp (I.stkSub b z) with e | e
   . exact(hf b hb).2.1 e
   . exact(hf b hb).2.2.1 e
 funs:=I.stack
 frf:=I.stkFree
def LO(n:Nat)(fs:L2.St)(J:It)(g:TG)(tt:TT)(te:TE)(Q:VK)(H1:Hp):Prop:=∀D,H1 D=none->∃W:Nat->Nat->List V->Hp->Prop,(∃m,W 0 m [] (upd H1 D (.lst [])))/\∀i m ys H2,W i m ys H2 ->
 (J.stop i H2/\Q (.ref D) H2)\/(J.go i H2/\∀x H3,J.yld i H2 x H3->∀τ:L2.St,τ.length=n->g x (τ++fs) H3 λσ1 H4=>(∃τ':L2.St,τ'.length=n/\σ1=τ'++fs)/\tt σ1 H4 λb H5=>
   if b=true then te σ1 H5 λy H6=>H6 D=some (.lst ys)/\ys.length<uU/\∃m',m'<m/\W (i+1) m' (ys++[y]) (upd H6 D (.lst (ys++[y]))) else ∃m',m'<m/\W (i+1) m' ys H5)
def LP(n:Nat)(is:List Nat)(wi:TI)(g:TG)(tt:TT)(te:TE):TE:=λσ H Q=>wi σ H λJ H1=>LO n (is.map λk=>σ.getD k none) J g tt te Q H1
def He(X:Cx)(scope:uP)(F:List Str)(is:List Nat):Prop:=F.length=is.length/\∀(j:Nat)(y:Str)(k:Nat),F[j]?=some y->is[j]?=some k->X.N[k]?=some y/\X.env.kindOf y=some .cell/\(relabel scope X.env).names.lookup y=some .cell
theorem bJ{elt iter tg:uN}{pos:Pos}{ifs:List uN}{O F:List Str}{is:List Nat}{cl:List (Str×uH)}{g:TG}{tt:TT}{te:TE}{pins:List (uH×Obj)}{σ:L2.St}{s2:uI}{H2:Hp}{it:uH}{fp:List uH}{tn:Nat->vq->Prop}{J:It}{Q:VK}{RR:uG->uH->Result->uI->Prop}
   (hc:X.calm=true) (hkind:scope.kind = .function) (hcell:∀y∈scope.names,y.2≠.cell)
   (hcl:∀x c,cl.lookup x=some c->X.env.cells.lookup x=some c) (hhas:∀y,(relabel scope X.env).names.lookup y=some .cell\/(relabel scope X.env).names.lookup y=some .free->∃c,cl.lookup y=some c) (hF:He X scope F is)
   (hG:∀cl C s₀ H₀ ex,PG (Cx.blockG X scope cl C (O++F) s₀ H₀ ex) tg g) (hT:∀cl C s₀ H₀ ex,PTs (Cx.blockG X scope cl C (O++F) s₀ H₀ ex) ifs tt) (hE:∀cl C s₀ H₀ ex,PE (Cx.blockG X scope cl C (O++F) s₀ H₀ ex) elt te)
   (I2:Inv X pins σ H2 s2) (T:D_ X.prog X.w X.K tg J fp it tn) (st2:tn 0 s2.heap) (f2:∀b∈fp,xA X pins H2 b)
   (h:LO O.length (is.map λk=>σ.getD k none) J g tt te Q H2)
   (hRR:∀D C H' s',Inv X pins σ H' s'->xA X pins H' C->(∃m,s'.heap.Ns C m)->Q (.ref D) H'->RR (.ref D) C (.ok .next) s'):
   uY (vi X.prog X.w) X.A (newList []) (λacc s₃=>uY (vi X.prog X.w) X.A (newFunctionEnv scope X.env.globals cl [] X.env.qual none .none (some X.env)) (λcenv s₄=>
     codeAny (vi X.prog X.w) X.A (.compStart (.ListComp elt [⟨tg,iter,ifs,0⟩] scope pos) 0 (.ref it) acc { cenv with scope:=relabel scope X.env }) (RR acc cenv.locals) s₄) X.xe s₃) X.xe s2:=by
 refine wpAny_newObj_type (wpAny_newFunctionEnv hcell (by intro y hy;simp at hy) (λh₁ hns₁ hsb₁=>?_) hkind);dsimp only at hns₁ hsb₁ ⊢;generalize hG0:s2.heap.push { cls:=.type "list",dict:=none,data:=.seq ([]:List uG).toArray }=G at hns₁ hsb₁ ⊢;have hCs:G.objs.size=s2.heap.objs.size+1:=by rw[<-hG0,jf]
 have hDC:s2.heap.objs.size≠G.objs.size:=by rw[hCs];exact bu (jr _)
 have hCle:s2.heap.objs.size<=G.objs.size:=by rw[hCs];exact qj _
 have old:∀b o,s2.heap.get? b=some o->h₁.get? b=some o:=λb o e=>hsb₁.extBut b o (by rw[hCs];exact bu (lj (ad e))) (Γ _ (hG0▸Γ _ e));have eD:h₁.get? s2.heap.objs.size=some { cls:=.type "list",dict:=none,data:=.seq ([]:List uG).toArray }:=hsb₁.extBut _ _ hDC (Γ _ (hG0▸bc _ rfl));have nD:H2 s2.heap.objs.size=none:=I2.hok.fresh (ψ _);have nC:H2 G.objs.size=none:=I2.hok.fresh hCle;obtain⟨W,⟨m0,w0⟩,turn⟩:=h s2.heap.objs.size nD;generalize efs:(is.map λk=>σ.getD k none)=fs at turn;have fre:∀b∈fp,upd H2 s2.heap.objs.size (.lst []) b=none:=λb hb=>by
   obtain⟨o,e,_⟩:=T.obj _ _ st2 b hb;rw[AI (bu (ad e))];exact(f2 b hb).1
 have loop:∀s4:uI,s4={ s2 with heap:=h₁,toks:=s2.toks+([]:List (Str×uG)).length } ->
     codeAny (vi X.prog X.w) X.A (.compLoop (.ListComp elt [⟨tg,iter,ifs,0⟩] scope pos) 0 (.ref it) (.ref s2.heap.objs.size) (compEnvC scope cl G.objs.size X.env)) (RR (.ref s2.heap.objs.size) G.objs.size) s4:=by
   rintro s4 rfl;have ok:=mG (N:=O++F) I2 hkind hCle hcl hhas (T.obj _ _ st2) f2;have IB:Inv (Cx.blockG X scope cl G.objs.size (O++F) s2 H2 fp) [] (ο O.length none++fs) (upd H2 s2.heap.objs.size (.lst [])) { s2 with heap:=h₁,toks:=s2.toks+([]:List (Str×uG)).length }:=by
     refine⟨ok,rfl,I2.bare,Un.laid old (ψ _) nD,⟨_,hns₁,λi y v e1 e2 _=>?_⟩,(λx c e=>?_),?_,(λx c e=>?_),(λp hp=>nomatch hp),I2.hok.laid old (ψ _) ⟨dz _,[],0,.nil,eD⟩,?_⟩
     . have e1:(O++F)[i]?=some y:=e1;by_cases hi:i<O.length
       . rw[ξ (by rw[ag];exact hi),gu,if_pos hi] at e2;cases e2
       . rw[η (by omega)] at e1;rw[η (by rw[ag];omega),ag,<-efs,cr] at e2;obtain⟨k,ek,ev⟩:=dj.mp e2;obtain⟨g1,g2,g3⟩:=hF.2 _ _ _ e1 ek;have es:σ[k]?=some (some v):=by
           rw[au] at ev;cases q:σ[k]? with
           | none=>rw[q] at ev;cases ev
           | some z=>rw[q] at ev;exact congrArg some ev
         obtain⟨m,hm,hl⟩:=I2.loc;obtain⟨u,ru,lk⟩:=hl k y v g1 es (.inr (.inl g2));refine⟨u,ru,.inr ⟨.inl g3,?_⟩⟩;rcases lk with ⟨z,_⟩ | ⟨_,c,c1,o,c2,c3⟩
         . rw[g2] at z;cases z
         . obtain⟨c',e'⟩:=hhas y (.inl g3);have:=hcl y c' e';rw[c1] at this;cases this;exact⟨c,e',o,old c o c2,c3⟩
     . obtain⟨v,o,c2,c3⟩:=I2.cell x c (hcl x c e);exact⟨v,o,old c o c2,c3⟩
     . show upd H2 s2.heap.objs.size (.lst []) G.objs.size=none;rw[AI (dn hDC)];exact nC
     . obtain⟨v,o,c2,c3⟩:=I2.cell x c (hcl x c e);show upd H2 s2.heap.objs.size (.lst []) c=none;rw[AI (bu (ad c2))];exact I2.freeC x c (hcl x c e)
     . show (ο O.length none++fs).length=(O++F).length;rw[ι,ι,ag,<-efs,Ξ,hF.1]
   have stat:∀{H':Hp},(∀b∈fp,H' b=none)->∀b∈fp,xA (Cx.blockG X scope cl G.objs.size (O++F) s2 H2 fp) [] H' b:=λhn b hb=>
     ⟨hn b hb,(ok.exf b hb).1,ok.exfs b hb,.inl hb,(ok.exf b hb).2,(λp hp=>nomatch hp)⟩
   refine mF (λn s'=>∃i ys τ H',Inv (Cx.blockG X scope cl G.objs.size (O++F) s2 H2 fp) [] (τ++fs) H' s'/\τ.length=O.length/\tn i s'.heap/\(∀b∈fp,H' b=none)/\W i n ys H') ?_ m0
     ⟨0,[],_,_,IB,ag,T.keep _ _ _ st2 λb _ o e=>old b o e,fre,w0⟩
   rintro n s3 ⟨i,ys,τ,H3,I3,hτ,st3,fr3,w3⟩;rcases turn i n ys H3 w3 with ⟨stop,q⟩ | ⟨go,step⟩
   . refine uX (T.done (Cx.blockG X scope cl G.objs.size (O++F) s2 H2 fp) rfl rfl rfl hc i [] s3 (τ++fs) H3 (λ_ _=>False) I3 (stat fr3) st3 stop) (λr s4 hZ=>?_) (λ_ _ z=>z.elim);obtain⟨hr,I4⟩:=hZ;subst hr;obtain⟨m,hn,_⟩:=I4.loc;refine hRR _ G.objs.size H3 s4 (I2.call' (ch:=fp) I4.os I4.base I4.hok I4.bare λb hb=>?_) (I2.fpOk hCle I4.free) ⟨m,hn⟩ q;obtain⟨g0,g1,g2,g3,g4,g5⟩:=f2 b hb;exact⟨g3,g1,g4,g5⟩
   . refine uX (T.item (Cx.blockG X scope cl G.objs.size (O++F) s2 H2 fp) rfl rfl rfl hc i [] s3 (τ++fs) H3 (λ_ _=>False) I3 (stat fr3) st3 go) (λr s4 hZ=>?_) (λ_ _ z=>z.elim);obtain⟨u,hr,h4⟩:=hZ;subst hr;refine uX h4 (λ_ s5 hZ=>?_) (λ_ _ z=>z.elim);obtain⟨v,H5,I5,r5,y5,st5,fr5⟩:=hZ;have I5':=I5.pinned (stat fr5) (T.obj _ _ st5);refine uX (hG _ _ _ _ _ _ s5 (τ++fs) H5 v u _ I5' r5 (step v H5 y5 τ hτ)) (λ_ s6 hZ=>?_) (λ_ _ z=>z.elim);obtain⟨σ6,H6,I6,⟨τ',hτ',e6⟩,q6⟩:=hZ;subst e6;have again:∀{s7:uI}{H7:Hp}{ys':List V}{m':Nat},Inv (Cx.blockG X scope cl G.objs.size (O++F) s2 H2 fp) ([]++Lw fp s5.heap) (τ'++fs) H7 s7->m'<n->W (i+1) m' ys' H7 ->
         ∃m,m<n/\∃i ys τ H',Inv (Cx.blockG X scope cl G.objs.size (O++F) s2 H2 fp) [] (τ++fs) H' s7/\τ.length=O.length/\tn i s7.heap/\(∀b∈fp,H' b=none)/\W i m ys H':=λ{s7 H7 ys' m'} I7 hm w7=>by
       refine⟨m',hm,i+1,ys',τ',H7,I7.unpinned,hτ',T.keep _ _ _ st5 λb hb o e=>(I7.pin (b,o) (ζ _ (ζ _ (P3 hb e)))).1,λb hb=>?_,w7⟩;obtain⟨o,e,_⟩:=T.obj _ _ st5 b hb;exact(I7.pin (b,o) (ζ _ (ζ _ (P3 hb e)))).2.1
     refine uX (hT _ _ _ _ _ _ s6 (τ'++fs) H6 _ I6 q6) (λb s7 hZ=>?_) (λ_ _ z=>z.elim);obtain⟨H7,I7,q7⟩:=hZ;cases b with
     | false=>
       obtain⟨m',hm,w7⟩:=q7;exact again I7 hm w7
     | true=>
       rw[if_pos rfl];refine uX (hE _ _ _ _ _ _ s7 (τ'++fs) H7 _ I7 q7) (λy' s8 hZ=>?_) (λ_ _ z=>z.elim);obtain⟨y,H8,I8,ry,hD,hz,m',hm,w8⟩:=hZ;refine uX (Kw (X:=Cx.blockG X scope cl G.objs.size (O++F) s2 H2 fp) _ s8 (τ'++fs) H8 (.ref s2.heap.objs.size) [y] (.ref s2.heap.objs.size) [y'] (λ_ H9=>H9=upd H8 s2.heap.objs.size (.lst (ys++[y]))) I8 rfl (.cons ry .nil) ⟨s2.heap.objs.size,ys,y,rfl,rfl,hD,hz,rfl⟩) (λ_ s9 hZ=>?_) (λ_ _ z=>z.elim);obtain⟨_,H9,I9,_,e9⟩:=hZ;subst e9;exact again I9 hm w8
 exact codeAny_compStart_list (loop _ rfl) (T.self _ 0 _ _ _ (T.keep _ _ _ st2 λb _ o e=>old b o e) (loop _ rfl))
theorem Hf{elt iter tg:uN}{pos:Pos}{ifs:List uN}{wi:TI}{g:TG}{tt:TT}{te:TE}(O F:List Str)(is:List Nat)(hc:X.calm=true)(hi:PI X tg iter wi)
   (hG:∀cl C s₀ H₀ ex,PG (Cx.blockG X scope cl C (O++F) s₀ H₀ ex) tg g) (hT:∀cl C s₀ H₀ ex,PTs (Cx.blockG X scope cl C (O++F) s₀ H₀ ex) ifs tt) (hE:∀cl C s₀ H₀ ex,PE (Cx.blockG X scope cl C (O++F) s₀ H₀ ex) elt te)
   (hF:He X scope F is) (hfc:∀y∈scope.names,y.2 = .free->X.env.kindOf y.1=some .cell) (hrl:∀y,(relabel scope X.env).names.lookup y=some .cell\/(relabel scope X.env).names.lookup y=some .free->∃z∈scope.names,z.1=y/\z.2 = .free)
   (hkind:scope.kind = .function:=by rfl) (hcell:∀y∈scope.names,y.2≠.cell:=by decide +kernel)
   (hnames:∀y∈scope.names,y.2 = .local->scope.names.lookup y.1=some .local:=by decide +kernel) (hs:∀y,foldedSetIterable iter X.env y=pure y:=by intro _;rfl):
   PE X (.ListComp elt [⟨tg,iter,ifs,0⟩] scope pos) (LP O.length is wi g tt te):=by
 intro pins s σ H Q I h;rw[eval_ListComp];obtain⟨cl,hcf,hcl,hca⟩:=bI (scope:=scope) (env:=X.env) λy hy hf=>I.ok.has y.1 (.inl (hfc y hy hf));refine wpAny_comprehension_free (use:=none) (cl:=cl) rfl hs hcf hkind hnames (uX (hi pins s σ H _ I h) (λv s1 h1=>uX h1 (λitv s2 h2=>?_) λ_ _ e=>e) λ_ _ e=>e);obtain⟨it,fp,tn,J,H2,e,I2,T,st2,f2,R2⟩:=h2;subst e;refine bJ (O:=O) (F:=F) (is:=is) (Q:=Q) (RR:=λacc C=>compPost (vi X.prog X.w) X.A X.xe none (EP X pins σ Q) acc C) hc hkind hcell hcl (λy hy=>?_) hF hG hT hE I2 T st2 f2 R2 ?_
 . obtain⟨z,hz,e1,e2⟩:=hrl y hy;subst e1;exact hca z hz e2
 . rintro D C H' s' I' f' ⟨m,hn⟩ q;obtain⟨f0,f1,f2',f3,f4,f5⟩:=f';refine⟨m,hn,λh' sb=>⟨.ref D,H',I'.turned (t':=s'.toks) (λb o hb e=>(sb.2 b hb).trans e) f0 f1 f3 f4 f5,rfl,q⟩⟩
theorem Kz{elt iter tg:uN}{y:Str}{py pos spos:Pos}{ifs:List uN}{wi:TI}{g:TG}{tt:TT}{te:TE}(O F:List Str)(is:List Nat)(hN:X.N.Nodup)(hi0:X.N[i]?=some y)(hy:Loc X.env.scope y)(hc:X.calm=true)(hi:PI X tg iter wi)
   (hG:∀cl C s₀ H₀ ex,PG (Cx.blockG X scope cl C (O++F) s₀ H₀ ex) tg g) (hT:∀cl C s₀ H₀ ex,PTs (Cx.blockG X scope cl C (O++F) s₀ H₀ ex) ifs tt) (hE:∀cl C s₀ H₀ ex,PE (Cx.blockG X scope cl C (O++F) s₀ H₀ ex) elt te)
   (hF:He X scope F is) (hfc:∀y∈scope.names,y.2 = .free->X.env.kindOf y.1=some .cell) (hrl:∀y,(relabel scope X.env).names.lookup y=some .cell\/(relabel scope X.env).names.lookup y=some .free->∃z∈scope.names,z.1=y/\z.2 = .free)
   (hsw:swapsWith (.ListComp elt [⟨tg,iter,ifs,0⟩] scope pos) (some (.Name y py)) spos.line X.env=pure true:=by rfl)
   (hkind:scope.kind = .function:=by rfl) (hcell:∀y∈scope.names,y.2≠.cell:=by decide +kernel)
   (hnames:∀y∈scope.names,y.2 = .local->scope.names.lookup y.1=some .local:=by decide +kernel) (hs:∀y,foldedSetIterable iter X.env y=pure y:=by intro _;rfl)
   (hf:X.fn y=true\/X.env.scope.names.lookup y=some .local:=by first | exact .inl rfl | exact .inr rfl | assumption):
   PS X (.Assign [.Name y py] (.ListComp elt [⟨tg,iter,ifs,0⟩] scope pos) spos) (yD (LP O.length is wi g tt te) (GY i)):=by
 intro pins s σ H D I h;rw[exec_Assign_Name_used _ _ _ _ hsw];obtain⟨cl,hcf,hcl,hca⟩:=bI (scope:=scope) (env:=X.env) λy hy hf=>I.ok.has y.1 (.inl (hfc y hy hf));refine uV (wpAny_standAt (uV ?_));show uY _ X.A (do let _ <-comprehension (.ListComp elt [⟨tg,iter,ifs,0⟩] scope pos) scope X.env _ (newList []) false (vh iter X.env) (some (assign (.Name y py) X.env))) _ _ s;refine uV (uX (wpAny_comprehension_free (use:=some (assign (.Name y py) X.env)) (cl:=cl) (Q:=λ_ s'=>SP X pins D .next s') rfl hs hcf hkind hnames
   (uX (hi pins s σ H _ I h) (λv s1 h1=>uX h1 (λitv s2 h2=>?_) λ_ _ e=>e) λ_ _ e=>e)) (λ_ s' hq=>uW (uW hq)) λ_ _ e=>e)
 obtain⟨it,fp,tn,J,H2,e,I2,T,st2,f2,R2⟩:=h2;subst e;refine bJ (O:=O) (F:=F) (is:=is) (Q:=λv H1=>GY i v σ H1 D.nx) (RR:=λacc C=>compPost (vi X.prog X.w) X.A X.xe (some (assign (.Name y py) X.env)) (λ_ s'=>SP X pins D .next s') acc C) hc hkind hcell hcl (λy hy=>?_) hF hG hT hE I2 T st2 f2 R2 ?_
 . obtain⟨z,hz,e1,e2⟩:=hrl y hy;subst e1;exact hca z hz e2
 . rintro D' C H' s' I' f' ⟨m,hn⟩ q;obtain⟨f0,f1,f2',f3,f4,f5⟩:=f';show uY _ X.A (assign (.Name y py) X.env (.ref D')) _ _ _;refine wpAny_assign_Name (ZG I' hN hi0 hy (v:=.ref D') rfl (λs'' I'' hZ=>?_) hf);obtain⟨a,sb,ha⟩:=hZ;have ne:C≠a:=by
     rcases ha with e | e
     . rw[e];exact f1
     . exact λz=>f4 _ _ e z.symm
   exact⟨m,hn.sameBut sb ne,λh' sb'=>⟨_,H',I''.turned (t':=s''.toks) (λb o hb e=>(sb'.2 b hb).trans e) f0 f1 f3 f4 f5,q⟩⟩
theorem Hg{K:δ}(hK:X.K=K):IxR X (rIxT K):=hK▸AG
theorem Tf{K:δ}(hK:X.K=K):IxR X (zj K):=hK▸AY
theorem EH{K:δ}{es:List uN}{k:Nat}{t:TGs}{n:Nat}{pos:Pos}(hK:X.K=K)(hc:X.calm=true)(h:PGs X es t)
   (hn:(assignEach es X.env).length=n:=by rfl) (hst:(assignEach es X.env).findIdx? (·.1)=none:=by rfl):PG X (.Tuple es k pos) (gTup K n t):=hK▸DS hc h hn hst
theorem LQ{K:δ}{a:uN}{ta:TE}(hK:X.K=K)(ha:PE X a ta)(he:∀whole,isTrue a X.env whole=(do let v <-whole;standAt a.pos;holding [v] (truthy v))):PT X a (λσ H Q=>ta σ H λx H'=>∃k,E_ K x H' k/\Q k H'):=by
 subst hK;exact BV ha he
theorem DQ{env:vt}{y:Str}(hcell:∀z∈scope.names,z.2≠.cell)(h:(relabel scope env).names.lookup y=some .cell\/(relabel scope env).names.lookup y=some .free):∃z∈scope.names,z.1=y/\z.2 = .free:=by
 have key:∀(l:List (Str×NameKind)) (k:NameKind),l.lookup y=some k->(y,k)∈l:=by
   intro l k
   induction l with
   | nil=>intro e;cases e
   | cons p r ih=>
     intro e;obtain⟨n,k'⟩:=p;rw[jt] at e;cases hb:y==n with
     | true=>
       rw[hb] at e;cases e;rw[eq_of_beq hb];exact ω
     | false=>rw[hb] at e;exact ρ _ (ih e)
 have fin:∀k,(relabel scope env).names.lookup y=some k->k = .cell\/k = .free->∃z∈scope.names,z.1=y/\z.2 = .free:=λk e hk=>by
   obtain⟨z,hz,ez⟩:=aw.mp (key _ _ e);obtain⟨n,k0⟩:=z;dsimp only at ez
   split at ez
   . rename_i hc;simp only [df,beq_iff_eq] at hc;cases ez;exact⟨(y,k0),hz,rfl,hc.1.1⟩
   . cases ez;rcases hk with rfl | rfl
     . exact absurd rfl (hcell _ hz)
     . exact⟨_,hz,rfl,rfl⟩
 rcases h with h | h
 . exact fin _ h (.inl rfl)
 . exact fin _ h (.inr rfl)
theorem bK:He X scope [] []:=⟨rfl,λj y k e=>by simp at e⟩
theorem Hh{y:Str}{k:Nat}(h1:X.N[k]?=some y)(h2:X.env.kindOf y=some .cell)(h3:(relabel scope X.env).names.lookup y=some .cell):He X scope [y] [k]:=⟨rfl,λj z i e1 e2=>by
 cases j with
 | zero=>
   have g1:y=z:=by simpa using e1
   have g2:k=i:=by simpa using e2
   subst g1 g2;exact⟨h1,h2,h3⟩
 | succ j=>simp at e1⟩
theorem Tg{y y':Str}{k k':Nat}(h1:X.N[k]?=some y)(h1':X.N[k']?=some y')(h2:X.env.kindOf y=some .cell)(h2':X.env.kindOf y'=some .cell)(h3:(relabel scope X.env).names.lookup y=some .cell)(h3':(relabel scope X.env).names.lookup y'=some .cell):
   He X scope [y,y'] [k,k']:=⟨rfl,λj z i e1 e2=>by
 match j with
 | 0=>
   have g1:y=z:=by simpa using e1
   have g2:k=i:=by simpa using e2
   subst g1 g2
   exact⟨h1,h2,h3⟩
 | 1=>
   have g1:y'=z:=by simpa using e1
   have g2:k'=i:=by simpa using e2
   subst g1 g2
   exact⟨h1',h2',h3'⟩
 | j+2=>simp at e1⟩
theorem Hi{n:Str}(h:∀y∈scope.names,y.2 = .free->y.1=n)(k:X.env.kindOf n=some .cell):∀y∈scope.names,y.2 = .free->X.env.kindOf y.1=some .cell:=λy hy hf=>by rw[h y hy hf];exact k
theorem Th{n m:Str}(h:∀y∈scope.names,y.2 = .free->y.1=n\/y.1=m)(k:X.env.kindOf n=some .cell)(k':X.env.kindOf m=some .cell):∀y∈scope.names,y.2 = .free->X.env.kindOf y.1=some .cell:=λy hy hf=>by
 rcases h y hy hf with e | e
 . rw[e];exact k
 . rw[e];exact k'
theorem Ti{elt iter tg:uN}{pos:Pos}{ifs:List uN}{wi:TI}{g:TG}{tt:TT}{te:TE}(O:List Str)(hc:X.calm=true)(hi:PI X tg iter wi)
   (hG:∀cl C s₀ H₀ ex,PG (Cx.blockG X scope cl C (O++[]) s₀ H₀ ex) tg g) (hT:∀cl C s₀ H₀ ex,PTs (Cx.blockG X scope cl C (O++[]) s₀ H₀ ex) ifs tt) (hE:∀cl C s₀ H₀ ex,PE (Cx.blockG X scope cl C (O++[]) s₀ H₀ ex) elt te)
   (hfree:∀y∈scope.names,y.2≠.free:=by decide +kernel) (hkind:scope.kind = .function:=by rfl) (hcell:∀y∈scope.names,y.2≠.cell:=by decide +kernel)
   (hnames:∀y∈scope.names,y.2 = .local->scope.names.lookup y.1=some .local:=by decide +kernel) (hs:∀y,foldedSetIterable iter X.env y=pure y:=by intro _;rfl):
   PE X (.ListComp elt [⟨tg,iter,ifs,0⟩] scope pos) (LP O.length [] wi g tt te):=
 Hf O [] [] hc hi hG hT hE bK (λy hy hf=>absurd hf (hfree y hy)) (λy h=>DQ hcell h) hkind hcell hnames hs
theorem mH{elt iter tg:uN}{y:Str}{py pos spos:Pos}{ifs:List uN}{wi:TI}{g:TG}{tt:TT}{te:TE}(O:List Str)(hN:X.N.Nodup)(hi0:X.N[i]?=some y)(hy:Loc X.env.scope y)(hc:X.calm=true)(hi:PI X tg iter wi)
   (hG:∀cl C s₀ H₀ ex,PG (Cx.blockG X scope cl C (O++[]) s₀ H₀ ex) tg g) (hT:∀cl C s₀ H₀ ex,PTs (Cx.blockG X scope cl C (O++[]) s₀ H₀ ex) ifs tt) (hE:∀cl C s₀ H₀ ex,PE (Cx.blockG X scope cl C (O++[]) s₀ H₀ ex) elt te)
   (hsw:swapsWith (.ListComp elt [⟨tg,iter,ifs,0⟩] scope pos) (some (.Name y py)) spos.line X.env=pure true:=by rfl)
   (hfree:∀y∈scope.names,y.2≠.free:=by decide +kernel) (hkind:scope.kind = .function:=by rfl) (hcell:∀y∈scope.names,y.2≠.cell:=by decide +kernel)
   (hnames:∀y∈scope.names,y.2 = .local->scope.names.lookup y.1=some .local:=by decide +kernel) (hs:∀y,foldedSetIterable iter X.env y=pure y:=by intro _;rfl)
   (hf:X.fn y=true\/X.env.scope.names.lookup y=some .local:=by first | exact .inl rfl | exact .inr rfl | assumption):
   PS X (.Assign [.Name y py] (.ListComp elt [⟨tg,iter,ifs,0⟩] scope pos) spos) (yD (LP O.length [] wi g tt te) (GY i)):=
 Kz O [] [] hN hi0 hy hc hi hG hT hE bK (λy hy hf=>absurd hf (hfree y hy)) (λy h=>DQ hcell h) hsw hkind hcell hnames hs hf
end
section
variable {K:δ}{σ:L2.St}{H:Hp}{Q:VK}
theorem r_compG{n:Nat}{is:List Nat}{wi:TI}{g:TG}{tt:TT}{te:TE}(h:wi σ H λJ H1=>LO n (is.map λk=>σ.getD k none) J g tt te Q H1):LP n is wi g tt te σ H Q:=h
def Nx(n:Nat)(Pv:uH->Nat->List V->Hp->Prop)(D:uH)(i:Nat)(ys:List V)(H2:Hp):Prop:=∃m',m'<n-i/\m'=n-(i+1)/\i+1<=n/\Pv D (i+1) ys H2
theorem Bp{n:Nat}{Pv:uH->Nat->List V->Hp->Prop}{D:uH}{ys:List V}{H2:Hp}(hi:i<n)(p:Pv D (i+1) ys H2):Nx n Pv D i ys H2:=⟨_,by omega,rfl,hi,p⟩
theorem Dh{a:uH}{xs:List V}{n:Nat}{fs:L2.St}{g:TG}{tt:TT}{te:TE}(Pv:uH->Nat->List V->Hp->Prop)(h0:∀D,H D=none->Pv D 0 [] (upd H D (.lst [])))
   (hl:∀D i ys H2,i<=xs.length->Pv D i ys H2->SqL K H2 a xs)
   (hs:∀D i x ys H2,H D=none->xs[i]?=some x->Pv D i ys H2->∀τ:L2.St,τ.length=n->g x (τ++fs) H2 λσ1 H4=>(∃τ':L2.St,τ'.length=n/\σ1=τ'++fs)/\tt σ1 H4 λb H5=>
     if b=true then te σ1 H5 λy H6=>H6 D=some (.lst ys)/\ys.length<uU/\Nx xs.length Pv D i (ys++[y]) (upd H6 D (.lst (ys++[y]))) else Nx xs.length Pv D i ys H5)
   (hd:∀D ys H2,H D=none->Pv D xs.length ys H2->Q (.ref D) H2):LO n fs (Itl K a) g tt te Q H:=by
 intro D hD;refine⟨λi m ys H2=>m=xs.length-i/\i<=xs.length/\Pv D i ys H2,⟨_,rfl,dz _,h0 D hD⟩,?_⟩;rintro i m ys H2 ⟨rfl,hi,p⟩;have q:=hl D i ys H2 hi p;by_cases hlt:i<xs.length
 . refine .inr ⟨⟨xs,xs[i],q,by simp [hlt]⟩,λx H3 y τ hτ=>?_⟩;obtain⟨e,y⟩:=y;subst e;have ex:=y xs q;exact hs D i x ys _ hD ex p τ hτ
 . have e:i=xs.length:=by omega
   subst e;exact .inl ⟨⟨xs,q,ψ _⟩,hd D ys H2 hD p⟩
end
section
variable {prog:uK}{w:uL}{A:uM}{R:Result->uI->Prop}{I:uH}{fp wr:List uH}{n:Nat}{P:Nat->uG->Prop}{St:Nat->vq->Prop}
def Tj(prog:uK)(w:uL)(A:uM)(Kp:vq->Prop)(P:Nat->uG->Prop)(bt:Nat->Nat->Bool):Prop:=
 ∀i j x y (t:uI) (Q:uG->uI->Prop) (E:uG->uI->Prop),Kp t.heap->P i x->P j y->Q (.bool (bt i j)) t->uY (vi prog w) A (richCompare .Lt x y) Q E t
theorem mI(W:Walks prog w A.in1 I fp wr n P St)(bt:Nat->Nat->Bool)(Kp:vq->Prop)(cmp:Tj prog w A.in1 Kp P bt)(S:uH)(sf:S ∉ fp)
   (kpk:∀h h',Kp h->(∀b o,b ∉ wr->b≠S->h.get? b=some o->h'.get? b=some o)->Kp h'):
   ∀(k j:Nat)(t:uI)(vb:uG)(c:Nat),n-(j+1)=k->j+1<=n->St (j+1) t.heap->Kp t.heap->P (argBest bt j) vb ->
   t.heap.get? S=some { cls:=.type "list",dict:=none,data:=.seq #[vb,vb] c,slots:=#[] } ->
   (∀v h' tk,P (argBest bt (n-1)) v->(∀b o,b ∉ wr->b≠S->t.heap.get? b=some o->h'.get? b=some o)->R (.ok (.ret v)) { t with heap:=h',toks:=tk }) ->
   codeAny (vi prog w) A (.builtin "min.loop" ⟨[.ref I,.none,.ref S],[]⟩) R t:=by
 have sw:S ∉ wr:=λh=>sf (W.sub _ h);have nm:(toString "min"++toString ".loop":String)="min.loop":=by decide
 intro k
 induction k with
 | zero=>
   intro j t vb c hk hj st kp pb hS fin;have en:j+1=n:=by omega
   refine codeAny_builtin F.entry_min_loop ?_;rw[Around.under_plainId F.plain_min_loop _];show uY _ A.in1 (vc (.ref S) >>= _) _ _ t;refine uV (wpAny_seqItems hS rfl ?_);show uY _ A.in1 (tryCatch (pyNext (.ref I)) _ >>= _) _ _ t;refine uV (wpAny_tryCatch (W.done t _ _ (en▸st) λh' tk kk=>?_));have hS1:=kk S _ sw hS;show uY _ A.in1 (updateSeq S (λ_=>#[]) >>= _) _ _ _;refine uV ?_;refine wpAny_updateSeq hS1 rfl (uV (wpAny_letGo (uW ?_)));exact fin vb _ tk (by rw[<-en];exact pb) λb o bw bS e=>(ah _ _ (dn bS)).trans (kk b o bw e)
 | succ k ih=>
   intro j t vb c hk hj st kp pb hS fin;have lt:j+1<n:=by omega
   refine codeAny_builtin F.entry_min_loop ?_;rw[Around.under_plainId F.plain_min_loop _];show uY _ A.in1 (vc (.ref S) >>= _) _ _ t;refine uV (wpAny_seqItems hS rfl ?_);show uY _ A.in1 (tryCatch (pyNext (.ref I)) _ >>= _) _ _ t;refine uV (wpAny_tryCatch (W.item (j+1) t _ _ lt st λv h' tk pv st1 kk=>?_));have hS1:=kk S _ sw hS;have kp1:Kp h':=kpk _ _ kp λb o bw _ e=>kk b o bw e;show uY _ A.in1 (tryCatch (holding [v,v] (richCompare .Lt v vb >>= _)) _ >>= _) _ _ _;refine uV (wpAny_tryCatch (wpAny_holding (uV (cmp (j+1) (argBest bt j) v vb _ _ _ kp1 pv pb ?_))));refine uV (wpAny_holding (vk ?_));refine uV (wpAny_letGo (uW ?_));cases hb:bt (j+1) (argBest bt j) with
   | true=>
     simp only [if_true];refine uV ?_;refine wpAny_updateSeq hS1 rfl (uV (wpAny_letGo ?_));rw[nm];refine uW ⟨plainId_quiet F.plain_min_loop _,ih (j+1) _ v _ (by omega) lt (W.frame _ _ _ st1 λb bf o e=>?_) (kpk _ _ kp1 λb o _ bS e=>(ah _ _ (dn bS)).trans e) (by simp only [argBest,hb,if_true];exact pv) (dv _ hS1 rfl)
       λv' h2 tk2 pv2 kk2=>?_⟩
     . exact(ah _ _ (λz:S=b=>sf (by rw[z];exact bf))).trans e
     . exact fin v' h2 tk2 pv2 λb o bw bS e=>kk2 b o bw bS ((ah _ _ (dn bS)).trans (kk b o bw e))
   | false=>
     simp only [iw,if_false];refine uV (wpAny_letGo ?_);rw[nm];refine uW ⟨plainId_quiet F.plain_min_loop _,ih (j+1) _ vb c (by omega) lt st1 kp1 (by simp only [argBest,hb,iw,if_false];exact pb) hS1 λv' h2 tk2 pv2 kk2=>?_⟩;exact fin v' h2 tk2 pv2 λb o bw bS e=>kk2 b o bw bS (kk b o bw e)
theorem mJ(W:Walks prog w A.in1 I fp wr n P St)(bt:Nat->Nat->Bool)(Kp:vq->Prop)(cmp:Tj prog w A.in1 Kp P bt)(S:uH)(sf:S ∉ fp)
   (kpk:∀h h',Kp h->(∀b o,b ∉ wr->b≠S->h.get? b=some o->h'.get? b=some o)->Kp h') (hn:0<n) {t:uI} {c:Nat} (st:St 0 t.heap) (kp:Kp t.heap)
   (hS:t.heap.get? S=some { cls:=.type "list",dict:=none,data:=.seq #[] c,slots:=#[] })
   (fin:∀v h' tk,P (argBest bt (n-1)) v->(∀b o,b ∉ wr->b≠S->t.heap.get? b=some o->h'.get? b=some o)->R (.ok (.ret v)) { t with heap:=h',toks:=tk }):
   codeAny (vi prog w) A (.builtin "min.loop" ⟨[.ref I,.none,.ref S],[]⟩) R t:=by
 have sw:S ∉ wr:=λh=>sf (W.sub _ h);have nm:(toString "min"++toString ".loop":String)="min.loop":=by decide
 refine codeAny_builtin F.entry_min_loop ?_;rw[Around.under_plainId F.plain_min_loop _];show uY _ A.in1 (vc (.ref S) >>= _) _ _ t;refine uV (wpAny_seqItems hS rfl ?_);show uY _ A.in1 (tryCatch (pyNext (.ref I)) _ >>= _) _ _ t;refine uV (wpAny_tryCatch (W.item 0 t _ _ hn st λv h' tk pv st1 kk=>?_));have hS1:=kk S _ sw hS;have kp1:Kp h':=kpk _ _ kp λb o bw _ e=>kk b o bw e;show uY _ A.in1 (updateSeq S (λ_=>#[v,v]) >>= _) _ _ _;refine uV ?_;refine wpAny_updateSeq hS1 rfl ?_;rw[nm];refine uW ⟨plainId_quiet F.plain_min_loop _,mI W bt Kp cmp S sf kpk _ 0 _ v _ rfl hn (W.frame _ _ _ st1 λb bf o e=>?_) (kpk _ _ kp1 λb o _ bS e=>(ah _ _ (dn bS)).trans e) pv (dv _ hS1 rfl) λv' h2 tk2 pv2 kk2=>?_⟩
 . exact(ah _ _ (λz:S=b=>sf (by rw[z];exact bf))).trans e
 . exact fin v' h2 tk2 pv2 λb o bw bS e=>kk2 b o bw bS ((ah _ _ (dn bS)).trans (kk b o bw e))
end
section
variable {prog:uK}{w:uL}{A:uM}{E:uG->uI->Prop}{s:uI}
theorem mK{x:uG}{Q:uG->uI->Prop}
   (h:uY (vi prog w) A.in1 (pyIter x) (λitv t=>∃I fp wr n P St bt Kp,itv = .ref I/\Walks prog w A.in1 I fp wr n P St/\St 0 t.heap/\Kp t.heap/\(∀b∈fp,b<t.heap.objs.size)/\0<n/\Tj prog w A.in1 Kp P bt /\
     (∀h h',Kp h->(∀b o,b ∉ wr->b≠t.heap.objs.size->h.get? b=some o->h'.get? b=some o)->Kp h') /\
     ∀v h' tk,P (argBest bt (n-1)) v->(∀b o,b ∉ wr->t.heap.get? b=some o->h'.get? b=some o)->Q v { t with heap:=h',toks:=tk }) E s):
   uY (vi prog w) A (call (.builtin "min") [x]) Q E s:=by
 have nm:(toString "min"++toString ".loop":String)="min.loop":=by decide
 refine call_function_tree F.kind_min F.plain_min F.entry_min (F.args_min1 _) ?_;show uY _ A.in1 (Builtin.Builtins.bindParams "min" ["key","default"] 0 ⟨[],[]⟩ >>= _) _ _ s;refine uV (wpAny_of_eq (show Builtin.Builtins.bindParams "min" ["key","default"] 0 ⟨[],[]⟩=pure [none,none] from rfl) ?_);refine uV (uW ?_);refine uV (uX h (λitv t ht=>?_) λ_ _ e=>e);obtain⟨I,fp,wr,n,P,St,bt,Kp,rfl,W,st,kp,hfp,hn,cmp,kpk,hQ⟩:=ht;refine uV (wpAny_newObj_type ?_);have sf:t.heap.objs.size ∉ fp:=λhm=>dy _ (hfp _ hm);rw[nm];refine uW ⟨plainId_quiet F.plain_min_loop _,mJ W bt Kp cmp t.heap.objs.size sf kpk hn (W.frame _ _ _ st λb _ o e=>Γ _ e) (kpk _ _ kp λb o _ _ e=>Γ _ e) (bc _ rfl) λv h' tk pv kk=>?_⟩;exact hQ v h' tk pv λb o bw e=>kk b o bw (bu (ad e)) (Γ _ e)
end
def BW(xs:List (List Int)):Nat->Nat
 | 0=>0
 | k+1=>if HT.lexLt (xs.getD (k+1) []) (xs.getD (BW xs k) []) then k+1 else BW xs k
theorem bL(xs:List (List Int)):∀k,argBest (λi j=>HT.lexLt (xs.getD i []) (xs.getD j [])) k=BW xs k
 | 0=>rfl
 | k+1=>by
   unfold argBest BW
   rw[bL xs k]
theorem KA(xs:List (List Int)):∀k,BW xs k<=k
 | 0=>ψ 0
 | k+1=>by
   unfold BW
   have:=KA xs k
   split <;> omega
section
variable {X:Cx}
theorem bM(hc:X.calm=true)(hu:X.A.units+64<vj):D4 X (.builtin "min") (λvs H Q=>∃p us,∃xs:List (List Int),vs=[.ref p]/\H p=some (.lst us)/\Cm H us (xs.map λx=>x.map V.int)/\0<xs.length /\
   ∀t,us[BW xs (xs.length-1)]?=some (.ref t)->H t=some (.tup ((xs.getD (BW xs (xs.length-1)) []).map V.int))->Q (.ref t) H):=by
 intro pins s σ H vs us' Q I r h;obtain⟨p,us,xs,rfl,hp,ta,hn,q⟩:=h;obtain⟨u,rfl,rx⟩:∃u,us'=[u]/\RelV (.ref p) u:=by
   cases r with
   | cons a b=>cases b;exact⟨_,rfl,a⟩
 cases rx;obtain⟨its,r1,p1,_⟩:=I.list (SqL.of hp);have l1:=r1.length;have l2:=ta.1;rw[Ξ] at l2;have tups:∀i,i<xs.length->∃t its2,its[i]?=some (.ref t)/\us[i]?=some (.ref t)/\H t=some (.tup ((xs.getD i []).map V.int))/\s.heap.IsTuple t (pf its2)/\IntsAre its2 (xs.getD i []):=λi hi=>by
   obtain⟨t,e1,e2⟩:=ta.2 i ((xs[i]).map V.int) (by simp [hi]);obtain⟨u1,g1,q1⟩:=r1.get e1;cases q1;obtain⟨its2,r2,p2,_⟩:=I.tuple (SqT.of e2);have ex:xs.getD i []=xs[i]:=by simp [hi]
   rw[ex];exact⟨t,its2,g1,e1,e2,p2,Sy r2⟩
 have lt:p<s.heap.objs.size:=by obtain⟨_,e,_⟩:=p1.isList;exact ad e
 refine mK (wpAny_pyIter_list p1.isList ?_);refine⟨s.heap.objs.size,[s.heap.objs.size,p],[s.heap.objs.size],its.toArray.size,λi v=>its.toArray[i]?=some v,_,λi j=>HT.lexLt (xs.getD i []) (xs.getD j []),λ(hh:vq)=>∀(i:Nat)(t:uH)(its2:List uG),its[i]?=some (Value.ref t)->s.heap.IsTuple t (pf its2)->hh.IsTuple t (pf its2),rfl,Walks.list (A:=X.A.in1) (I.ok.hd hc) _ p (bu lt) its.toArray,
   ⟨⟨_,bc _ rfl,rfl,rfl⟩,p1.isList.push _⟩,?_,?_,?_,?_,?_,?_⟩
 . intro i t its2 _ ht;exact ht.push _
 . intro b hb;show b<(s.heap.push _).objs.size;rw[jf];rcases Φ.mp hb with z | z
   . rw[z];exact jr _
   . have:b=p:=by simpa using z
     rw[this];exact lj lt
 . rw[Δ];omega
 . intro i j x y t Q' E' kp pi pj hq;rw[jq] at pi pj;have hi:i<xs.length:=by have:=(γ.mp pi).1;omega
   have hj:j<xs.length:=by have:=(γ.mp pj).1;omega
   obtain⟨t1,s1,a1,_,_,b1,c1⟩:=tups i hi;obtain⟨t2,s2,a2,_,_,b2,c2⟩:=tups j hj;rw[a1] at pi;rw[a2] at pj;cases pi;cases pj;exact HT.lt_tupInts (kp i t1 s1 a1 b1) (kp j t2 s2 a2 b2) c1 c2 (by show X.A.units+1<vj;omega) hq
 . intro h h' kp kk i t its2 g ht;have e0:=kp i t its2 g ht;obtain⟨o,e,hcl,hd⟩:=ht;obtain⟨o',e',r'⟩:=e0;have lt':=ad e;refine⟨o',kk t o' (λz=>?_) (bu ?_) e',r'⟩
   . have z':t=s.heap.objs.size:=by simpa using z
     rw[z'] at lt';exact dy _ lt'
   . show t<(s.heap.push _).objs.size;rw[jf];exact lj lt'
 . intro v h' tk pv kk;rw[Δ,<-l1,l2,bL,jq] at pv;have hm:BW xs (xs.length-1)<xs.length:=by have:=KA xs (xs.length-1);omega
   obtain⟨t,its2,a1,a2,a3,_,_⟩:=tups _ hm;rw[a1] at pv;cases pv;refine⟨.ref t,H,?_,rfl,q t a2 a3⟩;refine I.kept (t':=tk) λb o e=>kk b o (λz=>?_) (Γ _ e);have:=ad e;have z':b=s.heap.objs.size:=by simpa using z
   rw[z'] at this;exact dy _ this
end
structure InsK(K:δ)(C:uH):Prop where
 cl:Cls K C
 ha:bo K (.ref C) "__class__"=some (some (.builtin "object.__class__"))
 hn:specialIn K (.builtin "object.__class__") "__get__"=some (some (.builtin "getset_descriptor.__get__"))
 htk:takesIn K (.builtin "object.__class__")=some true
 hm:gn K C (.type "object")=some true
section
variable {X:Cx}
end
section
variable {K:δ}{σ:L2.St}{H:Hp}{Q:VK}{D:Ends}
theorem r_sat{a C dx:uH}{fs:List (Str×V)}{f:Str}{R:uH->uH->uH->List (Str×V)->Prop}(h:H a=some (.ins C dx fs))(c:Cls K C)(n:BX K C f)(l:fs.length<1000)(q:R a C dx fs):
   ∃a' C' dx' fs',V.ref a=V.ref a'/\H a'=some (.ins C' dx' fs')/\Cls K C'/\BX K C' f/\fs'.length<1000/\R a' C' dx' fs':=⟨a,C,dx,fs,rfl,h,c,n,l,q⟩
theorem r_make{C:uH}{sp:Sp}{E:XK}{t:TA}(h:t σ H λvs H1=>∀x dx,H1 x=none->H1 dx=none->dx≠x->sp (.ref x::vs) (upd (upd H1 dx (.own x)) x (.ins C dx [])) (λv H2=>v = .non/\Q (.ref x) H2) E):P8 C sp [] E t σ H Q:=by
 unfold P8;simp only [ae];exact h
end
section
variable {X:Cx}
end
def AE(x:uH)(H H':Hp):Prop:=∀b o,b≠x->H b=some o->H' b=some o
theorem AE.refl{x:uH}{H:Hp}:AE x H H:=λ_ _ _ h=>h
theorem AE.of{x:uH}{H H':Hp}(s:Same H H'):AE x H H':=λb o _ h=>s b o h
theorem AE.trans{x:uH}{H H' H'':Hp}(s:AE x H H')(t:AE x H' H''):AE x H H'':=λb o n h=>t b o n (s b o n h)
theorem AE.put{x:uH}{H H':Hp}{o:HO}(s:AE x H H'):AE x H (upd H' x o):=λb o' n h=>look_ne n (s b o' n h)
theorem Tk(i:Nat):1<=(2:Int)^i:=by
 have:=Int.pow_pos (n:=2) (m:=i) (by decide);omega
def CF(k:Nat)(c:Int):Prop:=c<=2^k/\∀i,i<k->(2:Int)^i<c
theorem Eb(h:i<=j):(2:Int)^i<=2^j:=by
 obtain⟨d,rfl⟩:=Nat.exists_eq_add_of_le h;rw[ub];have:=Tk d;have:=Ψ this (show 0<=(2:Int)^i by have:=Tk i;omega);omega
theorem bO(h:(2:Int)^i<2^j):i<j:=by
 rcases gj i j with h1 | h1
 . exact h1
 . have:=Eb h1;omega
theorem CF.uniq{k k':Nat}{c:Int}(h:CF k c)(h':CF k' c):k=k':=by
 rcases gh k k' with g | g | g
 . have:=h'.2 k g;have:=h.1;omega
 . exact g
 . have:=h.2 k' g;have:=h'.1;omega
theorem bP{c:Nat}(h:1<=c):CF (c.log2+1) ((c:Int)+1):=by
 have h1:=Nat.lt_log2_self (n:=c);have h2:=Nat.log2_self_le (n:=c) (by omega);refine⟨?_,λi hi=>?_⟩
 . have:((c+1:Nat):Int)<=((2^(c.log2+1):Nat):Int):=sg.mpr h1;rw[qp] at this
   push_cast at this
   exact this
 . have:(2:Int)^i<=2^c.log2:=Eb (by omega);have h3:((2^c.log2:Nat):Int)<=(c:Int):=sg.mpr h2;rw[qp] at h3
   push_cast at h3
   omega
structure MethD(P:uK)(w:uL)(K:δ)(mg:Str->Option uG)(base:vq)(C:uH)(m:Str)(j:Nat)(ps:List Str)(dvs:List V)(sp:Sp):Prop where
 all:Methx P w K mg base C m j ps [] sp
 less:Methx P w K mg base C m j ps dvs sp
theorem MethD.made{P:uK}{w:uL}{K:δ}{mg:Str->Option uG}{base:vq}{C:uH}{m:Str}{ps:List Str}{dvs:List V}{sp:Sp}{f:uH}{fd:uJ}{ds:List uG}
   (F:FnOk P w K mg base (CXe P w) j f fd ps sp) (M:wT K C m f) (b:Bx K fd ps []) (b':Bx K fd ps ds) (v:Vals dvs ds) (c:Cls K C):MethD P w K mg base C m j ps dvs sp:=
 ⟨⟨⟨f,fd,[],F,M,b,.nil⟩,c⟩,⟨⟨f,fd,ds,F,M,b',v⟩,c⟩⟩
theorem FunD.bindsA{K:δ}{x qual:Str}{st:uO}{T:uH}{f:uH}{fd:uJ}{ps:List Str}{ds:List uG}{tc:uG}{td:Option uH}{tn:Nat}{tsl:Array (Option uG)}(F:FunD K x qual st (.ref T) f fd)
   (lt:K.lookup T=some ⟨tc,td,.seq ds.toArray tn,tsl⟩)
   (h:∀(kV doc pm:uG)(an:Option uH)(cdv ct:uG)(us:List uG),us.length=ps.length->∃k:Option (Array uG)->vo (List (Str×uG)),
     uS (fnOf x qual (A1 st) (AZ st) (An st) (.ref T) kV doc pm an cdv ct) ⟨us,[]⟩=vc (.ref T) >>= k/\k (some ds.toArray)=pure (ps.zip us)):Bx K fd ps []:=by
 obtain⟨oc,od,kV,doc,pm,an,cdv,ct,osl,rfl,lk,hcd⟩:=F.ex;intro s us X hl;rw[ae] at hl ⊢;obtain⟨k,h1,h2⟩:=h kV doc pm an cdv ct us hl;exact .of_defaults rfl (X _ _ lt) rfl h1 h2
abbrev TXS:=Ends->XK->L2.St->Hp->Prop
section
variable {X:Cx}{e c:uN}{t:TX}{tc:TT}{ta tb ts:TXS}{a b ss:List uO}{pos epos:Pos}{hs:List ExceptHandler}{th:TH}
end
section
variable {K:δ}{σ:L2.St}{H:Hp}{Q:VK}{D:Ends}{EX:XK}
end
def DY(s:Int)(j m:Nat):List Pc:=(uc j m).map λi:Nat=>⟨s*(i:Int),s,false⟩
theorem bQ(s:Int)(j m:Nat):DY s j (m+1)=⟨s*(j:Int),s,false⟩::DY s (j+1) m:=by
 unfold DY;rw[qd,av]
theorem mL(s:Int)(j m:Nat):DY s j (m+1)=DY s j m++[⟨s*((j+m:Nat):Int),s,false⟩]:=by
 unfold DY;rw[List.range'_concat,af,Nat.one_mul];rfl
theorem Qo{s:Int}(hs:1<=s):∀(m j:Nat),Ak (s*(j:Int)) (DY s j m) (s*((j+m:Nat):Int))
 | 0,j=>rfl
 | m+1,j=>by
   rw[bQ]
   refine⟨rfl,hs,(λz=>by cases z),?_⟩
   have h:=Qo hs m (j+1)
   rw[show j+1+m=j+(m+1) by omega] at h
   show Ak (s*(j:Int)+s) _ _
   rw[show s*(j:Int)+s=s*((j+1:Nat):Int) by rw[cg,du];omega]
   exact h
theorem Au.app{ds:List Int}{ps qs:List Pc}(h0:Cn ps cs.length)(m:Au cs ps)(h1:EA qs 0)(k:Au ds qs):
   Au (cs++ds) (ps++qs.map λq=>⟨q.a+cs.length,q.l,q.v⟩):=by
 intro p hp;rcases θ.mp hp with h | h
 . obtain⟨a0,a1,a2⟩:=h0 p h;obtain⟨m1,m2⟩:=m p h;exact⟨by rw[ξ (by omega)];exact m1,by rw[ξ (by omega)];exact m2⟩
 . obtain⟨q,hq,rfl⟩:=aw.mp h;obtain⟨b0,b1⟩:=h1 q hq;obtain⟨m1,m2⟩:=k q hq;constructor
   . show (cs++ds)[(q.a+cs.length).toNat]?=some (xg q.l q.v);rw[η (by omega),show (q.a+cs.length).toNat-cs.length=q.a.toNat by omega];exact m1
   . show (cs++ds)[(q.a+cs.length+q.l-1).toNat]?=some (xg q.l q.v);rw[η (by omega),show (q.a+cs.length+q.l-1).toNat-cs.length=(q.a+q.l-1).toNat by omega];exact m2
theorem Qq{one:List Int}{s:Int}(hs:1<=s)(hl:(one.length:Int)=s)(m1:Au one [⟨0,s,false⟩]):∀(m:Nat),Au ((ο m one).flatten) (DY s 0 m)/\(((ο m one).flatten).length:Int)=s*(m:Int)
 | 0=>⟨Au.nil _,by simp⟩
 | m+1=>by
   obtain⟨h1,h2⟩:=Qq hs hl m1 m
   have e:(ο (m+1) one).flatten=(ο m one).flatten++one:=by
     rw[ni,nq];simp
   rw[e];constructor
   . rw[mL];have ch:=(Qo hs m 0).endBy (show (0:Int)<=s*((0:Nat):Int) by simp);rw[md] at ch;have:=Au.app (ps:=DY s 0 m) (qs:=[⟨0,s,false⟩]) (by rw[h2];exact ch) h1 (λp hp=>by
       have:p=⟨0,s,false⟩:=by simpa using hp
       subst this;exact⟨aq _,hs⟩) m1
     rw[h2] at this;simpa using this
   . rw[ι,cg,h2,hl,cg,du];omega
section
variable {X:Cx}
theorem mM{y y' y'':Str}{k k' k'':Nat}(h1:X.N[k]?=some y)(h1':X.N[k']?=some y')(h1'':X.N[k'']?=some y'')(h2:X.env.kindOf y=some .cell)(h2':X.env.kindOf y'=some .cell)(h2'':X.env.kindOf y''=some .cell)
   (h3:(relabel scope X.env).names.lookup y=some .cell) (h3':(relabel scope X.env).names.lookup y'=some .cell) (h3'':(relabel scope X.env).names.lookup y''=some .cell):He X scope [y,y',y''] [k,k',k'']:=⟨rfl,λj z i e1 e2=>by
 match j with
 | 0=>
   have g1:y=z:=by simpa using e1
   have g2:k=i:=by simpa using e2
   subst g1 g2
   exact⟨h1,h2,h3⟩
 | 1=>
   have g1:y'=z:=by simpa using e1
   have g2:k'=i:=by simpa using e2
   subst g1 g2
   exact⟨h1',h2',h3'⟩
 | 2=>
   have g1:y''=z:=by simpa using e1
   have g2:k''=i:=by simpa using e2
   subst g1 g2
   exact⟨h1'',h2'',h3''⟩
 | j+3=>simp at e1⟩
theorem mO{n m o:Str}(h:∀y∈scope.names,y.2 = .free->y.1=n\/y.1=m\/y.1=o)(k:X.env.kindOf n=some .cell)(k':X.env.kindOf m=some .cell)(k'':X.env.kindOf o=some .cell):∀y∈scope.names,y.2 = .free->X.env.kindOf y.1=some .cell:=λy hy hf=>by
 rcases h y hy hf with e | e | e
 . rw[e];exact k
 . rw[e];exact k'
 . rw[e];exact k''
end
def Its(lo c:Int)(n:Nat):It:=⟨λi _=>i<n,λi H x H'=>H'=H/\x = .int (lo+i*c),λi _=>n<=i⟩
theorem mP{P:uK}{w:uL}{K:δ}{tg:uN}(it:uH)(lo c:Int)(n:Nat):D_ P w K tg (Its lo c n) [it] it (λi h=>IsRangeIter h it (lo+(i:Nat)*c) ((n:Int)-(i:Nat)) c) where
 mem:=by simp
 obj:=λi h st b hb=>by
   have e:b=it:=by simpa using hb
   subst e
   exact⟨_,st,λv z=>by
     have z':Data.fields _=Data.cell v:=z
     cases z'⟩
 keep:=λi h h' st k=>k it (by simp) _ st
 item:=by
   intro X hP hw hK hc i pins s σ H E I hf st hg;subst hP hw hK;obtain⟨f0,f1,f2,f3,f4,f5⟩:=hf it (by simp);have W:=Walks.range (prog:=X.prog) (w:=X.w) (I.ok.hd hc) it lo c n;refine W.item i s _ _ hg st λv h' tk hv st' kk=>?_;obtain⟨t,rfl⟩:=hv;have I1:Inv X pins σ H { s with heap:=h',toks:=tk }:=I.turned (λb o hb e=>kk b o (by simpa using hb) e) f0 f1 f3 f4 f5;exact⟨_,rfl,yh (s:={ s with heap:=h',toks:=tk }) (n:="range_iterator") st' rfl rfl (by decide) ⟨.int (lo+i*c),H,I1,⟨t,rfl⟩,⟨rfl,rfl⟩,st',λb hb=>(hf b hb).1⟩⟩
 done:=by
   intro X hP hw hK hc i pins s σ H E I hf st hg;subst hP hw hK;obtain⟨f0,f1,f2,f3,f4,f5⟩:=hf it (by simp);exact wpAny_pyNext_range_end (I.ok.hd hc) st (by have:n<=i:=hg;omega) λh' eb=>⟨rfl,I.turned (t':=s.toks) (λb o hb e=>eb b o hb e) f0 f1 f3 f4 f5⟩
 self:=λ_ _ _ _ _ st h=>wpAny_pyIter_rangeiter st h
section
variable {X:Cx}{tg:uN}
theorem mQ{i j c:Int}(h0:0<=i)(hj:0<=j)(hj':j<=4000)(hc:1<=c):0<=ak i j c/\ak i j c<=4000/\(i<j->i+(ak i j c-1)*c<j):=by
 unfold ak;rw[if_pos (by omega)]
 split
 . rename_i h;have h1:0<=(j-i-1)/c:=mj (by omega) (by omega);have h2:(j-i-1)/c*c<=j-i-1:=Int.ediv_mul_le _ (by omega);have h3:(j-i-1)/c<=(j-i-1)/c*c:=by
     have:=Ψ hc h1;omega
   refine⟨by omega,by omega,λ_=>?_⟩;rw[show (j-i-1)/c+1-1=(j-i-1)/c by omega];omega
 . rename_i h;exact⟨by omega,by omega,λz=>absurd z h⟩
def zM(ta:TA):TI:=λσ H R=>ta σ H λvs H1=>∃i j c:Int,vs=[.int i,.int j,.int c]/\(0<=i/\i<=4000/\0<=j/\j<=4000/\1<=c/\c<=4000)/\R (Its i c (ak i j c).toNat) H1
theorem mR{pins:List (uH×Obj)}{σ:L2.St}{H:Hp}{s:uI}{R:It->Hp->Prop}{E:uG->uI->Prop}{lo hi c:Int}{t u v:Tok}{tk:Nat}(I:Inv X pins σ H s)(h1:0<=lo)(h2:lo<=4000)(h3:0<=hi)(h4:hi<=4000)(h5:1<=c)(h6:c<=4000)
   (q:R (Its lo c (ak lo hi c).toNat) H):uY (vi X.prog X.w) X.A (pyIter (.ref s.heap.objs.size)) (PIE X pins σ tg R) E { s with heap:=s.heap.push { cls:=.type "range",data:=.fields #[.int lo t,.int hi u,.int c v] },toks:=tk }:=by
 obtain⟨b1,b2,b3⟩:=mQ h1 h3 h4 h5;have sm:nu lo hi c=true:=by
   unfold nu;simp only [qu,df,qm,decide_eq_true_eq,beq_iff_eq];generalize ak lo hi c=n at b1 b2 b3;rw[if_pos (show c>0 by omega)];simp only [df,decide_eq_true_eq];omega
 refine wpAny_pyIter_range (IsRange.new ..) sm ?_;have I1:Inv X pins σ H { s with heap:=s.heap.push { cls:=.type "range",data:=.fields #[.int lo t,.int hi u,.int c v] },toks:=tk }:=I.kept λb o e=>Γ _ e;refine⟨(s.heap.push { cls:=.type "range",data:=.fields #[.int lo t,.int hi u,.int c v] }).objs.size,[(s.heap.push { cls:=.type "range",data:=.fields #[.int lo t,.int hi u,.int c v] }).objs.size],_,_,H,rfl,
   I1.kept (t':=tk) λb o e=>Γ _ e,mP _ lo c (ak lo hi c).toNat,?_,λb hb=>?_,q⟩
 . have e1:lo+((0:Nat):Int)*c=lo:=by simp
   have e2:(((ak lo hi c).toNat:Nat):Int)-((0:Nat):Int)=ak lo hi c:=by omega
   show IsRangeIter _ _ (lo+((0:Nat):Int)*c) ((((ak lo hi c).toNat:Nat):Int)-((0:Nat):Int)) c;rw[e1,e2];exact bc _ rfl
 . have e:b=(s.heap.push { cls:=.type "range",data:=.fields #[.int lo t,.int hi u,.int c v] }).objs.size:=by simpa using hb
   subst e;exact I1.fpOk (ψ _) (I1.hok.fresh (ψ _))
theorem bR{a b c:uN}{ta:TA}{p pos:Pos}(hg:Gl X "range")(hm:X.mg "range"=none)(ha:PA X [a,b,c] ta)(hs:uR [a,b,c] X.env=[(false,vh a X.env),(false,vh b X.env),(false,vh c X.env)]:=by rfl)
   (hs2:uR [b,c] X.env=[(false,vh b X.env),(false,vh c X.env)]:=by rfl):PI X tg (.Call (.Name "range" p) [a,b,c] [] pos) (zM ta):=by
 intro pins s σ H R I h;refine Call_ (Ks I hg hm rn (fj (thn (ha pos pins s σ H _ I h) λus s1 hZ=>?_) (by rw[hs,hs2]) (by rw[hs2];rfl)));obtain⟨vs,H1,I1,r1,q1⟩:=hZ;obtain⟨i,j,c,e,⟨q1,q2,q3,q4,q5,q6⟩,q⟩:=q1;subst e;cases r1 with
 | cons r rr=>
   cases rr with
   | cons r' rr=>
     cases rr with
     | cons r'' rr=>
       cases rr;obtain⟨t,rfl⟩:=r;obtain⟨t',rfl⟩:=r';obtain⟨t'',rfl⟩:=r'';exact call_range_3 (by omega) (mR I1 q1 q2 q3 q4 q5 q6 q) (π (ly (by omega)))
theorem mS(hc:X.calm=true):D4 X (.builtin "any") (λvs H Q=>∃p,∃bs:List Bool,vs=[.ref p]/\H p=some (.lst (bs.map V.bl))/\Q (.bl (bs.any id)) H):=by
 intro pins s σ H vs us' Q I r h;obtain⟨p,bs,rfl,hp,q⟩:=h;obtain⟨u,rfl,rx⟩:∃u,us'=[u]/\RelV (.ref p) u:=by
   cases r with
   | cons a b=>cases b;exact⟨_,rfl,a⟩
 cases rx;obtain⟨its,r1,p1,_⟩:=I.list (SqL.of hp);have l1:=r1.length;rw[Ξ] at l1;have lt:p<s.heap.objs.size:=by obtain⟨_,e,_⟩:=p1.isList;exact ad e
 refine call_any_walk (wpAny_pyIter_list p1.isList ?_);refine⟨s.heap.objs.size,[s.heap.objs.size,p],[s.heap.objs.size],its.toArray.size,λi v=>its.toArray[i]?=some v,_,λi=>bs.getD i false,rfl,Walks.list (A:=X.A.in1) (I.ok.hd hc) _ p (bu lt) its.toArray,
   ⟨⟨_,bc _ rfl,rfl,rfl⟩,p1.isList.push _⟩,?_,?_⟩
 . intro i v s' Q' E' hv hq;rw[jq] at hv;have hi:i<bs.length:=by have:=(γ.mp hv).1;omega
   obtain⟨u1,g1,q1⟩:=r1.get (i:=i) (x:=V.bl bs[i]) (by simp [hi]);cases q1;rw[hv] at g1;cases g1;have e:bs.getD i false=bs[i]:=by simp [hi]
   have hq2:Q' (bs.getD i false) s':=hq;rw[e] at hq2;exact uW hq2
 . intro h' tk kk;have e:(ia its.toArray.size).any (λi=>bs.getD i false)=bs.any id:=by
     rw[Δ,<-l1,cy,dk,dk];constructor
     . rintro⟨i,hi,h⟩;have hi':=kn.mp hi;exact⟨bs[i],bp hi',by simpa [hi'] using h⟩
     . rintro⟨b,hb,h⟩;obtain⟨i,hi,rfl⟩:=jv.mp hb;exact⟨i,kn.mpr hi,by simpa [hi] using h⟩
   rw[e];refine⟨.bl _,H,?_,rfl,q⟩;refine I.kept (t':=tk) λb o e=>kk b o (λz=>?_) (Γ _ e);have:=ad e;have z':b=s.heap.objs.size:=by simpa using z
   rw[z'] at this;exact dy _ this
end
theorem bT{lo c:Int}{n:Nat}{g:TG}{tb:TS}{D:Ends}{σ:L2.St}{H:Hp}(Pv:Nat->L2.St->Hp->Prop)(h0:Pv 0 σ H)
   (hs:∀i σ H,i<n->Pv i σ H->g (.int (lo+i*c)) σ H λσ2 H2=>tb { D with nx:=Pv (i+1),ct:=Pv (i+1),bk:=D.nx } σ2 H2) (hd:∀σ H,Pv n σ H->D.nx σ H):
   ∃W:Nat->Nat->L2.St->Hp->Prop,(∃m,W 0 m σ H)/\∀i m σ H,W i m σ H ->
     ((Its lo c n).stop i H/\D.nx σ H)\/((Its lo c n).go i H/\∃N:L2.St->Hp->Prop,(∀σ' H',N σ' H'->∃m',m'<m/\W (i+1) m' σ' H')/\∀x H',(Its lo c n).yld i H x H'->g x σ H' λσ2 H2=>tb { D with nx:=N,ct:=N,bk:=D.nx } σ2 H2):=by
 refine⟨λi m σ H=>m=n-i/\i<=n/\Pv i σ H,⟨n,by simp,dz _,h0⟩,?_⟩;rintro i m σ H ⟨rfl,hi,p⟩;by_cases hlt:i<n
 . refine .inr ⟨hlt,Pv (i+1),λσ' H' p'=>⟨n-(i+1),by omega,rfl,hlt,p'⟩,λx H' y=>?_⟩;obtain⟨e,y⟩:=y;subst e y;exact hs i σ _ hlt p
 . have e:i=n:=by omega
   subst e;exact .inl ⟨ψ _,hd σ H p⟩
theorem zh{ta:TA}{σ:L2.St}{H:Hp}{R:It->Hp->Prop}(h:ta σ H λvs H1=>∃i j c:Int,vs=[.int i,.int j,.int c]/\(0<=i/\i<=4000/\0<=j/\j<=4000/\1<=c/\c<=4000)/\R (Its i c (ak i j c).toNat) H1):zM ta σ H R:=h
theorem mT{H:Hp}{Q:VK}{lo:Int}{n k:Nat}{fs:L2.St}{g:TG}{tt:TT}{te:TE}(Pv:uH->Nat->List V->Hp->Prop)(h0:∀D,H D=none->Pv D 0 [] (upd H D (.lst [])))
   (hs:∀D i ys H2,H D=none->i<n->Pv D i ys H2->∀τ:L2.St,τ.length=k->g (.int (lo+i)) (τ++fs) H2 λσ1 H4=>(∃τ':L2.St,τ'.length=k/\σ1=τ'++fs)/\tt σ1 H4 λb H5=>
     if b=true then te σ1 H5 λy H6=>H6 D=some (.lst ys)/\ys.length<uU/\Nx n Pv D i (ys++[y]) (upd H6 D (.lst (ys++[y]))) else Nx n Pv D i ys H5)
   (hd:∀D ys H2,H D=none->Pv D n ys H2->Q (.ref D) H2):LO k fs (Itr lo n) g tt te Q H:=by
 intro D hD;refine⟨λi m ys H2=>m=n-i/\i<=n/\Pv D i ys H2,⟨_,rfl,dz _,h0 D hD⟩,?_⟩;rintro i m ys H2 ⟨rfl,hi,p⟩;by_cases hlt:i<n
 . refine .inr ⟨hlt,λx H3 y τ hτ=>?_⟩;obtain⟨e,y⟩:=y;subst e y;exact hs D i ys _ hD hlt p τ hτ
 . have e:i=n:=by omega
   subst e;exact .inl ⟨ψ _,hd D ys H2 hD p⟩
def wP(ns:List Int):Int:=ns.foldl (·+·) 0
section
variable {prog:uK}{w:uL}{A:uM}{R:Result->uI->Prop}{I:uH}{fp wr:List uH}{n:Nat}{P:Nat->uG->Prop}{St:Nat->vq->Prop}{kw:List (Str×uG)}
end
section
variable {prog:uK}{w:uL}{A:uM}{E:uG->uI->Prop}{s:uI}
end
section
variable {X:Cx}
end
section
variable {K:δ}{σ:L2.St}{H:Hp}{Q:VK}
theorem LR{us:List V}{ps:List Pc}(h:AH H us ps){v:V}(hv:us[i]?=some v):∃t z,v = .ref t/\ps[i]?=some z/\H t=some (.tup [.int z.a,.int z.l,.bl z.v]):=by
 have hi:i<ps.length:=by rw[<-h.1];exact(γ.mp hv).1
 obtain⟨t,e1,e2⟩:=h.2 i ps[i] (by simp [hi]);exact⟨t,ps[i],χ (hv.symm.trans e1),by simp [hi],e2⟩
end
theorem mU(xs:List V)(j:Nat)(h:j<=xs.length):xz xs none (some (j:Int))=xs.take j:=by
 unfold xz;have e1:=HT.sIx_nat xs.length xs.length j;rw[e1,HT.sIx_none,Nat.min_eq_left h];rfl
theorem AK.app{X Y:List Pc}(hX:AK X)(hY:AK Y)(hj:∀x y,X.getLast?=some x->Y[0]?=some y->x.v=true\/y.v=true):AK (X++Y):=λj y z h1 h2=>by
 by_cases e1:j+1<X.length
 . rw[ξ (by omega)] at h1;rw[ξ e1] at h2;exact hX j y z h1 h2
 . by_cases e2:j+1=X.length
   . rw[ξ (by omega)] at h1;rw[η (by omega),show j+1-X.length=0 by omega] at h2;refine hj y z ?_ h2;rw[ld,show X.length-1=j by omega];exact h1
   . rw[η (by omega)] at h1 h2;rw[show j+1-X.length=(j-X.length)+1 by omega] at h2;exact hY _ y z h1 h2
theorem AK.left{X Y:List Pc}(h:AK (X++Y)):AK X:=λj y z h1 h2=>by
 have l1:=(γ.mp h1).1;have l2:=(γ.mp h2).1;exact h j y z (by rw[ξ l1];exact h1) (by rw[ξ l2];exact h2)
theorem AK.right{X Y:List Pc}(h:AK (X++Y)):AK Y:=λj y z h1 h2=>h (X.length+j) y z (by rw[η (by omega),show X.length+j-X.length=j by omega];exact h1) (by rw[η (by omega),show X.length+j+1-X.length=j+1 by omega];exact h2)
theorem AK.mid{X Y:List Pc}{x y:Pc}(h:AK (X++Y))(hx:X.getLast?=some x)(hy:Y[0]?=some y):x.v=true\/y.v=true:=by
 rw[ld] at hx;have l1:=(γ.mp hx).1;refine h (X.length-1) x y (by rw[ξ l1];exact hx) ?_;rw[η (by omega),show X.length-1+1-X.length=0 by omega];exact hy
theorem LS(z:Pc):AK [z]:=λj y x h1 h2=>by
 have:=(γ.mp h2).1;simp at this
theorem mV:AK []:=λj y x h1 h2=>by simp at h1
theorem Qr:∀(R X:List Pc),AK (X++R)->R.foldl BA X=X++R
 | [],X,_=>by simp
 | w::R,X,h=>by
   rw[gf]
   have e:BA X w=X++[w]:=by
     rcases Ea X with e0 | ⟨D,y,e0⟩
     . subst e0;rfl
     . subst e0;have:=h.mid (x:=y) (y:=w) (by simp) (by simp);rcases this with hv | hv
       . exact Hb hv
       . exact Ha hv
   rw[e,Qr R (X++[w]) (by rw[ao];exact h),ao];rfl
def Di(ds:List Pc):List Pc:=match ds.getLast? with
 | some y=>if y.v=true then ds else ds.dropLast
 | none=>ds
def CH:List Pc->List Pc
 | []=>[]
 | w::R=>if w.v=true then w::R else R
theorem LU{w:Pc}{R:List Pc}(h:w.v=true):CH (w::R)=w::R:=by show (if w.v=true then w::R else R)=_;rw[if_pos h]
theorem LV{w:Pc}{R:List Pc}(h:w.v=false):CH (w::R)=R:=by show (if w.v=true then w::R else R)=_;rw[h,if_neg ν]
theorem LW{D:List Pc}{y:Pc}(h:y.v=true):Di (D++[y])=D++[y]:=by unfold Di;rw[iq];simp only;rw[if_pos h]
theorem LX{D:List Pc}{y:Pc}(h:y.v=false):Di (D++[y])=D:=by unfold Di;rw[iq];simp only;rw[h,if_neg ν,ng]
theorem mW{rs:List Pc}{s e:Int}(c:Ak s (ds++z::rs) e):Ak s (Di ds) (xa (ds++z::rs) ds.length z)/\xa (ds++z::rs) ds.length z<=z.a/\s<=xa (ds++z::rs) ds.length z:=by
 obtain⟨mm,c1,⟨ea,h1,h3,c2⟩⟩:∃mm,Ak s ds mm/\Ak mm (z::rs) e:=by
   have key:∀{A B:List Pc}{s e:Int},Ak s (A++B) e->∃m,Ak s A m/\Ak m B e:=by
     intro A
     induction A with
     | nil=>intro B s e c;exact⟨s,rfl,c⟩
     | cons y r ih=>
       rintro B s e ⟨g1,g2,g3,g4⟩;obtain⟨m,k1,k2⟩:=ih g4;exact⟨m,⟨g1,g2,g3,k1⟩,k2⟩
   exact key c
 rw[<-ea] at c1;have hl:=c1.le;rcases Ea ds with e0 | ⟨D,y,e0⟩
 . subst e0;exact⟨c1,aq _,by show s<=z.a;rw[db] at hl;omega⟩
 . subst e0;obtain⟨k1,k2,k3,k4⟩:=c1.unsnoc;have hy:(D++[y]++z::rs)[D.length]?=some y:=by rw[ao,η (ψ _),di];rfl
   rw[ι,Θ];have kl:=k1.le;cases hv:y.v with
   | true=>rw[Qi hy hv,LW hv];exact⟨c1,aq _,by omega⟩
   | false=>rw[Qj hy hv,LX hv];exact⟨k1,by omega,by omega⟩
theorem Tl{rs:List Pc}{s e:Int}(c:Ak s (ds++z::rs) e):Ak (wQ (ds++z::rs) ds.length z) (CH rs) e/\z.a+z.l<=wQ (ds++z::rs) ds.length z/\wQ (ds++z::rs) ds.length z<=e:=by
 have key:∀{A B:List Pc}{s e:Int},Ak s (A++B) e->∃m,Ak s A m/\Ak m B e:=by
   intro A
   induction A with
   | nil=>intro B s e c;exact⟨s,rfl,c⟩
   | cons y r ih=>
     rintro B s e ⟨g1,g2,g3,g4⟩;obtain⟨m,k1,k2⟩:=ih g4;exact⟨m,⟨g1,g2,g3,k1⟩,k2⟩
 obtain⟨mm,c1,⟨ea,h1,h3,c2⟩⟩:=key c;rw[<-ea] at c2;cases rs with
 | nil=>
   have hn:(ds++[z])[ds.length+1]?=none:=cn (by simp);have c2:z.a+z.l=e:=c2;rw[SZ hn];exact⟨c2,aq _,by omega⟩
 | cons w R=>
   have hw:(ds++z::w::R)[ds.length+1]?=some w:=by rw[η (by omega),show ds.length+1-ds.length=1 by omega];rfl
   have hl:=c2.le;rw[am] at hl;cases hv:w.v with
   | true=>
     rw[Qk hw hv,LU hv];exact⟨c2,aq _,by omega⟩
   | false=>
     rw[Ql hw hv,LV hv];obtain⟨g1,g2,g3,g4⟩:=c2;have hl2:=g4.le;refine⟨?_,by omega,by omega⟩;rw[g1];exact g4
theorem mX{p:Pc}(h:p∈Di ds):p∈ds:=by
 rcases Ea ds with e0 | ⟨D,y,e0⟩
 . subst e0;exact h
 . subst e0;cases hv:y.v with
   | true=>rw[LW hv] at h;exact h
   | false=>rw[LX hv] at h;exact θ.mpr (.inl h)
theorem bU{rs:List Pc}{p:Pc}(h:p∈CH rs):p∈rs:=by
 cases rs with
 | nil=>cases h
 | cons w R=>
   cases hv:w.v with
   | true=>rw[LU hv] at h;exact h
   | false=>rw[LV hv] at h;exact ρ _ h
def yc(ps:List Pc)(k:Int):List Pc:=ps.map λp=>(⟨p.a,p.l,p.v&&!decide (p.a=k)⟩:Pc)
theorem bV{rs:List Pc}{s e:Int}(c:Ak s (ds++z::rs) e):yc (ds++z::rs) z.a=ds++⟨z.a,z.l,false⟩::rs:=by
 have hid:∀p∈ds++rs,(⟨p.a,p.l,p.v&&!decide (p.a=z.a)⟩:Pc)=p:=λp hp=>by
   have hne:p.a≠z.a:=λh=>by
     have hp2:p∈ds++z::rs:=by
       rcases θ.mp hp with g | g
       . exact θ.mpr (.inl g)
       . exact θ.mpr (.inr (ρ _ g))
     obtain⟨i,hi⟩:=ai hp2;have hz:(ds++z::rs)[ds.length]?=some z:=by rw[η (ψ _),di];rfl
     have:=LH c hi hz h;subst this
     rcases θ.mp hp with g | g
     . obtain⟨j,hj⟩:=ai g;have hjl:=(γ.mp hj).1;have:=LH c (show (ds++z::rs)[j]?=some p by rw[ξ hjl];exact hj) hz h;omega
     . obtain⟨j,hj⟩:=ai g;have:=LH c (show (ds++z::rs)[ds.length+1+j]?=some p by rw[η (by omega),show ds.length+1+j-ds.length=j+1 by omega,lv];exact hj) hz h;omega
   rw[decide_eq_false hne];simp
 unfold yc;rw[af,av];have e1:ds.map (λp=>(⟨p.a,p.l,p.v&&!decide (p.a=z.a)⟩:Pc))=ds:=by
   have:ds.map (λp=>(⟨p.a,p.l,p.v&&!decide (p.a=z.a)⟩:Pc))=ds.map id:=ke λp hp=>hid p (θ.mpr (.inl hp));rw[this,ue]
 have e2:rs.map (λp=>(⟨p.a,p.l,p.v&&!decide (p.a=z.a)⟩:Pc))=rs:=by
   have:rs.map (λp=>(⟨p.a,p.l,p.v&&!decide (p.a=z.a)⟩:Pc))=rs.map id:=ke λp hp=>hid p (θ.mpr (.inr hp));rw[this,ue]
 rw[e1,e2];simp
theorem bW{w:List Pc}(h:AK w):AK (CH w)/\∀y,(CH w)[0]?=some y->y.v=true:=by
 cases w with
 | nil=>exact⟨h,λy hy=>by simp [CH] at hy⟩
 | cons z R=>
   cases hv:z.v with
   | true=>
     rw[LU hv];refine⟨h,λy hy=>?_⟩;have ey:y=z:=by simpa using hy.symm
     rw[ey];exact hv
   | false=>
     rw[LV hv];refine⟨AK.right (X:=[z]) h,λy hy=>?_⟩;have:=AK.mid (X:=[z]) (Y:=R) (x:=z) (y:=y) h rfl hy;exact this.resolve_left (by rw[hv];exact ν)
theorem mY{rs:List Pc}(c:Ak 0 (ds++z::rs) cs.length)(m:Au cs (ds++z::rs))(na:AK (ds++z::rs))(hv:z.v=true):
   Ak 0 (BP (yc (ds++z::rs) z.a)) cs.length/\AK (BP (yc (ds++z::rs) z.a))/\Au (lfI cs (xa (ds++z::rs) ds.length z) (wQ (ds++z::rs) ds.length z)) (BP (yc (ds++z::rs) z.a)):=by
 obtain⟨b1,b2,b3⟩:=mW c;obtain⟨e1,e2,e3⟩:=Tl c;have zl:1<=z.l:=(c.mem z (by simp)).2.1;have hj:BP (yc (ds++z::rs) z.a)=Di ds++(fr (xa (ds++z::rs) ds.length z) (wQ (ds++z::rs) ds.length z)++CH rs):=by
   rw[bV c];unfold fr;rw[if_neg (by omega)];have hds:AK ds:=na.left;have hrs:AK rs:=AK.right (X:=ds++[z]) (by rw[ao];exact na);obtain⟨hR1,hR2⟩:=bW hrs;unfold BP;rw[jh,gf];have h0:ds.foldl BA []=ds:=by
     have:=Qr ds [] (by simpa using hds);simpa using this
   rw[h0]
   have h1:∃l1,BA ds ⟨z.a,z.l,false⟩=Di ds++[⟨xa (ds++z::rs) ds.length z,l1,false⟩]/\xa (ds++z::rs) ds.length z+l1=z.a+z.l:=by
     rcases Ea ds with e0 | ⟨D,y,e0⟩
     . subst e0;exact⟨z.l,rfl,rfl⟩
     . subst e0;have hy:(D++[y]++z::rs)[D.length]?=some y:=by rw[ao,η (ψ _),di];rfl
       have hn:=DW c hy (show (D++[y]++z::rs)[D.length+1]?=some z by rw[η (by simp),show D.length+1-(D++[y]).length=0 by simp];rfl);rw[ι,Θ];cases hvy:y.v with
       | true=>exact⟨z.l,by rw[Qi hy hvy,LW hvy];exact Hb hvy,by rw[Qi hy hvy]⟩
       | false=>exact⟨y.l+z.l,by rw[Qj hy hvy,LX hvy];exact Hc hvy rfl,by rw[Qj hy hvy];omega⟩
   obtain⟨l1,h1,h1'⟩:=h1;rw[h1];have hfl:∀x y,(Di ds).getLast?=some x->[(⟨xa (ds++z::rs) ds.length z,wQ (ds++z::rs) ds.length z-xa (ds++z::rs) ds.length z,false⟩:Pc)][0]?=some y->x.v=true\/y.v=true:=λx y hx hy=>by
     left;rcases Ea ds with e0 | ⟨D,w,e0⟩
     . subst e0;simp [Di] at hx
     . subst e0;cases hvy:w.v with
       | true=>
         rw[LW hvy] at hx;have ex:x=w:=by simpa using hx.symm
         rw[ex];exact hvy
       | false=>
         rw[LX hvy] at hx;have h2:AK (D++[w]):=hds;exact(h2.mid hx (by rfl)).resolve_right (by rw[hvy];exact ν)
   have hflN:AK (Di ds):=by
     rcases Ea ds with e0 | ⟨D,w,e0⟩
     . subst e0;exact hds
     . subst e0;cases hvy:w.v with
       | true=>rw[LW hvy];exact hds
       | false=>rw[LX hvy];exact hds.left
   have hall:AK ((Di ds++[(⟨xa (ds++z::rs) ds.length z,wQ (ds++z::rs) ds.length z-xa (ds++z::rs) ds.length z,false⟩:Pc)])++CH rs):=
     AK.app (hflN.app (LS _) hfl) hR1 λx y hx hy=>.inr (hR2 y hy)
   cases rs with
   | nil=>
     have hn:(ds++[z])[ds.length+1]?=none:=cn (by simp);rw[SZ hn] at *;have el:l1=z.a+z.l-xa (ds++[z]) ds.length z:=by omega
     rw[el];simp [CH]
   | cons w R=>
     have hw:(ds++z::w::R)[ds.length+1]?=some w:=by rw[η (by omega),show ds.length+1-ds.length=1 by omega];rfl
     have hnx:=DW c (show (ds++z::w::R)[ds.length]?=some z by rw[η (ψ _),di];rfl) hw;cases hvw:w.v with
     | true=>
       rw[Qk hw hvw] at *;have el:l1=z.a+z.l-xa (ds++z::w::R) ds.length z:=by omega
       rw[el];have eR:CH (w::R)=w::R:=LU hvw;rw[eR] at hall ⊢;rw[Qr (w::R) _ hall,ao]
     | false=>
       rw[Ql hw hvw] at *;have eR:CH (w::R)=R:=LV hvw;rw[eR] at hall ⊢;rw[gf,Hc rfl hvw];have el:l1+w.l=w.a+w.l-xa (ds++z::w::R) ds.length z:=by omega
       show ou BA (Di ds++[⟨xa (ds++z::w::R) ds.length z,l1+w.l,false⟩]) R=_;rw[el,Qr R _ hall,ao]
 refine⟨aP ?_,lQ _,?_⟩
 . rw[bV c];obtain⟨i1,i2⟩:=(show Ak 0 (Di ds) _/\True from ⟨b1,trivial⟩)
   have key:∀(A:List Pc)(s:Int),Ak s (A++z::rs) cs.length->Ak s (A++⟨z.a,z.l,false⟩::rs) cs.length:=by
     intro A
     induction A with
     | nil=>rintro s ⟨g1,g2,g3,g4⟩;exact⟨g1,g2,(λh=>by cases h),g4⟩
     | cons y r ih=>rintro s ⟨g1,g2,g3,g4⟩;exact⟨g1,g2,g3,ih _ g4⟩
   exact key ds 0 c
 . rw[hj];refine Au.layF b3 (by omega) e3 (b1.endBy (aq _)) e1.fromOn (m.sub λp hp=>?_);rcases θ.mp hp with g | g
   . exact θ.mpr (.inl (mX g))
   . exact θ.mpr (.inr (ρ _ (bU g)))
def rg1(k L e:Int)(p:Pc):List Pc:=(if p.a<k\/e<=p.a then [p] else [])++(if p.a=k then [⟨k,L,true⟩] else [])++(if p.a=k/\k+L<e then [⟨k+L,e-k-L,false⟩] else [])
def w_(ps:List Pc)(k L e:Int):List Pc:=(ps.map (rg1 k L e)).flatten
theorem Qs(A B:List Pc)(k L e:Int):w_ (A++B) k L e=w_ A k L e++w_ B k L e:=by unfold w_;rw[af,nq]
theorem Tm{A:List Pc}{L e:Int}(h:∀p∈A,p.a≠k/\(p.a<k\/e<=p.a)):w_ A k L e=A:=by
 induction A with
 | nil=>rfl
 | cons p r ih=>
   have h1:=h p ω;have e1:rg1 k L e p=[p]:=by
     unfold rg1;rw[if_pos h1.2,if_neg h1.1,if_neg (λz=>h1.1 z.1)];rfl
   rw[show p::r=[p]++r from rfl,Qs,ih λq hq=>h q (ρ _ hq)]
   congr 1
   unfold w_;simp [e1]
theorem KB:∀{A B:List Pc}{s e:Int},Ak s (A++B) e->∃m,Ak s A m/\Ak m B e
 | [],B,s,e,c=>⟨s,rfl,c⟩
 | z::r,B,s,e,c=>by
   obtain⟨h1,h2,h3,h4⟩:=c
   obtain⟨m,g1,g2⟩:=KB h4
   exact⟨m,⟨h1,h2,h3,g1⟩,g2⟩
theorem mZ{rs:List Pc}{n L:Int}(c:Ak 0 (ds++z::rs) n)(na:AK (ds++z::rs))(hL:z.a+L<=wQ (ds++z::rs) ds.length z):
   w_ (ds++z::rs) z.a L (wQ (ds++z::rs) ds.length z)=(ds++[⟨z.a,L,true⟩])++(fr (z.a+L) (wQ (ds++z::rs) ds.length z)++CH rs):=by
 obtain⟨e1,e2,e3⟩:=Tl c;obtain⟨mm,c1,⟨ea,h1,h3,c2⟩⟩:=KB c;rw[<-ea] at c1 c2;have hz:rg1 z.a L (wQ (ds++z::rs) ds.length z) z=[⟨z.a,L,true⟩]++fr (z.a+L) (wQ (ds++z::rs) ds.length z):=by
   unfold rg1 fr;rw[if_neg (by omega),if_pos rfl,bz]
   congr 1
   by_cases he:z.a+L=wQ (ds++z::rs) ds.length z
   . rw[if_pos he,if_neg (by omega)]
   . rw[if_neg he,if_pos ⟨rfl,by omega⟩,show wQ (ds++z::rs) ds.length z-z.a-L=wQ (ds++z::rs) ds.length z-(z.a+L) by omega]
 have hr:w_ rs z.a L (wQ (ds++z::rs) ds.length z)=CH rs:=by
   cases rs with
   | nil=>rfl
   | cons w R=>
     have hw:(ds++z::w::R)[ds.length+1]?=some w:=by rw[η (by omega),show ds.length+1-ds.length=1 by omega];rfl
     cases hv:w.v with
     | true=>
       rw[LU hv];refine Tm λp hp=>?_;have:=c2.mem p hp;rw[Qk hw hv];exact⟨by omega,.inr (by omega)⟩
     | false=>
       rw[LV hv] at e1 ⊢;obtain⟨g1,g2,g3,g4⟩:=c2;have hf:=Ql (z:=z) hw hv;rw[show w::R=[w]++R from rfl,Qs];have e0:w_ [w] z.a L (wQ (ds++z::w::R) ds.length z)=[]:=by
         unfold w_ rg1;rw[av,ib,cu,qf,if_neg (by omega),if_neg (by omega),if_neg (by omega)];rfl
       have e0':w_ [w] z.a L (wQ (ds++z::([w]++R)) ds.length z)=[]:=e0;rw[e0',bz];refine Tm λp hp=>?_;have hm:=e1.mem p hp;show p.a≠z.a/\(p.a<z.a\/wQ (ds++z::w::R) ds.length z<=p.a)
       exact⟨by omega,.inr (by omega)⟩
 rw[Qs,Tm (A:=ds) (λp hp=>by have:=c1.mem p hp;exact⟨by omega,.inl (by omega)⟩),show z::rs=[z]++rs from rfl,Qs];have e9:w_ [z] z.a L (wQ (ds++([z]++rs)) ds.length z)=[⟨z.a,L,true⟩]++fr (z.a+L) (wQ (ds++z::rs) ds.length z):=by
   unfold w_;rw[av,ib,cu,qf,ae];exact hz
 have e8:w_ rs z.a L (wQ (ds++([z]++rs)) ds.length z)=CH rs:=hr;rw[e9,e8];simp
theorem nA{rs:List Pc}{L:Int}(c:Ak 0 (ds++z::rs) cs.length)(m:Au cs (ds++z::rs))(na:AK (ds++z::rs))(hL3:3<=L)(hL:z.a+L<=wQ (ds++z::rs) ds.length z):
   Ak 0 (w_ (ds++z::rs) z.a L (wQ (ds++z::rs) ds.length z)) cs.length/\AK (w_ (ds++z::rs) z.a L (wQ (ds++z::rs) ds.length z)) /\
   Au (lfI (AS cs z.a L true) (z.a+L) (wQ (ds++z::rs) ds.length z)) (w_ (ds++z::rs) z.a L (wQ (ds++z::rs) ds.length z)):=by
 obtain⟨e1,e2,e3⟩:=Tl c;obtain⟨mm,c1,⟨ea,h1,h3,c2⟩⟩:=KB c;rw[<-ea] at c1 c2;have hl1:=c1.le;have hrs:AK rs:=AK.right (X:=ds++[z]) (by rw[ao];exact na);obtain⟨hR1,hR2⟩:=bW hrs;rw[mZ c na hL];have cz:Ak 0 (ds++[⟨z.a,L,true⟩]) (z.a+L):=Ak.snoc (p:=⟨z.a,L,true⟩) c1 (show 1<=L by omega) (λ_=>hL3);refine⟨cz.app ((G9 hL).app e1),?_,?_⟩
 . have n1:AK (ds++[⟨z.a,L,true⟩]):=by
     refine na.left.app (LS _) λx y _ hy=>.inr ?_;have ey:y=⟨z.a,L,true⟩:=by simpa using hy.symm
     rw[ey]
   have n2:AK (fr (z.a+L) (wQ (ds++z::rs) ds.length z)++CH rs):=by
     unfold fr
     split
     . exact hR1
     . exact(LS _).app hR1 λx y _ hy=>.inr (hR2 y hy)
   refine n1.app n2 λx y hx _=>.inl ?_;have:x=⟨z.a,L,true⟩:=by simpa using hx.symm
   rw[this]
 . have ml:Au (AS cs z.a L true) (ds++⟨z.a,L,true⟩::CH rs):=Au.lay (by omega) (by omega) (by omega) (c1.endBy (aq _)) (λp hp=>by have:=e1.fromOn p hp;omega) (m.sub λp hp=>by
     rcases θ.mp hp with g | g
     . exact θ.mpr (.inl g)
     . exact θ.mpr (.inr (ρ _ (bU g))))
   exact Au.layF (by omega) hL (by rw[B0];exact e3) (cz.endBy (aq _)) e1.fromOn (by rw[ao];exact ml)
theorem KC{ps:List Pc}{s e p:Int}{y:Pc}(c:Ak s ps e)(hy:y∈ps)(hz:z∈ps)(h1:y.a<=p)(h2:p<y.a+y.l)(h3:z.a<=p)(h4:p<z.a+z.l):y=z:=by
 obtain⟨i,hi⟩:=ai hy;obtain⟨j,hj⟩:=ai hz;rcases gh i j with g | g | g
 . exfalso;obtain⟨ds,rs,e1,e2,c1,c2⟩:=CD c hj;subst e1 e2;rw[ξ (by omega)] at hi;have:=(c1.mem y (ε hi)).2.2.2;omega
 . subst g;exact χ (hi.symm.trans hj)
 . exfalso;obtain⟨ds,rs,e1,e2,c1,c2⟩:=CD c hi;subst e1 e2;rw[ξ (by omega)] at hj;have:=(c1.mem z (ε hj)).2.2.2;omega
theorem nB{rs:List Pc}{s L:Int}(na:AK (ds++z::rs))(hv:z.v=false):AK (xE ds rs z.a z.l s L):=by
 have hd:AK ds:=na.left;have hr:AK rs:=AK.right (X:=[z]) na.right;have lastd:∀x,ds.getLast?=some x->x.v=true:=λx hx=>by
   rcases na.mid hx (y:=z) rfl with h | h
   . exact h
   . rw[hv] at h;cases h
 have firstr:∀y,rs[0]?=some y->y.v=true:=λy hy=>by
   rcases(na.right).mid (X:=[z]) (Y:=rs) (x:=z) rfl hy with h | h
   . rw[hv] at h;cases h
   . exact h
 have hf:∀b e,AK (fr b e):=λb e=>by
   unfold fr
   split
   . exact mV
   . exact LS _
 have frl:∀b e x,(fr b e).getLast?=some x->x.v=false:=λb e x hx=>by
   unfold fr at hx
   split at hx
   . simp at hx
   . have:(⟨b,e-b,false⟩:Pc)=x:=by simpa using hx
     rw[<-this]
 unfold xE;refine hd.app ((hf _ _).app (AK.app (X:=[⟨s,L,true⟩]) (LS _) ((hf _ _).app hr λx y hx hy=>.inr (firstr y hy)) λx y hx hy=>.inl ?_) λx y hx hy=>.inr ?_) λx y hx hy=>.inl (lastd x hx)
 . have:(⟨s,L,true⟩:Pc)=x:=by simpa using hx
   rw[<-this]
 . have:(⟨s,L,true⟩:Pc)=y:=by simpa using hy
   rw[<-this]
def xt(cs:List Int)(s g c:Nat):List Int:=cs.take g++(cs.drop s).take c++cs.drop (g+c)
theorem nE{s g c:Nat}(h1:s+c<=cs.length)(h2:g+c<=cs.length):(xt cs s g c).length=cs.length:=by
 unfold xt;simp;omega
theorem bX{s g c:Nat}(h1:s+c<=cs.length)(h2:g+c<=cs.length)(h:j<g\/g+c<=j):(xt cs s g c)[j]?=cs[j]?:=by
 unfold xt;have l1:(cs.take g).length=g:=by rw[cj];omega
 have l2:((cs.drop s).take c).length=c:=by rw[cj,gv];omega
 rcases h with h | h
 . rw[ao,ξ (by omega),kz,if_pos h]
 . rw[η (by rw[ι];omega),ι,l1,l2,kx,show g+c+(j-(g+c))=j by omega]
theorem nF{ps:List Pc}{s c n:Nat}(hc:Ak 0 ps n)(hn:cs.length=n)(m:Au cs ps)(hz:z∈ps)(hv:z.v=true)(h1:s+c<=n)(h2:(c:Int)<=z.l-2):Au (xt cs s (z.a+1).toNat c) ps:=λp hp=>by
 obtain⟨z0,z1,z3,z4⟩:=hc.mem z hz;have z3:=z3 hv;obtain⟨p0,p1,p3,p4⟩:=hc.mem p hp;obtain⟨m1,m2⟩:=m p hp;have h2':(z.a+1).toNat+c<=cs.length:=by omega
 have out:∀j:Int,0<=j->(j<=z.a\/z.a+z.l-1<=j)->(xt cs s (z.a+1).toNat c)[j.toNat]?=cs[j.toNat]?:=λj j0 hj=>bX (by omega) h2' (by omega);by_cases e:p=z
 . subst e;exact⟨by rw[out _ p0 (.inl (aq _))];exact m1,by rw[out _ (by omega) (.inr (aq _))];exact m2⟩
 . have far:p.a+p.l<=z.a\/z.a+z.l<=p.a:=by
     rcases kg p.a z.a with h | h
     . left;rcases kg z.a (p.a+p.l) with g | g
       . exact absurd (KC hc hp hz (Int.le_of_lt h) g (aq _) (by omega)) e
       . exact g
     . right;rcases kg p.a (z.a+z.l) with g | g
       . exact absurd (KC hc hp hz (aq _) (by omega) h g) e
       . exact g
   exact⟨by rw[out _ p0 (by omega)];exact m1,by rw[out _ (by omega) (by omega)];exact m2⟩
theorem Qt{n d:Nat}(h0:0<=k)(h:k<=n):HT.sIx n d (some k)=k.toNat:=by
 have:=HT.sIx_nat n d k.toNat;rw[bg h0] at this;rw[this];omega
theorem yp{ns:List Int}(h0:0<=k)(h:k<=ns.length):xo ns none (some k)=ns.take k.toNat:=by
 unfold xo;rw[Qt h0 h,HT.sIx_none];rfl
theorem nG{ns:List Int}{l:Int}(h0:0<=k)(h1:0<=l)(h:k+l<=ns.length):xo ns (some k) (some (k+l))=(ns.drop k.toNat).take l.toNat:=by
 unfold xo;rw[Qt h0 (by omega),Qt (by omega) h,show (k+l).toNat-k.toNat=l.toNat by omega]
theorem nH{ns:List Int}(h0:0<=k)(h:k<=ns.length):xo ns (some k) none=ns.drop k.toNat:=by
 unfold xo;rw[Qt h0 h,HT.sIx_none];exact ar (by rw[gv];omega)
section
variable {X:Cx}{e:uN}{t:TX}{epos:Pos}
end
theorem EI{n m:Nat}(h:n+64<m):n+1<m:=by omega
theorem bY{α β:Type}{F:α->β->Prop}:∀{xs:List α}{us:List β}{i:Nat}{x:α},Paired F xs us->xs[i]?=some x->∃u,us[i]?=some u/\F x u
 | _,_,_,_,.nil,e=>by simp at e
 | _,_,0,_,.cons r _,e=>by simp at e;subst e;exact⟨_,rfl,r⟩
 | _,_,i+1,x,.cons _ t,e=>by
   obtain⟨u,h1,h2⟩:=bY (i:=i) (x:=x) t (by simpa using e)
   exact⟨u,by simpa using h1,h2⟩
theorem zF{kvs:List (Key×V)}{vs:List (Key×uG)}(r:KV kvs vs){k:Key}{v:V}(e:kvs[i]?=some (k,v)):∃u,vs[i]?=some (k,u):=by
 obtain⟨⟨k',u⟩,hq,h1,_⟩:=bY (show Paired _ kvs vs from r) e;have h1:k=k':=h1;subst h1;exact⟨u,hq⟩
theorem nJ{P:uK}{w:uL}{k:Key}{u:uG}(h:(Ci P w).is k u=true):RelV (kV k) u:=by
 rcases Ex (show GX k u=true from h) with ⟨i,t,rfl,rfl⟩ | ⟨x,t,rfl,rfl⟩
 . exact⟨t,rfl⟩
 . exact⟨t,rfl⟩
section
variable {X:Cx}{pins:List (uH×Obj)}{σ:L2.St}{H:Hp}{s:uI}{d:uH}{kvs:List (Key×V)}{o:Obj}
end
section
variable {X:Cx}{tg:uN}
end
section
variable {K:δ}{σ:L2.St}{H:Hp}{Q:VK}{D:Ends}
theorem r_dget{td ty:TE}(h:td σ H λx H1=>ty σ H1 λy H2=>∃a v,x = .ref a/\DGet H2 a y (some v)/\Q v H2):yM td ty σ H Q:=h
theorem r_dput{td ty tv:TE}(h:tv σ H λv H1=>td σ H1 λx H2=>ty σ H2 λy H3=>∃a H4,x = .ref a/\DPut H3 a y v H4/\D.nx σ H4):zb td ty tv D σ H:=h
theorem r_dnew(h:∀p,H p=none->Q (.ref p) (upd H p (.dK []))):aY σ H Q:=h
theorem r_tyD{p:uH}{kvs:List (Key×V)}{P:Prop}(h:H p=some (.dK kvs))(q:P):tyV K "dict" (.ref p) H/\P:=⟨.inr (.inr (.inl ⟨rfl,.inl ⟨_,h⟩⟩)),q⟩
end
def bZ:V->List V->Hp->VK->Prop:=λx vs H Q=>∃a kvs,x = .ref a/\vs=[]/\H a=some (.dK kvs)/\Q .non (upd H a (.dK []))
theorem nK{X:Cx}:MtM X "dict.clear" bZ:=by
 intro pins s σ H x vs v us Q I rx rv h;obtain⟨a,kvs,rfl,rfl,hH,q⟩:=h;cases rx;have hus:=rv.zero;subst hus;exact lX I hH λs' I'=>⟨.non,_,I',rfl,q⟩
theorem nL{H:Hp}{Q:VK}{a:uH}{kvs:List (Key×V)}(h:H a=some (.dK kvs))(q:Q .non (upd H a (.dK []))):bZ (.ref a) [] H Q:=⟨a,kvs,rfl,rfl,h,q⟩
inductive W7
 | first | best | next | likes | half | shel | row
def cF(C1 C2 C3 C4 C5 C6 C7:uH):W7->uH
 | .first=>C1
 | .best=>C2
 | .next=>C3
 | .likes=>C4
 | .half=>C5
 | .shel=>C6
 | .row=>C7
def fsF:W7->uH->Int->List (Str×V)
 | .next,a,r=>[("room_cells",.ref a),("room_rover",.int r)]
 | .shel,a,r=>[("room_cells",.ref a),("shelf",.int r)]
 | .first,a,_=>[("room_cells",.ref a)]
 | .best,a,_=>[("room_cells",.ref a)]
 | .likes,a,_=>[("room_cells",.ref a)]
 | .half,a,_=>[("room_cells",.ref a)]
 | .row,a,_=>[("room_cells",.ref a)]
theorem fsF_cells{i:W7}{a:uH}{r:Int}:(fsF i a r).lookup ("room_cells":Str)=some (.ref a):=by cases i <;> rfl
theorem fsF_few{i:W7}{a:uH}{r:Int}:(fsF i a r).length<1000:=by cases i <;> (simp only [fsF,am,db];omega)
theorem fsF_none{i:W7}{a:uH}{r:Int}{m:Str}(h1:(m==("room_cells":Str))=false)(h2:(m==("shelf":Str))=false)(h3:(m==("room_rover":Str))=false):(fsF i a r).lookup m=none:=by
 cases i <;> simp only [fsF,gz,h1,h2,h3]
theorem KD{i:W7}{a b:uH}{r:Int}:xc ("room_cells":Str) (.ref b) (fsF i a r)=fsF i b r:=by cases i <;> rfl
theorem EJ{C1 C2 C3 C4 C5 C6 C7:uH}{Q:uH->Prop}(h1:Q C1)(h2:Q C2)(h3:Q C3)(h4:Q C4)(h5:Q C5)(h6:Q C6)(h7:Q C7):∀i,Q (cF C1 C2 C3 C4 C5 C6 C7 i):=λi=>by
 cases i
 . exact h1
 . exact h2
 . exact h3
 . exact h4
 . exact h5
 . exact h6
 . exact h7
def Bu(P:uK)(w:uL)(K:δ)(mg:Str->Option uG)(base:vq)(ok:W7->Prop)(C:W7->uH)(m:Str)(j:Nat)(ps:List Str)(dvs:List V)(sp:W7->Sp):Prop:=∀i,ok i->Methx P w K mg base (C i) m j ps dvs (sp i)
def A7(P:uK)(w:uL)(K:δ)(mg:Str->Option uG)(base:vq)(C:W7->uH)(m:Str)(j:Nat)(ps:List Str)(dvs:List V)(sp:W7->Sp):Prop:=∀i,Methx P w K mg base (C i) m j ps dvs (sp i)
structure xr(P:uK)(w:uL)(K:δ)(mg:Str->Option uG)(base:vq)(C:W7->uH)(m:Str)(j:Nat)(ps:List Str)(dvs:List V)(sp:W7->Sp):Prop where
 all:A7 P w K mg base C m j ps [] sp
 less:A7 P w K mg base C m j ps dvs sp
section
variable {P:uK}{w:uL}{K:δ}{mg:Str->Option uG}{base:vq}{C:W7->uH}{m:Str}{j k:Nat}{ps:List Str}{dvs:List V}{sp:W7->Sp}{ok ok':W7->Prop}{f:uH}{fd:uJ}{ds:List uG}
theorem Bu.made(F:FnOk P w K mg base (CXe P w) j f fd ps (λvs H Q E=>∃i,ok i/\sp i vs H Q E))(M:∀i,ok i->wT K (C i) m f)(b:Bx K fd ps [])(c:∀i,Cls K (C i)):Bu P w K mg base ok C m j ps [] sp:=
 λi hi=>⟨⟨f,fd,[],F.imp λ_ _ _ _ h=>⟨i,hi,h⟩,M i hi,b,.nil⟩,c i⟩
theorem A7.made(F:FnOk P w K mg base (CXe P w) j f fd ps (λvs H Q E=>∃i,sp i vs H Q E))(M:∀i,wT K (C i) m f)(b:Bx K fd ps [])(c:∀i,Cls K (C i)):A7 P w K mg base C m j ps [] sp:=
 λi=>⟨⟨f,fd,[],F.imp λ_ _ _ _ h=>⟨i,h⟩,M i,b,.nil⟩,c i⟩
theorem Methx.up{C₀:uH}{sp₀:Sp}(D:Methx P w K mg base C₀ m j ps dvs sp₀)(h:j<=k):Methx P w K mg base C₀ m k ps dvs sp₀:=by
 obtain⟨f,fd,ds,F,M,b,v⟩:=D.ex;exact⟨⟨f,fd,ds,F.mono h,M,b,v⟩,D.cl⟩
structure MethSD(P:uK)(w:uL)(K:δ)(mg:Str->Option uG)(base:vq)(ok:W7->Prop)(C:W7->uH)(m:Str)(j:Nat)(ps:List Str)(dvs:List V)(sp:W7->Sp):Prop where
 all:Bu P w K mg base ok C m j ps [] sp
 less:Bu P w K mg base ok C m j ps dvs sp
theorem MethSD.made(F:FnOk P w K mg base (CXe P w) j f fd ps (λvs H Q E=>∃i,ok i/\sp i vs H Q E))(M:∀i,ok i->wT K (C i) m f)(b:Bx K fd ps [])(b':Bx K fd ps ds)(v:Vals dvs ds)(c:∀i,Cls K (C i)):MethSD P w K mg base ok C m j ps dvs sp:=
 ⟨λi hi=>⟨⟨f,fd,[],F.imp λ_ _ _ _ h=>⟨i,hi,h⟩,M i hi,b,.nil⟩,c i⟩,λi hi=>⟨⟨f,fd,ds,F.imp λ_ _ _ _ h=>⟨i,hi,h⟩,M i hi,b',v⟩,c i⟩⟩
end
def LY(C:W7->uH)(m:Str)(sp:W7->Sp)(dvs:List V)(E:XK)(ta:TE)(t:TA):TE:=λσ H Q=>ta σ H λx H1=>∃i a dx fs,x = .ref a/\H1 a=some (.ins (C i) dx fs)/\fs.lookup m=none/\t σ H1 λvs H2=>sp i (x::(vs++dvs)) H2 Q E
section
variable {X:Cx}{j k:Nat}{C:W7->uH}{ps:List Str}{sp:W7->Sp}{dvs:List V}{m:Str}{pos apos:Pos}{e o:uN}{es:List uN}{to:TE}{t:TA}{E:XK}
theorem BG{pl:vo Bool}(D:A7 X.prog X.w X.K X.mg X.base C m j ps dvs sp)(hx:D6 (CXe X.prog X.w) X E)(hr:Room k X.A)(ho:PE X o to)(ha:PA X (e::es) t)(hk:j<=k:=by decide)
   (hst:uR (e::es) X.env=(false,vh e X.env)::uR es X.env:=by rfl) (hpl:(uZ pos (uR es X.env)).any (·.1)=false:=by rfl)
   (ht:vh (.Call (.Attribute o m apos) (e::es) [] pos) X.env=(do
     let ov <-vh o X.env
     standAt apos.atName
     let (f,first) <-holding [ov] (getMethod ov m pl)
     vf pos f first (uZ pos (uR (e::es) X.env)) (backToKw pos (keywordEach [] X.env))):=by rfl):
   PE X (.Call (.Attribute o m apos) (e::es) [] pos) (LY C m sp dvs E to t):=by
 intro pins s σ H Q I h;refine methodCall_KW (pl:=pl) (thn (ho pins s σ H _ I h) λu s1 hZ=>?_) ht;obtain⟨x,H1,I1,rx,i,a,dx,fs,ex,ea,l,q⟩:=hZ;subst ex;obtain rfl:u=Value.ref a:=rx;obtain⟨f,fd,ds,F,hm,hb,hd⟩:=(D i).ex;refine P7 I1 ea (D i).cl hm l ?_;refine callWith_K (first:=[.ref a]) (h₀:=X.base) I.ok.mod.kin hm.kp (thn (ha pos pins s1 σ H1 _ I1 q) λus s2 ⟨vs,H2,I2,r,q2⟩=>⟨I2.kIn,?_⟩) hst hpl;exact LA (us:=.ref a::us) (vs:=.ref a::vs) F (hr.mono hk) hb hd hx I2 (.cons rfl r) q2
theorem Dj{pl:vo Bool}(D:A7 X.prog X.w X.K X.mg X.base C m j ps dvs sp)(hx:D6 (CXe X.prog X.w) X E)(hr:Room k X.A)(ho:PE X o to)(hk:j<=k:=by decide)
   (ht:vh (.Call (.Attribute o m apos) [] [] pos) X.env=(do
     let ov <-vh o X.env
     standAt apos.atName
     let (f,first) <-holding [ov] (getMethod ov m pl)
     vf pos f first (uZ pos (uR [] X.env)) (backToKw pos (keywordEach [] X.env))):=by rfl):
   PE X (.Call (.Attribute o m apos) [] [] pos) (LY C m sp dvs E to tNil):=by
 intro pins s σ H Q I h;refine methodCall_KW (pl:=pl) (thn (ho pins s σ H _ I h) λu s1 hZ=>?_) ht;obtain⟨x,H1,I1,rx,i,a,dx,fs,ex,ea,l,q⟩:=hZ;subst ex;obtain rfl:u=Value.ref a:=rx;obtain⟨f,fd,ds,F,hm,hb,hd⟩:=(D i).ex;refine P7 I1 ea (D i).cl hm l ?_;exact PySem.W.callWith_K0 (first:=[.ref a]) I1.kIn hm.kp (LA (us:=[.ref a]) (vs:=[.ref a]) F (hr.mono hk) hb hd hx I1 (.cons rfl .nil) q)
end
def Tn(ok:W7->Prop)(C:W7->uH)(m:Str)(sp:W7->Sp)(dvs:List V)(E:XK)(ta:TE)(t:TA):TE:=λσ H Q=>ta σ H λx H1=>∃i a dx fs,ok i/\x = .ref a/\H1 a=some (.ins (C i) dx fs)/\fs.lookup m=none/\t σ H1 λvs H2=>sp i (x::(vs++dvs)) H2 Q E
section
variable {X:Cx}{j k:Nat}{C:W7->uH}{ps:List Str}{sp:W7->Sp}{dvs:List V}{m:Str}{pos apos:Pos}{e o:uN}{es:List uN}{to:TE}{t:TA}{E:XK}{ok:W7->Prop}
theorem Qu{pl:vo Bool}(D:Bu X.prog X.w X.K X.mg X.base ok C m j ps dvs sp)(hx:D6 (CXe X.prog X.w) X E)(hr:Room k X.A)(ho:PE X o to)(ha:PA X (e::es) t)(hk:j<=k:=by decide)
   (hst:uR (e::es) X.env=(false,vh e X.env)::uR es X.env:=by rfl) (hpl:(uZ pos (uR es X.env)).any (·.1)=false:=by rfl)
   (ht:vh (.Call (.Attribute o m apos) (e::es) [] pos) X.env=(do
     let ov <-vh o X.env
     standAt apos.atName
     let (f,first) <-holding [ov] (getMethod ov m pl)
     vf pos f first (uZ pos (uR (e::es) X.env)) (backToKw pos (keywordEach [] X.env))):=by rfl):
   PE X (.Call (.Attribute o m apos) (e::es) [] pos) (Tn ok C m sp dvs E to t):=by
 intro pins s σ H Q I h;refine methodCall_KW (pl:=pl) (thn (ho pins s σ H _ I h) λu s1 hZ=>?_) ht;obtain⟨x,H1,I1,rx,i,a,dx,fs,hok,ex,ea,l,q⟩:=hZ;subst ex;obtain rfl:u=Value.ref a:=rx;obtain⟨f,fd,ds,F,hm,hb,hd⟩:=(D i hok).ex;refine P7 I1 ea (D i hok).cl hm l ?_;refine callWith_K (first:=[.ref a]) (h₀:=X.base) I.ok.mod.kin hm.kp (thn (ha pos pins s1 σ H1 _ I1 q) λus s2 ⟨vs,H2,I2,r,q2⟩=>⟨I2.kIn,?_⟩) hst hpl;exact LA (us:=.ref a::us) (vs:=.ref a::vs) F (hr.mono hk) hb hd hx I2 (.cons rfl r) q2
end
section
variable {K:δ}{σ:L2.St}{H:Hp}{Q:VK}{EX:XK}{C:W7->uH}{m:Str}{sp:W7->Sp}{E:XK}{ta:TE}{t:TA}{dvs:List V}
theorem r_methF(h:ta σ H λx H1=>∃i a dx fs,x = .ref a/\H1 a=some (.ins (C i) dx fs)/\fs.lookup m=none/\t σ H1 λvs H2=>sp i (x::vs) H2 Q E):LY C m sp [] E ta t σ H Q:=by
 unfold LY;simp only [ae];exact h
theorem r_methFD(h:ta σ H λx H1=>∃i a dx fs,x = .ref a/\H1 a=some (.ins (C i) dx fs)/\fs.lookup m=none/\t σ H1 λvs H2=>sp i (x::(vs++dvs)) H2 Q E):LY C m sp dvs E ta t σ H Q:=h
theorem r_methS{ok:W7->Prop}(h:ta σ H λx H1=>∃i a dx fs,ok i/\x = .ref a/\H1 a=some (.ins (C i) dx fs)/\fs.lookup m=none/\t σ H1 λvs H2=>sp i (x::vs) H2 Q E):Tn ok C m sp [] E ta t σ H Q:=by
 unfold Tn;simp only [ae];exact h
theorem r_matS{ok:W7->Prop}{a dx:uH}{i:W7}{fs:List (Str×V)}{R:W7->Prop}(o:ok i)(h:H a=some (.ins (C i) dx fs))(l:fs.lookup m=none)(q:R i):
   ∃i' a' dx' fs',ok i'/\V.ref a=V.ref a'/\H a'=some (.ins (C i') dx' fs')/\fs'.lookup m=none/\R i':=⟨i,a,dx,fs,o,rfl,h,l,q⟩
theorem r_matF{a dx:uH}{i:W7}{fs:List (Str×V)}{R:W7->Prop}(h:H a=some (.ins (C i) dx fs))(l:fs.lookup m=none)(q:R i):
   ∃i' a' dx' fs',V.ref a=V.ref a'/\H a'=some (.ins (C i') dx' fs')/\fs'.lookup m=none/\R i':=⟨i,a,dx,fs,rfl,h,l,q⟩
end
theorem decS{i j:Str}:decide (V.str i=V.str j)=decide (i=j):=by
 rw[Sr,cy];simp
section
variable {H:Hp}{Q:VK}
theorem r_eqSS{i:Str}(h:Q (.bl true) H):rEq (.str i) (.str i) H Q:=⟨rfl,by rw[decide_eq_true rfl];exact h⟩
theorem r_neSS{i:Str}(h:Q (.bl false) H):rNe (.str i) (.str i) H Q:=⟨rfl,by rw[decide_eq_true rfl];exact h⟩
theorem r_eqSt{i j:Str}(h:Q (.bl (decide (i=j))) H):rEq (.str i) (.str j) H Q:=⟨rfl,by rw[decS];exact h⟩
theorem r_neSt{i j:Str}(h:Q (.bl (!decide (i=j))) H):rNe (.str i) (.str j) H Q:=⟨rfl,by rw[decS];exact h⟩
end
theorem cA:∀{xs:List V}{us:List uG},us.length=xs.length->(∀(j:Nat)(v:V)(u:uG),xs[j]?=some v->us[j]?=some u->RelV v u)->Vals xs us
 | [],[],_,_=>.nil
 | x::xs,u::us,hl,h=>.cons (h 0 x u rfl rfl) (cA (by simpa using hl) λj v u' h1 h2=>h (j+1) v u' (by simpa using h1) (by simpa using h2))
theorem nM{X:Cx}(hc:X.calm=true):D4 X (.type "list") (λxs H Q=>∃a,∃kvs:List (Key×V),xs=[.ref a]/\H a=some (.dK kvs)/\∀l,H l=none->Q (.ref l) (upd H l (.lst (kvs.map λkv=>kV kv.1)))):=by
 intro pins s σ H xs us Q I r h;obtain⟨a,kvs,rfl,e,q⟩:=h;obtain⟨u,rfl,rx⟩:=P5 r;cases rx;obtain⟨hz,lo,vs,rk,hd⟩:=LL I.hok e;obtain⟨ep,hat⟩:=hd.dictAt;have hlen:=KV.length rk;refine PySem.W.kdl_call (PySem.W.kdl_dict (knd:=Ci X.prog X.w) (kvs:=vs) (ep:=ep) lo) (I.ok.hd hc) hat (by rw[<-hlen];exact hz) λh' tk acc' c' hk hD hacc=>?_;have hv:Vals (kvs.map λkv=>kV kv.1) acc'.toList:=cA (by rw[Ξ,kc,hacc.1,hlen]) λj v u h1 h2=>by
   obtain⟨k,x,hx,hkk⟩:=hacc.2 j u (by rw[<-Array.getElem?_toList];exact h2);rw[cr] at h1;obtain⟨kv,hkv,rfl⟩:=dj.mp h1;obtain⟨u',hu'⟩:=zF rk (i:=j) (k:=kv.1) (v:=kv.2) (by rw[hkv]);rw[hu'] at hx;cases hx;exact nJ hkk
 exact⟨.ref s.heap.objs.size,_,I.laid (t':=tk) hk (ψ _) (show Br X.prog X.w _ h' _ (.lst (kvs.map λkv=>kV kv.1)) from ⟨by rw[Ξ];exact hz,acc'.toList,c',hv,by rw[Array.toArray_toList];exact hD⟩),rfl,q _ (I.hok.fresh (ψ _))⟩
section
variable {X:Cx}{a:uN}{ta:TE}
theorem nN(ha:PE X a ta)(he:∀whole,isTrue a X.env whole=(do let v <-whole;standAt a.pos;holding [v] (truthy v))):
   PT X a (λσ H Q=>ta σ H λx H'=>∃p,∃kvs:List (Key×V),x = .ref p/\H' p=some (.dK kvs)/\Q (!kvs.isEmpty) H'):=by
 intro pins s σ H Q I h;refine isTrue_plain (thn (ha pins s σ H _ I h) λv s1 hZ=>?_) (he _);obtain⟨x,H1,I1,r1,p,kvs,ex,e,q1⟩:=hZ;subst ex;obtain rfl:v=Value.ref p:=r1;exact yn I1 (.inl e) λs' I'=>⟨H1,I',q1⟩
end
section
variable {K:δ}{σ:L2.St}{H:Hp}{Q:VK}
theorem r_dIn{ty td:TE}(h:ty σ H λy H1=>td σ H1 λx H2=>∃a o,x = .ref a/\DGet H2 a y o/\Q (.bl o.isSome) H2):tDIn ty td σ H Q:=h
theorem r_dPop{td ty:TE}(h:td σ H λx H1=>∃a,x = .ref a/\IsD H1 a/\ty σ H1 λy H2=>∃kvs k v,H2 a=some (.dK kvs)/\y=kV k/\wW kvs k=some v/\Q v (upd H2 a (.dK (Ck kvs k)))):bC td ty σ H Q:=h
end
def Inn(z:Pc)(i:Nat):Prop:=z.a+1<=i/\(i:Int)<z.a+z.l-1
theorem apart{ps:List Pc}{s e:Int}{y:Pc}{i:Int}(c:Ak s ps e)(hy:y∈ps)(hz:z∈ps)(hne:y≠z)(h1:z.a<=i)(h2:i<z.a+z.l):i<y.a\/y.a+y.l<=i:=by
 rcases kg i y.a with g | g
 . exact .inl g
 . rcases kg i (y.a+y.l) with g2 | g2
   . exact absurd (KC c hy hz g g2 h1 h2) hne
   . exact .inr g2
theorem nO{ps:List Pc}(h:ps[i]?=some z):∃p∈ps,(p=z\/p.v=false)/\xa ps i z=p.a:=by
 have hz:=ε h;unfold xa
 split
 . exact⟨z,hz,.inl rfl,rfl⟩
 . split
   . rename_i j y hy
     split
     . exact⟨z,hz,.inl rfl,rfl⟩
     . rename_i hv;exact⟨y,ε hy,.inr (by simpa using hv),rfl⟩
   . exact⟨z,hz,.inl rfl,rfl⟩
theorem To{ps:List Pc}{s e:Int}(c:Ak s ps e)(h:ps[i]?=some z):wQ ps i z=z.a+z.l\/∃p∈ps,p.v=false/\p.a=z.a+z.l/\wQ ps i z=p.a+p.l:=by
 unfold wQ
 split
 . rename_i y hy
   split
   . exact .inl rfl
   . rename_i hv;refine .inr ⟨y,ε hy,by simpa using hv,?_,rfl⟩;exact DW c h hy
 . exact .inl rfl
theorem zC{b e:Int}(h0:0<=b)(h1:b<=e)(n1:(j:Int)≠b)(n2:(j:Int)≠e-1):(lfI cs b e)[j]?=cs[j]?:=by
 unfold lfI
 split
 . rfl
 . unfold AS;rw[aa (by omega),aa (by omega)]
theorem nP{ps:List Pc}{n:Int}{y:Pc}(c:Ak 0 ps n)(hi:ps[i]?=some z)(hy:y∈ps)(hv:y.v=true)(hne:y≠z)(hj:Inn y j):(lfI cs (xa ps i z) (wQ ps i z))[j]?=cs[j]?:=by
 obtain⟨j1,j2⟩:=hj;obtain⟨b1,b2⟩:=aM c hi;obtain⟨e1,e2⟩:=SY c hi;have hzm:=ε hi;obtain⟨z0,z1,_,_⟩:=c.mem z hzm;refine zC (by omega) (by omega) ?_ ?_
 . obtain⟨p,hp,hpz,e⟩:=nO hi;have:y≠p:=λw=>by
     rcases hpz with g | g
     . exact hne (w.trans g)
     . rw[<-w,hv] at g;cases g
   have:=apart c hy hp this (i:=p.a) (aq _) (by have:=(c.mem p hp).2.1;omega);omega
 . rcases To c hi with e | ⟨p,hp,hpv,hpa,e⟩
   . have:=apart c hy hzm hne (i:=z.a+z.l-1) (by omega) (by omega);omega
   . have hyp:y≠p:=λw=>by rw[<-w,hv] at hpv;cases hpv
     have hl:=(c.mem p hp).2.1;have:=apart c hy hp hyp (i:=p.a+p.l-1) (by omega) (by omega);omega
theorem cD{ps:List Pc}{n s L:Int}{y:Pc}(c:Ak 0 ps n)(hz:z∈ps)(hzv:z.v=false)(hL:1<=L)(h1:z.a<=s)(h2:s+L<=z.a+z.l)(hy:y∈ps)(hv:y.v=true)(hj:Inn y j):(xq cs z.a z.l s L)[j]?=cs[j]?:=by
 obtain⟨j1,j2⟩:=hj;have hne:z≠y:=λw=>by rw[w,hv] at hzv;cases hzv
 obtain⟨z0,_,_,_⟩:=c.mem z hz;have:=apart c hz hy hne (i:=(j:Int)) (by omega) (by omega);exact lE z0 hL h1 h2 this
theorem nQ{ps:List Pc}{n L:Int}{y:Pc}(c:Ak 0 ps n)(hi:ps[i]?=some z)(hL:3<=L)(hf:z.a+L<=wQ ps i z)(hy:y∈ps)(hv:y.v=true)(hne:y≠z)(hj:Inn y j):(lfI (AS cs z.a L true) (z.a+L) (wQ ps i z))[j]?=cs[j]?:=by
 obtain⟨j1,j2⟩:=hj;have hzm:=ε hi;obtain⟨z0,z1,_,_⟩:=c.mem z hzm;have a1:=apart c hzm hy (dn hne) (i:=(j:Int)) (by omega) (by omega);have out:(j:Int)<z.a\/wQ ps i z<=j:=by
   rcases To c hi with e | ⟨p,hp,hpv,hpa,e⟩
   . omega
   . have hyp:p≠y:=λw=>by rw[w,hv] at hpv;cases hpv
     have hl:=(c.mem p hp).2.1;have:=apart c hp hy hyp (i:=(j:Int)) (by omega) (by omega);omega
 rw[Qg (by omega) hf (by omega),De z0 (by omega) (by omega)]
theorem nR{a L e:Int}(h0:0<=a)(h1:a+1<=j)(h2:(j:Int)<a+L-1)(he:a+L<=e):(lfI (AS cs a L true) (a+L) e)[j]?=cs[j]?:=by
 rw[Qg (by omega) he (by omega)];unfold AS;rw[aa (by omega),aa (by omega)]
theorem yu{s g c:Nat}(h1:s+c<=cs.length)(h2:g+c<=cs.length)(hj:j<c):(xt cs s g c)[g+j]?=cs[s+j]?:=by
 unfold xt;have lt:(cs.take g).length=g:=by rw[cj];omega
 have lm:((cs.drop s).take c).length=c:=by rw[cj,gv];omega
 rw[ao,η (by omega),lt,ξ (by omega),show g+j-g=j by omega,kz,if_pos hj,kx]
theorem nS{ps:List Pc}{y:Pc}{L e:Int}(h:y∈ps)(g:y.a<k\/e<=y.a):y∈w_ ps k L e:=by
 unfold w_;refine lw.mpr ⟨rg1 k L e y,aw.mpr ⟨y,h,rfl⟩,?_⟩;unfold rg1;rw[if_pos g];exact μ _ (μ _ (υ.mpr rfl))
def eqP(y z:Pc):Bool:=decide (y.a=z.a/\y.l=z.l/\y.v=z.v)
theorem Hj{y:Pc}:eqP y z=true↔y=z:=by
 unfold eqP;rw[decide_eq_true_iff];constructor
 . rintro⟨h1,h2,h3⟩;obtain⟨a,l,v⟩:=y;obtain⟨a',l',v'⟩:=z;simp only at h1 h2 h3;rw[h1,h2,h3]
 . rintro rfl;exact⟨rfl,rfl,rfl⟩
theorem cE(y z:Pc):xv [.int y.a,.int y.l,.bl y.v] [.int z.a,.int z.l,.bl z.v]=eqP y z:=by
 rw[cy,Hj];constructor
 . intro h;unfold xv at h;have h:=gw.mp (gk.mp h).1;have h0:=h 0 (by simp);have h1:=h 1 (by simp);have h2:=h 2 (by simp);have e0:y.a=z.a:=by
     have:decide (y.a=z.a)=true:=h0;simpa using this
   have e1:y.l=z.l:=by
     have:decide (y.l=z.l)=true:=h1;simpa using this
   have e2:y.v=z.v:=by
     have g:eqV (.bl y.v) (.bl z.v)=true:=h2;cases hy:y.v <;> cases hz:z.v <;> rw[hy,hz] at g <;> first | rfl | cases g
   exact Hj.mp (by unfold eqP;exact decide_eq_true ⟨e0,e1,e2⟩)
 . rintro rfl;exact LJ rfl
open Classical in
theorem cG{X:Cx}(hu:X.A.units+64<vj):OpR X (vd .In) (λx y H Q=>∃t p us ps z,x = .ref t/\y = .ref p/\H t=some (.tup [.int z.a,.int z.l,.bl z.v])/\H p=some (.lst us)/\AH H us ps/\Q (.bl (ps.any λy=>eqP y z)) H):=by
 intro pins s σ H x y v u Q I rx ry h;obtain⟨t,p,us,ps,z,rfl,rfl,ht,hp,pa,q⟩:=h;cases rx;cases ry;obtain⟨its,r,pl,hz⟩:=I.list (SqL.of hp);have hl:=r.length;have hpl:=pa.1;have at':∀w∈its,∃t' z',w = .ref t'/\H t'=some (.tup [.int z'.a,.int z'.l,.bl z'.v])/\z'∈ps:=λw hw=>by
   obtain⟨i,hi,rfl⟩:=jv.mp hw;have hip:i<ps.length:=by omega
   obtain⟨t',e1,e2⟩:=pa.2 i ps[i] (by simp [hip]);obtain⟨u',g1,q1⟩:=r.get e1;cases q1;rw[Ω hi] at g1;exact⟨t',ps[i],χ g1,e2,bp hip⟩
 refine SeqAt.in_listAt (λw=>decide (∃t' z',w=Value.ref t'/\H t'=some (.tup [.int z'.a,.int z'.l,.bl z'.v])/\eqP z' z=true)) pl.isList (λw hw=>?_) ⟨.bl _,H,I,rfl,?_⟩
 . obtain⟨t',z',rfl,h1,_⟩:=at' w (by simpa using hw);have ev:decide (∃t'' z'',Value.ref t'=Value.ref t''/\H t''=some (.tup [.int z''.a,.int z''.l,.bl z''.v])/\eqP z'' z=true)=eqP z' z:=by
     rw[cy,decide_eq_true_iff];constructor
     . rintro⟨t'',z'',e,g1,g2⟩;cases e;rw[h1] at g1;have e2:=HO.tup.inj (χ g1);simp only [qg.injEq,V.int.injEq,V.bl.injEq,and_true] at e2;have:z'=z'':=Hj.mp (by unfold eqP;exact decide_eq_true e2);rw[this];exact g2
     . exact λg=>⟨t',z',rfl,h1,g⟩
   rw[ev,<-cE];by_cases e:t'=t
   . subst e;rw[h1] at ht;rw[HO.tup.inj (χ ht),LJ rfl];exact jx _
   . exact ky e (S9 (A:=X.A.in1) (by show X.A.units+1<vj;omega) I (SqT.of h1) (SqT.of ht) rfl rfl)
 . have:its.toArray.any (λw=>decide (∃t' z',w=Value.ref t'/\H t'=some (.tup [.int z'.a,.int z'.l,.bl z'.v])/\eqP z' z=true))=ps.any λy=>eqP y z:=by
     rw[List.any_toArray,cy,dk,dk];constructor
     . rintro⟨w,hw,hd⟩;obtain⟨t',z',e,g1,g2⟩:=of_decide_eq_true hd;obtain⟨t2,z2,e2,g3,g4⟩:=at' w hw;rw[e] at e2;cases e2;rw[g1] at g3;have e2:=HO.tup.inj (χ g3);simp only [qg.injEq,V.int.injEq,V.bl.injEq,and_true] at e2;have:z'=z2:=Hj.mp (by unfold eqP;exact decide_eq_true e2);exact⟨z2,g4,by rw[<-this];exact g2⟩
     . rintro⟨y,hy,g⟩;obtain⟨i,hi,rfl⟩:=jv.mp hy;obtain⟨t',e1,e2⟩:=pa.2 i ps[i] (by simp [hi]);obtain⟨u',g1,q1⟩:=r.get e1;cases q1;exact⟨_,ε g1,decide_eq_true ⟨t',ps[i],rfl,e2,g⟩⟩
   rw[this];exact q
def Al(z:Pc):Prop:=∃m q:Nat,z.l=2^m/\z.a=2^m*(q:Int)
theorem pw1(i:Nat):1<=(2:Int)^i:=Tk i
theorem pw2(i:Nat):(2:Int)^(i+1)=2^i+2^i:=by rw[ki];omega
def spl(a:Int)(B e:Nat):List Pc:=(uc B e).map λi:Nat=>⟨a+2^i,2^i,false⟩
theorem cH(a:Int)(B e:Nat):spl a B (e+1)=⟨a+2^B,2^B,false⟩::spl a (B+1) e:=by
 unfold spl;rw[qd];rfl
theorem Qv(a:Int):∀(e B:Nat),Ak (a+2^B) (spl a B e) (a+2^(B+e))
 | 0,B=>rfl
 | e+1,B=>by
   rw[cH]
   refine⟨rfl,pw1 B,(λh=>by cases h),?_⟩
   have:=Qv a e (B+1)
   rw[pw2,show a+(2^B+2^B)=a+2^B+2^B by omega,show B+1+e=B+(e+1) by omega] at this
   exact this
theorem Tp{a:Int}{B e:Nat}(h:z∈spl a B e):∃i,B<=i/\i<B+e/\z=⟨a+2^i,2^i,false⟩:=by
 unfold spl at h;obtain⟨i,hi,e'⟩:=aw.mp h;obtain⟨h1,h2⟩:=List.mem_range'_1.mp hi;exact⟨i,h1,h2,e'.symm⟩
theorem nU(i e:Nat):(2:Int)^(i+e)=2^i*2^e:=ub 2 i e
theorem nV(e:Nat):((2^e:Nat):Int)=2^e:=by
 induction e with
 | zero=>rfl
 | succ e ih=>rw[Nat.pow_succ,ij,ih,ki];rfl
theorem Tq{a:Int}{M q:Nat}(h:a=2^M*(q:Int))(hi:i<=M):∃r:Nat,a=2^i*(r:Int):=by
 obtain⟨e,rfl⟩:∃e,M=i+e:=⟨M-i,by omega⟩
 refine⟨2^e*q,?_⟩;rw[h,nU,ij,nV,lq]
theorem yP{a:Int}{M B e q:Nat}(h:a=2^M*(q:Int))(hB:B+e<=M):∀z∈spl a B e,Al z:=λz hz=>by
 obtain⟨i,h1,h2,rfl⟩:=Tp hz;obtain⟨r,hr⟩:=Tq h (show i<=M by omega);refine⟨i,r+1,rfl,?_⟩;show a+2^i=2^i*((r+1:Nat):Int);rw[hr,cg,du];simp
def hcP(a:Int)(B M:Nat):List Pc:=⟨a,2^B,true⟩::spl a B (M-B)
theorem nW{a:Int}{B M:Nat}(h2:2<=B)(h:B<=M):Ak a (hcP a B M) (a+2^M):=by
 have h3:(3:Int)<=2^B:=by
   have:=Eb h2;have e:(2:Int)^2=4:=by decide
   omega
 refine⟨rfl,pw1 B,λ_=>h3,?_⟩;have:=Qv a (M-B) B;rw[show B+(M-B)=M by omega] at this;exact this
theorem xM{row:List Int}{rs:List Pc}{a:Int}{L e:Nat}(h0:0<=a)(hd:Cn ds a)(hr:EA rs (a+2^(L+1+e)))(hl:a+2^(L+1+e)<=row.length)(m:Au row (ds++(spl a (L+1) e++rs))):
   a+2^L+2^L<=row.length/\Au (AS row (a+2^L) (2^L) false) (ds++(spl a L (e+1)++rs)):=by
 have c:=Qv a e (L+1);have hle:=c.le;have p1:=pw1 L;have p2:=pw2 L;have hb:a+2^L+2^L<=row.length:=by omega
 refine⟨hb,?_⟩;rw[cH,dh];refine Au.lay (by omega) p1 hb (hd.mono (by omega)) ?_ m;intro p hp;rcases θ.mp hp with g | g
 . have:=c.fromOn p g;omega
 . have:=hr p g;omega
theorem yw{row:List Int}{rs:List Pc}{a:Int}{B e:Nat}(h0:0<=a)(hd:Cn ds a)(hr:EA rs (a+2^(B+e)))(hl:a+2^(B+e)<=row.length)(m:Au row (ds++(spl a B e++rs))):
   a+2^B<=row.length/\Au (AS row a (2^B) true) (ds++(⟨a,2^B,true⟩::(spl a B e++rs))):=by
 have c:=Qv a e B;have hle:=c.le;have p1:=pw1 B;have hb:a+2^B<=row.length:=by omega
 refine⟨hb,Au.lay h0 p1 hb hd ?_ m⟩;intro p hp;rcases θ.mp hp with g | g
 . have:=c.fromOn p g;omega
 . have:=hr p g;omega
def Bst(b:Int)(ps:List Pc)(z:Pc):Prop:=z∈ps/\z.v=false/\b<=z.l/\∀y∈ps,y.v=false->b<=y.l->z.l<y.l\/(z.l=y.l/\z.a<=y.a)
def bud(m q:Nat):Int:=if q%2=0 then 2^m*(q:Int)+2^m else 2^m*(q:Int)-2^m
inductive MgTo(ps:List Pc):List Pc->List Pc->Nat->Nat->List Pc->List Pc->Nat->Nat->Prop
 | stop {ds rs:List Pc} {m q:Nat} (h:(⟨bud m q,2^m,false⟩:Pc) ∉ ps):MgTo ps ds rs m q ds rs m q
 | right {ds rs:List Pc} {m q:Nat} {ds' rs':List Pc} {m' q':Nat} (hq:q%2=0) (h:(⟨bud m q,2^m,false⟩:Pc)∈ps) (k:MgTo ps ds rs (m+1) (q/2) ds' rs' m' q'):MgTo ps ds (⟨bud m q,2^m,false⟩::rs) m q ds' rs' m' q'
 | left {ds rs:List Pc} {m q:Nat} {ds' rs':List Pc} {m' q':Nat} (hq:q%2=1) (h:(⟨bud m q,2^m,false⟩:Pc)∈ps) (k:MgTo ps ds rs (m+1) (q/2) ds' rs' m' q'):MgTo ps (ds++[⟨bud m q,2^m,false⟩]) rs m q ds' rs' m' q'
structure Lie(N:Nat)(ps ds rs:List Pc)(m q:Nat):Prop where
 le:m<=N
 c1:Ak 0 ds (2^m*(q:Int))
 c2:Ak (2^m*(q:Int)+2^m) rs (2^N)
 is:∀z:Pc,(z.a+z.l<=2^m*(q:Int)\/2^m*(q:Int)+2^m<=z.a)->(z∈ps↔z∈ds\/z∈rs)
theorem cJ{m q:Nat}(hq:q%2=0):(2:Int)^(m+1)*((q/2:Nat):Int)=2^m*(q:Int):=by
 obtain⟨r,rfl⟩:∃r,q=2*r:=⟨q/2,by omega⟩
 rw[show 2*r/2=r by omega,ki,ij,lq];rfl
theorem cK{m q:Nat}(hq:q%2=1):(2:Int)^(m+1)*((q/2:Nat):Int)=2^m*(q:Int)-2^m:=by
 obtain⟨r,rfl⟩:∃r,q=2*r+1:=⟨q/2,by omega⟩
 rw[show (2*r+1)/2=r by omega,ki,cg,ij,du,lq];simp
theorem Lie.right{N:Nat}{ps rs:List Pc}{m q:Nat}(L:Lie N ps ds rs m q)(hq:q%2=0)(h:(⟨bud m q,2^m,false⟩:Pc)∈ps):∃rs1,rs=⟨bud m q,2^m,false⟩::rs1/\Lie N ps ds rs1 (m+1) (q/2):=by
 have eb:bud m q=2^m*(q:Int)+2^m:=by unfold bud;rw[if_pos hq]
 have p1:=pw1 m;have p2:=pw2 m;have ea:=cJ (m:=m) hq;have hin:(⟨bud m q,2^m,false⟩:Pc)∈rs:=by
   rcases(L.is ⟨bud m q,2^m,false⟩ (.inr (by show _<=bud m q;omega))).mp h with g | g
   . have:=(L.c1.mem _ g).2.2.2;have:bud m q+2^m<=2^m*(q:Int):=this;omega
   . exact g
 cases rs with
 | nil=>cases hin
 | cons y r=>
   obtain⟨h0,h1,h3,h4⟩:=L.c2;have ey:(⟨bud m q,2^m,false⟩:Pc)=y:=Cj (ps:=y::r) ⟨h0,h1,h3,h4⟩ hin ω (by show bud m q=y.a;omega);subst ey;have h4:Ak (2^m*(q:Int)+2^m+2^m) r (2^N):=h4;refine⟨r,rfl,?_,by rw[ea];exact L.c1,by rw[ea,p2,show (2:Int)^m*(q:Int)+(2^m+2^m)=2^m*(q:Int)+2^m+2^m by omega];exact h4,λz hz=>?_⟩
   . have hle:=h4.le;have hm:(2:Int)^m<2^N:=by
       have:0<=2^m*(q:Int):=fw (by omega) (by omega);omega
     exact bO hm
   . rw[ea,p2] at hz;rw[L.is z (by omega)];constructor
     . rintro(g | g)
       . exact .inl g
       . rcases Φ.mp g with e | e
         . rw[e] at hz;have hz:bud m q+2^m<=2^m*(q:Int)\/2^m*(q:Int)+(2^m+2^m)<=bud m q:=hz;omega
         . exact .inr e
     . rintro(g | g)
       . exact .inl g
       . exact .inr (ρ _ g)
theorem Lie.left{N:Nat}{ps rs:List Pc}{m q:Nat}(L:Lie N ps ds rs m q)(hq:q%2=1)(h:(⟨bud m q,2^m,false⟩:Pc)∈ps):∃ds1,ds=ds1++[⟨bud m q,2^m,false⟩]/\Lie N ps ds1 rs (m+1) (q/2):=by
 have eb:bud m q=2^m*(q:Int)-2^m:=by unfold bud;rw[if_neg (by omega)]
 have p1:=pw1 m;have p2:=pw2 m;have ea:=cK (m:=m) hq;have hin:(⟨bud m q,2^m,false⟩:Pc)∈ds:=by
   rcases(L.is ⟨bud m q,2^m,false⟩ (.inl (by show bud m q+2^m<=_;omega))).mp h with g | g
   . exact g
   . have:=(L.c2.mem _ g).1;have:2^m*(q:Int)+2^m<=bud m q:=this;omega
 obtain⟨i,hi⟩:=ai hin;obtain⟨d1,d2,e1,_,k1,k2⟩:=CD L.c1 hi;have k2:Ak (bud m q+2^m) d2 (2^m*(q:Int)):=k2;have k1:Ak 0 d1 (bud m q):=k1;have e2:d2=[]:=by
   cases d2 with
   | nil=>rfl
   | cons y r=>
     have:=k2.le;rw[am] at this;omega
 subst e2;have hN:(2:Int)^m*(q:Int)+2^m<=2^N:=by have:=L.c2.le;omega
 refine⟨d1,e1,?_,by rw[ea,<-eb];exact k1,by rw[ea,p2,show (2:Int)^m*(q:Int)-2^m+(2^m+2^m)=2^m*(q:Int)+2^m by omega];exact L.c2,λz hz=>?_⟩
 . have hq1:(2:Int)^m<=2^m*(q:Int):=by
     have:=Ψ (show (1:Int)<=(q:Int) by omega) (show (0:Int)<=2^m by omega);omega
   exact bO (show (2:Int)^m<2^N by omega)
 . rw[ea,p2] at hz;rw[L.is z (by omega),e1];constructor
   . rintro(g | g)
     . rcases θ.mp g with e | e
       . exact .inl e
       . rw[υ.mp e] at hz;have hz:bud m q+2^m<=2^m*(q:Int)-2^m\/2^m*(q:Int)-2^m+(2^m+2^m)<=bud m q:=hz;omega
     . exact .inr g
   . rintro(g | g)
     . exact .inl (μ _ g)
     . exact .inr g
theorem MgTo.ex{N:Nat}{ps:List Pc}(f:Nat):∀{ds rs:List Pc}{m q:Nat},N-m<=f->Lie N ps ds rs m q->∃ds' rs' m' q',MgTo ps ds rs m q ds' rs' m' q'/\Lie N ps ds' rs' m' q':=by
 induction f with
 | zero=>
   intro ds rs m q hf L;by_cases h:(⟨bud m q,2^m,false⟩:Pc)∈ps
   . exfalso;by_cases hq:q%2=0
     . obtain⟨_,_,L1⟩:=L.right hq h;have:=L1.le;omega
     . obtain⟨_,_,L1⟩:=L.left (by omega) h;have:=L1.le;omega
   . exact⟨ds,rs,m,q,.stop h,L⟩
 | succ f ih=>
   intro ds rs m q hf L;by_cases h:(⟨bud m q,2^m,false⟩:Pc)∈ps
   . by_cases hq:q%2=0
     . obtain⟨rs1,e,L1⟩:=L.right hq h;obtain⟨ds',rs',m',q',k,L'⟩:=ih (by omega) L1;exact⟨ds',rs',m',q',by rw[e];exact .right hq h k,L'⟩
     . obtain⟨ds1,e,L1⟩:=L.left (by omega) h;obtain⟨ds',rs',m',q',k,L'⟩:=ih (by omega) L1;exact⟨ds',rs',m',q',by rw[e];exact .left (by omega) h k,L'⟩
   . exact⟨ds,rs,m,q,.stop h,L⟩
theorem KE(h:(2:Int)^i=2^j):i=j:=by
 rcases gh i j with g | g | g
 . have:=Eb (show i+1<=j by omega);have:=pw2 i;have:=pw1 i;omega
 . exact g
 . have:=Eb (show j+1<=i by omega);have:=pw2 j;have:=pw1 j;omega
theorem MgTo.facts{ps rs ds' rs':List Pc}{m q m' q':Nat}(h:MgTo ps ds rs m q ds' rs' m' q'):m<=m'/\ds.length+rs.length=ds'.length+rs'.length+(m'-m)/\(∀y,y∈ds\/y∈rs->(y∈ds'\/y∈rs')\/∃i,m<=i/\i<m'/\y.l=2^i)/\(∀y,y∈ds'\/y∈rs'->y∈ds\/y∈rs):=by
 induction h with
 | stop _=>exact⟨ψ _,by omega,λy hy=>.inl hy,λy hy=>hy⟩
 | right hq hb k ih=>
   obtain⟨h1,h2,h3,h4⟩:=ih;refine⟨by omega,by rw[am];omega,λy hy=>?_,λy hy=>?_⟩
   . rcases hy with g | g
     . rcases h3 y (.inl g) with e | ⟨i,e1,e2,e3⟩
       . exact .inl e
       . exact .inr ⟨i,by omega,e2,e3⟩
     . rcases Φ.mp g with e | e
       . rw[e];exact .inr ⟨_,ψ _,by omega,rfl⟩
       . rcases h3 y (.inr e) with e | ⟨i,e1,e2,e3⟩
         . exact .inl e
         . exact .inr ⟨i,by omega,e2,e3⟩
   . rcases h4 y hy with g | g
     . exact .inl g
     . exact .inr (ρ _ g)
 | left hq hb k ih=>
   obtain⟨h1,h2,h3,h4⟩:=ih;refine⟨by omega,by rw[ι,Θ];omega,λy hy=>?_,λy hy=>?_⟩
   . rcases hy with g | g
     . rcases θ.mp g with e | e
       . rcases h3 y (.inl e) with e | ⟨i,e1,e2,e3⟩
         . exact .inl e
         . exact .inr ⟨i,by omega,e2,e3⟩
       . rw[υ.mp e];exact .inr ⟨_,ψ _,by omega,rfl⟩
     . rcases h3 y (.inr g) with e | ⟨i,e1,e2,e3⟩
       . exact .inl e
       . exact .inr ⟨i,by omega,e2,e3⟩
   . rcases h4 y hy with g | g
     . exact .inl (μ _ g)
     . exact .inr g
theorem nX:∀m:Nat,m<9->∀q:Nat,q<257->Builtin.bitXor ((2:Int)^m*(q:Int)) (2^m)=bud m q:=by decide +kernel
theorem lex2(l1 a1 l2 a2:Int):HT.lexLt [l1,a1] [l2,a2]=if l1=l2 then decide (a1<a2) else decide (l1<l2):=by
 by_cases h:l1=l2
 . rw[if_pos h];simp [HT.lexLt,h];omega
 . rw[if_neg h];simp [HT.lexLt,h]
theorem Tr{xs:List (List Int)}(h2:∀k,k<xs.length->∃l a:Int,xs.getD k []=[l,a]):∀j,j<xs.length->∀k,k<=j->HT.lexLt (xs.getD k []) (xs.getD (BW xs j) [])=false
 | 0,h,k,hk=>by
   have:k=0:=by omega
   subst this
   obtain⟨l,a,e⟩:=h2 0 h
   show HT.lexLt (xs.getD 0 []) (xs.getD 0 [])=false
   rw[e]
   simp [HT.lexLt]
 | j+1,h,k,hk=>by
   have hm:=KA xs j
   obtain⟨l1,a1,e1⟩:=h2 (j+1) h
   obtain⟨l2,a2,e2⟩:=h2 (BW xs j) (by omega)
   obtain⟨l3,a3,e3⟩:=h2 k (by omega)
   unfold BW
   by_cases hl:HT.lexLt (xs.getD (j+1) []) (xs.getD (BW xs j) [])=true
   . rw[if_pos hl]
     by_cases e:k=j+1
     . rw[e,e1]
       simp [HT.lexLt]
     . have ih:=Tr h2 j (by omega) k (by omega)
       rw[e2,e3] at ih
       rw[e1,e2] at hl
       rw[e1,e3]
       rw[lex2] at ih hl ⊢
       by_cases c1:l3=l2
       . rw[if_pos c1] at ih
         have ih:=of_decide_eq_false ih
         by_cases c2:l1=l2
         . rw[if_pos c2] at hl
           have hl:=of_decide_eq_true hl
           rw[if_pos (by omega)]
           exact decide_eq_false (by omega)
         . rw[if_neg c2] at hl
           have hl:=of_decide_eq_true hl
           rw[if_neg (by omega)]
           exact decide_eq_false (by omega)
       . rw[if_neg c1] at ih
         have ih:=of_decide_eq_false ih
         by_cases c2:l1=l2
         . rw[if_pos c2] at hl
           rw[if_neg (by omega)]
           exact decide_eq_false (by omega)
         . rw[if_neg c2] at hl
           have hl:=of_decide_eq_true hl
           rw[if_neg (by omega)]
           exact decide_eq_false (by omega)
   . rw[if_neg hl]
     by_cases e:k=j+1
     . rw[e]
       simpa using hl
     . exact Tr h2 j (by omega) k (by omega)
theorem Lie.outer{N m q:Nat}{ps rs:List Pc}(L:Lie N ps ds rs m q){y:Pc}(h:y∈ds\/y∈rs):y.a+y.l<=2^m*(q:Int)\/2^m*(q:Int)+2^m<=y.a:=by
 rcases h with h | h
 . exact .inl (L.c1.mem y h).2.2.2
 . exact .inr (L.c2.mem y h).1
theorem MgTo.live{ps rs ds' rs':List Pc}{m q m' q':Nat}(h:MgTo ps ds rs m q ds' rs' m' q'):∀y,y.v=true->y∈ds\/y∈rs->y∈ds'\/y∈rs':=by
 induction h with
 | stop _=>exact λy _ h=>h
 | right hq hb k ih=>
   intro y hv hy;rcases hy with g | g
   . exact ih y hv (.inl g)
   . rcases Φ.mp g with e | e
     . rw[e] at hv;cases hv
     . exact ih y hv (.inr e)
 | left hq hb k ih=>
   intro y hv hy;rcases hy with g | g
   . rcases θ.mp g with e | e
     . exact ih y hv (.inl e)
     . rw[υ.mp e] at hv;cases hv
   . exact ih y hv (.inr g)
theorem MgTo.end{ps rs ds' rs':List Pc}{m q m' q':Nat}(h:MgTo ps ds rs m q ds' rs' m' q'):(⟨bud m' q',2^m',false⟩:Pc) ∉ ps:=by
 induction h with
 | stop h=>exact h
 | right _ _ _ ih=>exact ih
 | left _ _ _ ih=>exact ih
theorem Qw{m a b:Nat}(h:(2:Int)^m*(a:Int)=2^m*(b:Int)):a=b:=by
 have p:=pw1 m;have:=gc (show (2:Int)^m≠0 by omega) h;omega
theorem cL{m q q':Nat}(h:bud m q=2^m*(q':Int)):2^m*(q:Int)=bud m q':=by
 unfold bud at *;by_cases e:q%2=0
 . rw[if_pos e] at h;have:q'=q+1:=(Qw (m:=m) (by rw[<-h,cg,du];simp)).symm;rw[this,if_neg (by omega),cg,du];simp
 . rw[if_neg e] at h;obtain⟨r,rfl⟩:∃r,q=r+1:=⟨q-1,by omega⟩
   have hr:(2:Int)^m*((r+1:Nat):Int)=2^m*(r:Int)+2^m:=by rw[cg,du];simp
   have:q'=r:=(Qw (m:=m) (by rw[<-h,hr];omega)).symm;rw[this,if_pos (by omega)];exact hr
theorem cM{m q:Nat}:bud m q≠2^m*(q:Int):=by
 have:=pw1 m;unfold bud
 split <;> omega
def NbF(ps:List Pc):Prop:=∀m q:Nat,(⟨2^m*(q:Int),2^m,false⟩:Pc)∈ps->(⟨bud m q,2^m,false⟩:Pc) ∉ ps
theorem NbF.one(N:Nat):NbF [⟨0,2^N,false⟩]:=λm q h1 h2=>by
 have e1:=Pc.mk.inj (υ.mp h1);have e2:=Pc.mk.inj (υ.mp h2);exact cM (e2.1.trans e1.1.symm)
theorem NbF.give{N m q m' q':Nat}{ps rs ds' rs':List Pc}(nb:NbF ps)(G:MgTo ps ds rs m q ds' rs' m' q')(hin:∀y,y∈ds\/y∈rs->y∈ps):NbF (ds'++⟨2^m'*(q':Int),2^m',false⟩::rs'):=by
 obtain⟨_,_,_,f4⟩:=G.facts;have hen:=G.end;have part:∀{y:Pc},y∈ds'++(⟨2^m'*(q':Int),2^m',false⟩::rs':List Pc)->y=⟨2^m'*(q':Int),2^m',false⟩\/y∈ps:=λ{y} h=>by
   rcases θ.mp h with g | g
   . exact .inr (hin y (f4 y (.inl g)))
   . rcases Φ.mp g with e | e
     . exact .inl e
     . exact .inr (hin y (f4 y (.inr e)))
 intro a b h1 h2;rcases part h1 with e1 | g1
 . have e1:=Pc.mk.inj e1;have ea:a=m':=KE e1.2.1;subst ea;have eb:b=q':=Qw e1.1;subst eb;rcases part h2 with e2 | g2
   . exact cM (Pc.mk.inj e2).1
   . exact hen g2
 . rcases part h2 with e2 | g2
   . have e2:=Pc.mk.inj e2;have ea:a=m':=KE e2.2.1;subst ea;rw[cL e2.1] at g1;exact hen g1
   . exact nb a b g1 g2
theorem NbF.ask{N B M:Nat}{ps rs:List Pc}{b:Int}(nb:NbF ps)(e:ps=ds++⟨b,2^M,false⟩::rs)(al:∀z∈ps,Al z)(hBM:B<=M)(c4:Ak 0 (ds++(hcP b B M++rs)) (2^N)):NbF (ds++(hcP b B M++rs)):=by
 obtain⟨m0,q0,e1,e2⟩:=al ⟨b,2^M,false⟩ (by rw[e];exact ζ _ ω);have e1:(2:Int)^M=2^m0:=e1;have e2:b=2^m0*(q0:Int):=e2;rw[<-KE e1] at e2;have hlive:(⟨b,2^B,true⟩:Pc)∈ds++(hcP b B M++rs):=ζ _ (μ _ ω);have notb:∀l,(⟨b,l,false⟩:Pc) ∉ ds++(hcP b B M++rs):=λl h=>by
   have:=Cj c4 h hlive rfl;cases (Pc.mk.inj this).2.2
 have part:∀{y:Pc},y.v=false->y∈ds++(hcP b B M++rs)->y∈ps\/∃i,i<M/\y=⟨b+2^i,2^i,false⟩:=λ{y} hv h=>by
   rcases θ.mp h with g | g
   . exact .inl (by rw[e];exact μ _ g)
   . rcases θ.mp g with g | g
     . rcases Φ.mp g with w | w
       . rw[w] at hv;cases hv
       . obtain⟨i,h1,h2,h3⟩:=Tp w;exact .inr ⟨i,by omega,h3⟩
     . exact .inl (by rw[e];exact ζ _ (ρ _ g))
 have even:∀{i},i<M->∃r:Nat,b=2^i*((2*r:Nat):Int):=λ{i} hi=>by
   obtain⟨r,hr⟩:=Tq e2 (show i+1<=M from hi);refine⟨r,?_⟩;rw[hr,pw2,ij,<-lq,uf];have:(2:Int)^i*((2:Nat):Int)=2^i+2^i:=by omega
   rw[this,uf]
 intro m q h1 h2;rcases part rfl h1 with g1 | ⟨i,hi,w1⟩
 . rcases part rfl h2 with g2 | ⟨i,hi,w2⟩
   . exact nb m q g1 g2
   . have w2:=Pc.mk.inj w2;have em:m=i:=KE w2.2.1;subst em;obtain⟨r,hr⟩:=even hi;have:bud m q=2^m*((2*r+1:Nat):Int):=by
       rw[w2.1,hr,cg,du];simp
     have h3:=cL this;have hb:bud m (2*r+1)=b:=by
       unfold bud;rw[if_neg (by omega),hr,cg,du];simp
     rw[h3,hb] at h1;exact notb _ h1
 . have w1:=Pc.mk.inj w1;have em:m=i:=KE w1.2.1;subst em;obtain⟨r,hr⟩:=even hi;have eq:q=2*r+1:=Qw (m:=m) (by rw[w1.1,hr,cg,du];simp);have hb:bud m q=b:=by
     rw[eq];unfold bud;rw[if_neg (by omega),hr,cg,du];simp
   rw[hb] at h2;exact notb _ h2
structure Sf where
 n:Int
 b:List Bool
variable{fs:List Sf}
def slP(n:Int):Int->List Bool->List Pc
 | _,[]=>[]
 | A,v::r=>⟨A,n,v⟩::slP n (A+n) r
def shP(s A:Int)(f:Sf):List Pc:=slP f.n A f.b++fr (A+f.n*(f.b.length:Int)) (A+s)
def alP(s:Int):Int->List Sf->List Pc
 | _,[]=>[]
 | A,f::r=>shP s A f++alP s (A+s) r
def SfW(s:Int)(f:Sf):Prop:=(f.n=0/\f.b=[])\/(3<=f.n/\f.n<=s/\f.n*(f.b.length:Int)<=s/\s<f.n*(f.b.length:Int)+f.n)
def xh(s:Int)(f:Sf):Prop:=SfW s f/\(f.n≠0->true∈f.b)
theorem Cw(n:Int)(m:Nat):n*((m+1:Nat):Int)=n*(m:Int)+n:=by
 rw[cg,du];simp
theorem Ts(n:Int):∀(b c:List Bool)(A:Int),slP n A (b++c)=slP n A b++slP n (A+n*(b.length:Int)) c
 | [],c,A=>by simp [slP]
 | v::r,c,A=>by
   have e:=Cw n r.length
   show (⟨A,n,v⟩:Pc)::slP n (A+n) (r++c)=(⟨A,n,v⟩:Pc)::(slP n (A+n) r++slP n (A+n*((r.length+1:Nat):Int)) c)
   rw[Ts n r c (A+n),e,show A+n+n*(r.length:Int)=A+(n*(r.length:Int)+n) by omega]
theorem cN{n:Int}(h:3<=n):∀(b:List Bool)(A:Int),Ak A (slP n A b) (A+n*(b.length:Int))
 | [],A=>by show A=_;simp
 | v::r,A=>by
   have e:=Cw n r.length
   refine⟨rfl,by show 1<=n;omega,λ_=>h,?_⟩
   have:=cN h r (A+n)
   rw[show A+n+n*(r.length:Int)=A+n*((r.length+1:Nat):Int) by omega] at this
   exact this
theorem KF{s A:Int}{f:Sf}(h1:1<=s)(w:SfW s f):Ak A (shP s A f) (A+s):=by
 rcases w with ⟨e1,e2⟩ | ⟨h3,_,h4,_⟩
 . unfold shP;rw[e1,e2];show Ak A (fr (A+0*((0:Nat):Int)) (A+s)) (A+s);rw[si,ji];exact G9 (by omega)
 . exact(cN h3 f.b A).app (G9 (by omega))
theorem GA{s:Int}(h1:1<=s):∀(fs:List Sf)(A:Int),(∀f∈fs,SfW s f)->Ak A (alP s A fs) (A+s*(fs.length:Int))
 | [],A,_=>by show A=_;simp
 | f::r,A,w=>by
   have e:=Cw s r.length
   have:=GA h1 r (A+s) λg hg=>w g (ρ _ hg)
   rw[show A+s+s*(r.length:Int)=A+s*((r.length+1:Nat):Int) by omega] at this
   exact(KF h1 (w f ω)).app this
theorem Qx(s:Int):∀(b c:List Sf)(A:Int),alP s A (b++c)=alP s A b++alP s (A+s*(b.length:Int)) c
 | [],c,A=>by simp [alP]
 | f::r,c,A=>by
   have e:=Cw s r.length
   show shP s A f++alP s (A+s) (r++c)=(shP s A f++alP s (A+s) r)++alP s (A+s*((r.length+1:Nat):Int)) c
   rw[Qx s r c (A+s),e,show A+s+s*(r.length:Int)=A+(s*(r.length:Int)+s) by omega,ao]
theorem LZ{α:Type}{xs:List α}{x:α}(h:xs[j]?=some x):xs=xs.take j++x::xs.drop (j+1)/\(xs.take j).length=j/\∀y,xs.set j y=xs.take j++y::xs.drop (j+1):=by
 obtain⟨hj,hx⟩:=γ.mp h;have e:xs=xs.take j++x::xs.drop (j+1):=by
   rw[<-hx,<-List.drop_eq_getElem_cons hj,mw]
 have l:(xs.take j).length=j:=by rw[cj];omega
 refine⟨e,l,λy=>?_⟩;have:(xs.take j++x::xs.drop (j+1)).set j y=xs.take j++y::xs.drop (j+1):=by
   rw[mn _ _ (by omega),l,di,List.set_cons_zero]
 rw[<-e] at this;exact this
theorem KG{α:Type}{xs:List α}{x:α}(h:xs[j]?=some x):xs.set j x=xs:=by
 obtain⟨e,_,g⟩:=LZ h;rw[g x];exact e.symm
theorem Hk{s:Int}{f:Sf}(h1:1<=s)(w:∀f∈fs,SfW s f)(h:fs[j]?=some f):∃ds rs,(∀g,alP s 0 (fs.set j g)=ds++(shP s (s*(j:Int)) g++rs))/\Ak 0 ds (s*(j:Int))/\Ak (s*(j:Int)+s) rs (s*(fs.length:Int)):=by
 obtain⟨e,l,g⟩:=LZ h;have hj:j<fs.length:=(γ.mp h).1;refine⟨alP s 0 (fs.take j),alP s (s*(j:Int)+s) (fs.drop (j+1)),λy=>?_,?_,?_⟩
 . rw[g y,Qx,l,dm];rfl
 . have:=GA h1 (fs.take j) 0 λf hf=>w f (jw hf);rw[l,dm] at this;exact this
 . have:=GA h1 (fs.drop (j+1)) (s*(j:Int)+s) λf hf=>w f (List.mem_of_mem_drop hf);rw[gv] at this;have e2:s*(j:Int)+s+s*((fs.length-(j+1):Nat):Int)=s*(fs.length:Int):=by
     rw[<-Cw,<-du,<-cg,show j+1+(fs.length-(j+1))=fs.length by omega]
   rw[e2] at this;exact this
theorem Hl{s:Int}{f:Sf}(h:fs[j]?=some f):alP s 0 (fs.set j f)=alP s 0 fs:=by rw[KG h]
theorem Qy{n A:Int}{v0:Bool}(h:b[i]?=some v0):∃ds rs,∀v,slP n A (b.set i v)=ds++⟨A+n*(i:Int),n,v⟩::rs:=by
 obtain⟨_,l,g⟩:=LZ h;refine⟨slP n A (b.take i),slP n (A+n*(i:Int)+n) (b.drop (i+1)),λv=>?_⟩;rw[g v,Ts,l];rfl
theorem nY{s:Int}{n:Int}{v0:Bool}(h1:1<=s)(w:∀f∈fs,SfW s f)(h:fs[j]?=some ⟨n,b⟩)(hb:b[i]?=some v0):∃ds rs,∀v,alP s 0 (fs.set j ⟨n,b.set i v⟩)=ds++⟨s*(j:Int)+n*(i:Int),n,v⟩::rs:=by
 obtain⟨ds,rs,e,_,_⟩:=Hk h1 w h;obtain⟨d2,r2,e2⟩:=Qy (n:=n) (A:=s*(j:Int)) hb;refine⟨ds++d2,r2++fr (s*(j:Int)+n*(b.length:Int)) (s*(j:Int)+s)++rs,λv=>?_⟩;rw[e ⟨n,b.set i v⟩];unfold shP;show ds++((slP n (s*(j:Int)) (b.set i v)++fr (s*(j:Int)+n*((b.set i v).length:Int)) (s*(j:Int)+s))++rs)=_;rw[e2 v,ax];simp [ao]
theorem Tt{s:Int}{n:Int}{v0:Bool}(h:fs[j]?=some ⟨n,b⟩)(hb:b[i]?=some v0):alP s 0 (fs.set j ⟨n,b.set i v0⟩)=alP s 0 fs:=by rw[KG hb,KG h]
theorem C_{s:Int}{g:Sf}(w:∀f∈fs,SfW s f)(hg:SfW s g):∀f∈fs.set j g,SfW s f:=λf hf=>by
 rcases eh hf with h | h
 . exact w f h
 . rw[h];exact hg
theorem Qz{s:Int}{n:Int}{v:Bool}(w:SfW s ⟨n,b⟩)(hb:i<b.length):SfW s ⟨n,b.set i v⟩:=by
 rcases w with ⟨e1,e2⟩ | h
 . have e2:b=[]:=e2;rw[e2] at hb;exact absurd hb (fg _)
 . right;show 3<=n/\n<=s/\n*((b.set i v).length:Int)<=s/\s<n*((b.set i v).length:Int)+n;rw[ax];exact h
theorem cP{s:Int}{n:Int}{v0 v:Bool}(h1:1<=s)(w:∀f∈fs,SfW s f)(h:fs[j]?=some ⟨n,b⟩)(hb:b[i]?=some v0)(hl:(cs.length:Int)=s*(fs.length:Int))(m:Au cs (alP s 0 fs)):
   0<=s*(j:Int)+n*(i:Int)/\3<=n/\s*(j:Int)+n*(i:Int)+n<=cs.length/\(⟨s*(j:Int)+n*(i:Int),n,v0⟩:Pc)∈alP s 0 fs/\Au (AS cs (s*(j:Int)+n*(i:Int)) n v) (alP s 0 (fs.set j ⟨n,b.set i v⟩)):=by
 obtain⟨ds,rs,e⟩:=nY h1 w h hb;have c:=GA h1 fs 0 w;rw[dm,<-hl,<-Tt h hb,e v0] at c;rw[<-Tt h hb,e v0] at m;have hib:i<b.length:=(γ.mp hb).1;have n3:3<=n:=by
   rcases w _ (ε h) with ⟨_,e2⟩ | g
   . have e2:b=[]:=e2;rw[e2] at hib;exact absurd hib (fg _)
   . exact g.1
 have hm:=c.mem ⟨s*(j:Int)+n*(i:Int),n,v0⟩ (ζ _ ω);obtain⟨k,c1,c2⟩:=KB c;obtain⟨ea,_,_,c3⟩:=c2;have ea:s*(j:Int)+n*(i:Int)=k:=ea;have c3:Ak (k+n) rs cs.length:=c3;refine⟨hm.1,n3,hm.2.2.2,?_,?_⟩
 . rw[<-Tt h hb,e v0];exact ζ _ ω
 rw[e v,ea];refine Au.lay (by omega) (by omega) (by have:=hm.2.2.2;show k+n<=cs.length;rw[<-ea];exact this) (c1.endBy (aq 0)) c3.fromOn (m.sub λp hp=>?_);rcases θ.mp hp with g | g
 . exact μ _ g
 . exact ζ _ (ρ _ g)
theorem GB{s A:Int}(h1:1<=s):shP s A ⟨0,[]⟩=[⟨A,s,false⟩]:=by
 unfold shP;show []++fr (A+0*((0:Nat):Int)) (A+s)=_;rw[si,ji,bz];unfold fr;rw[if_neg (by omega),show A+s-A=s by omega]
theorem cQ{s:Int}{f:Sf}(h1:1<=s)(w:∀f∈fs,SfW s f)(h:fs[j]?=some f)(hl:(cs.length:Int)=s*(fs.length:Int))(m:Au cs (alP s 0 fs)):
   0<=s*(j:Int)/\s*(j:Int)+s<=cs.length/\Au (AS cs (s*(j:Int)) s false) (alP s 0 (fs.set j ⟨0,[]⟩)):=by
 obtain⟨ds,rs,e,c1,c2⟩:=Hk h1 w h;have l1:=c1.le;have l2:=c2.le;rw[<-Hl h,e f] at m;refine⟨by omega,by omega,?_⟩;rw[e,GB h1];exact Au.lay (by omega) h1 (by omega) (c1.endBy (aq 0)) c2.fromOn (m.sub λp hp=>by
   rcases θ.mp hp with g | g
   . exact μ _ g
   . exact ζ _ (ζ _ g))
def ctP(A e k:Int)(i:Nat):List Pc:=(ia i).map λj:Nat=>⟨A+k*(j:Int),min k (e-(A+k*(j:Int))),false⟩
theorem QA(A e k:Int)(i:Nat):ctP A e k (i+1)=ctP A e k i++[⟨A+k*(i:Int),min k (e-(A+k*(i:Int))),false⟩]:=by
 unfold ctP;rw[qt,af];rfl
theorem xP(k A:Int)(i:Nat):slP k A (ο (i+1) false)=slP k A (ο i false)++[⟨A+k*(i:Int),k,false⟩]:=by
 rw[ni,Ts,ag];rfl
theorem Tu{A s k:Int}(h1:1<=k):∀i:Nat,k*(i:Int)<=s->ctP A (A+s) k i=slP k A (ο i false)
 | 0,_=>rfl
 | i+1,h=>by
   rw[Cw] at h
   rw[QA,xP,Tu h1 i (by omega),show min k (A+s-(A+k*(i:Int)))=k by omega]
theorem yt{A s:Int}{n q:Nat}(h1:1<=k)(hq1:k*(q:Int)<=s)(hq2:s<k*(q:Int)+k)(hn:n=q+(if k*(q:Int)=s then 0 else 1)):ctP A (A+s) k n=shP s A ⟨k,ο q false⟩:=by
 unfold shP;show _=slP k A (ο q false)++fr (A+k*((ο q false).length:Int)) (A+s);rw[ag];unfold fr;by_cases e:k*(q:Int)=s
 . rw[if_pos e,sk] at hn;rw[hn,Tu h1 q hq1,if_pos (by omega),ae]
 . rw[if_neg e] at hn;rw[hn,QA,Tu h1 q hq1,if_neg (by omega),show min k (A+s-(A+k*(q:Int)))=A+s-(A+k*(q:Int)) by omega]
theorem cR{A e k:Int}(h0:0<=A)(h1:1<=k):∀i:Nat,(∀j:Nat,j<i->A+k*(j:Int)<e)->Cn (ctP A e k i) (A+k*(i:Int))
 | 0,_=>λp hp=>by cases hp
 | i+1,h=>λp hp=>by
   rw[QA] at hp
   have e1:=Cw k i
   have k0:0<=k*(i:Int):=fw (by omega) (by omega)
   rcases θ.mp hp with g | g
   . have:=cR h0 h1 i (λj hj=>h j (by omega)) p g
     omega
   . rw[υ.mp g]
     have:=h i (by omega)
     show 0<=A+k*(i:Int)/\1<=min k (e-(A+k*(i:Int)))/\A+k*(i:Int)+min k (e-(A+k*(i:Int)))<=A+k*((i+1:Nat):Int)
     omega
theorem yq{rs:List Pc}{A e:Int}(h0:0<=A)(h1:1<=k)(hd:Cn ds A)(hr:EA rs e)(hl:e<=cs.length)(hi:∀j:Nat,j<i+1->A+k*(j:Int)<e)(m:Au cs (ds++ctP A e k i++rs)):
   0<=A+k*(i:Int)/\1<=min k (e-(A+k*(i:Int)))/\A+k*(i:Int)+min k (e-(A+k*(i:Int)))<=cs.length/\Au (AS cs (A+k*(i:Int)) (min k (e-(A+k*(i:Int)))) false) (ds++ctP A e k (i+1)++rs):=by
 have k0:0<=k*(i:Int):=fw (by omega) (by omega);have hii:=hi i (by omega);refine⟨by omega,by omega,by omega,?_⟩;rw[QA,<-ao,ao _ [_] rs];exact Au.lay (by omega) (by omega) (by omega) ((hd.mono (by omega)).app (cR h0 h1 i λj hj=>hi j (by omega))) (λp hp=>by have:=hr p hp;omega) m
def wV(ps:List Pc)(k:Int):List Int:=(ps.filter λz=>!z.v&&decide (z.l=k)).map (·.a)
def CZ(cs:List Int)(ps:List Pc)(k s:Int):List Int:=(wV ps k).filter λa=>decide (cs.getD (a-a%s).toNat 0/2=k)
theorem L0(p q:List Pc)(k:Int):wV (p++q) k=wV p k++wV q k:=by unfold wV;rw[ci,af]
theorem Tv(cs:List Int)(p q:List Pc)(k s:Int):CZ cs (p++q) k s=CZ cs p k s++CZ cs q k s:=by unfold CZ;rw[L0,ci]
theorem cS{ps:List Pc}(h:i<ps.length):wV (ps.take (i+1)) k=wV (ps.take i) k++(if (!ps[i].v&&decide (ps[i].l=k))=true then [ps[i].a] else []):=by
 unfold wV;rw[ck,Ω h,ci,af]
 congr 1
 simp only [ix,bx,jz]
 split <;> rfl
theorem Tw{ps:List Pc}{a:Int}(h:a∈wV ps k):∃z∈ps,z.v=false/\z.l=k/\z.a=a:=by
 unfold wV at h;obtain⟨z,hz,e⟩:=aw.mp h;obtain⟨h1,h2⟩:=cf.mp hz;obtain⟨h3,h4⟩:=gk.mp h2;exact⟨z,h1,by simpa using h3,of_decide_eq_true h4,e⟩
theorem cT{ps:List Pc}(h:∀z∈ps,z.v=false->z.l≠k):wV ps k=[]:=by
 cases e:wV ps k with
 | nil=>rfl
 | cons a r=>
   obtain⟨z,h1,h2,h3,_⟩:=Tw (show a∈wV ps k by rw[e];exact ω);exact absurd h3 (h z h1 h2)
theorem yk{ps:List Pc}{e:Int}{a:Int}(c:Ak 0 ps e)(h:a∈wV ps k):0<=a/\a<e:=by
 obtain⟨z,hz,_,_,rfl⟩:=Tw h;obtain⟨h1,h2,_,h3⟩:=c.mem z hz;omega
theorem nZ{a s:Int}(h:0<=a)(hs:1<=s):0<=a-a%s/\a-a%s<=a:=by
 have h1:=bi a (show s≠0 by omega);have h2:=cq a s;have h3:0<=s*(a/s):=fw (by omega) (mj h (by omega));omega
theorem Tx{a s:Int}(h1:s*(j:Int)<=a)(h2:a<s*(j:Int)+s):a-a%s=s*(j:Int)/\a/s=(j:Int)/\a%s=a-s*(j:Int):=by
 have hs:0<s:=by omega
 have e:a%s=a-s*(j:Int):=by
   have:=ip (a-s*(j:Int)) s (j:Int);rw[oy] at this;rw[this];exact li (by omega) (by omega)
 refine⟨by omega,?_,e⟩;have h3:=cq a s;rw[e] at h3;have h4:s*(a/s)=s*(j:Int):=by omega
 exact gc (by omega) h4
theorem Ty{n:Int}:∀{b:List Bool}{A:Int}{z:Pc},z∈slP n A b->z.l=n/\z.v∈b
 | v::r,A,z,h=>by
   rcases Φ.mp h with e | g
   . rw[e]
     exact⟨rfl,ω⟩
   . obtain⟨h1,h2⟩:=Ty g
     exact⟨h1,ρ _ h2⟩
theorem L3{b e:Int}(h:z∈fr b e):z.a=b/\z.l=e-b/\z.v=false:=by
 unfold fr at h
 split at h
 . cases h
 . rw[υ.mp h];exact⟨rfl,rfl,rfl⟩
def flS(s:Int)(f:Sf):Int:=if f.n=0 then s else f.n
theorem L5{s A:Int}{f:Sf}(h1:1<=s)(w:SfW s f):∃v r,shP s A f=⟨A,flS s f,v⟩::r:=by
 rcases w with ⟨e1,e2⟩ | ⟨h3,hn,h4,h5⟩
 . obtain⟨n,b⟩:=f;have e1:n=0:=e1;have e2:b=[]:=e2;subst e1 e2;exact⟨false,[],by rw[GB h1];rfl⟩
 . obtain⟨n,b⟩:=f;cases b with
   | nil=>
     have h5:s<n*((0:Nat):Int)+n:=h5;have hn:n<=s:=hn;simp at h5;omega
   | cons v r=>
     have h3:3<=n:=h3;refine⟨v,slP n (A+n) r++fr (A+n*(((v::r).length:Nat):Int)) (A+s),?_⟩;unfold flS;rw[if_neg (show n≠0 by omega)];rfl
theorem cU{s:Int}{f:Sf}(h1:1<=s)(w:SfW s f)(m:Au cs (shP s (s*(j:Int)) f)):CZ cs (shP s (s*(j:Int)) f) k s=if flS s f=k then wV (shP s (s*(j:Int)) f) k else []:=by
 obtain⟨v,r,e⟩:=L5 (A:=s*(j:Int)) h1 w;have hm:cs[(s*(j:Int)).toNat]?=some (xg (flS s f) v):=(m ⟨s*(j:Int),flS s f,v⟩ (by rw[e];exact ω)).1;have c:=KF (A:=s*(j:Int)) h1 w;have hd:∀a∈wV (shP s (s*(j:Int)) f) k,cs.getD (a-a%s).toNat 0/2=flS s f:=λa ha=>by
   obtain⟨z,hz,_,_,rfl⟩:=Tw ha;obtain⟨c1,c2,_,c3⟩:=c.mem z hz;rw[(Tx c1 (by omega)).1,G6 hm];exact G5 _ _
 unfold CZ;by_cases g:flS s f=k
 . rw[if_pos g];exact oa.mpr λa ha=>decide_eq_true (by rw[hd a ha];exact g)
 . rw[if_neg g];exact ig.mpr λa ha h=>g (by rw[<-hd a ha];exact of_decide_eq_true h)
theorem oA{s:Int}{f:Sf}(h1:1<=s)(w:SfW s f)(m:Au cs (shP s (s*(j:Int)) f))(hk:¬(f.n=k/\false∈f.b))(h0:¬(k=s/\f.n=0))(k1:1<=k):CZ cs (shP s (s*(j:Int)) f) k s=[]:=by
 rw[cU h1 w m]
 split
 . rename_i g;refine cT λz hz hv hl=>?_;unfold flS at g;rcases w with ⟨e1,e2⟩ | ⟨h3,_,h4,h5⟩
   . rw[if_pos e1] at g;exact h0 ⟨g.symm,e1⟩
   . rw[if_neg (by omega)] at g;unfold shP at hz;rcases θ.mp hz with q | q
     . obtain⟨_,q2⟩:=Ty q;rw[hv] at q2;exact hk ⟨g,q2⟩
     . obtain⟨_,q2,_⟩:=L3 q;omega
 . rfl
theorem Tz{s k:Int}{cs:List Int}(h1:1<=s)(k1:1<=k):∀{fs:List Sf}{j:Nat},(∀f∈fs,SfW s f)->Au cs (alP s (s*(j:Int)) fs)->(∀f∈fs,¬(f.n=k/\false∈f.b)/\¬(k=s/\f.n=0))->CZ cs (alP s (s*(j:Int)) fs) k s=[]
 | [],_,_,_,_=>rfl
 | f::r,j,w,m,h=>by
   have m:Au cs (shP s (s*(j:Int)) f++alP s (s*(j:Int)+s) r):=m
   show CZ cs (shP s (s*(j:Int)) f++alP s (s*(j:Int)+s) r) k s=[]
   obtain⟨g1,g2⟩:=h f ω
   rw[Tv,oA h1 (w f ω) (m.sub λp hp=>μ _ hp) g1 g2 k1,<-Cw,bz]
   exact Tz h1 k1 (λg hg=>w g (ρ _ hg)) (by rw[Cw];exact m.sub λp hp=>ζ _ hp) λg hg=>h g (ρ _ hg)
theorem cW{k:Int}:∀{b:List Bool}{A:Int}{i:Nat},b[i]?=some false->(∀i':Nat,i'<i->b[i']?≠some false)->∃r,wV (slP k A b) k=(A+k*(i:Int))::r
 | v::r,A,0,h,_=>by
   have e:v=false:=χ h
   subst e
   refine⟨wV (slP k (A+k) r) k,?_⟩
   show ((⟨A,k,false⟩::slP k (A+k) r).filter λz=>!z.v&&decide (z.l=k)).map (·.a)=_
   rw[bx,if_pos (by simp)]
   simp [wV]
 | v::r,A,i+1,h,g=>by
   have e:v=true:=by
     cases v with
     | true=>rfl
     | false=>exact absurd rfl (g 0 (sq _))
   subst e;obtain⟨q,hq⟩:=cW (k:=k) (b:=r) (A:=A+k) (i:=i) h λi' hi=>g (i'+1) (by omega);refine⟨q,?_⟩;show ((⟨A,k,true⟩::slP k (A+k) r).filter λz=>!z.v&&decide (z.l=k)).map (·.a)=_;rw[bx,if_neg (by simp)];rw[Cw,show A+(k*(i:Int)+k)=A+k+k*(i:Int) by omega];exact hq
theorem oB{s:Int}(h1:1<=s)(k3:3<=k)(w:∀f∈fs,SfW s f)(m:Au cs (alP s 0 fs))(h:fs[j]?=some ⟨k,b⟩)(hb:b[i]?=some false)(hi:∀i':Nat,i'<i->b[i']?≠some false)
   (hj:∀(j':Nat)(f:Sf),j'<j->fs[j']?=some f->¬(f.n=k/\false∈f.b)/\¬(k=s/\f.n=0)):∃r,CZ cs (alP s 0 fs) k s=(s*(j:Int)+k*(i:Int))::r:=by
 obtain⟨e,l,_⟩:=LZ h;have wj:=w _ (ε h);have ea:alP s 0 fs=alP s 0 (fs.take j)++(shP s (s*(j:Int)) ⟨k,b⟩++alP s (s*(j:Int)+s) (fs.drop (j+1))):=by
   have:=congrArg (alP s 0) e;rw[Qx,l,dm] at this;exact this
 rw[ea] at m ⊢;have n1:CZ cs (alP s 0 (fs.take j)) k s=[]:=by
   have:=Tz (cs:=cs) (j:=0) h1 (by omega) (fs:=fs.take j) (k:=k) (λf hf=>w f (jw hf)) (by rw[show s*((0:Nat):Int)=0 by simp];exact m.sub λp hp=>μ _ hp) λf hf=>by
     obtain⟨j',hj'⟩:=ai hf;have hl:j'<j:=by
       have:=(γ.mp hj').1;omega
     rw[gp hl] at hj';exact hj j' f hl hj'
   rw[show s*((0:Nat):Int)=0 by simp] at this;exact this
 obtain⟨r,hr⟩:=cW (k:=k) (A:=s*(j:Int)) hb hi;rw[Tv,n1,Tv,cU h1 wj (m.sub λp hp=>ζ _ (μ _ hp)),if_pos (show flS s ⟨k,b⟩=k by unfold flS;rw[if_neg (show k≠0 by omega)])];refine⟨r++wV (fr (s*(j:Int)+k*(b.length:Int)) (s*(j:Int)+s)) k++CZ cs (alP s (s*(j:Int)+s) (fs.drop (j+1))) k s,?_⟩;unfold shP;rw[L0];show []++((wV (slP k (s*(j:Int)) b) k++wV (fr (s*(j:Int)+k*(b.length:Int)) (s*(j:Int)+s)) k)++_)=_;rw[hr];simp [ao]
theorem TB{s A:Int}{f:Sf}(h1:1<=s)(o:xh s f):wV (shP s A f) s=if f.n=0 then [A] else []:=by
 obtain⟨w,t⟩:=o;rcases w with ⟨e1,e2⟩ | ⟨h3,hn,h4,h5⟩
 . obtain⟨n,b⟩:=f;have e1:n=0:=e1;have e2:b=[]:=e2;subst e1 e2;rw[GB h1,if_pos rfl];unfold wV;rw[bx,if_pos (by simp)];rfl
 . have h0:f.n≠0:=by omega
   rw[if_neg h0];refine cT λz hz hv hl=>?_;unfold shP at hz;have tt:=t h0;have hlen:1<=f.b.length:=by
     rcases hb:f.b with _ | ⟨v,r⟩
     . rw[hb] at tt;cases tt
     . simp
   rcases θ.mp hz with q | q
   . obtain⟨q1,q2⟩:=Ty q;have hns:f.n=s:=by omega
     rw[hns] at h4;have hl1:f.b.length<=1:=by
       refine qc λh=>?_;have:s*(2:Int)<=s*(f.b.length:Int):=Ψ (by omega) (by omega);omega
     rcases hb:f.b with _ | ⟨v,r⟩
     . rw[hb] at tt;cases tt
     . rw[hb,am] at hl1;have hr:r=[]:=cv.mp (by omega);rw[hb,hr] at tt q2;have e1:=υ.mp tt;have e2:=υ.mp q2;rw[hv,<-e1] at e2;cases e2
   . obtain⟨_,q2,_⟩:=L3 q;have:f.n*(1:Int)<=f.n*(f.b.length:Int):=Ψ (by omega) (by omega);omega
theorem TC{s:Int}(h1:1<=s):∀{fs:List Sf}{A:Int},(∀f∈fs,xh s f)->(∀f∈fs,f.n≠0)->wV (alP s A fs) s=[]
 | [],_,_,_=>rfl
 | f::r,A,o,h=>by
   show wV (shP s A f++alP s (A+s) r) s=[]
   rw[L0,TB h1 (o f ω),if_neg (h f ω),bz]
   exact TC h1 (λg hg=>o g (ρ _ hg)) λg hg=>h g (ρ _ hg)
theorem oC{s:Int}{f:Sf}(h1:1<=s)(o:∀f∈fs,xh s f)(h:fs[j]?=some f)(h0:f.n=0)(hj:∀(j':Nat)(f:Sf),j'<j->fs[j']?=some f->f.n≠0):∃r,wV (alP s 0 fs) s=(s*(j:Int))::r:=by
 obtain⟨e,l,_⟩:=LZ h;have ea:alP s 0 fs=alP s 0 (fs.take j)++(shP s (s*(j:Int)) f++alP s (s*(j:Int)+s) (fs.drop (j+1))):=by
   have:=congrArg (alP s 0) e;rw[Qx,l,dm] at this;exact this
 have n1:wV (alP s 0 (fs.take j)) s=[]:=TC h1 (λf hf=>o f (jw hf)) λf hf=>by
   obtain⟨j',hj'⟩:=ai hf;have hl:j'<j:=by
     have:=(γ.mp hj').1;omega
   rw[gp hl] at hj';exact hj j' f hl hj'
 rw[ea,L0,n1,L0,TB h1 (o f (ε h)),if_pos h0];exact⟨_,rfl⟩
def L_(s k:Int)(fs:List Sf):Prop:=(∀f∈fs,¬(f.n=k/\false∈f.b))/\(s<k\/∀f∈fs,f.n≠0)
def Gs(s k:Int)(fs:List Sf)(j i:Nat)(b:List Bool)(fs1:List Sf):Prop:=
 fs1[j]?=some ⟨k,b⟩/\b[i]?=some false/\(∀i':Nat,i'<i->b[i']?≠some false)/\(∀(j':Nat)(f:Sf),j'<j->fs[j']?=some f->¬(f.n=k/\false∈f.b)) /\
 (fs1=fs\/((∀f∈fs,¬(f.n=k/\false∈f.b))/\k<=s/\i=0/\b=ο (s/k).toNat false/\(∃f,fs[j]?=some f/\f.n=0)/\(∀(j':Nat)(f:Sf),j'<j->fs[j']?=some f->f.n≠0)/\fs1=fs.set j ⟨k,b⟩))
theorem TD{s:Int}(h1:1<=k)(h2:k<=s):k*((s/k).toNat:Int)<=s/\s<k*((s/k).toNat:Int)+k/\1<=(s/k).toNat:=by
 have a1:=cq s k;have a2:=bi s (show k≠0 by omega);have a3:=bb s (show 0<k by omega);have a4:1<=s/k:=Int.le_ediv_of_mul_le (by omega) (by omega);have a5:((s/k).toNat:Int)=s/k:=bg (by omega);rw[a5];omega
theorem oE{s:Int}{f:Sf}(h1:1<=s)(o:xh s f)(hk:f.n=k)(ks:k=s):false ∉ f.b:=λhf=>by
 have h:=TB (A:=0) h1 o;obtain⟨w,t⟩:=o;rcases w with ⟨e1,e2⟩ | ⟨h3,hn,h4,h5⟩
 . rw[e2] at hf;cases hf
 . rw[if_neg (by omega)] at h;obtain⟨i,hi⟩:=ai hf;have hm:(⟨0+f.n*(i:Int),f.n,false⟩:Pc)∈slP f.n 0 f.b:=by
     obtain⟨ds,rs,e⟩:=Qy (n:=f.n) (A:=0) hi;have:=e false;rw[KG hi] at this;rw[this];exact ζ _ ω
   have:(0+f.n*(i:Int))∈wV (shP s 0 f) s:=by
     unfold wV shP;exact aw.mpr ⟨_,cf.mpr ⟨μ _ hm,by simp;omega⟩,rfl⟩
   rw[h] at this;cases this
theorem Gs.W{s:Int}{fs1:List Sf}(g:Gs s k fs j i b fs1)(k3:3<=k)(o:∀f∈fs,xh s f):∀f∈fs1,SfW s f:=by
 obtain⟨_,_,_,_,e | ⟨_,ks,_,eb,_,_,e⟩⟩:=g
 . rw[e];exact λf hf=>(o f hf).1
 . rw[e];obtain⟨d1,d2,_⟩:=TD (show 1<=k by omega) ks;refine C_ (λf hf=>(o f hf).1) (.inr ⟨k3,ks,?_,?_⟩)
   . show k*(b.length:Int)<=s;rw[eb,ag];exact d1
   . show s<k*(b.length:Int)+k;rw[eb,ag];exact d2
theorem Gs.slot{s:Int}{fs1:List Sf}(g:Gs s k fs j i b fs1)(h1:1<=s)(k3:3<=k)(o:∀f∈fs,xh s f)(m:Au cs (alP s 0 fs1)):∃r,CZ cs (alP s 0 fs1) k s=(s*(j:Int)+k*(i:Int))::r:=by
 have w:=g.W k3 o;obtain⟨g1,g2,g3,g4,g5⟩:=g;refine oB h1 k3 w m g1 g2 g3 λj' f hj' hf=>?_;rcases g5 with e | ⟨g6,ks,_,eb,_,g7,e⟩
 . rw[e] at hf;refine⟨g4 j' f hj' hf,λh=>?_⟩;rw[e] at g1;exact oE h1 (o _ (ε g1)) rfl h.1 (ε g2)
 . rw[e,aa (by omega)] at hf;exact⟨g4 j' f hj' hf,λh=>g7 j' f hj' hf h.2⟩
theorem Gs.ok{s:Int}{fs1:List Sf}(g:Gs s k fs j i b fs1)(k3:3<=k)(o:∀f∈fs,xh s f):∀f∈fs1.set j ⟨k,b.set i true⟩,xh s f:=λf hf=>by
 have w:=g.W k3 o;have hib:i<b.length:=(γ.mp g.2.1).1;rcases eh hf with h | h
 . obtain⟨g1,g2,g3,g4,g5⟩:=g;rcases g5 with e | ⟨g6,ks,i0,eb,_,g7,e⟩
   . rw[e] at h;exact o f h
   . rw[e] at hf;rw[sr] at hf;rcases eh hf with h | h
     . exact o f h
     . rw[h];exact⟨Qz (w _ (ε g1)) hib,λ_=>ε (aj hib)⟩
 . rw[h];exact⟨Qz (w _ (ε g.1)) hib,λ_=>ε (aj hib)⟩
theorem oF{s:Int}{f:Sf}(h1:1<=s)(w:∀f∈fs,SfW s f)(h:fs[j]?=some f):((alP s 0 fs).any λz=>decide (z.a-z.a%s=s*(j:Int))&&z.v)=f.b.any id:=by
 obtain⟨ds,rs,e,c1,c2⟩:=Hk h1 w h;have c:=KF (A:=s*(j:Int)) h1 (w f (ε h));have hp:∀{a:Int},a-a%s<=a/\a-s<a-a%s:=λ{a}=>by
   have:=bi a (show s≠0 by omega);have:=bb a (show 0<s by omega);omega
 rw[<-Hl h,e f,ik,ik];have d1:(ds.any λz=>decide (z.a-z.a%s=s*(j:Int))&&z.v)=false:=je.mpr λz hz=>by
   have:=c1.mem z hz;have:=@hp z.a;rw[decide_eq_false (by omega)];simp
 have d2:(rs.any λz=>decide (z.a-z.a%s=s*(j:Int))&&z.v)=false:=je.mpr λz hz=>by
   have:=c2.mem z hz;have:=@hp z.a;rw[decide_eq_false (by omega)];simp
 have d3:∀z∈shP s (s*(j:Int)) f,decide (z.a-z.a%s=s*(j:Int))=true:=λz hz=>by
   obtain⟨q1,q2,_,q3⟩:=c.mem z hz;exact decide_eq_true (Tx q1 (by omega)).1
 rw[d1,d2,oh,rf];have hs:∀(b:List Bool)(A:Int),(slP f.n A b).any (λz=>z.v)=b.any id:=λb=>by
   induction b with
   | nil=>intro A;rfl
   | cons v r ih=>
     intro A;show ((⟨A,f.n,v⟩:Pc)::slP f.n (A+f.n) r).any (λz=>z.v)=_;rw[eo,ih,eo];rfl
 have e1:((shP s (s*(j:Int)) f).any λz=>decide (z.a-z.a%s=s*(j:Int))&&z.v)=(shP s (s*(j:Int)) f).any λz=>z.v:=by
   rw[cy,dk,dk];constructor
   . rintro⟨z,hz,g⟩;exact⟨z,hz,(gk.mp g).2⟩
   . rintro⟨z,hz,g⟩;exact⟨z,hz,gk.mpr ⟨d3 z hz,g⟩⟩
 rw[e1];unfold shP;rw[ik,hs,show (fr (s*(j:Int)+f.n*(f.b.length:Int)) (s*(j:Int)+s)).any (λz=>z.v)=false from je.mpr λz hz=>by rw[(L3 hz).2.2];simp,rf]
def giv(fs:List Sf)(j i:Nat)(n:Int)(b:List Bool):List Sf:=if (b.set i false).any id=true then fs.set j ⟨n,b.set i false⟩ else fs.set j ⟨0,[]⟩
theorem cY(fs:List Sf)(j i:Nat)(n:Int)(b:List Bool):(giv fs j i n b).length=fs.length:=by unfold giv;split <;> exact ax
theorem cZ{s:Int}{n:Int}(o:∀f∈fs,xh s f)(h:fs[j]?=some ⟨n,b⟩)(hi:i<b.length):∀f∈giv fs j i n b,xh s f:=λf hf=>by
 unfold giv at hf
 split at hf
 . rename_i g;rcases eh hf with h' | h'
   . exact o f h'
   . rw[h'];refine⟨Qz (o _ (ε h)).1 hi,λ_=>?_⟩;obtain⟨x,hx,gx⟩:=dk.mp g;have gx:x=true:=gx;rw[gx] at hx;exact hx
 . rcases eh hf with h' | h'
   . exact o f h'
   . rw[h'];exact⟨.inl ⟨rfl,rfl⟩,λh0=>absurd rfl h0⟩
theorem oG(h:false∈b):∃i,b[i]?=some false/\∀i':Nat,i'<i->b[i']?≠some false:=by
 induction b with
 | nil=>cases h
 | cons v r ih=>
   cases v with
   | false=>exact⟨0,rfl,λi' hi=>absurd hi (fg _)⟩
   | true=>
     have:false∈r:=by
       rcases Φ.mp h with e | e
       . cases e
       . exact e
     obtain⟨i,h1,h2⟩:=ih this;refine⟨i+1,h1,λi' hi=>?_⟩;cases i' with
     | zero=>intro e;cases e
     | succ i'=>exact h2 i' (by omega)
theorem TF{n:Int}:∀{b:List Bool}{A:Int}{z:Pc},z∈slP n A b->∃i:Nat,b[i]?=some z.v/\z=⟨A+n*(i:Int),n,z.v⟩
 | v::r,A,z,h=>by
   rcases Φ.mp h with e | g
   . rw[e]
     exact⟨0,rfl,by simp⟩
   . obtain⟨i,h1,h2⟩:=TF g
     exact⟨i+1,h1,by rw[Cw];rw[h2];congr 1;show A+n+n*(i:Int)=A+(n*(i:Int)+n);omega⟩
theorem dA{s:Int}:∀{fs:List Sf}{j0:Nat}{z:Pc},z∈alP s (s*(j0:Int)) fs->∃(j:Nat)(f:Sf),fs[j]?=some f/\z∈shP s (s*((j0+j:Nat):Int)) f
 | f::r,j0,z,h=>by
   have h:z∈shP s (s*(j0:Int)) f++alP s (s*(j0:Int)+s) r:=h
   rcases θ.mp h with g | g
   . exact⟨0,f,rfl,g⟩
   . rw[<-Cw] at g
     obtain⟨j,f',h1,h2⟩:=dA g
     exact⟨j+1,f',h1,by rw[show j0+(j+1)=j0+1+j by omega];exact h2⟩
theorem dB{s:Int}{f:Sf}(h1:1<=s)(w:∀f∈fs,SfW s f)(h:fs[j]?=some f)(hz:z∈shP s (s*(j:Int)) f):z∈alP s 0 fs:=by
 obtain⟨ds,rs,e,_⟩:=Hk h1 w h;rw[<-Hl h,e f];exact ζ _ (μ _ hz)
theorem yA{s:Int}(h:z∈alP s 0 fs):∃(j:Nat)(f:Sf),fs[j]?=some f/\z∈shP s (s*(j:Int)) f:=by
 obtain⟨j,f,h1,h2⟩:=dA (j0:=0) (by rw[show s*((0:Nat):Int)=0 by simp];exact h);rw[md] at h2;exact⟨j,f,h1,h2⟩
theorem dC{s A:Int}{f:Sf}(h:z∈shP s A f)(hv:z.v=true):∃i:Nat,f.b[i]?=some true/\z=⟨A+f.n*(i:Int),f.n,true⟩:=by
 unfold shP at h;rcases θ.mp h with g | g
 . obtain⟨i,h1,h2⟩:=TF g;rw[hv] at h1 h2;exact⟨i,h1,h2⟩
 . rw[(L3 g).2.2] at hv;cases hv
theorem dD{s A n:Int}{v:Bool}(h:b[i]?=some v):(⟨A+n*(i:Int),n,v⟩:Pc)∈shP s A ⟨n,b⟩:=by
 obtain⟨d2,r2,e2⟩:=Qy (n:=n) (A:=A) h;have:=e2 v;rw[KG h] at this;unfold shP;show _∈slP n A b++_;rw[this];exact μ _ (ζ _ ω)
theorem dE{s n:Int}{v:Bool}(hs:1<=s)(W:∀f∈fs,SfW s f)(hj:fs[j]?=some ⟨n,b⟩)(hi:b[i]?=some v):3<=n/\s*(j:Int)+n*(i:Int)+n<=s*(j:Int)+s/\s*(j:Int)+n*(i:Int)-(s*(j:Int)+n*(i:Int))%s=s*(j:Int)/\(s*(j:Int)+n*(i:Int))/s=(j:Int)/\(s*(j:Int)+n*(i:Int))%s/n=(i:Int):=by
 have hib:i<b.length:=(γ.mp hi).1;have n3:3<=n:=by
   rcases W _ (ε hj) with ⟨_,e2⟩ | g
   . have e2:b=[]:=e2;rw[e2] at hib;exact absurd hib (fg _)
   . exact g.1
 have hm:(⟨s*(j:Int)+n*(i:Int),n,v⟩:Pc)∈shP s (s*(j:Int)) ⟨n,b⟩:=by
   obtain⟨d2,r2,e2⟩:=Qy (n:=n) (A:=s*(j:Int)) hi;have:=e2 v;rw[KG hi] at this;unfold shP;show _∈slP n (s*(j:Int)) b++_;rw[this];exact μ _ (ζ _ ω)
 obtain⟨q1,_,_,q4⟩:=(KF (A:=s*(j:Int)) hs (W _ (ε hj))).mem _ hm;have q1:s*(j:Int)<=s*(j:Int)+n*(i:Int):=q1;have q4:s*(j:Int)+n*(i:Int)+n<=s*(j:Int)+s:=q4;obtain⟨r1,r2,r3⟩:=Tx (j:=j) q1 (by omega);refine⟨n3,q4,r1,r2,?_⟩;rw[r3,show s*(j:Int)+n*(i:Int)-s*(j:Int)=n*(i:Int) by omega];exact gq _ (by omega)
theorem L6{s n:Int}{v:Bool}(hs:1<=s)(W:∀f∈fs,SfW s f)(hj:fs[j]?=some ⟨n,b⟩)(hi:b[i]?=some v):s*(j:Int)<=s*(j:Int)+n*(i:Int)/\s*(j:Int)+n*(i:Int)+n<=s*(j:Int)+s/\(s*(j:Int)+n*(i:Int))/s=(j:Int)/\3<=n:=by
 obtain⟨q1,q2,_,q4,_⟩:=dE hs W hj hi;have:=fw (show 0<=n by omega) (show (0:Int)<=(i:Int) by omega);exact⟨by omega,q2,q4,q1⟩
theorem KH{s:Int}(h:z∈alP s 0 fs)(hv:z.v=true):∃(j i:Nat)(n:Int)(b:List Bool),fs[j]?=some ⟨n,b⟩/\b[i]?=some true/\z=⟨s*(j:Int)+n*(i:Int),n,true⟩:=by
 obtain⟨j,⟨n,b⟩,h1,h2⟩:=yA h;obtain⟨i,h3,h4⟩:=dC h2 hv;exact⟨j,i,n,b,h1,h3,h4⟩
theorem DZ{s n:Int}{v:Bool}(h1:1<=s)(w:∀f∈fs,SfW s f)(h:fs[j]?=some ⟨n,b⟩)(hb:b[i]?=some v):(⟨s*(j:Int)+n*(i:Int),n,v⟩:Pc)∈alP s 0 fs:=dB h1 w h (dD hb)
theorem wR{α:Type}{xs:List α}{j':Nat}{x y:α}(h:(xs.set j x)[j']?=some y):(j=j'/\x=y)\/(j≠j'/\xs[j']?=some y):=by
 by_cases e:j=j'
 . subst e;have hl:j<xs.length:=by
     have:=(γ.mp h).1
     rwa [ax] at this
   rw[aj hl] at h;exact .inl ⟨rfl,χ h⟩
 . rw[aa e] at h;exact .inr ⟨e,h⟩
theorem Gs.fs1{s n:Int}{fs1:List Sf}{j1 i1:Nat}{b1:List Bool}(g:Gs s k fs j i b fs1)(h:fs[j1]?=some ⟨n,b1⟩)(hb:b1[i1]?=some true)(W:∀f∈fs,SfW s f):fs1[j1]?=some ⟨n,b1⟩:=by
 obtain⟨_,_,_,_,e | ⟨_,_,_,_,⟨f0,c8,c9⟩,_,e⟩⟩:=g
 . rw[e];exact h
 . rw[e,aa]
   . exact h
   . intro w;rw[w,h] at c8;have e0:=χ c8;rw[<-e0] at c9;have c9:n=0:=c9;rcases W _ (ε h) with ⟨_,e2⟩ | ⟨h3,_⟩
     . have e2:b1=[]:=e2;rw[e2] at hb;simp at hb
     . have h3:3<=n:=h3;omega
theorem Gs.parts{s:Int}{fs1:List Sf}(g:Gs s k fs j i b fs1)(h1:1<=s)(k3:3<=k)(o:∀f∈fs,xh s f):
   (∀y∈alP s 0 fs,y.v=true->y∈alP s 0 fs1/\y∈alP s 0 (fs1.set j ⟨k,b.set i true⟩))/\((⟨s*(j:Int)+k*(i:Int),k,true⟩:Pc)∈alP s 0 (fs1.set j ⟨k,b.set i true⟩))/\((⟨s*(j:Int)+k*(i:Int),k,false⟩:Pc)∈alP s 0 fs1) /\
   ∀y∈alP s 0 (fs1.set j ⟨k,b.set i true⟩),y.v=true->y=⟨s*(j:Int)+k*(i:Int),k,true⟩\/y∈alP s 0 fs:=by
 have W:∀f∈fs,SfW s f:=λf hf=>(o f hf).1;have W1:=g.W k3 o;have W2:∀f∈fs1.set j ⟨k,b.set i true⟩,SfW s f:=λf hf=>(g.ok k3 o f hf).1;have hjl:j<fs1.length:=(γ.mp g.1).1;have hil:i<b.length:=(γ.mp g.2.1).1;refine⟨λy hy hv=>?_,DZ h1 W2 (aj hjl) (aj hil),DZ h1 W1 g.1 g.2.1,λy hy hv=>?_⟩
 . obtain⟨j1,i1,n,b1,e1,e2,rfl⟩:=KH hy hv;have f1:=g.fs1 e1 e2 W;refine⟨DZ h1 W1 f1 e2,?_⟩;by_cases e:j=j1
   . subst e;rw[g.1] at f1;have e3:=χ f1;have en:k=n:=congrArg Sf.n e3;have eb:b=b1:=congrArg Sf.b e3;subst en eb;refine DZ h1 W2 (aj hjl) (i:=i1) ?_;rw[aa]
     . exact e2
     . intro w;rw[<-w,g.2.1] at e2;cases e2
   . exact DZ h1 W2 (by rw[aa e];exact f1) e2
 . obtain⟨j1,i1,n,b1,e1,e2,rfl⟩:=KH hy hv;have back:∀{j1 i1:Nat}{n:Int}{b1:List Bool},fs1[j1]?=some ⟨n,b1⟩->b1[i1]?=some true->(⟨s*(j1:Int)+n*(i1:Int),n,true⟩:Pc)∈alP s 0 fs:=λ{j1 i1 n b1} h hb=>by
     obtain⟨_,_,_,_,e | ⟨_,_,_,eb,_,_,e⟩⟩:=g
     . rw[e] at h;exact DZ h1 W h hb
     . rw[e] at h;rcases wR h with ⟨_,e4⟩ | ⟨_,e4⟩
       . have:b=b1:=congrArg Sf.b e4;rw[<-this,eb] at hb;have:=ε hb;rw[la] at this;exact absurd this.2 (by decide)
       . exact DZ h1 W e4 hb
   rcases wR e1 with ⟨ej,e3⟩ | ⟨ej,e3⟩
   . subst ej;have en:k=n:=congrArg Sf.n e3;have eb:b.set i true=b1:=congrArg Sf.b e3;subst en eb;rcases wR e2 with ⟨ei,_⟩ | ⟨ei,e4⟩
     . subst ei;exact .inl rfl
     . exact .inr (back g.1 e4)
   . exact .inr (back e3 e2)
theorem dF{s n:Int}(h1:1<=s)(o:∀f∈fs,xh s f)(h:fs[j]?=some ⟨n,b⟩)(hi:b[i]?=some true):
   (∀y∈alP s 0 fs,y.v=true->y≠⟨s*(j:Int)+n*(i:Int),n,true⟩->y∈alP s 0 (giv fs j i n b)) /\
   (∀y∈alP s 0 (giv fs j i n b),y.v=true->y∈alP s 0 fs/\y≠⟨s*(j:Int)+n*(i:Int),n,true⟩) /\
   ((b.set i false).any id=false->∀y∈alP s 0 fs,y.v=true->y≠⟨s*(j:Int)+n*(i:Int),n,true⟩->y.a+y.l<=s*(j:Int)\/s*(j:Int)+s<=y.a):=by
 have W:∀f∈fs,SfW s f:=λf hf=>(o f hf).1;have hjl:j<fs.length:=(γ.mp h).1;have hil:i<b.length:=(γ.mp hi).1;have W2:∀f∈giv fs j i n b,SfW s f:=λf hf=>(cZ o h hil f hf).1;have n3:3<=n:=by
   rcases W _ (ε h) with ⟨_,e2⟩ | g
   . have e2:b=[]:=e2;rw[e2] at hil;exact absurd hil (fg _)
   . exact g.1
 have nolive:(b.set i false).any id=false->∀i1,i≠i1->b[i1]?≠some true:=λhb i1 hne e=>by
   have:true∈b.set i false:=ε (i:=i1) (by rw[aa hne];exact e);exact absurd (dk.mpr ⟨true,this,rfl⟩) (by rw[hb];exact ν)
 refine⟨λy hy hv hne=>?_,λy hy hv=>?_,λhb y hy hv hne=>?_⟩
 . obtain⟨j1,i1,n1,b1,e1,e2,rfl⟩:=KH hy hv;by_cases e:j=j1
   . subst e;rw[h] at e1;have e3:=χ e1;have en:n=n1:=congrArg Sf.n e3;have eb:b=b1:=congrArg Sf.b e3;subst en eb;have hii:i≠i1:=λw=>hne (by rw[w]);have e4:(b.set i false)[i1]?=some true:=by rw[aa hii];exact e2
     refine DZ h1 W2 (b:=b.set i false) ?_ e4;unfold giv;rw[if_pos (dk.mpr ⟨true,ε e4,rfl⟩)];exact aj hjl
   . refine DZ h1 W2 ?_ e2;unfold giv
     split <;> (rw[aa e];exact e1)
 . obtain⟨j1,i1,n1,b1,e1,e2,rfl⟩:=KH hy hv;unfold giv at e1
   split at e1
   . rcases wR e1 with ⟨ej,e3⟩ | ⟨ej,e3⟩
     . subst ej;have en:n=n1:=congrArg Sf.n e3;have eb:b.set i false=b1:=congrArg Sf.b e3;subst en eb;rcases wR e2 with ⟨_,e4⟩ | ⟨ei,e4⟩
       . cases e4
       . refine⟨DZ h1 W h e4,λw=>ei ?_⟩;have:=(Pc.mk.inj w).1;have h5:n*(i1:Int)=n*(i:Int):=by omega
         have:=gc (show n≠0 by omega) h5;omega
     . refine⟨DZ h1 W e3 e2,λw=>ej ?_⟩;have hc:=GA h1 fs 0 W;obtain⟨_,_,q2,_⟩:=L6 h1 W h hi;obtain⟨_,_,q3,_⟩:=L6 h1 W e3 e2;have:=(Pc.mk.inj w).1;rw[this,q2] at q3;omega
   . rcases wR e1 with ⟨ej,e3⟩ | ⟨ej,e3⟩
     . have:([]:List Bool)=b1:=congrArg Sf.b e3;rw[<-this] at e2;simp at e2
     . refine⟨DZ h1 W e3 e2,λw=>ej ?_⟩;obtain⟨_,_,q2,_⟩:=L6 h1 W h hi;obtain⟨_,_,q3,_⟩:=L6 h1 W e3 e2;have:=(Pc.mk.inj w).1;rw[this,q2] at q3;omega
 . obtain⟨j1,i1,n1,b1,e1,e2,rfl⟩:=KH hy hv;by_cases e:j=j1
   . subst e;rw[h] at e1;have e3:=χ e1;have en:n=n1:=congrArg Sf.n e3;have eb:b=b1:=congrArg Sf.b e3;subst en eb;exact absurd e2 (nolive hb i1 (λw=>hne (by rw[w])))
   . obtain⟨a1,a2,a3,_⟩:=L6 h1 W e1 e2;show s*(j1:Int)+n1*(i1:Int)+n1<=s*(j:Int)\/s*(j:Int)+s<=s*(j1:Int)+n1*(i1:Int);rcases Nat.lt_or_gt_of_ne e with g | g
     . have:=Ψ (show ((j+1:Nat):Int)<=(j1:Int) by omega) (show 0<=s by omega);rw[Cw] at this;omega
     . have:=Ψ (show ((j1+1:Nat):Int)<=(j:Int) by omega) (show 0<=s by omega);rw[Cw] at this;omega
def xp(k:Int):List Int->List Pc
 | []=>[]
 | l::r=>⟨k,l,true⟩::xp (k+l) r
theorem TJ:∀(ls:List Int)(k:Int),ls.foldl (·+·) k=k+ls.foldl (·+·) 0
 | [],k=>by simp
 | l::r,k=>by
   rw[gf,gf,TJ r (k+l),TJ r (0+l)]
   omega
theorem dG(l:Int)(r:List Int):wP (l::r)=l+wP r:=by
 unfold wP;rw[gf,TJ];omega
theorem TK(ls:List Int)(l:Int):wP (ls++[l])=wP ls+l:=by
 unfold wP;rw[jh];rfl
theorem KI:∀(ls:List Int)(k l:Int),xp k (ls++[l])=xp k ls++[⟨k+wP ls,l,true⟩]
 | [],k,l=>by
   show [(⟨k,l,true⟩:Pc)]=[⟨k+wP [],l,true⟩]
   rw[show wP []=0 from rfl,ji]
 | m::r,k,l=>by
   show (⟨k,m,true⟩:Pc)::xp (k+m) (r++[l])=⟨k,m,true⟩::(xp (k+m) r++[⟨k+wP (m::r),l,true⟩])
   rw[KI r,dG,rg]
theorem L7:∀(ls:List Int)(k:Int),(∀l∈ls,3<=l)->Ak k (xp k ls) (k+wP ls)
 | [],k,_=>by
   show k=k+wP []
   rw[show wP []=0 from rfl,ji]
 | m::r,k,h=>by
   have h3:=h m ω
   refine⟨rfl,(show 1<=m by omega),λ_=>h3,?_⟩
   have:=L7 r (k+m) λl hl=>h l (ρ _ hl)
   rw[dG,<-rg]
   exact this
def rwP(ls:List Int)(n:Int):List Pc:=xp 0 ls++fr (wP ls) n
theorem dH{ls:List Int}{n:Int}(h3:∀l∈ls,3<=l)(hn:wP ls<=n):Ak 0 (rwP ls n) n:=by
 have:=L7 ls 0 h3;rw[dm] at this;exact this.app (G9 hn)
theorem oH(ls:List Int)(n L:Int):xE (xp 0 ls) [] (wP ls) (n-wP ls) (wP ls) L=rwP (ls++[L]) n:=by
 unfold xE rwP;rw[KI,TK,dm,show fr (wP ls) (wP ls)=[] from if_pos rfl,ae,bz,ao,show wP ls+(n-wP ls)=n by omega];rfl
theorem L8{ls:List Int}{n:Int}(h:wP ls<n):rwP ls n=xp 0 ls++[⟨wP ls,n-wP ls,false⟩]:=by
 unfold rwP fr;rw[if_neg (by omega)]
theorem oJ{ls:List Int}{n:Int}(h:wP ls=n):rwP ls n=xp 0 ls:=by
 unfold rwP fr;rw[if_pos h,ae]
theorem oK{ls:List Int}{n L:Int}(h3:∀l∈ls,3<=l)(hl:(cs.length:Int)=n)(h0:0<=wP ls)(hL:1<=L)(hn:wP ls+L<=n)(m:Au cs (rwP ls n)):
   Au (xq cs (wP ls) (n-wP ls) (wP ls) L) (rwP (ls++[L]) n):=by
 rw[L8 (by omega)] at m;have c:=L7 ls 0 h3;rw[dm] at c;have:=aL (z:=⟨wP ls,n-wP ls,false⟩) (s:=wP ls) (L:=L) (rs:=[]) h0 hL (aq _) (show wP ls+L<=wP ls+(n-wP ls) by omega) (show wP ls+(n-wP ls)<=(cs.length:Int) by omega) (c.endBy (aq 0)) (λp hp=>by cases hp) m;have e:=oH ls n L;rw[<-e];exact this
theorem oM{ls:List Int}(h3:∀l∈ls,3<=l):0<=wP ls:=by
 have:=(L7 ls 0 h3).le;omega
def Gh(B:Nat)(ps ds rs:List Pc)(b:Int)(M:Nat):Prop:=ps=ds++⟨b,2^M,false⟩::rs/\Bst (2^B) ps ⟨b,2^M,false⟩
def NoH(B:Nat)(ps:List Pc):Prop:=∀z∈ps,z.v=false->z.l<2^B
theorem TM(h:(2:Int)^i<=2^j):i<=j:=by
 rcases gj j i with g | g
 . have:=Eb (show j+1<=i from g);have:=pw1 j;have:=pw2 j;omega
 . exact g
theorem Gh.lie{B N M:Nat}{ps rs:List Pc}{b:Int}(g:Gh B ps ds rs b M)(hB:2<=B)(hc:Ak 0 ps (2^N))(al:∀z∈ps,Al z):
   B<=M/\M<=N/\0<=b/\Ak 0 ds b/\Ak (b+2^M) rs (2^N)/\Ak 0 (ds++(hcP b B M++rs)) (2^N)/\(∀z∈ds++(hcP b B M++rs),Al z)/\(⟨b,2^B,true⟩:Pc)∈ds++(hcP b B M++rs):=by
 obtain⟨e,h1,h2,h3,h4⟩:=g;have hBM:B<=M:=TM h3;rw[e] at hc;obtain⟨k,c1,c2⟩:=KB hc;obtain⟨ea,_,_,c3⟩:=c2;have ea:b=k:=ea;subst ea;have c3:Ak (b+2^M) rs (2^N):=c3;have l1:=c1.le;have l3:=c3.le;have hMN:M<=N:=TM (by omega);obtain⟨m0,q0,e1,e2⟩:=al _ h1;have e1:(2:Int)^M=2^m0:=e1;have e2:b=2^m0*(q0:Int):=e2;rw[<-KE e1] at e2;obtain⟨r,hr⟩:=Tq e2 hBM;refine⟨hBM,hMN,by omega,c1,c3,c1.app ((nW hB hBM).app c3),λz hz=>?_,ζ _ (μ _ ω)⟩;rcases θ.mp hz with g | g
 . exact al z (by rw[e];exact μ _ g)
 . rcases θ.mp g with g | g
   . rcases Φ.mp g with w | w
     . rw[w];exact⟨B,r,rfl,hr⟩
     . exact yP e2 (show B+(M-B)<=M by omega) z w
   . exact al z (by rw[e];exact ζ _ (ρ _ g))
theorem CF.two'{k:Nat}{c:Int}(h:CF k c)(h3:3<=c):2<=k:=by
 rcases gj k 2 with g | g
 . have h1:=h.1;rcases(show k=0\/k=1 by omega) with e | e
   . rw[e] at h1;have:(2:Int)^0=1:=by decide
     omega
   . rw[e] at h1;have:(2:Int)^1=2:=by decide
     omega
 . exact g
theorem dJ{b:Int}:∀ps:List Pc,(∀z∈ps,z.v=false->z.l<b)\/∃z,Bst b ps z
 | []=>.inl λz hz=>by cases hz
 | y::r=>by
   have mo:∀{z:Pc},Bst b r z->¬(y.v=false/\b<=y.l/\(y.l<z.l\/(y.l=z.l/\y.a<z.a)))->Bst b (y::r) z:=λ{z} h hn=>by
     refine⟨ρ _ h.1,h.2.1,h.2.2.1,λw hw hv hl=>?_⟩
     rcases Φ.mp hw with e | e
     . rw[e] at hv hl ⊢
       have:¬(y.l<z.l\/(y.l=z.l/\y.a<z.a)):=λg=>hn ⟨hv,hl,g⟩
       omega
     . exact h.2.2.2 w e hv hl
   rcases dJ (b:=b) r with h | ⟨z,h⟩
   . by_cases g:y.v=false/\b<=y.l
     . refine .inr ⟨y,ω,g.1,g.2,λw hw hv hl=>?_⟩
       rcases Φ.mp hw with e | e
       . rw[e];exact .inr ⟨rfl,aq _⟩
       . have:=h w e hv
         omega
     . refine .inl λw hw hv=>?_
       rcases Φ.mp hw with e | e
       . rw[e] at hv ⊢
         have:¬b<=y.l:=λg2=>g ⟨hv,g2⟩
         omega
       . exact h w e hv
   . by_cases g:y.v=false/\b<=y.l/\(y.l<z.l\/(y.l=z.l/\y.a<z.a))
     . refine .inr ⟨y,ω,g.1,g.2.1,λw hw hv hl=>?_⟩
       rcases Φ.mp hw with e | e
       . rw[e];exact .inr ⟨rfl,aq _⟩
       . have:=h.2.2.2 w e hv hl
         omega
     . exact .inr ⟨z,mo h g⟩
theorem gh_ex{N:Nat}{ps:List Pc}(B:Nat)(hc:Ak 0 ps (2^N))(al:∀z∈ps,Al z):NoH B ps\/∃(ds rs:List Pc)(b:Int)(M:Nat),Gh B ps ds rs b M:=by
 rcases dJ (b:=2^B) ps with h | ⟨z,h⟩
 . exact .inl h
 . obtain⟨M,q0,eM,ea0⟩:=al z h.1;obtain⟨n0,hn0⟩:=ai h.1;obtain⟨ds,rs,eps,_,_,_⟩:=CD hc hn0;obtain⟨b,lo,v1⟩:=z;have ev:v1=false:=h.2.1;have eM:lo=2^M:=eM;subst ev eM;exact .inr ⟨ds,rs,b,M,eps,h⟩
theorem TN(c:Int)(h:1<=c):∃k,CF k (c+2):=by
 have:=bP (c:=(c+1).toNat) (by omega);rw[show (((c+1).toNat:Nat):Int)+1=c+2 by omega] at this;exact⟨_,this⟩
theorem Gs.len{s:Int}{fs1:List Sf}(g:Gs s k fs j i b fs1):fs1.length=fs.length:=by
 obtain⟨_,_,_,_,e | ⟨_,_,_,_,_,_,e⟩⟩:=g
 . rw[e]
 . rw[e,ax]
inductive St7
 | half (N:Nat) (ps:List Pc)
 | shel (s:Int) (fs:List Sf)
 | row (n:Int) (ls:List Int)
 | st (i:W7) (r n:Int) (ps:List Pc)
def ok4:W7->Prop
 | .half=>False
 | .shel=>False
 | .row=>False
 | _=>True
def ok3:W7->Prop
 | .half=>True
 | .shel=>True
 | .row=>True
 | _=>False
def St7.let3:St7->W7
 | .half _ _=>.half
 | .shel _ _=>.shel
 | .row _ _=>.row
 | .st i _ _ _=>i
def St7.ps:St7->List Pc
 | .half _ ps=>ps
 | .shel s fs=>alP s 0 fs
 | .row n ls=>rwP ls n
 | .st _ _ _ ps=>ps
def St7.s:St7->Int
 | .half N _=>2^N
 | .shel s _=>s
 | .row n _=>n
 | .st _ r _ _=>r
def St7.n:St7->Int
 | .half N _=>2^N
 | .shel s fs=>s*(fs.length:Int)
 | .row n _=>n
 | .st _ _ n _=>n
def St7.ok:St7->Prop
 | .half N ps=>N<=8/\Ak 0 ps (2^N)/\(∀z∈ps,Al z)/\NbF ps
 | .shel s fs=>1<=s/\1<=fs.length/\∀f∈fs,xh s f
 | .row n ls=>1<=n/\(∀l∈ls,3<=l)/\wP ls<=n
 | .st i _ n ps=>ok4 i/\Ak 0 ps n/\AK ps
theorem St7.ch{q:St7}(h:q.ok):Ak 0 q.ps q.n:=by
 cases q with
 | half N ps=>exact h.2.1
 | shel s fs=>
   have:=GA h.1 fs 0 (λf hf=>(h.2.2 f hf).1);rw[dm] at this;exact this
 | row n ls=>exact dH h.2.1 h.2.2
 | st i r n ps=>exact h.2.1
def No7(c b:Int):St7->Prop
 | .half _ ps=>∀B,CF B (c+2)->NoH B ps
 | .shel s fs=>L_ s (c+2) fs
 | .row n ls=>n<wP ls+(c+2)
 | .st _ _ _ ps=>∀z∈ps,z.v=false->fp z.a z.l (c+2) b=none
inductive yC(c:Int):St7->Int->St7->Prop
 | half {N B M:Nat} {ps ds rs:List Pc} {b:Int}:CF B (c+2)->Gh B ps ds rs b M->yC c (.half N ps) (b+1) (.half N (ds++(hcP b B M++rs)))
 | shel {s:Int} {fs fs1:List Sf} {j i:Nat} {b:List Bool}:Gs s (c+2) fs j i b fs1->fs1.length=fs.length->yC c (.shel s fs) (s*(j:Int)+(c+2)*(i:Int)+1) (.shel s (fs1.set j ⟨c+2,b.set i true⟩))
 | row {n:Int} {ls:List Int}:wP ls+(c+2)<=n->yC c (.row n ls) (wP ls+1) (.row n (ls++[c+2]))
theorem dL{y:Pc}(hv:y.v=true):∀{ps acc:List Pc},y∈ps.foldl BA acc->y∈acc\/y∈ps
 | [],_,h=>.inl h
 | z::r,acc,h=>by
   rcases dL hv (ps:=r) (acc:=BA acc z) h with g | g
   . unfold BA at g
     split at g
     . split at g
       . rcases θ.mp g with e | e
         . exact .inl (List.dropLast_subset _ e)
         . rw[υ.mp e] at hv
           cases hv
       . rcases θ.mp g with e | e
         . exact .inl e
         . rw[υ.mp e]
           exact .inr ω
     . rcases θ.mp g with e | e
       . exact .inl e
       . rw[υ.mp e]
         exact .inr ω
   . exact .inr (ρ _ g)
theorem oN{ps:List Pc}{y:Pc}(h:y∈BP ps)(hv:y.v=true):y∈ps:=by
 rcases dL hv (ps:=ps) (acc:=[]) h with g | g
 . cases g
 . exact g
theorem oO{ps:List Pc}{y:Pc}{L e:Int}(h:y∈w_ ps k L e)(hv:y.v=true):y=⟨k,L,true⟩\/(y∈ps/\(y.a<k\/e<=y.a)):=by
 unfold w_ at h;obtain⟨l,hl,hp⟩:=lw.mp h;obtain⟨p,hq,rfl⟩:=aw.mp hl;unfold rg1 at hp;rcases θ.mp hp with g | g
 . rcases θ.mp g with g | g
   . split at g
     . rename_i c;rw[υ.mp g];exact .inr ⟨hq,c⟩
     . cases g
   . split at g
     . exact .inl (υ.mp g)
     . cases g
 . split at g
   . rw[υ.mp g] at hv;cases hv
   . cases g
theorem TQ{α:Type}[DecidableEq α]:∀(l m:List α),l.Nodup->(∀x∈l,x∈m)->l.length<=m.length
 | [],_,_,_=>dz _
 | x::r,m,hn,h=>by
   obtain⟨h1,h2⟩:=ce.mp hn
   have hx:=h x ω
   have ih:=TQ r (m.erase x) h2 λy hy=>(List.mem_erase_of_ne (λe=>h1 (by rw[<-e];exact hy))).mpr (h y (ρ _ hy))
   rw[List.length_erase_of_mem hx] at ih
   have:0<m.length:=jj hx
   rw[am]
   omega
theorem dM:∀{ps:List Pc}{s e:Int},Ak s ps e->(ps.map λz=>z.a).Nodup
 | [],_,_,_=>ir
 | p::r,s,e,c=>by
   obtain⟨h0,h1,_,h3⟩:=c
   rw[av]
   refine ce.mpr ⟨λh=>?_,dM h3⟩
   obtain⟨y,hy,ey⟩:=aw.mp h
   have:=h3.mem y hy
   have ey:y.a=p.a:=ey
   omega
theorem dN{α β:Type}{f:α->β}{g:α->Bool}:∀{l:List α},(l.map f).Nodup->((l.filter g).map f).Nodup
 | [],_=>ir
 | x::r,h=>by
   rw[av] at h
   obtain⟨h1,h2⟩:=ce.mp h
   have ih:=dN (g:=g) h2
   rw[bx]
   split
   . rw[av]
     refine ce.mpr ⟨λh=>h1 ?_,ih⟩
     obtain⟨y,hy,ey⟩:=aw.mp h
     exact aw.mpr ⟨y,(cf.mp hy).1,ey⟩
   . exact ih
theorem dO{α β:Type}{f:α->β}(hf:∀x y,f x=f y->x=y):∀{l:List α},l.Nodup->(l.map f).Nodup
 | [],_=>ir
 | x::r,h=>by
   obtain⟨h1,h2⟩:=ce.mp h
   rw[av]
   refine ce.mpr ⟨λg=>h1 ?_,dO hf h2⟩
   obtain⟨y,hy,ey⟩:=aw.mp g
   rw[hf x y ey.symm]
   exact hy
theorem oP{ps:List Pc}{n:Int}{kvs:List (Key×V)}(c:Ak 0 ps n)(nd:(kvs.map (·.1)).Nodup)(h1:∀kv∈kvs,∃z∈ps,z.v=true/\kv.1 = .inl (z.a+1))(h2:∀z∈ps,z.v=true->∃kv∈kvs,kv.1 = .inl (z.a+1)):(ps.filter λz=>z.v).length=kvs.length:=by
 have n1:(((ps.filter λz=>z.v).map λz=>z.a).map λa:Int=>(Sum.inl (a+1):Key)).Nodup:=dO (λx y e=>by have:=ja e;omega) (dN (dM c));have le1:=TQ _ (kvs.map (·.1)) n1 λk hk=>by
   obtain⟨a,ha,rfl⟩:=aw.mp hk;obtain⟨z,hz,rfl⟩:=aw.mp ha;obtain⟨hz1,hz2⟩:=cf.mp hz;obtain⟨kv,hkv,e⟩:=h2 z hz1 hz2;exact aw.mpr ⟨kv,hkv,e⟩
 have le2:=TQ _ (((ps.filter λz=>z.v).map λz=>z.a).map λa:Int=>(Sum.inl (a+1):Key)) nd λk hk=>by
   obtain⟨kv,hkv,rfl⟩:=aw.mp hk;obtain⟨z,hz,hv,e⟩:=h1 kv hkv;exact aw.mpr ⟨z.a,aw.mpr ⟨z,cf.mpr ⟨hz,hv⟩,rfl⟩,e.symm⟩
 rw[Ξ,Ξ,Ξ] at le1;rw[Ξ,Ξ,Ξ] at le2;omega
theorem oQ{a b:Int}(hb:1<=b):(0-a-1)%b=b-1-a%b:=by
 have e:=jm a b;have h0:=bi a (show b≠0 by omega);have h1:=bb a (show 0<b by omega);have e2:0-a-1=(b-1-a%b)+b*(-(a/b)-1):=by
   rw[qk,ua,mz];omega
 rw[e2,ip];exact li (by omega) (by omega)
def G_(ps ps':List Pc)(cs cs':List Int)(w:Pc)(gone:Pc->Prop):Prop:=w∈ps'/\w.v=true/\(∀y∈ps,y.v=true->¬gone y->y∈ps'/\y.a≠w.a/\∀j:Nat,Inn y j->cs'[j]?=cs[j]?)/\∀y∈ps',y.v=true->y=w\/(y∈ps/\¬gone y)
theorem TR{α:Type}(p:α->Prop)[DecidablePred p]:∀xs:List α,(∀x∈xs,¬p x)\/∃(j:Nat)(x:α),xs[j]?=some x/\p x/\∀(j':Nat)(x':α),j'<j->xs[j']?=some x'->¬p x'
 | []=>.inl λx h=>by cases h
 | x::r=>by
   by_cases e:p x
   . exact .inr ⟨0,x,rfl,e,λj' _ h=>absurd h (fg _)⟩
   . rcases TR p r with h | ⟨j,y,h1,h2,h3⟩
     . refine .inl λy hy=>?_
       rcases Φ.mp hy with g | g
       . rw[g];exact e
       . exact h y g
     . refine .inr ⟨j+1,y,h1,h2,λj' x' hj hx=>?_⟩
       cases j' with
       | zero=>
         have:x=x':=by simpa using hx
         rw[<-this];exact e
       | succ j'=>exact h3 j' x' (by omega) (by simpa using hx)
theorem gs_ex{s:Int}(k3:3<=k):L_ s k fs\/∃(j i:Nat)(b:List Bool)(fs1:List Sf),Gs s k fs j i b fs1:=by
 rcases TR (λf:Sf=>f.n=k/\false∈f.b) fs with hno | ⟨j,f,hj,⟨hn,hf⟩,hm⟩
 . by_cases ks:k<=s
   . rcases TR (λf:Sf=>f.n=0) fs with h0 | ⟨j,f,hj,h0,hm⟩
     . exact .inl ⟨hno,.inr h0⟩
     . obtain⟨_,_,d3⟩:=TD (show 1<=k by omega) ks;have hjl:j<fs.length:=(γ.mp hj).1;refine .inr ⟨j,0,ο (s/k).toNat false,fs.set j ⟨k,ο (s/k).toNat false⟩,aj hjl,?_,λi' h=>absurd h (fg _),λj' f' _ hf'=>hno f' (ε hf'),.inr ⟨hno,ks,rfl,rfl,⟨f,hj,h0⟩,hm,rfl⟩⟩;rw[gu,if_pos (by omega)]
   . exact .inl ⟨hno,.inl (by omega)⟩
 . obtain⟨i,h1,h2⟩:=oG hf;obtain⟨n,b⟩:=f;have hn:n=k:=hn;subst hn;exact .inr ⟨j,i,b,fs,hj,h1,h2,hm,.inl rfl⟩
theorem fr_v{b e:Int}(h:z∈fr b e):z.v=false:=by
 unfold fr at h
 split at h
 . cases h
 . rw[υ.mp h]
def lnF(c:Int):St7->Int->Prop
 | .half _ _,L=>∃B,CF B (c+2)/\L=2^B
 | _,L=>L=c+2
def St7.sh:St7->Int
 | .shel s _=>s
 | _=>0
structure xB(q:St7)(c b p:Int)(q':St7)(cs cs':List Int):Prop where
 n:q'.n=q.n
 lt:q'.let3=q.let3
 sh:q'.sh=q.sh
 bd:p%b=0
 lf:∃L,lnF c q L/\G_ q.ps q'.ps cs cs' ⟨p-1,L,true⟩ λ_=>False
structure Gvn(q:St7)(z:Pc)(q':St7)(cs cs':List Int):Prop where
 n:q'.n=q.n
 lt:q'.let3=q.let3
 sh:q'.sh=q.sh
 nr:q.let3≠.row
 kp:∀y∈q.ps,y.v=true->y≠z->y∈q'.ps/\∀j:Nat,Inn y j->cs'[j]?=cs[j]?
 bk:∀y∈q'.ps,y.v=true->y∈q.ps/\y≠z
theorem Gh.parts{B N M:Nat}{ps rs:List Pc}{b:Int}(G:Gh B ps ds rs b M)(hB:2<=B)(hc:Ak 0 ps (2^N))(al:∀z∈ps,Al z):(∀y∈ps,y.v=true->y∈ds++(hcP b B M++rs)/\(y.a+y.l<=b\/b+2^M<=y.a))/\∀y∈ds++(hcP b B M++rs),y.v=true->y=⟨b,2^B,true⟩\/y∈ps:=by
 obtain⟨_,_,_,c1,c3,_,_,_⟩:=G.lie hB hc al;constructor
 . intro y hy hv;rw[G.1] at hy;rcases θ.mp hy with g | g
   . exact⟨μ _ g,.inl (c1.mem y g).2.2.2⟩
   . rcases Φ.mp g with e | e
     . rw[e] at hv;cases hv
     . exact⟨ζ _ (ζ _ e),.inr (c3.mem y e).1⟩
 . intro y hy hv;rw[G.1];rcases θ.mp hy with g | g
   . exact .inr (μ _ g)
   . rcases θ.mp g with g | g
     . rcases Φ.mp g with w | w
       . exact .inl w
       . obtain⟨i,_,_,h3⟩:=Tp w;rw[h3] at hv;cases hv
     . exact .inr (ζ _ (ρ _ g))
theorem TU{q:St7}{c:Int}(b:Int)(h:q.ok)(h3:ok3 q.let3)(c1:1<=c):No7 c b q\/∃p q',yC c q p q':=by
 cases q with
 | half N ps=>
   obtain⟨B,hB⟩:=TN c c1;rcases gh_ex B h.2.1 h.2.2.1 with g | ⟨ds,rs,b,M,g⟩
   . exact .inl λB' hB'=>by rw[hB'.uniq hB];exact g
   . exact .inr ⟨_,_,.half hB g⟩
 | shel s fs=>
   rcases gs_ex (s:=s) (fs:=fs) (show 3<=c+2 by omega) with g | ⟨j,i,b,fs1,g⟩
   . exact .inl g
   . exact .inr ⟨_,_,.shel g g.len⟩
 | row n ls=>
   by_cases g:wP ls+(c+2)<=n
   . exact .inr ⟨_,_,.row g⟩
   . exact .inl (by show n<wP ls+(c+2);omega)
 | st i r n ps=>cases i <;> first | exact h3.elim | exact h.1.elim
theorem QB(p:Int):p%1=0:=by omega
section
variable {cs cs':List Int}
theorem oR{N B M:Nat}{ps rs:List Pc}{b c:Int}(hB:CF B (c+2))(B2:2<=B)(G:Gh B ps ds rs b M)(hc:Ak 0 ps (2^N))(al:∀z∈ps,Al z)(ho:∀j:Nat,(j:Int)<b\/b+2^M<=j->cs'[j]?=cs[j]?):xB (.half N ps) c 1 (b+1) (.half N (ds++(hcP b B M++rs))) cs cs':=by
 obtain⟨p1,p2⟩:=G.parts B2 hc al;have pm:=pw1 M;refine⟨rfl,rfl,rfl,QB _,2^B,⟨B,hB,rfl⟩,?_⟩;rw[ca];refine⟨ζ _ (μ _ ω),rfl,λy hy hv _=>?_,λy hy hv=>(p2 y hy hv).imp id λh=>⟨h,id⟩⟩;obtain⟨k1,k2⟩:=p1 y hy hv;obtain⟨_,y1,_,_⟩:=hc.mem y hy;exact⟨k1,show y.a≠b by omega,λj hj=>ho j (by have:=hj.1;have:=hj.2;omega)⟩
theorem oS{s c:Int}{fs1:List Sf}(g:Gs s (c+2) fs j i b fs1)(h1:1<=s)(o:∀f∈fs,xh s f)(c1:1<=c)(ho:∀y∈alP s 0 fs,y.v=true->∀m:Nat,Inn y m->cs'[m]?=cs[m]?):xB (.shel s fs) c 1 (s*(j:Int)+(c+2)*(i:Int)+1) (.shel s (fs1.set j ⟨c+2,b.set i true⟩)) cs cs':=by
 obtain⟨g1,g2,g3,g4⟩:=g.parts h1 (show 3<=c+2 by omega) o;have ch1:=GA h1 fs1 0 (g.W (show 3<=c+2 by omega) o);refine⟨by show s*((fs1.set j _).length:Int)=_;rw[ax,g.len];rfl,rfl,rfl,QB _,c+2,rfl,?_⟩;rw[ca];refine⟨g2,rfl,λy hy hv _=>⟨(g1 y hy hv).2,λe=>?_,ho y hy hv⟩,λy hy hv=>(g4 y hy hv).imp id λh=>⟨h,id⟩⟩;have:=Cj ch1 (g1 y hy hv).1 g3 e;rw[this] at hv;cases hv
theorem QC{ls:List Int}{n:Int}(hz:z∈rwP ls n)(hv:z.v=true):z∈xp 0 ls:=by
 rcases θ.mp hz with w | w
 . exact w
 . rw[fr_v w] at hv;cases hv
theorem oU{n c:Int}{ls:List Int}(h3:∀l∈ls,3<=l)(ho:∀y∈rwP ls n,y.v=true->∀m:Nat,Inn y m->cs'[m]?=cs[m]?):xB (.row n ls) c 1 (wP ls+1) (.row n (ls++[c+2])) cs cs':=by
 refine⟨rfl,rfl,rfl,QB _,c+2,rfl,?_⟩;rw[ca];have e0:0+wP ls=wP ls:=dm _;refine⟨μ _ (by rw[KI,e0];exact ζ _ (υ.mpr rfl)),rfl,λy hy hv _=>⟨μ _ (by rw[KI];exact μ _ (QC hy hv)),?_,ho y hy hv⟩,λy hy hv=>?_⟩
 . have:=(L7 ls 0 h3).mem y (QC hy hv);show y.a≠wP ls;omega
 . have h:=QC hy hv;rw[KI,e0] at h;rcases θ.mp h with w | w
   . exact .inr ⟨μ _ w,id⟩
   . exact .inl (υ.mp w)
theorem yz{k:W7}{r r' n s c b:Int}{rs:List Pc}(hc:Ak 0 (ds++z::rs) n)(hv:z.v=false)(c1:1<=c)(g1:z.a<=s)(g2:s+(c+2)<=z.a+z.l)(hb:(s+1)%b=0)(ho:∀y∈ds++z::rs,y.v=true->∀m:Nat,Inn y m->cs'[m]?=cs[m]?):xB (.st k r n (ds++z::rs)) c b (s+1) (.st k r' n (xE ds rs z.a z.l s (c+2))) cs cs':=by
 refine⟨rfl,rfl,rfl,hb,c+2,rfl,?_⟩;rw[ca];refine⟨ζ _ (ζ _ ω),rfl,λy hy yv _=>⟨?_,λe=>?_,ho y hy yv⟩,λy hy yv=>?_⟩
 . rcases θ.mp hy with w | w
   . exact μ _ w
   . rcases Φ.mp w with w | w
     . rw[w,hv] at yv;cases yv
     . exact ζ _ (ζ _ (ρ _ (ζ _ w)))
 . have hy:y∈ds++z::rs:=hy;have e:y.a=s:=e;obtain⟨_,y1,_,_⟩:=hc.mem y hy;have:=KC hc hy (ζ _ ω) (p:=s) (by omega) (by omega) g1 (by omega);rw[this,hv] at yv;cases yv
 . rcases θ.mp hy with w | w
   . exact .inr ⟨μ _ w,id⟩
   . rcases θ.mp w with w | w
     . rw[fr_v w] at yv;cases yv
     . rcases Φ.mp w with w | w
       . exact .inl w
       . rcases θ.mp w with w | w
         . rw[fr_v w] at yv;cases yv
         . exact .inr ⟨ζ _ (ρ _ w),id⟩
theorem oV{acc:List Pc}{p:Pc}(hp:p∈acc)(hv:p.v=true):p∈BA acc z:=by
 rcases Ea acc with e | ⟨D,w,e⟩
 . rw[e] at hp;cases hp
 . subst e;cases hw:w.v with
   | true=>rw[Hb hw];exact μ _ hp
   | false=>
     cases hz:z.v with
     | true=>rw[Ha hz];exact μ _ hp
     | false=>
       rw[Hc hw hz];rcases θ.mp hp with g | g
       . exact μ _ g
       . rw[υ.mp g] at hv;rw[hv] at hw;cases hw
theorem dP:∀(ps acc:List Pc){p:Pc},p.v=true->p∈acc\/p∈ps->p∈ps.foldl BA acc
 | [],acc,p,hv,h=>by
   rcases h with h | h
   . exact h
   . cases h
 | z::r,acc,p,hv,h=>by
   refine dP r (BA acc z) hv ?_
   rcases h with h | h
   . exact .inl (oV h hv)
   . rcases Φ.mp h with g | g
     . subst g
       rw[Ha hv]
       exact .inl (ζ _ (υ.mpr rfl))
     . exact .inr g
theorem oW{ps:List Pc}{p:Pc}(h:p∈ps)(hv:p.v=true):p∈BP ps:=dP ps [] hv (.inr h)
theorem zR{k:W7}{r n:Int}{ps:List Pc}(h4:ok4 k)(hc:Ak 0 ps n)(hz:z∈ps)(ho:∀y∈ps,y.v=true->y≠z->∀m:Nat,Inn y m->cs'[m]?=cs[m]?):Gvn (.st k r n ps) z (.st k r n (BP (yc ps z.a))) cs cs':=by
 refine⟨rfl,rfl,rfl,by rintro(rfl:k = .row);exact h4,λy hy yv hne=>⟨oW (aw.mpr ⟨y,hy,?_⟩) yv,ho y hy yv hne⟩,λy hy yv=>?_⟩
 . rw[decide_eq_false (λe=>hne (Cj hc hy hz e)),qx,rh]
 . obtain⟨w,hw,ew⟩:=aw.mp (oN hy yv);rw[<-ew] at yv;have yv:(w.v&&!decide (w.a=z.a))=true:=yv;rw[df,lh,decide_eq_false_iff_not] at yv;rw[decide_eq_false yv.2,qx,rh] at ew;rw[<-ew];exact⟨hw,λe=>yv.2 (by rw[<-e])⟩
theorem oX{m q m' q':Nat}{ps rs ds' rs':List Pc}(e:ps=ds++⟨2^m*(q:Int),2^m,true⟩::rs)(G:MgTo ps ds rs m q ds' rs' m' q'):(∀y∈ps,y.v=true->y≠⟨2^m*(q:Int),2^m,true⟩->y∈ds'++(⟨2^m'*(q':Int),2^m',false⟩::rs':List Pc)/\(y∈ds'\/y∈rs'))/\∀y∈ds'++(⟨2^m'*(q':Int),2^m',false⟩::rs':List Pc),y.v=true->(y∈ds\/y∈rs):=by
 obtain⟨_,_,_,f4⟩:=G.facts;constructor
 . intro y hy hv hne;have h1:y∈ds\/y∈rs:=by
     rw[e] at hy;rcases θ.mp hy with g | g
     . exact .inl g
     . rcases Φ.mp g with w | w
       . exact absurd w hne
       . exact .inr w
   have h2:=G.live y hv h1;refine⟨?_,h2⟩;rcases h2 with g | g
   . exact μ _ g
   . exact ζ _ (ρ _ g)
 . intro y hy hv;rcases θ.mp hy with g | g
   . exact f4 y (.inl g)
   . rcases Φ.mp g with w | w
     . rw[w] at hv;cases hv
     . exact f4 y (.inr w)
theorem oY{N m q m' q':Nat}{ps rs ds' rs':List Pc}(hc:Ak 0 ps (2^N))(eps:ps=ds++⟨2^m*(q:Int),2^m,true⟩::rs)(L:Lie N ps ds rs m q)(L':Lie N ps ds' rs' m' q')(G:MgTo ps ds rs m q ds' rs' m' q')(ho:∀j:Nat,(j:Int)<2^m'*(q':Int)\/2^m'*(q':Int)+2^m'<=j->cs'[j]?=cs[j]?):Gvn (.half N ps) ⟨2^m*(q:Int),2^m,true⟩ (.half N (ds'++⟨2^m'*(q':Int),2^m',false⟩::rs')) cs cs':=by
 obtain⟨p1,p2⟩:=oX eps G;refine⟨rfl,rfl,rfl,(λe=>by cases e),λy hy yv hne=>⟨(p1 y hy yv hne).1,λj hj=>ho j ?_⟩,λy hy yv=>?_⟩
 . have:=L'.outer (p1 y hy yv hne).2;have:=hj.1;have:=hj.2;omega
 . have h:=p2 y hy yv;refine⟨?_,λe=>?_⟩
   . show y∈ps;rw[eps];exact h.elim (μ _) λh=>ζ _ (ρ _ h)
   . have h2:=L.outer h;have p:=pw1 m;rw[e] at h2;have h2:2^m*(q:Int)+2^m<=2^m*(q:Int)\/2^m*(q:Int)+2^m<=2^m*(q:Int):=h2;omega
theorem oZ{s n:Int}(h1:1<=s)(o:∀f∈fs,xh s f)(h:fs[j]?=some ⟨n,b⟩)(hi:b[i]?=some true)(ho:∀y∈alP s 0 fs,y.v=true->y≠⟨s*(j:Int)+n*(i:Int),n,true⟩->∀m:Nat,Inn y m->cs'[m]?=cs[m]?):Gvn (.shel s fs) ⟨s*(j:Int)+n*(i:Int),n,true⟩ (.shel s (giv fs j i n b)) cs cs':=by
 obtain⟨g1,g2,_⟩:=dF h1 o h hi;exact⟨by show s*((giv fs j i n b).length:Int)=_;rw[cY];rfl,rfl,rfl,(λe=>by cases e),λy hy yv hne=>⟨g1 y hy yv hne,ho y hy yv hne⟩,λy hy yv=>g2 y hy yv⟩
end
theorem TV{ps:List Pc}{n:Int}{y:Pc}{m:Nat}(c:Ak 0 ps n)(hy:y∈ps)(hz:z∈ps)(hne:y≠z)(hm:Inn y m):(m:Int)<z.a\/z.a+z.l<=m:=apart c hz hy (λe=>hne e.symm) (by have:=hm.1;omega) (by have:=hm.2;omega)
structure M_(P:uK)(w:uL)(K:δ)(mg:Str->Option uG)(base:vq)(x:Str)(k:Nat)(ps:List Str)(dvs:List V)(sp:Sp):Prop where
 all:wO P w K mg base x k ps sp
 less:∃(f:uH)(fd:uJ)(ds:List uG),FnOk P w K mg base (CXe P w) k f fd ps sp/\mg x=some (.ref f)/\keepIn K (.ref f)=true/\Bx K fd ps ds/\Vals dvs ds
structure SrcD(K:δ)(mg:Str->Option uG)(x:Str)(st:uO)(T:uH):Prop where
 ex:∃(f:uH)(fd:uJ),FunD K x x st (.ref T) f fd/\mg x=some (.ref f)/\keepIn K (.ref f)=true
theorem pA{K:δ}{h:vq}{mg:Str->Option uG}{x:Str}{st:uO}{f T:uH}{oc kV doc pm cdv ct:uG}{od an:Option uH}{osl:Array (Option uG)}(X:K.In h)(G:h.Ns ve mg)
   (a:nsIn K ve x=some (some (.ref f))) (l:K.lookup f=some ⟨oc,od,.func (fnOf x x (A1 st) (AZ st) (An st) (.ref T) kV doc pm an cdv ct),osl⟩)
   (c:codeIn K cdv x=true) (k:keepIn K (.ref f)=true):SrcD K mg x st T:=⟨f,_,Gx l c k,mg_of X G a,k⟩
section
variable {P:uK}{w:uL}{K:δ}{mg:Str->Option uG}{base:vq}
theorem SrcD.okx{x:Str}{st:uO}{N ps:List Str}{k:Nat}{sp:Sp}{T:uH}{dvs:List V}{ds:List uG}{tc:uG}{td:Option uH}{tn:Nat}{tsl:Array (Option uG)}(S:SrcD K mg x st T)(lt:K.lookup T=some ⟨tc,td,.seq ds.toArray tn,tsl⟩)(sc:wN N ps (An st))
   (hA:∀(kV doc pm:uG)(an:Option uH)(cdv ct:uG)(us:List uG),us.length=ps.length->∃k:Option (Array uG)->vo (List (Str×uG)),
     uS (fnOf x x (A1 st) (AZ st) (An st) (.ref T) kV doc pm an cdv ct) ⟨us,[]⟩=vc (.ref T) >>= k/\k (some ds.toArray)=pure (ps.zip us))
   (hD:∀(kV doc pm:uG)(an:Option uH)(cdv ct:uG)(us:List uG),(us++ds).length=ps.length->∃k:Option (Array uG)->vo (List (Str×uG)),
     uS (fnOf x x (A1 st) (AZ st) (An st) (.ref T) kV doc pm an cdv ct) ⟨us,[]⟩=vc (.ref T) >>= k/\k (some ds.toArray)=pure (ps.zip (us++ds)))
   (v:Vals dvs ds) (len:∀vs H Q E,sp vs H Q E->vs.length=ps.length)
   (hbody:∀(f:uH)(cdv:uG)(A:uM)(outer:List vt)(s:uI)(H:Hp)(vs:List V)(Q:VK)(E:XK),Room k (A.deeper (envOfC x (An st) s.heap.objs.size f cdv))->sp vs H Q E ->
     ∃t,PSs (cxOf (CXe P w) P w K mg base N x (An st) f cdv A outer s H E) (AZ st) t/\t { nx:=λ_ H'=>Q .non H',rt:=Q } (start N vs) H):M_ P w K mg base x (k+1) ps dvs sp:=by
 obtain⟨f,fd,F,hm,kp⟩:=S.ex;have ok:=Gy F sc len (hbody f);exact⟨⟨f,fd,ok,hm,kp,F.bindsA lt hA⟩,⟨f,fd,ds,ok,hm,kp,F.bindsD lt hD,v⟩⟩
end
section
variable {X:Cx}{x:Str}{j k:Nat}{ps:List Str}{sp:Sp}{dvs:List V}{p pos:Pos}{e:uN}{es:List uN}{t:TA}
end
end Stow
def Stow.wA(l:List Lean.Name):Array (Lean.TSyntax ``Lean.Parser.Tactic.tacticSeq):=Lean.Unhygienic.run (l.toArray.mapM λn=>`(tacticSeq| with_reducible refine $(Lean.mkIdent n) ?_))
local macro_rules | `(tactic| walk_at "D")=>`(tactic| try dsimp only[L2.cxOf,L2.Cx.nox])
local macro_rules
 | `(tactic| walk_at "S")=>`(tactic| first
   | exact Stow.set0_c
   | exact Stow.set0_1
   | exact Stow.set0_0
   | ((refine Stow.setS_c (r:=?r) ?h);(case h=>walk_at "S"))
   | ((refine Stow.setS_1 (r:=?r) ?h);(case h=>walk_at "S"))
   | ((refine Stow.setS_0 (r:=?r) ?h);(case h=>walk_at "S")))
local macro_rules
 | `(tactic| walk_at "k")=>`(tactic| first
   | with_reducible assumption
   | exact L2.upd_same
   | ((with_reducible refine Stow.look_ne ?a ?b);(case a=>(first | assumption | exact Ne.symm (by assumption)));(case b=>walk_at "k"))
   | ((with_reducible refine Stow.look_put ?a ?b);(case a=>(first | assumption | walk_at "k"));(case b=>walk_at "k"))
   | ((with_reducible refine Stow.look_tup (ys:=?ys) ?a ?b);(case a=>walk_at "k");(case b=>walk_at "k"))
   | assumption)
local macro_rules
 | `(tactic| walk_at "q")=>`(tactic| first
   | with_reducible assumption
   | exact L2.SqL.of (by walk_at "k")
   | ((with_reducible refine Stow.seq_put ?a ?b);(case a=>assumption);(case b=>walk_at "q"))
   | assumption)
local macro_rules
 | `(tactic| walk_at "n")=>`(tactic| first | assumption | omega | (simp only [List.length_map,List.length_set,List.length_append,List.length_cons,List.length_nil] <;> omega))
local macro_rules
 | `(tactic| walk_at "z")=>`(tactic| first | exact Stow.small4000 (by first | omega | (simp only [List.length_map,List.length_set,List.length_append,List.length_cons,List.length_nil] <;> omega)))
local macro_rules
 | `(tactic| walk_at "d")=>`(tactic| first
   | (show (0:Int)<_;first | decide | omega)
   | (show (0:Int)<=_;first | decide | omega)
   | exact Or.inr ⟨by decide,by decide⟩
   | exact Or.inl ⟨by decide,by decide⟩
   | exact⟨by decide,by decide⟩
   | exact⟨by decide,by decide,by decide⟩
   | exact⟨by decide,by decide,by assumption⟩
   | exact⟨by decide,by decide,by omega⟩
   | exact⟨by omega,by omega,by decide⟩
   | exact Or.inr ⟨by omega,by omega⟩
   | exact Or.inl ⟨by omega,by omega⟩
   | exact⟨by omega,by omega⟩)
local macro_rules
 | `(tactic| walk_at "ty")=>`(tactic| first | exact L2.TyOf.int _ | exact L2.TyOf.bl _ | exact L2.TyOf.non | ((refine L2.TyOf.lst (xs:=?xs) ?h);(case h=>walk_at "k")) | ((refine L2.TyOf.tup (xs:=?xs) ?h);(case h=>walk_at "k")) | exact L2.TyOf.str _)
local macro_rules
 | `(tactic| walk_at "K")=>`(tactic| first | exact Stow.kit_ii | exact Stow.kit_ib | exact Stow.kit_bb | exact Stow.kit_ll | exact Stow.kit_tt)
local macro_rules
 | `(tactic| walk_at "sp")=>`(tactic| fail "no promise")
def Stow.wq0:=Stow.wA [`Stow.r_seq,`Stow.r_chain,`Stow.r_asg]
def Stow.wq1:=Stow.wA [`Stow.r_gname,`Stow.r_op,`Stow.r_cons,`Stow.r_nil,`Stow.r_c,`Stow.r_rI0,`Stow.r_call,`Stow.r_cb,`Stow.r_test,`Stow.r_tB,`Stow.r_bl,`Stow.r_ifS,`Stow.r_ret,`Stow.r_rt,`Stow.r_drop,`Stow.r_next,`Stow.r_not,`Stow.r_and,`Stow.r_or,`Stow.r_andV,`Stow.r_orV,`Stow.r_notV,`Stow.r_ifE,`Stow.r_ifN,`Stow.r_eqI,`Stow.r_neI,`Stow.r_isN,`Stow.r_int,`Stow.r_eqB,`Stow.r_neB,`Stow.r_tup,`Stow.r_lst,`Stow.r_bm,`Stow.r_bm0,`Stow.r_sl,`Stow.r_part,`Stow.r_nopart,`Stow.r_un,`Stow.r_rU,`Stow.r_intB,`Stow.r_intI,`Stow.r_truB,`Stow.r_gsub,`Stow.r_retN,`Stow.r_ct,`Stow.r_bk,`Stow.r_break,`Stow.r_cont,`L2.iteT,`L2.iteF]
def Stow.wq2:=Stow.wA [`Stow.r_raise,`Stow.r_raiseI,`Stow.r_tryAs,`Stow.r_try,`Stow.r_fldX,`Stow.r_for,`Stow.r_iL,`Stow.r_iR1,`Stow.r_iR2,`Stow.r_comp]
def Stow.wq3:=Stow.wA [`Stow.r_makeX,`Stow.r_makeI,`Stow.r_fldN]
def Stow.wq4:=Stow.wA [`Stow.r_tryE,`Stow.r_tryA,`Stow.r_xCall,`Stow.r_tryS,`Stow.r_xSet,`Stow.r_xIf,`Stow.r_xMeth,`Stow.r_xMethD,`Stow.r_xMake,`Stow.r_methD,`Stow.r_isB]
local macro_rules
 | `(tactic| walk_at "t")=>`(tactic| first
   | ((with_reducible refine Stow.r_var (v:=?v) ?e ?_);(case e=>exact rfl))
   $[| $(Stow.wq0):tacticSeq]*
   | ((with_reducible refine Stow.r_gnameN (σ':=?s) ?e ?_);(case e=>with_reducible (walk_at "S")))
   $[| $(Stow.wq1):tacticSeq]*
   | ((with_reducible refine Stow.r_rI ?c ?_);(case c=>walk_at "d"))
   | ((with_reducible refine Stow.r_tyL (xs:=?xs) ?h ?_);(case h=>walk_at "k"))
   | ((with_reducible refine Stow.r_appendI (ns:=?ns) ?h ?z ?_);(case h=>walk_at "k");(case z=>walk_at "z"))
   | ((with_reducible refine Stow.r_append (xs:=?xs) ?h ?z ?_);(case h=>walk_at "k");(case z=>walk_at "z"))
   | ((with_reducible refine Stow.r_gtup (xs:=?xs) ?h ?l ?_);(case h=>walk_at "k");(case l=>exact rfl))
   | (with_reducible refine Stow.r_gcons ?_)
   | (with_reducible refine Stow.r_gnil ?_)
   | ((with_reducible refine Stow.r_ixI (ns:=?ns) ?h ?a ?b ?_);(case h=>walk_at "q");(case a=>walk_at "n");(case b=>walk_at "n"))
   | ((with_reducible refine Stow.r_ixT (xs:=?xs) (v:=?v) ?h ?e ?_);(case h=>walk_at "k");(case e=>exact rfl))
   | ((with_reducible refine Stow.r_setI (ns:=?ns) ?h ?a ?b ?_);(case h=>walk_at "k");(case a=>walk_at "n");(case b=>walk_at "n"))
   | ((with_reducible refine Stow.r_sllG (ns:=?ns) ?h ?_);(case h=>walk_at "q"))
   | ((with_reducible refine Stow.r_sll (xs:=?xs) ?h ?_);(case h=>walk_at "q"))
   | ((with_reducible refine Stow.r_lenI (ns:=?ns) ?h ?_);(case h=>walk_at "q");(try rw[List.length_map]))
   | ((with_reducible refine Stow.r_lenL (xs:=?xs) ?h ?_);(case h=>walk_at "k"))
   | ((with_reducible refine Stow.r_lenT (xs:=?xs) ?h ?_);(case h=>walk_at "k"))
   | ((with_reducible refine Stow.r_listI (xs:=?xs) ?h ?_);(case h=>walk_at "q"))
   | ((with_reducible refine Stow.r_isi (t:=?t) (b:=?b) ?y ?e ?_);(case y=>walk_at "ty");(case e=>walk_at "K"))
   | ((with_reducible refine Stow.r_new ?h ?_);(case h=>(first | exact Nat.zero_le _ | simp)))
   | ((with_reducible refine Stow.r_truL (xs:=?xs) ?h ?_);(case h=>walk_at "q"))
   | ((with_reducible refine Stow.r_ifdT ?c ?_);(case c=>(first | omega | exact rfl)))
   | ((with_reducible refine Stow.r_ifdF ?c ?_);(case c=>(first | omega | (intro h;cases h;done))))
   $[| $(Stow.wq2):tacticSeq]*
   | ((with_reducible refine Stow.r_isiX (C:=?C) (od:=?od) (b:=?b) ?h ?z ?e ?_);(case h=>walk_at "k");(case z=>assumption);(case e=>assumption))
   | ((with_reducible refine Stow.r_isiN (C:=?C) (od:=?od) (b:=?b) ?h ?z ?n ?e ?_);(case h=>walk_at "k");(case z=>assumption);(case n=>exact λz=>nomatch z);(case e=>assumption))
   $[| $(Stow.wq3):tacticSeq]*
   | ((with_reducible refine Stow.r_catG (xs:=?xs) (zs:=?zs) ?h ?g ?z ?_);(case h=>walk_at "k");(case g=>walk_at "k");(case z=>walk_at "n"))
   | ((with_reducible refine Stow.r_cat (xs:=?xs) (zs:=?zs) ?h ?g ?z ?_);(case h=>walk_at "k");(case g=>walk_at "k");(case z=>(refine Nat.le_of_lt (L2.small1000 ?_);first | omega | simp)))
   | ((with_reducible refine Stow.r_slS ?h ?_);(case h=>decide))
   | (with_reducible refine Stow.r_max ?_)
   | (with_reducible refine Stow.r_fld ?_)
   | ((with_reducible refine Stow.r_at (C:=?C) (dx:=?dx) (fs:=?fs) (v:=?v) ?h ?c ?n ?l ?_);(case h=>walk_at "k");(case c=>assumption);(case n=>assumption);(case l=>exact rfl))
   | (with_reducible refine Stow.r_sfld ?_)
   | ((with_reducible refine Stow.r_sat (C:=?C) (dx:=?dx) (fs:=?fs) ?h ?c ?n ?l ?_);(case h=>walk_at "k");(case c=>assumption);(case n=>assumption);(case l=>(first | decide | simp)))
   | (with_reducible refine Stow.r_meth ?_)
   | ((with_reducible refine Stow.r_mat (dx:=?dx) (fs:=?fs) ?h ?l ?_);(case h=>walk_at "k");(case l=>exact rfl))
   | (with_reducible refine Stow.r_make ?_)
   | (with_reducible refine Stow.r_compG ?_)
   | ((with_reducible refine Stow.r_isiO (C:=?C) (dx:=?dx) (fs:=?fs) (b:=?b) ?h ?z ?e ?_);(case h=>walk_at "k");(case z=>assumption);(case e=>assumption))
   $[| $(Stow.wq4):tacticSeq]*
   | ((with_reducible refine Stow.r_notIn (xs:=?xs) ?h ?f ?g ?_);(case h=>walk_at "k");(case f=>exact rfl);(case g=>exact rfl))
   | (with_reducible refine Stow.r_nx ?_)
   | walk_at "sp")
local macro_rules
 | `(tactic| walk_at "")=>`(tactic| repeat walk_at "t")
local macro_rules
 | `(tactic| walk_at "l")=>`(tactic| first | (rintro ⟨e,_⟩;exact congrArg List.length e) | (rintro ⟨_,h⟩;revert h;walk_at "l"))
local macro_rules
 | `(tactic| walk_at "s")=>`(tactic| repeat (first | (with_reducible refine Stow.r_nx ?_) | ((fail_if_success (with_reducible refine Stow.r_isIf ?_));walk_at "t")))
local macro_rules
 | `(tactic| walk_at "a")=>`(tactic| repeat ((fail_if_success (with_reducible refine Stow.r_isAnd ?_));(fail_if_success (with_reducible refine Stow.r_isOr ?_));walk_at "t"))
local macro_rules
 | `(tactic| walk_at "e")=>`(tactic| repeat (first | (with_reducible refine Stow.r_nx ?_) | ((fail_if_success (with_reducible refine Stow.r_isSeq ?_));walk_at "t")))
local macro_rules
 | `(tactic| walk_at "1")=>`(tactic| ((with_reducible refine Stow.r_seq ?_);walk_at "e"))
def Stow.wq5:=Stow.wA [`Stow.r_dget,`Stow.r_dput,`Stow.r_forD,`Stow.r_forI,`Stow.r_dnew,`Stow.r_xExp]
local macro_rules
 | `(tactic| walk_at "t")=>`(tactic| first
   $[| $(Stow.wq5):tacticSeq]*
   | ((with_reducible refine Stow.r_tyD (kvs:=?kvs) ?h ?_);(case h=>walk_at "k")))
def Stow.wq6:=Stow.wA [`Stow.r_eqSS,`Stow.r_neSS,`Stow.r_eqSt,`Stow.r_neSt,`Stow.r_methF,`Stow.r_methFD,`Stow.r_methS]
local macro_rules
 | `(tactic| walk_at "t")=>`(tactic| first
   | (with_reducible refine Stow.r_dIn ?_)
   | (with_reducible refine Stow.r_dPop ?_)
   | ((with_reducible refine Stow.r_truD (kvs:=?kvs) ?h ?_);(case h=>walk_at "k"))
   $[| $(Stow.wq6):tacticSeq]*
   | ((with_reducible refine Stow.r_matS (i:=?i) (dx:=?dx) (fs:=?fs) ?o ?h ?l ?_);(case h=>walk_at "k");(case o=>(first | assumption | exact True.intro));(case l=>(first | exact Stow.fsF_none (by decide) (by decide) (by decide) | exact rfl)))
   | (with_reducible refine Stow.r_xMethF ?_)
   | (with_reducible refine Stow.r_xMethFD ?_)
   | ((with_reducible refine Stow.r_matF (i:=?i) (dx:=?dx) (fs:=?fs) ?h ?l ?_);(case h=>walk_at "k");(case l=>(first | exact Stow.fsF_none (by decide) (by decide) (by decide) | exact rfl)))
   | ((with_reducible refine Stow.r_at (C:=?C) (dx:=?dx) (fs:=?fs) (v:=?v) ?h ?c ?n ?l ?_);(case h=>walk_at "k");(case c=>assumption);(case n=>assumption);(case l=>exact Stow.fsF_cells))
   | ((with_reducible refine Stow.r_sat (C:=?C) (dx:=?dx) (fs:=?fs) ?h ?c ?n ?l ?_);(case h=>walk_at "k");(case c=>assumption);(case n=>assumption);(case l=>exact Stow.fsF_few)))
def Stow.wq7:=Stow.wA [`Stow.i_long,`Stow.i_live,`Stow.i_whole]
local macro_rules
 | `(tactic| walk_at "sp")=>`(tactic| first
   $[| $(Stow.wq7):tacticSeq]*
   | ((with_reducible refine Stow.i_cell (ns:=?ns) ?h ?a ?_);(case h=>walk_at "q");(case a=>walk_at "nn"))
   | ((with_reducible refine Stow.i_can (ns:=?ns) ?h ?a ?b ?_);(case h=>walk_at "q");(case a=>walk_at "n");(case b=>walk_at "n"))
   | ((with_reducible refine Stow.i_bad (ns:=?ns) ?h ?a ?b ?_);(case h=>walk_at "q");(case a=>walk_at "n");(case b=>walk_at "n")))
local macro_rules
 | `(tactic| walk_at "nn")=>`(tactic| first | decide | omega | exact Int.emod_nonneg _ (by decide) | exact Int.emod_nonneg _ (by omega))
namespace Stow
open PySem L2 PyProof.Rows
variable{f₀:uH}{fd₀:uJ}{i:W7}{cs:List Int}{ps:List Pc}{z:Pc}{td₀:Option uH}{ts₀:Array (Option uG)}
theorem fS{N Q:List Str}{sc:uP}(a:sc.kind = .function:=by rfl)(b:sc.isCoroutine=false:=by rfl)(c:sc.isGenerator=false:=by rfl)(d:N.Nodup:=by decide +kernel)(e:N.take Q.length=Q:=by rfl)(f:∀x∈Q,sc.names.lookup x=some .local\/sc.names.lookup x=some .cell:=by decide +kernel)(g:∀y∈sc.names,y.2≠.free:=by decide +kernel):wN N Q sc:=⟨a,b,c,d,e,f,g⟩
abbrev TW:uO:=top 0
theorem QD:wN ["k"] ["k"] (An TW):=fS
abbrev BiS(x q:Str)(s:uO)(ps:List Str):Prop:=∀(kV doc pm:uG)(an:Option uH)(cdv ct:uG)(us:List uG),us.length=ps.length->uS (fnOf x q (A1 s) (AZ s) (An s) .none kV doc pm an cdv ct) ⟨us,[]⟩=pure (ps.zip us)
theorem vB{x q:Str}{s}{p0:Str}(h:∀kV doc pm an cdv ct u0,uS (fnOf x q (A1 s) (AZ s) (An s) .none kV doc pm an cdv ct) ⟨[u0],[]⟩=pure (([p0]:List Str).zip [u0]):=by intros;exact rfl):BiS x q s [p0]:=λ_ _ _ _ _ _ us hl=>by obtain⟨u0,rfl⟩:=d_ hl;exact h _ _ _ _ _ _ u0
theorem vC{x q:Str}{s}{p0 p1:Str}(h:∀kV doc pm an cdv ct u0 u1,uS (fnOf x q (A1 s) (AZ s) (An s) .none kV doc pm an cdv ct) ⟨[u0,u1],[]⟩=pure (([p0,p1]:List Str).zip [u0,u1]):=by intros;exact rfl):BiS x q s [p0,p1]:=λ_ _ _ _ _ _ us hl=>by obtain⟨u0,u1,rfl⟩:=f_ hl;exact h _ _ _ _ _ _ u0 u1
theorem vD{x q:Str}{s}{p0 p1 p2:Str}(h:∀kV doc pm an cdv ct u0 u1 u2,uS (fnOf x q (A1 s) (AZ s) (An s) .none kV doc pm an cdv ct) ⟨[u0,u1,u2],[]⟩=pure (([p0,p1,p2]:List Str).zip [u0,u1,u2]):=by intros;exact rfl):BiS x q s [p0,p1,p2]:=λ_ _ _ _ _ _ us hl=>by obtain⟨u0,u1,u2,rfl⟩:=a_ hl;exact h _ _ _ _ _ _ u0 u1 u2
theorem vE{x q:Str}{s}{p0 p1 p2 p3:Str}(h:∀kV doc pm an cdv ct u0 u1 u2 u3,uS (fnOf x q (A1 s) (AZ s) (An s) .none kV doc pm an cdv ct) ⟨[u0,u1,u2,u3],[]⟩=pure (([p0,p1,p2,p3]:List Str).zip [u0,u1,u2,u3]):=by intros;exact rfl):BiS x q s [p0,p1,p2,p3]:=λ_ _ _ _ _ _ us hl=>by obtain⟨u0,u1,u2,u3,rfl⟩:=zA4 hl;exact h _ _ _ _ _ _ u0 u1 u2 u3
theorem vF{x q:Str}{s}{p0 p1 p2 p3 p4 p5:Str}(h:∀kV doc pm an cdv ct u0 u1 u2 u3 u4 u5,uS (fnOf x q (A1 s) (AZ s) (An s) .none kV doc pm an cdv ct) ⟨[u0,u1,u2,u3,u4,u5],[]⟩=pure (([p0,p1,p2,p3,p4,p5]:List Str).zip [u0,u1,u2,u3,u4,u5]):=by intros;exact rfl):BiS x q s [p0,p1,p2,p3,p4,p5]:=λ_ _ _ _ _ _ us hl=>by obtain⟨u0,u1,u2,u3,u4,u5,rfl⟩:=zA6 hl;exact h _ _ _ _ _ _ u0 u1 u2 u3 u4 u5
theorem QE:BiS "_wall" "_wall" TW ["k"]:=vB
abbrev QF:uO:=top 14
theorem Hm:wN ["count","bound"] ["count","bound"] (An QF):=fS
theorem Hn:BiS "check_ask" "check_ask" QF ["count","bound"]:=vC
abbrev EK:uO:=top 15
theorem L9:wN ["count","bound"] ["count","bound"] (An EK):=fS
theorem Ma:BiS "check_plain_ask" "check_plain_ask" EK ["count","bound"]:=vC
abbrev QG:uO:=top 17
theorem Ho:wN ["long","live"] ["long","live"] (An QG):=fS
theorem Hq:BiS "mark_of" "mark_of" QG ["long","live"]:=vC
abbrev QH:uO:=top 18
theorem Hr:wN ["number"] ["number"] (An QH):=fS
theorem Hs:BiS "long_of" "long_of" QH ["number"]:=vB
abbrev QI:uO:=top 19
theorem Ht:wN ["number"] ["number"] (An QI):=fS
theorem Hu:BiS "live_of" "live_of" QI ["number"]:=vB
abbrev QJ:uO:=top 22
theorem dQ:wN ["cells","at","long"] ["cells","at"] (An QJ):=fS
theorem Hv:BiS "can_begin" "can_begin" QJ ["cells","at"]:=vC
abbrev QK:uO:=top 23
theorem dR:wN ["cells","at","last"] ["cells","at"] (An QK):=fS
theorem Hw:BiS "bad_of_piece" "bad_of_piece" QK ["cells","at"]:=vC
abbrev QL:uO:=top 24
theorem KJ:wN ["cells","pieces","at","bad","long"] ["cells"] (An QL):=fS
theorem Hx:BiS "looked" "looked" QL ["cells"]:=vB
abbrev QM:uO:=top 25
theorem dS:wN ["count","cells"] ["count"] (An QM):=fS
theorem Hy:BiS "fresh_room" "fresh_room" QM ["count"]:=vB
abbrev QN:uO:=top 27
theorem dU:wN ["cells","at","long","live","row"] ["cells","at","long","live"] (An QN):=fS
theorem pC:BiS "laid" "laid" QN ["cells","at","long","live"]:=vE
abbrev QO:uO:=top 28
theorem Hz:wN ["cells","begin","end"] ["cells","begin","end"] (An QO):=fS
theorem HA:BiS "laid_free" "laid_free" QO ["cells","begin","end"]:=vD
abbrev QP:uO:=top 29
theorem dW:wN ["cells","at","piece"] ["cells","at"] (An QP):=fS
theorem HB:BiS "piece_at" "piece_at" QP ["cells","at"]:=vC
abbrev QQ:uO:=top 30
theorem dX:wN ["cells","at","piece"] ["cells","at"] (An QQ):=fS
theorem HC:BiS "live_at" "live_at" QQ ["cells","at"]:=vC
abbrev QR:uO:=top 31
theorem dY:wN ["cells","at","piece"] ["cells","at"] (An QR):=fS
theorem HD:BiS "free_at" "free_at" QR ["cells","at"]:=vC
abbrev QS:uO:=top 32
theorem dZ:wN ["cells","cell","begins"] ["cells","cell"] (An QS):=fS
theorem HE:BiS "begin_around" "begin_around" QS ["cells","cell"]:=vC
abbrev QT:uO:=top 33
theorem HF:wN ["cells","at"] ["cells","at"] (An QT):=fS
theorem HG:BiS "free_begin" "free_begin" QT ["cells","at"]:=vC
abbrev QU:uO:=top 34
theorem HH:wN ["cells","end"] ["cells","end"] (An QU):=fS
theorem HI:BiS "free_end" "free_end" QU ["cells","end"]:=vC
abbrev QW:uO:=top 35
theorem HJ:wN ["cells","at","place","long","begin","free_long","live","end","row"] ["cells","at","place","long"] (An QW):=fS
theorem HK:BiS "cut_out" "cut_out" QW ["cells","at","place","long"]:=vE
abbrev QX:uO:=top 36
theorem QY:wN ["cells","at","begin","long","live"] ["cells","at"] (An QX):=fS
theorem pD:BiS "freed" "freed" QX ["cells","at"]:=vC
abbrev QZ:uO:=top 37
theorem Mb:wN ["pieces","row","at","long","live"] ["pieces"] (An QZ):=fS
theorem HL:BiS "joined_pieces" "joined_pieces" QZ ["pieces"]:=vB
abbrev Q0:uO:=top 38
theorem KK:wN ["cells","row","at","long","live"] ["cells"] (An Q0):=fS
theorem HM:BiS "joined" "joined" Q0 ["cells"]:=vB
abbrev Q2:uO:=top 39
theorem eE:wN ["cells","source","goal","count","row"] ["cells","source","goal","count"] (An Q2):=fS
theorem HN:BiS "carried" "carried" Q2 ["cells","source","goal","count"]:=vE
abbrev Q3:uO:=top 43
theorem HP:wN ["number"] ["number"] (An Q3):=fS
theorem HQ:BiS "is_power" "is_power" Q3 ["number"]:=vB
abbrev Q4:uO:=top 44
theorem HR:wN ["need"] ["need"] (An Q4):=fS
theorem HS:BiS "block_for" "block_for" Q4 ["need"]:=vB
abbrev Q5:uO:=top 45
theorem Q6:wN ["pieces","block","fit","long","at"] ["pieces","block"] (An Q5):=fS
theorem HU:BiS "least_free" "least_free" Q5 ["pieces","block"]:=vC
abbrev Q7:uO:=top 46
theorem Q8:wN ["cells","at","long","block","row"] ["cells","at","long","block"] (An Q7):=fS
theorem HV:BiS "cut_down" "cut_down" Q7 ["cells","at","long","block"]:=vE
abbrev EL:uO:=top 47
theorem TY:wN ["pieces","at","long"] ["pieces","at","long"] (An EL):=fS
theorem Mc:BiS "grown_together" "grown_together" EL ["pieces","at","long"]:=vD
abbrev Q9:uO:=top 52
theorem HW:wN ["size","shelf"] ["size","shelf"] (An Q9):=fS
theorem HX:BiS "all_whole" "all_whole" Q9 ["size","shelf"]:=vC
abbrev Ra:uO:=top 53
theorem HY:wN ["at","shelf"] ["at","shelf"] (An Ra):=fS
theorem HZ:BiS "begin_of" "begin_of" Ra ["at","shelf"]:=vC
abbrev Rb:uO:=top 54
theorem Ia:wN ["cells","shelf"] ["cells","shelf"] (An Rb):=fS
theorem Ib:BiS "whole_ones" "whole_ones" Rb ["cells","shelf"]:=vC
abbrev Rc:uO:=top 55
theorem eG:wN ["cells","shelf","size","fit"] ["cells","shelf","size"] (An Rc):=fS
theorem Ic:BiS "free_slots" "free_slots" Rc ["cells","shelf","size"]:=vD
abbrev Re:uO:=top 56
theorem Md:wN ["cells","begin","shelf","size","row","end","at"] ["cells","begin","shelf","size"] (An Re):=fS
theorem Id:BiS "cut_for" "cut_for" Re ["cells","begin","shelf","size"]:=vE
abbrev Rg:uO:=top 57
theorem eI:wN ["cells","shelf","size","begins"] ["cells","shelf","size"] (An Rg):=fS
theorem Ie:BiS "with_slot" "with_slot" Rg ["cells","shelf","size"]:=vD
abbrev Rh:uO:=top 58
theorem Ig:wN ["cells","begin","shelf"] ["cells","begin","shelf"] (An Rh):=fS
theorem Ih:BiS "has_live" "has_live" Rh ["cells","begin","shelf"]:=vD
abbrev Ri:uO:=top 61
theorem Me:wN ["piece","long","bound","at","piece_long","live","place"] ["piece","long","bound"] (An Ri):=fS
theorem Ii:BiS "first_place" "first_place" Ri ["piece","long","bound"]:=vD
abbrev Rj:uO:=top 62
theorem Rk:wN ["cells","long","bound","spots","piece","place"] ["cells","long","bound"] (An Rj):=fS
theorem Ij:BiS "spots_for" "spots_for" Rj ["cells","long","bound"]:=vD
abbrev Rl:uO:=top 64
theorem Ik:wN ["ranked"] ["ranked"] (An Rl):=fS
theorem Il:BiS "least_place" "least_place" Rl ["ranked"]:=vB
abbrev Rm:uO:=top 70
theorem Im:wN ["word","size"] ["word","size"] (An Rm):=fS
theorem Io:BiS "stretches_of" "stretches_of" Rm ["word","size"]:=vC
abbrev EB:uO:=top 72
theorem Ip:wN ["word","size","shelf"] ["word","size","shelf"] (An EB):=fS
abbrev vG(x q:Str)(s:uO)(ps:List Str):Prop:=∀(T:uH)(d1:uG)(kV doc pm:uG)(an:Option uH)(cdv ct:uG)(us:List uG),us.length=ps.length->∃k:Option (Array uG)->vo (List (Str×uG)),uS (fnOf x q (A1 s) (AZ s) (An s) (.ref T) kV doc pm an cdv ct) ⟨us,[]⟩=vc (.ref T) >>= k/\k (some [d1].toArray)=pure (ps.zip us)
abbrev vH(x q:Str)(s:uO)(ps:List Str):Prop:=∀(T:uH)(d1:uG)(kV doc pm:uG)(an:Option uH)(cdv ct:uG)(us:List uG),(us++[d1]).length=ps.length->∃k:Option (Array uG)->vo (List (Str×uG)),uS (fnOf x q (A1 s) (AZ s) (An s) (.ref T) kV doc pm an cdv ct) ⟨us,[]⟩=vc (.ref T) >>= k/\k (some [d1].toArray)=pure (ps.zip (us++[d1]))
theorem vJ{x q:Str}{s}{p0 p1 p2:Str}(h:∀T d1 kV doc pm an cdv ct u0 u1 u2,∃k:Option (Array uG)->vo (List (Str×uG)),uS (fnOf x q (A1 s) (AZ s) (An s) (.ref T) kV doc pm an cdv ct) ⟨[u0,u1,u2],[]⟩=vc (.ref T) >>= k/\k (some [d1].toArray)=pure (([p0,p1,p2]:List Str).zip [u0,u1,u2]):=by intros;exact ⟨_,rfl,rfl⟩):vG x q s [p0,p1,p2]:=λ_ _ _ _ _ _ _ _ us hl=>by obtain⟨u0,u1,u2,rfl⟩:=a_ hl;exact h _ _ _ _ _ _ _ _ u0 u1 u2
theorem vK{x q:Str}{s}{p0 p1 p2:Str}(h:∀T d1 kV doc pm an cdv ct u0 u1,∃k:Option (Array uG)->vo (List (Str×uG)),uS (fnOf x q (A1 s) (AZ s) (An s) (.ref T) kV doc pm an cdv ct) ⟨[u0,u1],[]⟩=vc (.ref T) >>= k/\k (some [d1].toArray)=pure (([p0,p1,p2]:List Str).zip ([u0,u1]++[d1])):=by intros;exact ⟨_,rfl,rfl⟩):vH x q s [p0,p1,p2]:=λ_ _ _ _ _ _ _ _ us hl=>by obtain⟨u0,u1,rfl⟩:=f_ (show us.length=2 by simpa using hl);exact h _ _ _ _ _ _ _ _ u0 u1
theorem vL{x q:Str}{s}{p0 p1 p2 p3:Str}(h:∀T d1 kV doc pm an cdv ct u0 u1 u2 u3,∃k:Option (Array uG)->vo (List (Str×uG)),uS (fnOf x q (A1 s) (AZ s) (An s) (.ref T) kV doc pm an cdv ct) ⟨[u0,u1,u2,u3],[]⟩=vc (.ref T) >>= k/\k (some [d1].toArray)=pure (([p0,p1,p2,p3]:List Str).zip [u0,u1,u2,u3]):=by intros;exact ⟨_,rfl,rfl⟩):vG x q s [p0,p1,p2,p3]:=λ_ _ _ _ _ _ _ _ us hl=>by obtain⟨u0,u1,u2,u3,rfl⟩:=zA4 hl;exact h _ _ _ _ _ _ _ _ u0 u1 u2 u3
theorem vM{x q:Str}{s}{p0 p1 p2 p3:Str}(h:∀T d1 kV doc pm an cdv ct u0 u1 u2,∃k:Option (Array uG)->vo (List (Str×uG)),uS (fnOf x q (A1 s) (AZ s) (An s) (.ref T) kV doc pm an cdv ct) ⟨[u0,u1,u2],[]⟩=vc (.ref T) >>= k/\k (some [d1].toArray)=pure (([p0,p1,p2,p3]:List Str).zip ([u0,u1,u2]++[d1])):=by intros;exact ⟨_,rfl,rfl⟩):vH x q s [p0,p1,p2,p3]:=λ_ _ _ _ _ _ _ _ us hl=>by obtain⟨u0,u1,u2,rfl⟩:=a_ (show us.length=3 by simpa using hl);exact h _ _ _ _ _ _ _ _ u0 u1 u2
theorem Iq:vG "keeper_of" "keeper_of" EB ["word","size","shelf"]:=vJ
theorem Ir:vH "keeper_of" "keeper_of" EB ["word","size","shelf"]:=vK
abbrev Rn:uO:=top 74
theorem Iu:wN ["_law_script","_law_k"] ["_law_script","_law_k"] (An Rn):=fS
theorem Iv:BiS "_law_cell_at" "_law_cell_at" Rn ["_law_script","_law_k"]:=vC
abbrev Ro:uO:=top 75
theorem Iw:wN ["_law_found"] ["_law_found"] (An Ro):=fS
theorem Ix:BiS "_law_whole" "_law_whole" Ro ["_law_found"]:=vB
abbrev Rp:uO:=top 76
theorem Iy:wN ["_law_word"] ["_law_word"] (An Rp):=fS
theorem Iz:BiS "_law_plain" "_law_plain" Rp ["_law_word"]:=vB
abbrev Rq:uO:=top 77
theorem KL:wN ["_law_cells","_law_size","_law_pieces","_law_at","_law_long","_law_live"] ["_law_cells","_law_size"] (An Rq):=fS
theorem IA:BiS "_law_walk" "_law_walk" Rq ["_law_cells","_law_size"]:=vC
abbrev Rr:uO:=top 78
theorem TZ:wN ["_law_long","_law_block_here"] ["_law_long"] (An Rr):=fS
theorem IC:BiS "_law_block" "_law_block" Rr ["_law_long"]:=vB
abbrev Rs:uO:=top 79
theorem KM:wN ["_law_pieces","_law_piece","_law_at","_law_long","_law_other"] ["_law_pieces"] (An Rs):=fS
theorem ID:BiS "_law_halves" "_law_halves" Rs ["_law_pieces"]:=vB
abbrev Rt:uO:=top 80
theorem Ru:wN ["_law_pieces","_law_start","_law_shelf","_law_size","_law_slots","_law_due"] ["_law_pieces","_law_start","_law_shelf"] (An Rt):=fS
theorem IE:BiS "_law_one_shelf" "_law_one_shelf" Rt ["_law_pieces","_law_start","_law_shelf"]:=vD
abbrev Rv:uO:=top 81
theorem Rw:wN ["_law_pieces","_law_room","_law_start","_law_own","_law_k"] ["_law_pieces","_law_room"] (An Rv):=fS
theorem IF:BiS "_law_shaped" "_law_shaped" Rv ["_law_pieces","_law_room"]:=vC
abbrev Rx:uO:=top 82
theorem KN:wN ["_law_pieces","_law_room","_law_long","_law_bound","_law_first","_law_piece","_law_spot","_law_cut"] ["_law_pieces","_law_room","_law_long","_law_bound"] (An Rx):=fS
theorem IG:BiS "_law_narrow" "_law_narrow" Rx ["_law_pieces","_law_room","_law_long","_law_bound"]:=vE
abbrev Ry:uO:=top 83
theorem Mf:wN ["_law_pieces","_law_room","_law_place","_law_long","_law_bound","_law_end","_law_piece","_law_own"] ["_law_pieces","_law_room","_law_place","_law_long","_law_bound"] (An Ry):=fS
theorem IH:BiS "_law_stays" "_law_stays" Ry ["_law_pieces","_law_room","_law_place","_law_long","_law_bound"]:=λ_ _ _ _ _ _ us hl=>by obtain⟨_,_,_,_,_,rfl⟩:=zA5 hl;rfl
abbrev Rz:uO:=top 84
theorem II:wN ["_law_keeper","_law_way","_law_place","_law_count","_law_bound","_law_brief"] ["_law_keeper","_law_way","_law_place","_law_count","_law_bound","_law_brief"] (An Rz):=fS
theorem IJ:BiS "_law_done" "_law_done" Rz ["_law_keeper","_law_way","_law_place","_law_count","_law_bound","_law_brief"]:=vF
abbrev RA:uO:=top 85
theorem IK:wN ["_law_keeper","_law_way","_law_place","_law_count","_law_bound","_law_brief","_law_word","_law_told"] ["_law_keeper","_law_way","_law_place","_law_count","_law_bound","_law_brief"] (An RA):=fS
theorem IL:BiS "_law_tried" "_law_tried" RA ["_law_keeper","_law_way","_law_place","_law_count","_law_bound","_law_brief"]:=vF
abbrev RB:uO:=top 86
theorem EM:wN ["_law_keeper","_law_room","_law_held","_law_way","_law_place","_law_c","_law_count","_law_bound","_law_before","_law_found","_law_pieces","_law_row"] ["_law_keeper","_law_room","_law_held","_law_way","_law_place","_law_c"] (An RB):=fS
theorem EN:BiS "_law_new" "_law_new" RB ["_law_keeper","_law_room","_law_held","_law_way","_law_place","_law_c"]:=vF
abbrev RC:uO:=top 87
theorem EO:wN ["_law_keeper","_law_room","_law_held","_law_cells","_law_pieces","_law_lives","_law_piece","_law_row","_law_long","_law_k"] ["_law_keeper","_law_room","_law_held"] (An RC):=fS
theorem IM:BiS "_law_right" "_law_right" RC ["_law_keeper","_law_room","_law_held"]:=vD
abbrev RD:uO:=top 88
theorem RE:wN ["_law_keeper","_law_room","_law_held","_law_c","_law_way","_law_place","_law_k"] ["_law_keeper","_law_room","_law_held","_law_c"] (An RD):=fS
theorem IN:BiS "_law_step" "_law_step" RD ["_law_keeper","_law_room","_law_held","_law_c"]:=vE
abbrev IO:uO:=top 89
theorem DR:wN ["_law_script","_law_c","_law_word","_law_size","_law_shelf","_law_keeper","_law_room","_law_held"] ["_law_script"] (An IO):=fS
theorem bi_law:BiS "law" "law" IO ["_law_script"]:=vB
abbrev RF:uO:=At (top 5) 0
theorem pE:wN ["self","cell"] ["self","cell"] (An RF):=fS
theorem pF:BiS "__init__" "Broken.__init__" RF ["self","cell"]:=vC
abbrev EQ:uO:=At (top 41) 0
theorem KO:wN ["self","size"] ["self","size"] (An EQ):=fS
theorem KP:BiS "__init__" "Keeper.__init__" EQ ["self","size"]:=vC
abbrev RG:uO:=At (top 68) 0
theorem pG:wN ["self","size"] ["self","size"] (An RG):=fS
theorem pH:BiS "__init__" "Next.__init__" RG ["self","size"]:=vC
abbrev RH:uO:=At (top 48) 0
theorem pI:wN ["self","size"] ["self","size"] (An RH):=fS
theorem pJ:BiS "__init__" "Halves.__init__" RH ["self","size"]:=vC
abbrev RI:uO:=At (top 59) 0
theorem eJ:wN ["self","size","shelf","cells"] ["self","size","shelf"] (An RI):=fS
theorem pK:BiS "__init__" "Shelves.__init__" RI ["self","size","shelf"]:=vD
abbrev ER:uO:=At (top 41) 11
theorem Mg:wN ["self","cells"] ["self","cells"] (An ER):=fS
theorem Mh:BiS "room_begin" "Keeper.room_begin" ER ["self","cells"]:=vC
abbrev ES:uO:=At (top 65) 4
theorem Mi:wN ["self","cells"] ["self","cells"] (An ES):=fS
theorem Mj:BiS "room_begin" "Stretches.room_begin" ES ["self","cells"]:=vC
abbrev ET:uO:=At (top 68) 3
theorem Ml:wN ["self","cells"] ["self","cells"] (An ET):=fS
theorem Mm:BiS "room_begin" "Next.room_begin" ET ["self","cells"]:=vC
abbrev RJ:uO:=At (top 41) 3
theorem IP:wN ["self","cells"] ["self","cells"] (An RJ):=fS
theorem IQ:BiS "lay" "Keeper.lay" RJ ["self","cells"]:=vC
abbrev RK:uO:=At (top 41) 2
theorem IR:wN ["self"] ["self"] (An RK):=fS
theorem IS:BiS "pieces" "Keeper.pieces" RK ["self"]:=vB
abbrev RL:uO:=At (top 41) 1
theorem IT:wN ["self"] ["self"] (An RL):=fS
theorem IU:BiS "cells" "Keeper.cells" RL ["self"]:=vB
abbrev EU:uO:=At (top 48) 1
theorem RM:wN ["self","count","bound","block","at","long"] ["self","count","bound"] (An EU):=fS
theorem IV:vG "ask" "Halves.ask" EU ["self","count","bound"]:=vJ
theorem IW:vH "ask" "Halves.ask" EU ["self","count","bound"]:=vK
abbrev EV:uO:=At (top 59) 2
theorem RN:wN ["self","count","bound","size","cells","at"] ["self","count","bound"] (An EV):=fS
theorem IX:vG "ask" "Shelves.ask" EV ["self","count","bound"]:=vJ
theorem IY:vH "ask" "Shelves.ask" EV ["self","count","bound"]:=vK
abbrev EW:uO:=At (top 50) 0
theorem RO:wN ["self","count","bound","at","long","live"] ["self","count","bound"] (An EW):=fS
theorem IZ:vG "ask" "Row.ask" EW ["self","count","bound"]:=vJ
theorem I0:vH "ask" "Row.ask" EW ["self","count","bound"]:=vK
abbrev RP:uO:=At (top 66) 0
theorem eK:wN ["self","long","bound","spots"] ["self","long","bound"] (An RP):=fS
theorem Ja:BiS "chosen" "First.chosen" RP ["self","long","bound"]:=vD
abbrev RQ:uO:=At (top 67) 0
theorem T0:wN ["self","long","bound","cells","spots"] ["self","long","bound"] (An RQ):=fS
theorem Jb:BiS "chosen" "Best.chosen" RQ ["self","long","bound"]:=vD
abbrev RS:uO:=At (top 68) 2
theorem eO:wN ["self","long","bound","spots"] ["self","long","bound"] (An RS):=fS
theorem Jc:BiS "chosen" "Next.chosen" RS ["self","long","bound"]:=vD
abbrev RT:uO:=At (top 69) 0
theorem T1:wN ["self","long","bound","cells","spots"] ["self","long","bound"] (An RT):=fS
theorem Jd:BiS "chosen" "Likes.chosen" RT ["self","long","bound"]:=vD
abbrev EY:uO:=At (top 65) 5
theorem Mn:wN ["self","behind"] ["self","behind"] (An EY):=fS
theorem Mo:BiS "room_granted" "Stretches.room_granted" EY ["self","behind"]:=vC
abbrev EZ:uO:=At (top 68) 4
theorem Mp:wN ["self","behind"] ["self","behind"] (An EZ):=fS
theorem Mq:BiS "room_granted" "Next.room_granted" EZ ["self","behind"]:=vC
abbrev E1:uO:=At (top 65) 1
theorem T2:wN ["self","count","bound","long","at"] ["self","count","bound"] (An E1):=fS
theorem Je:vG "ask" "Stretches.ask" E1 ["self","count","bound"]:=vJ
theorem Jf:vH "ask" "Stretches.ask" E1 ["self","count","bound"]:=vK
abbrev RU:uO:=At (top 41) 5
theorem RV:wN ["self","place","at","long","live"] ["self","place"] (An RU):=fS
theorem Jg:BiS "many" "Keeper.many" RU ["self","place"]:=vC
abbrev E2:uO:=At (top 41) 12
theorem GC:wN ["self","place","k","many"] ["self","place","k"] (An E2):=fS
theorem Mr:BiS "room_cell_of" "Keeper.room_cell_of" E2 ["self","place","k"]:=vD
abbrev RW:uO:=At (top 41) 7
theorem eP:wN ["self","place","k","number","cell"] ["self","place","k","number"] (An RW):=fS
theorem Jh:BiS "put" "Keeper.put" RW ["self","place","k","number"]:=vE
abbrev RX:uO:=At (top 41) 6
theorem Ji:wN ["self","place","k"] ["self","place","k"] (An RX):=fS
theorem Jj:BiS "get" "Keeper.get" RX ["self","place","k"]:=vD
abbrev E3:uO:=At (top 65) 2
theorem Ms:wN ["self","place"] ["self","place"] (An E3):=fS
theorem Mt:BiS "give" "Stretches.give" E3 ["self","place"]:=vC
abbrev RY:uO:=At (top 50) 1
theorem Jk:wN ["self","place"] ["self","place"] (An RY):=fS
theorem Jl:BiS "give" "Row.give" RY ["self","place"]:=vC
abbrev RZ:uO:=At (top 48) 2
theorem T3:wN ["self","place","at","long"] ["self","place"] (An RZ):=fS
theorem Jm:BiS "give" "Halves.give" RZ ["self","place"]:=vC
abbrev R0:uO:=At (top 59) 3
theorem R1:wN ["self","place","cells","begin"] ["self","place"] (An R0):=fS
theorem Jn:BiS "give" "Shelves.give" R0 ["self","place"]:=vC
abbrev E4:uO:=At (top 41) 13
theorem GD:wN ["self","place","count","bound","goal"] ["self","place","count","bound"] (An E4):=fS
theorem Mu:BiS "room_moved" "Keeper.room_moved" E4 ["self","place","count","bound"]:=vE
abbrev E5:uO:=At (top 41) 10
theorem eU:wN ["self","place","count","bound","had"] ["self","place","count","bound"] (An E5):=fS
theorem Jo:vG "grow" "Keeper.grow" E5 ["self","place","count","bound"]:=vL
theorem Jp:vH "grow" "Keeper.grow" E5 ["self","place","count","bound"]:=vM
abbrev E6:uO:=At (top 50) 2
theorem Jq:wN ["self","place","count","bound"] ["self","place","count","bound"] (An E6):=fS
theorem Jr:vG "grow" "Row.grow" E6 ["self","place","count","bound"]:=vL
theorem Js:vH "grow" "Row.grow" E6 ["self","place","count","bound"]:=vM
abbrev E7:uO:=At (top 65) 3
theorem KQ:wN ["self","place","count","bound","at","had","live","long","end"] ["self","place","count","bound"] (An E7):=fS
theorem Jt:vG "grow" "Stretches.grow" E7 ["self","place","count","bound"]:=vL
theorem Ju:vH "grow" "Stretches.grow" E7 ["self","place","count","bound"]:=vM
abbrev R3:uO:=At (top 41) 4
theorem Jv:wN ["self"] ["self"] (An R3):=fS
theorem Jw:BiS "clear" "Keeper.clear" R3 ["self"]:=vB
abbrev R4:uO:=At (top 59) 1
theorem Jx:wN ["self"] ["self"] (An R4):=fS
theorem Jy:BiS "clear" "Shelves.clear" R4 ["self"]:=vB
abbrev nI(K:δ)(m:Str)(f:uH):Prop:=nsIn K ve m=some (some (.ref f))
abbrev fI(K:δ)(C:uH)(m:Str)(f:uH):Prop:=bo K (.ref C) m=some (some (.ref f))
abbrev cI(K:δ)(c:uG)(m:Str):Prop:=codeIn K c m=true
abbrev kI(K:δ)(f:uH):Prop:=keepIn K (.ref f)=true
abbrev iI(K:δ)(f:uH):Prop:=isFn K (.ref f)=true
abbrev tI(K:δ)(a b:uH)(c:Bool):Prop:=kitOne K (.ref a) (.ref b)=some c
structure Txt(K:δ)(mg:Str->Option uG)(Y0 Dk A5 Y5 Y9 Y3 Y8 C8 Y2 AT Y7 Y6 Aj Y4 Y1 Ag Ah Ae Ai:uH)(j8:Tok)(j9:Tok):Prop where
 n_any:mg "any"=none
 n_bool:mg "bool"=none
 n_int:mg "int"=none
 n_isinstance:mg "isinstance"=none
 n_len:mg "len"=none
 n_list:mg "list"=none
 n_max:mg "max"=none
 n_min:mg "min"=none
 n_range:mg "range"=none
 pL:mg "LEAST_LIVE"=some (.int 3 j8)
 GE:mg "MARKS"=some (.int 2 j9)
 tY:mg "StowError"=some (.ref Y0)
 tZ:mg "NoName"=some (.ref Dk)
 uA:mg "NoSize"=some (.ref A5)
 uB:mg "Broken"=some (.ref Y5)
 pM:mg "NoGive"=some (.ref Y9)
 uC:mg "NoPiece"=some (.ref Y3)
 uD:mg "NoCell"=some (.ref Y8)
 uE:mg "NoAsk"=some (.ref C8)
 pN:mg "NoBound"=some (.ref Y2)
 pO:mg "NoRoom"=some (.ref AT)
 pP:mg "Keeper"=some (.ref Y7)
 pQ:mg "Halves"=some (.ref Y6)
 c_Row:mg "Row"=some (.ref Aj)
 pR:mg "Shelves"=some (.ref Y4)
 pS:mg "Stretches"=some (.ref Y1)
 pT:mg "First"=some (.ref Ag)
 c_Best:mg "Best"=some (.ref Ah)
 c_Next:mg "Next"=some (.ref Ae)
 pU:mg "Likes"=some (.ref Ai)
 R5:xF K mg "NoSize" A5
 pV:xF K mg "NoName" Dk
 T4:xF K mg "NoPiece" Y3
 Mv:xF K mg "NoRoom" AT
 pW:xF K mg "NoAsk" C8
 pX:xF K mg "NoBound" Y2
 pY:xF K mg "NoCell" Y8
 eV:xF K mg "NoGive" Y9
 R6:Cls K Ag
 T5:BX K Ag "room_cells"
 R7:Cls K Ah
 T6:BX K Ah "room_cells"
 Jz:Cls K Ae
 KR:BX K Ae "room_cells"
 R8:BX K Ae "room_rover"
 R9:Cls K Ai
 T7:BX K Ai "room_cells"
 Mw:Cls K Y6
 T8:BX K Y6 "room_cells"
 JA:Cls K Y4
 Mx:BX K Y4 "room_cells"
 Sa:BX K Y4 "shelf"
 cl_Row:Cls K Aj
 T9:BX K Aj "room_cells"
 pZ:XSet K Y5 "cell"
 qA:xG K AT AT true
 qC:xG K Y2 AT false
 qD:xG K Y2 Y2 true
 qF:xG K Y9 AT false
 qH:xG K Y9 Y2 false
 qI:xG K Y9 Y9 true
section
variable {K:δ}{mg:Str->Option uG}{Y0 Dk A5 Y5 Y9 Y3 Y8 C8 Y2 AT Y7 Y6 Aj Y4 Y1 Ag Ah Ae Ai:uH}{j8:Tok}{j9:Tok}
theorem wU(T:Txt K mg Y0 Dk A5 Y5 Y9 Y3 Y8 C8 Y2 AT Y7 Y6 Aj Y4 Y1 Ag Ah Ae Ai j8 j9):∀i,Cls K ((cF Ag Ah Ae Ai Y6 Y4 Aj) i):=EJ T.R6 T.R7 T.Jz T.R9 T.Mw T.JA T.cl_Row
theorem xk(T:Txt K mg Y0 Dk A5 Y5 Y9 Y3 Y8 C8 Y2 AT Y7 Y6 Aj Y4 Y1 Ag Ah Ae Ai j8 j9):∀i,BX K ((cF Ag Ah Ae Ai Y6 Y4 Aj) i) "room_cells":=EJ (Q:=λC=>BX K C "room_cells") T.T5 T.T6 T.KR T.T7 T.T8 T.Mx T.T9
end
def eW:Sp:=λvs H Q _=>∃(n:Int)(v:Bool),vs=[.int n,.bl v]/\n.natAbs<2^220/\Q (.int (n*2+if v then 1 else 0)) H
section
variable (P:uK)(w:uL)(base:vq){K:δ}{mg:Str->Option uG}{Y0 Dk A5 Y5 Y9 Y3 Y8 C8 Y2 AT Y7 Y6 Aj Y4 Y1 Ag Ah Ae Ai:uH}{j8:Tok}{j9:Tok}
variable (T:Txt K mg Y0 Dk A5 Y5 Y9 Y3 Y8 C8 Y2 AT Y7 Y6 Aj Y4 Y1 Ag Ah Ae Ai j8 j9)
include T in
theorem My(S:Src K mg "mark_of" QG):wO P w K mg base "mark_of" 1 ["long","live"] (eW):=by
 refine S.okx Ho Hq λf _ A _ s H vs Q E hr h=>⟨_,PSs.nox (Ad (Ay (BV r_ (λ_=>rfl)) (Af (Ao (Am op_or (Am Td s_ Ac) Ac))) Az) (Af (Ao (Am Td s_ Ac)))),?_⟩;obtain⟨n,v,rfl,hn,q⟩:=h;walk_at "";refine CC (λhv=>?_) (λhv=>?_)
 . walk_at "";rw[two1,mE];subst hv;exact q
 . walk_at "";rw[two1];subst hv;rw[if_neg ν,ji] at q;exact q
include T in
theorem Mz(S:Src K mg "long_of" QH):wO P w K mg base "long_of" 1 ["number"] (SS):=by
 refine S.okx Hr Hs λf _ A _ s H vs Q E hr h=>⟨_,PSs.nox (Af (Ao (Am zq s_ Ac))),?_⟩;obtain⟨n,rfl,q⟩:=h;walk_at "";rw[two1];exact q
include T in
theorem MA(S:Src K mg "live_of" QI):wO P w K mg base "live_of" 1 ["number"] (ST):=by
 refine S.okx Ht Hu λf _ A _ s H vs Q E hr h=>⟨_,PSs.nox (Af (Ao (CV AN (Am ZK s_ Ac) Ac))),?_⟩;obtain⟨n,rfl,q⟩:=h;walk_at "";rw[lC];exact q
variable (AC:wO P w K mg base "long_of" 1 ["number"] (SS))
variable (AU:wO P w K mg base "live_of" 1 ["number"] (ST))
include T AC AU in
theorem MB(S:Src K mg "can_begin" QJ):wO P w K mg base "can_begin" 2 ["cells","at"] (xO K):=by
 refine S.okx dQ Hv λf _ A _ s H vs Q E hr h=>?_;obtain⟨a,ns,k,rfl,hS,h0,h1,q⟩:=h;refine⟨_,PSs.nox (Ad (o_ 2 dQ (q_ AC hr (Aa (Ar AY s_ r_) Ab))) (Ad (Ay (PW.pt (Bn (As Ct t_ Ac) (BR (As DT (Am AL r_ t_) (Bs CW (by rfl) T.n_len bq (Aa s_ Ab)))))) (Af (Ao AR)) Az) (Af (Ao (pe_or (CV Gr t_ (ED (v:=.int 3) (by rfl) T.pL ⟨_,rfl⟩)) (Ku (ZH (q_ AU hr (Aa (Ar AY s_ r_) Ab))))))))),?_⟩;walk_at "D";have q':∀c,CY ns k=c->Q (.bl c) H:=λc e=>e▸q;walk_at "";refine AJ (λhc=>?_) (λhc=>?_)
 . walk_at "";exact q' false (by unfold CY;rw[if_pos (π hc)])
 . walk_at "";refine AJ (λhd=>?_) (λhd=>?_)
   . walk_at "";exact q' false (by unfold CY;rw[if_pos (ku hd)])
   . walk_at "";have ec:CY ns k=(decide (3<=ns.getD k.toNat 0/2)||!decide (ns.getD k.toNat 0%2=1)):=by
       unfold CY;rw[if_neg (by omega)]
     refine CC (λhe=>?_) (λhe=>?_)
     . walk_at "";exact q' true (by rw[ec,he,sd])
     . walk_at "";exact q' _ (by rw[ec,he,oh])
variable (Dl:wO P w K mg base "can_begin" 2 ["cells","at"] (xO K))
include T AC Dl in
theorem MC(S:Src K mg "bad_of_piece" QK):wO P w K mg base "bad_of_piece" 3 ["cells","at"] (SU K):=by
 refine S.okx dR Hw λf _ A _ s H vs Q E hr h=>?_;obtain⟨a,ns,k,rfl,hS,h0,h1,q⟩:=h;refine⟨_,PSs.nox (Ad (Ay (Bo (Cy (q_ Dl hr (Aa s_ (Aa r_ Ab))))) (Af (Ao r_)) Az) (Ad (o_ 2 dR (Am Bk (Am AL r_ (q_ AC hr (Aa (Ar AY s_ r_) Ab))) Ac)) (Ad (Ay (As CU (Ar AY s_ t_) (Ar AY s_ r_)) (Af (Ao t_)) Az) (Af (Ao CQ))))),?_⟩;walk_at "D";have q':∀c,BY ns k=c->Q (wS c) H:=λc e=>e▸q;walk_at "";refine CC (λhc=>?_) (λhc=>?_)
 . obtain⟨b1,b2,_⟩:=(Z6 ns k).mp hc;walk_at "";refine AJ (λhd=>?_) (λhd=>?_)
   . walk_at "";exact q' none (kE hc hd)
   . walk_at "";exact q' (some _) (kD hc hd)
 . walk_at "";exact q' (some k) (A_ hc)
theorem qJ{P:uK}{w:uL}{base:vq}{K:δ}{mg:Str->Option uG}{Y5 Y0:uH}{fI:uH}{fd:uJ}(F:Fun K "__init__" "Broken.__init__" RF fI fd)(XI:B_ K mg "Broken" Y5 Y0 fI)(Z:XSet K Y5 "cell"):DefI P w K mg base "Broken" Y5 Y0 1 ["self","cell"] (SM Y5 "cell"):=by
 refine⟨fI,fd,XI,A3 F pE (λ_ A _ s H vs Q E hr h=>?_),F.binds pF⟩
 . obtain⟨y,v,rfl,hy,q⟩:=h;exact⟨_,PSs.nox (Af (xX s_ r_)),_,rfl,_,rfl,y,_,rfl,hy,Z,λdx hd=>q dx hd⟩
def LkW(H:Hp)(a p:uH)(ns:List Int)(m:Nat)(σ:L2.St)(H':Hp):Prop:=
 ∃(ds:List Pc)(us:List V)(k:Int)(x y:Option V),σ=[some (.ref a),some (.ref p),some (.int k),x,y]/\m=(ns.length-k).toNat/\0<=k/\k<=ns.length/\(ds.length:Int)<=k/\WPre ns ds k/\Same H H'/\H' p=some (.lst us)/\AH H' us ds
variable (Dm:wO P w K mg base "bad_of_piece" 3 ["cells","at"] (SU K))
variable (D_Broken:DefI P w K mg base "Broken" Y5 Y0 1 ["self","cell"] (SM Y5 "cell"))
include T AC AU Dm D_Broken in
theorem MD(S:Src K mg "looked" QL):wO P w K mg base "looked" 4 ["cells"] (aI K Y5):=by
 refine S.okx KJ Hx λf _ A _ s H vs Q E hr h=>?_;obtain⟨a,ns,rfl,hS,hz,qe,q⟩:=h;refine⟨_,(Ad (o_ 1 KJ (DU Ab)) (Ad (o_ 2 KJ Ac) (Ad (Lv ph (As Ct t_ (Bs CW (by rfl) T.n_len bq (Aa s_ Ab))) (Ad (o_ 3 KJ (q_ Dm hr (Aa s_ (Aa t_ Ab)))) (Ad (Ay (As Ss u_ CQ) (Af (kX D_Broken hr rfl (Aa u_ Ab))) Az) (Ad (o_ 4 KJ (q_ AC hr (Aa (Ar AY s_ t_) Ab))) (Ad (Bd (LF ff fb fe Kw r_ (Aa (Cg (Aa t_ (Aa vw (Aa (q_ AU hr (Aa (Ar AY s_ t_) Ab)) Ab)))) Ab))) (Af (o_ 2 KJ (Am AL t_ vw)))))))) (Af (Ao r_))))),?_⟩;walk_at "D";walk_at "";intro p hp;walk_at "";refine⟨LkW H a p ns,⟨_,[],[],0,none,none,rfl,rfl,by omega,by omega,by decide,WPre.nil ns,Same.new hp,upd_same,AH.nil⟩,?_⟩;rintro m σ H' ⟨ds,us,k,x,y,rfl,rfl,h0,hkl,hdl,w,s1,hp',pa⟩;have hul:=pa.1;have hS':SqL K H' a (ns.map V.int):=s1.seq hS;walk_at "";refine AJ (λhlt=>?_) (λhlt=>?_)
 . refine⟨λσ' H''=>∃m',m'<(ns.length-k).toNat/\LkW H a p ns m' σ' H'',λσ' H'' hw=>hw,?_⟩;walk_at "";cases hb:BY ns k with
   | some b=>
     walk_at "";refine zf (λdx hd=>?_);exact qe b (by rw[w.bad hlt hb]) dx _ (s1.put (s1.free hd)) upd_same
   | none=>
     obtain⟨b1,b2,b3⟩:=P9 hb;walk_at "";intro t ht;have hpt:p≠t:=BF hp' ht;walk_at "";obtain⟨g1,g2⟩:=AH.push (z:=xH ns k) pa hp' ht;dsimp only [xH] at g1 g2;refine⟨_,?_,ds++[xH ns k],us++[.ref t],k+ns.getD k.toNat 0/2,_,_,rfl,rfl,by omega,by omega,?_,w.step hlt hb,(s1.put (s1.free ht)).put hp,g1,g2⟩
     . omega
     . rw[ι,Θ];omega
 . walk_at "";exact q (by rw[w.fin hlt]) p us H' hp s1 hp' (by rw[w.fin hlt];exact pa)
def Bv(n:Int):List Int:=AS (ο n.toNat 0) 0 n false
theorem Ec{n:Int}(h:0<=n):((Bv n).length:Int)=n:=by
 unfold Bv;rw[B0,ag];omega
theorem qK(n:Nat):(ο n [V.int 0]).flatten=(ο n (0:Int)).map V.int:=by
 induction n with
 | zero=>rfl
 | succ n ih=>rw[cb,cu,ih,cb,av];rfl
def eX(C:uH):Sp:=λvs H Q E=>∃n:Int,vs=[.int n]/\n<=4000/\(n<1->E (.ref C) none H)/\(1<=n->∀(p:uH)(H':Hp),H p=none->Same H H'->H' p=some (.lst ((Bv n).map V.int))->Q (.ref p) H')
variable (Bq:wO P w K mg base "mark_of" 1 ["long","live"] (eW))
include T Bq in
theorem ME(S:Src K mg "fresh_room" QM):wO P w K mg base "fresh_room" 2 ["count"] (eX A5):=by
 refine S.okx dS Hy λf _ A _ s H vs Q E hr h=>?_;obtain⟨n,rfl,h4,qe,q⟩:=h;refine⟨_,(Ad (Ay (As Ct s_ Ac) (Af (Cu T.R5 hr.hd rfl (Aa AM Ab))) Az) (Ad (o_ 1 dS (Am SC (DU (Aa Ac Ab)) s_)) (Ad (CT (q_ Bq hr (Aa s_ (Aa AR Ab))) (GZ r_ Ac G4)) (Ad (CT (q_ Bq hr (Aa s_ (Aa AR Ab))) (GZ r_ (Am Bk s_ Ac) G4)) (Af (Ao r_)))))),?_⟩;walk_at "D";walk_at "";refine AJ (λhc=>?_) (λhc=>?_)
 . walk_at "";exact qe hc
 . have hn:n.natAbs<2^220:=iu (show n.natAbs<=4000 by omega) (by decide);walk_at "";intro l hl;walk_at "";refine⟨l,n,_,rfl,rfl,upd_same,by omega,by omega,(by show 1*n.toNat<=uU;exact fh (small4000 (by omega))),λp hp=>?_⟩;rw[qK];have np:=(Same.new hl).free hp;have s1:Same H (upd (upd H l (.lst [.int 0])) p (.lst ((ο n.toNat (0:Int)).map V.int))):=(Same.new hl).put np;have e1:upd (upd H l (.lst [.int 0])) p (.lst ((ο n.toNat (0:Int)).map V.int)) p=some (.lst ((ο n.toNat (0:Int)).map V.int)):=upd_same;generalize upd (upd H l (.lst [.int 0])) p (.lst ((ο n.toNat (0:Int)).map V.int))=H1 at s1 e1 ⊢;have hlr:(ο n.toNat (0:Int)).length=n.toNat:=ag;walk_at "";refine⟨n,false,rfl,hn,?_⟩;walk_at "";refine⟨n,false,rfl,hn,?_⟩;walk_at "";refine q (by omega) p _ np ((s1.put np).put np) ?_;unfold Bv AS;rw[show (0:Int)+n-1=n-1 by omega];exact upd_same
abbrev vP(K:δ)(a:uH)(cs:List Int)(k l:Int)(v:Bool)(H:Hp)(Q:VK):Prop:=∀(p:uH)(H':Hp),H p=none->Same H H'->H' p=some (.lst ((AS cs k l v).map V.int))->Q (.ref p) H'
def eY(K:δ):Sp:=λvs H Q _=>∃(a:uH)(cs:List Int)(k l:Int)(v:Bool),vs=[.ref a,.int k,.int l,.bl v]/\SqL K H a (cs.map V.int)/\cs.length<=4000/\0<=k/\1<=l/\k+l<=cs.length/\vP K a cs k l v H Q
include T Bq in
theorem JB(S:Src K mg "laid" QN):wO P w K mg base "laid" 2 ["cells","at","long","live"] (eY K):=by
 refine S.okx dU pC λf _ A _ s H vs Q E hr h=>?_;obtain⟨a,cs,k,l,v,rfl,hS,hz,h0,h1,hl,q⟩:=h;refine⟨_,PSs.nox (Ad (o_ 4 dU (EE Gu (by rfl) T.n_list cc (Aa s_ Ab))) (Ad (CT (q_ Bq hr (Aa t_ (Aa u_ Ab))) (GZ vw r_ G4)) (Ad (CT (q_ Bq hr (Aa t_ (Aa u_ Ab))) (GZ vw (Am Bk (Am AL r_ t_) Ac) G4)) (Af (Ao vw))))),?_⟩;walk_at "D";have hn:l.natAbs<2^220:=iu (show l.natAbs<=4000 by omega) (by decide);walk_at "";intro p hp;walk_at "";refine⟨l,v,rfl,hn,?_⟩;walk_at "";refine⟨l,v,rfl,hn,?_⟩;walk_at "";refine q p _ hp (((Same.new hp).put hp).put hp) upd_same
abbrev vQ(K:δ)(a:uH)(cs:List Int)(b e:Int)(H:Hp)(Q:VK):Prop:=∀(p:uH)(H':Hp),H p=none->Same H H'->H' p=some (.lst ((lfI cs b e).map V.int))->Q (.ref p) H'
def eZ(K:δ):Sp:=λvs H Q _=>∃(a:uH)(cs:List Int)(b e:Int),vs=[.ref a,.int b,.int e]/\SqL K H a (cs.map V.int)/\cs.length<=4000/\0<=b/\b<=e/\e<=cs.length/\vQ K a cs b e H Q
variable (Aq:wO P w K mg base "laid" 2 ["cells","at","long","live"] (eY K))
include T Aq in
theorem MF(S:Src K mg "laid_free" QO):wO P w K mg base "laid_free" 3 ["cells","begin","end"] (eZ K):=by
 refine S.okx Hz HA λf _ A _ s H vs Q E hr h=>?_;obtain⟨a,cs,b,e,rfl,hS,hz,h0,h1,hl,q⟩:=h;refine⟨_,PSs.nox (Ad (Ay (As AN r_ t_) (Af (Ao (EE Gu (by rfl) T.n_list cc (Aa s_ Ab)))) Az) (Af (Ao (q_ Aq hr (Aa s_ (Aa r_ (Aa (Am Bk t_ r_) (Aa AR Ab)))))))),?_⟩;walk_at "D";walk_at "";refine AJ (λhe=>?_) (λhe=>?_)
 . walk_at "";intro p hp;walk_at "";refine q p _ hp (Same.new hp) ?_;unfold lfI;rw[if_pos he];exact upd_same
 . walk_at "";refine⟨a,cs,b,e-b,false,rfl,hS,hz,h0,by omega,by omega,λp H' hp s1 g1=>?_⟩;walk_at "";refine q p H' hp s1 ?_;unfold lfI;rw[if_neg he];exact g1
abbrev vS(K:δ)(b:uH)(us:List V)(ps:List Pc)(H:Hp)(Q:VK):Prop:=∀(p:uH)(ws:List V)(H':Hp),H p=none->Same H H'->H' p=some (.lst ws)->AH H' ws (BP ps)->Q (.ref p) H'
def fA(K:δ):Sp:=λvs H Q _=>∃(b:uH)(us:List V)(ps:List Pc),vs=[.ref b]/\H b=some (.lst us)/\AH H us ps/\ps.length<=4000/\vS K b us ps H Q
def JpW(f0:Option V)(p:uH)(ps:List Pc)(H:Hp)(i:Nat)(σ:L2.St)(H':Hp):Prop:=
 ∃(ws:List V)(x2 x3 x4:Option V),σ=[f0,some (.ref p),x2,x3,x4]/\Same H H'/\H' p=some (.lst ws)/\AH H' ws (BP (ps.take i))
include T in
theorem MG(S:Src K mg "joined_pieces" QZ):wO P w K mg base "joined_pieces" 1 ["pieces"] (fA K):=by
 refine S.okx Mb HL λf _ A _ s H vs Q E hr h=>?_;obtain⟨b,us,ps,rfl,hb,pa,hz,q⟩:=h;refine⟨_,PSs.nox (Ad (o_ 1 Mb (DU Ab)) (Ad (Db bj rfl (BU s_) (DS rfl (AO (p_ 2 Mb) (AO (p_ 3 Mb) (AO (p_ 4 Mb) Cl)))) (Af (Ay (PW.pt (Bw (BV r_ (λ_=>rfl)) (Bw (Bo (BV vw (λ_=>rfl))) (BQ (Bo (BV (Ar AG (Ar AY r_ (Gp Gq Ac)) Ac) (λ_=>rfl))))))) (Af (CT (Cg (Aa (Ar AG (Ar AY r_ (Gp Gq Ac)) Ac) (Aa (Am AL (Ar AG (Ar AY r_ (Gp Gq Ac)) Ac) u_) (Aa AR Ab)))) (GZ r_ (Gp Gq Ac) G4))) (Af (Bd (LF ff fb fe Kw r_ (Aa (Cg (Aa t_ (Aa u_ (Aa vw Ab)))) Ab))))))) (Af (Ao r_)))),?_⟩;walk_at "D";have hul:=pa.1;walk_at "";intro p hp;walk_at "";refine⟨b,rfl,⟨_,SqL.of (Same.new hp b _ hb)⟩,Ey (K:=K) (a:=b) (xs:=us) (JpW (some (.ref b)) p ps H) ⟨[],none,none,none,rfl,Same.new hp,upd_same,AH.nil⟩ (λi σ H2 _ ⟨_,_,_,_,_,s2,_⟩=>SqL.of (s2 b _ hb)) ?_ ?_⟩
 . rintro i y σ H2 hi ⟨ws,x2,x3,x4,rfl,s2,hp2,pw⟩;have hil:i<us.length:=(γ.mp hi).1;have hip:i<ps.length:=by omega
   have hz1:ps[i]?=some ps[i]:=by simp [hip]
   obtain⟨t,et,hT⟩:=pa.2 i ps[i] hz1;have ey:y = .ref t:=χ (hi.symm.trans et);subst ey;have hT2:=s2 t _ hT;have hj:=aN hz1;have hle:=aR ps i (by omega);generalize ps[i]=z at hT2 hj;have hwl:=pw.1;rcases Ea (BP (ps.take i)) with e | ⟨D,w,e⟩
   . rw[e] at pw hj hwl;have ew:ws=[]:=cv.mp hwl;subst ew;walk_at "";refine iteT ?_;walk_at "";intro t2 ht2;walk_at "";obtain⟨g1,g2⟩:=AH.push (z:=z) pw hp2 ht2;exact⟨_,_,_,_,rfl,(s2.put (s2.free ht2)).put hp,g1,by rw[hj];exact g2⟩
   . rw[e] at pw hj hle;obtain⟨ui,t1,rfl,pi,h1⟩:=pw.unsnoc;have hem:(ui++[V.ref t1]).isEmpty=false:=by simp
     rw[ι,Θ] at hle;have hpl:=pi.1;have hsz:(ui++[V.ref t1]).length<4000:=by rw[ι,Θ];omega
     walk_at "";rw[hem];walk_at "";refine CC (λhv=>?_) (λhv=>?_)
     . walk_at "";intro t2 ht2;walk_at "";obtain⟨g1,g2⟩:=AH.push (z:=z) pw hp2 ht2;exact⟨_,_,_,_,rfl,(s2.put (s2.free ht2)).put hp,g1,by rw[hj,Ha hv];exact g2⟩
     . walk_at "";refine G8 (SqL.of hp2) ?_;walk_at "";refine CC (λhv2=>?_) (λhv2=>?_)
       . walk_at "";intro t2 ht2;walk_at "";obtain⟨g1,g2⟩:=AH.push (z:=z) pw hp2 ht2;exact⟨_,_,_,_,rfl,(s2.put (s2.free ht2)).put hp,g1,by rw[hj,Hb hv2];exact g2⟩
       . walk_at "";refine G8 (SqL.of hp2) ?_;walk_at "";refine G8 (SqL.of hp2) ?_;walk_at "";intro t2 ht2;walk_at "";refine lA (xs:=ui) (v:=.ref t1) (look_put ht2 hp2) ?_;walk_at "";have g:=AH.relast (z:=⟨w.a,w.l+z.l,false⟩) pi hp2 ht2;exact⟨_,_,_,_,rfl,(s2.put (s2.free ht2)).put hp,upd_same,by rw[hj,Hc hv2 hv];exact g⟩
 . rintro σ H2 ⟨ws,x2,x3,x4,rfl,s2,hp2,pw⟩;walk_at "";rw[ar (by omega)] at pw;exact q p ws H2 hp s2 hp2 pw
def fB(K:δ):Sp:=λvs H Q _=>∃(a:uH)(cs:List Int)(ps:List Pc),vs=[.ref a]/\SqL K H a (cs.map V.int)/\cs.length<=4000/\Ak 0 ps cs.length/\By cs 0=(ps,none) /\
 ∀(p:uH)(H':Hp),H p=none->Same H H'->H' p=some (.lst ((Dg cs (BP ps)).map V.int))->Q (.ref p) H'
def JdW(f0:Option V)(lp:uH)(us:List V)(js:List Pc)(cs:List Int)(H:Hp)(i:Nat)(σ:L2.St)(H':Hp):Prop:=
 ∃(r:uH)(x2 x3 x4:Option V),σ=[f0,some (.ref r),x2,x3,x4]/\H r=none/\Same H H'/\H' r=some (.lst ((Dg cs (js.take i)).map V.int))/\H' lp=some (.lst us)/\AH H' us js
variable (AA:wO P w K mg base "looked" 4 ["cells"] (aI K Y5))
variable (Do:wO P w K mg base "joined_pieces" 1 ["pieces"] (fA K))
include T Aq AA Do in
theorem MH(S:Src K mg "joined" Q0):wO P w K mg base "joined" 5 ["cells"] (fB K):=by
 refine S.okx KK HM λf _ A _ s H vs Q E hr h=>?_;obtain⟨a,cs,ps,rfl,hS,hz,hc,hw,q⟩:=h;refine⟨_,PSs.nox (Ad (o_ 1 KK (EE Gu (by rfl) T.n_list cc (Aa s_ Ab))) (Ad (Db bj rfl (BU (q_ Do hr (Aa (q_ AA hr (Aa s_ Ab)) Ab))) (DS rfl (AO (p_ 2 KK) (AO (p_ 3 KK) (AO (p_ 4 KK) Cl)))) (Af (o_ 1 KK (q_ Aq hr (Aa r_ (Aa t_ (Aa u_ (Aa vw Ab)))))))) (Af (Ao r_)))),?_⟩;walk_at "D";walk_at "";intro r0 hr0;have s0:Same H (upd H r0 (.lst (cs.map V.int))):=Same.new hr0;have e0:upd H r0 (.lst (cs.map V.int)) r0=some (.lst (cs.map V.int)):=upd_same;generalize upd H r0 (.lst (cs.map V.int))=H0 at s0 e0 ⊢;walk_at "";refine⟨a,cs,rfl,s0.seq hS,hz,(λc hc=>by rw[hw] at hc;cases hc),λ_ lp us H1 nlp s1 hlp pa=>?_⟩;have pa:AH H1 us ps:=by rw[hw] at pa;exact pa
 have hps:(ps.length:Int)<=cs.length:=by have:=hc.le;omega
 walk_at "";refine⟨lp,us,ps,rfl,hlp,pa,by omega,λjp js H2 njp s2 hjp pj=>?_⟩;have jc:=aP hc;generalize BP ps=qs at pj jc q;have hjl:=pj.1;have s02:=(s0.trans s1).trans s2;refine⟨jp,rfl,⟨_,SqL.of hjp⟩,Ey (K:=K) (a:=jp) (xs:=js) (JdW (some (.ref a)) jp js qs cs H) ⟨r0,none,none,none,rfl,hr0,s02,s2 _ _ (s1 _ _ e0),hjp,pj⟩ (λi σ H2 _ ⟨_,_,_,_,_,_,_,_,h,_⟩=>SqL.of h) ?_ ?_⟩
 . rintro i y σ H3 hi ⟨r,x2,x3,x4,rfl,nr,s3,hr3,hj3,pj3⟩;have hil:i<js.length:=(γ.mp hi).1;have hip:i<qs.length:=by omega
   have hz1:qs[i]?=some qs[i]:=by simp [hip]
   obtain⟨t,et,hT⟩:=pj3.2 i qs[i] hz1;have ey:y = .ref t:=χ (hi.symm.trans et);subst ey;have hj:=lO (cs:=cs) hz1;obtain⟨z0,z1,_,z4⟩:=jc.mem qs[i] (by simp);generalize qs[i]=z at hT hj z0 z1 z4;have hll:=S8 (qs.take i) cs;walk_at "";refine⟨r,Dg cs (qs.take i),z.a,z.l,z.v,rfl,SqL.of hr3,by omega,z0,z1,by omega,λp H4 np s4 hp4=>?_⟩;walk_at "";exact⟨p,_,_,_,rfl,s3.free np,s3.trans s4,by rw[hj];exact hp4,s4 _ _ hj3,pj3.same s4⟩
 . rintro σ H3 ⟨r,x2,x3,x4,rfl,nr,s3,hr3,hj3,pj3⟩;walk_at "";rw[ar (by omega)] at hr3;exact q r H3 nr s3 hr3
abbrev vT(K:δ)(C:uH)(a:uH)(cs:List Int)(ps:List Pc)(k:Int)(H:Hp)(Q:VK)(E:XK):Prop:=(∀z∈ps,z.a=k->∀(t:uH)(H':Hp),Same H H'->H' t=some (.tup [.int z.a,.int z.l,.bl z.v])->Q (.ref t) H') /\ ((∀z∈ps,z.a≠k)->∀(H':Hp),Same H H'->E (.ref C) none H')
def fC(K:δ)(C:uH):Sp:=λvs H Q E=>∃(a:uH)(cs:List Int)(ps:List Pc)(k:Int),vs=[.ref a,.int k]/\SqL K H a (cs.map V.int)/\cs.length<=4000/\By cs 0=(ps,none)/\vT K C a cs ps k H Q E
def PaW(f0 f1:Option V)(H1:Hp)(ps:List Pc)(k:Int)(i:Nat)(σ:L2.St)(H':Hp):Prop:=H1=H'/\∃x2:Option V,σ=[f0,f1,x2]/\∀z∈ps.take i,z.a≠k
include T AA in
theorem MI(S:Src K mg "piece_at" QP):wO P w K mg base "piece_at" 5 ["cells","at"] (fC K Y3):=by
 refine S.okx dW HB λf _ A _ s H vs Q E hr h=>?_;obtain⟨a,cs,ps,k,rfl,hS,hz,hw,q,qe⟩:=h;refine⟨_,(Ad (Db ph rfl (BU (Bt AA hr (by rfl) (Aa s_ Ab))) (p_ 2 dW) (Af (Ay (As AN (Ar AG t_ Ac) r_) (Af (Ao t_)) Az))) (Af (Cu T.T4 hr.hd rfl (Aa AM Ab)))),?_⟩;walk_at "D";walk_at "";refine⟨a,cs,rfl,hS,hz,(λc hc=>by rw[hw] at hc;cases hc),λ_ lp us H1 nlp s1 hlp pa=>?_⟩;have pa:AH H1 us ps:=by rw[hw] at pa;exact pa
 have hul:=pa.1;refine⟨lp,rfl,⟨_,SqL.of hlp⟩,Ey (K:=K) (a:=lp) (xs:=us) (PaW (some (.ref a)) (some (.int k)) H1 ps k) ⟨rfl,none,rfl,λz hz=>by cases hz⟩ (λi σ H2 _ ⟨h,_⟩=>h▸SqL.of hlp) ?_ ?_⟩
 . rintro i y σ H2 hi ⟨rfl,x2,rfl,hq⟩;have hil:i<us.length:=(γ.mp hi).1;have hip:i<ps.length:=by omega
   obtain⟨t,et,hT⟩:=pa.2 i ps[i] (by simp [hip]);have ey:y = .ref t:=χ (hi.symm.trans et);subst ey;walk_at "";refine AJ (λhk=>?_) (λhk=>?_)
   . walk_at "";exact q ps[i] (by simp) hk t _ s1 hT
   . walk_at "";refine⟨rfl,_,rfl,λz hz=>?_⟩;rw[ck,Ω hip] at hz;rcases θ.mp hz with h | h
     . exact hq z h
     . have:z=ps[i]:=by simpa using h
       rw[this];exact hk
 . rintro σ H2 ⟨rfl,x2,rfl,hq⟩;rw[ar (by omega)] at hq;walk_at "";exact qe hq _ s1
abbrev vU(K:δ)(C:uH)(v:Bool)(a:uH)(cs:List Int)(ps:List Pc)(k:Int)(H:Hp)(Q:VK)(E:XK):Prop:=(∀z∈ps,z.a=k->z.v=v->∀(t:uH)(H':Hp),Same H H'->H' t=some (.tup [.int z.a,.int z.l,.bl z.v])->Q (.ref t) H') /\ ((∀z∈ps,z.a=k->z.v≠v)->∀(H':Hp),Same H H'->E (.ref C) none H')
def Sb(K:δ)(C:uH)(v:Bool):Sp:=λvs H Q E=>∃(a:uH)(cs:List Int)(ps:List Pc)(k:Int),vs=[.ref a,.int k]/\SqL K H a (cs.map V.int)/\cs.length<=4000/\By cs 0=(ps,none)/\Ak 0 ps cs.length/\vU K C v a cs ps k H Q E
variable (B1:wO P w K mg base "piece_at" 5 ["cells","at"] (fC K Y3))
include T B1 in
theorem MJ(S:Src K mg "live_at" QQ):wO P w K mg base "live_at" 6 ["cells","at"] (Sb K Y3 true):=by
 refine S.okx dX HC λf _ A _ s H vs Q E hr h=>?_;obtain⟨a,cs,ps,k,rfl,hS,hz,hw,hc,q,qe⟩:=h;refine⟨_,(Ad (o_ 2 dX (Bt B1 hr (by rfl) (Aa s_ (Aa r_ Ab)))) (Ad (Ay (Bo (BV (Ar AG t_ Ac) (λ_=>rfl))) (Af (Cu T.T4 hr.hd rfl (Aa AM Ab))) Az) (Af (Ao t_)))),?_⟩;walk_at "D";walk_at "";refine⟨a,cs,ps,k,rfl,hS,hz,hw,λz hm hk t H1 s1 ht=>?_,λhn H1 s1=>qe (λz hz hk=>absurd hk (hn z hz)) _ s1⟩;walk_at "";refine CC (λhv=>?_) (λhv=>?_)
 . walk_at "";exact q z hm hk hv t _ s1 ht
 . walk_at "";refine qe (λy hy hk2=>?_) _ s1;rw[Cj hc hy hm (by omega),hv];exact λz=>nomatch z
include T B1 in
theorem MK(S:Src K mg "free_at" QR):wO P w K mg base "free_at" 6 ["cells","at"] (Sb K Y3 false):=by
 refine S.okx dY HD λf _ A _ s H vs Q E hr h=>?_;obtain⟨a,cs,ps,k,rfl,hS,hz,hw,hc,q,qe⟩:=h;refine⟨_,(Ad (o_ 2 dY (Bt B1 hr (by rfl) (Aa s_ (Aa r_ Ab)))) (Ad (Ay (BV (Ar AG t_ Ac) (λ_=>rfl)) (Af (Cu T.T4 hr.hd rfl (Aa AM Ab))) Az) (Af (Ao t_)))),?_⟩;walk_at "D";walk_at "";refine⟨a,cs,ps,k,rfl,hS,hz,hw,λz hm hk t H1 s1 ht=>?_,λhn H1 s1=>qe (λz hz hk=>absurd hk (hn z hz)) _ s1⟩;walk_at "";refine CC (λhv=>?_) (λhv=>?_)
 . walk_at "";refine qe (λy hy hk2=>?_) _ s1;rw[Cj hc hy hm (by omega),hv];exact λz=>nomatch z
 . walk_at "";exact q z hm hk hv t _ s1 ht
abbrev vV(K:δ)(CP CR:uH)(a:uH)(cs:List Int)(ps:List Pc)(k s L:Int)(H:Hp)(Q:VK)(E:XK):Prop:=(∀z∈ps,z.a=k->z.v=false->z.a<=s->s+L<=z.a+z.l->∀(p:uH)(H':Hp),H p=none->Same H H'->H' p=some (.lst ((xq cs z.a z.l s L).map V.int))->Q (.ref p) H') /\ (∀z∈ps,z.a=k->z.v=false->¬(z.a<=s/\s+L<=z.a+z.l)->∀(H':Hp),Same H H'->E (.ref CR) none H') /\ ((∀z∈ps,z.a=k->z.v≠false)->∀(H':Hp),Same H H'->E (.ref CP) none H')
def y_(K:δ)(CP CR:uH):Sp:=λvs H Q E=>∃(a:uH)(cs:List Int)(ps:List Pc)(k s L:Int),vs=[.ref a,.int k,.int s,.int L]/\SqL K H a (cs.map V.int)/\cs.length<=4000/\Ak 0 ps cs.length/\Au cs ps/\1<=L/\vV K CP CR a cs ps k s L H Q E
variable (Dp:wO P w K mg base "free_at" 6 ["cells","at"] (Sb K Y3 false))
variable (A4:wO P w K mg base "laid_free" 3 ["cells","begin","end"] (eZ K))
include T Aq Dp A4 in
theorem ML(S:Src K mg "cut_out" QW):wO P w K mg base "cut_out" 7 ["cells","at","place","long"] (y_ K Y3 AT):=by
 refine S.okx HJ HK λf _ A _ s H vs Q E hr h=>?_;obtain⟨a,cs,ps,k,s,L,rfl,hS,hz,hc,mk,hL,q,qr,qe⟩:=h;refine⟨_,(Ad (CT (Bt Dp hr (by rfl) (Aa s_ (Aa r_ Ab))) (DS rfl (AO (p_ 4 HJ) (AO (p_ 5 HJ) (AO (p_ 6 HJ) Cl))))) (Ad (o_ 7 HJ (Am AL vw vx)) (Ad (Ay (PW.pt (Bn (As Ct t_ vw) (BR (As DT (Am AL t_ u_) vy)))) (Af (Cu T.Mv hr.hd rfl (Aa AM Ab))) Az) (Ad (o_ 8 HJ (q_ A4 hr (Aa s_ (Aa vw (Aa t_ Ab))))) (Ad (o_ 8 HJ (q_ Aq hr (Aa (pv 8) (Aa t_ (Aa u_ (Aa AR Ab)))))) (Af (Ao (q_ A4 hr (Aa (pv 8) (Aa (Am AL t_ u_) (Aa vy Ab))))))))))),?_⟩;walk_at "D";have hw:=BZ hc mk;walk_at "";refine⟨a,cs,ps,k,rfl,hS,by omega,hw,hc,λz hm hk hv t H1 s1 ht=>?_,λhn H1 s1=>qe hn _ s1⟩;obtain⟨z0,z1,_,z4⟩:=hc.mem z hm;walk_at "";refine AJ (λh1=>?_) (λh1=>?_)
 . walk_at "";exact qr z hm hk hv (by omega) _ s1
 . walk_at "";refine AJ (λh2=>?_) (λh2=>?_)
   . walk_at "";exact qr z hm hk hv (by omega) _ s1
   . walk_at "";refine⟨a,cs,z.a,s,rfl,s1.seq hS,hz,z0,by omega,by omega,λp2 H2 n2 s2 g2=>?_⟩;walk_at "";refine⟨p2,lfI cs z.a s,s,L,true,rfl,SqL.of g2,by rw[Df];exact hz,by omega,hL,by rw[Df];omega,λp3 H3 n3 s3 g3=>?_⟩;walk_at "";refine⟨p3,AS (lfI cs z.a s) s L true,s+L,z.a+z.l,rfl,SqL.of g3,by rw[B0,Df];exact hz,by omega,by omega,by rw[B0,Df];omega,λp4 H4 n4 s4 g4=>?_⟩;walk_at "";have s13:=(s1.trans s2).trans s3;exact q z hm hk hv (by omega) (by omega) p4 H4 (s13.free n4) (s13.trans s4) g4
def fD(K:δ):Sp:=λvs H Q _=>∃(a:uH)(cs:List Int)(ps:List Pc)(i:Nat)(z:Pc),vs=[.ref a,.int z.a]/\SqL K H a (cs.map V.int)/\Ak 0 ps cs.length/\Au cs ps/\ps[i]?=some z/\Q (.int (xa ps i z)) H
def fE(K:δ):Sp:=λvs H Q _=>∃(a:uH)(cs:List Int)(ps:List Pc)(i:Nat)(z:Pc),vs=[.ref a,.int (z.a+z.l)]/\SqL K H a (cs.map V.int)/\Ak 0 ps cs.length/\Au cs ps/\ps[i]?=some z/\Q (.int (wQ ps i z)) H
include T AC AU in
theorem MM(S:Src K mg "free_begin" QT):wO P w K mg base "free_begin" 2 ["cells","at"] (fD K):=by
 refine S.okx HF HG λf _ A _ s H vs Q E hr h=>?_;obtain⟨a,cs,ps,i,z,rfl,hS,hc,mk,hi,q⟩:=h;refine⟨_,PSs.nox (Ad (Ay (PW.pt (Bn (As AN r_ Ac) (BR (Cy (q_ AU hr (Aa (Ar AY s_ (Am Bk r_ Ac)) Ab)))))) (Af (Ao r_)) Az) (Af (Ao (Am Bk r_ (q_ AC hr (Aa (Ar AY s_ (Am Bk r_ Ac)) Ab)))))),?_⟩;walk_at "D";obtain⟨z0,z1,_,z4⟩:=hc.mem z (ε hi);cases i with
 | zero=>
   have e:=lG hc hi;walk_at "";exact q
 | succ j=>
   have hp:=SX hc hi;have hj:j<ps.length:=by have:=(γ.mp hi).1;omega
   have hy:ps[j]?=some ps[j]:=by simp [hj]
   have hm:=lI hc mk hy hi;have hn:=DW hc hy hi;generalize ps[j]=y at hy hm hn;have hm':cs.getD (z.a-1).toNat 0=xg y.l y.v:=hm;walk_at "";rw[hm',LG];refine CC (λhv=>?_) (λhv=>?_)
   . walk_at "";rw[Qi hy hv] at q;exact q
   . walk_at "";rw[hm',G5,show z.a-y.l=y.a by omega];rw[Qj hy hv] at q;exact q
include T AC AU in
theorem MN(S:Src K mg "free_end" QU):wO P w K mg base "free_end" 2 ["cells","end"] (fE K):=by
 refine S.okx HH HI λf _ A _ s H vs Q E hr h=>?_;obtain⟨a,cs,ps,i,z,rfl,hS,hc,mk,hi,q⟩:=h;refine⟨_,PSs.nox (Ad (Ay (PW.pt (Bn (As AN r_ (Bs CW (by rfl) T.n_len bq (Aa s_ Ab))) (BR (Cy (q_ AU hr (Aa (Ar AY s_ r_) Ab)))))) (Af (Ao r_)) Az) (Af (Ao (Am AL r_ (q_ AC hr (Aa (Ar AY s_ r_) Ab)))))),?_⟩;walk_at "D";obtain⟨z0,z1,_,z4⟩:=hc.mem z (ε hi);by_cases hl:ps.length=i+1
 . have e:=lF hc hi hl;walk_at "";rw[SZ (cn (by omega))] at q;exact q
 . have hj:i+1<ps.length:=by have:=(γ.mp hi).1;omega
   have hy:ps[i+1]?=some ps[i+1]:=by simp [hj]
   have hm:=lJ hc mk hi hy;have hn:=DW hc hi hy;generalize ps[i+1]=y at hy hm hn;obtain⟨y0,y1,_,y4⟩:=hc.mem y (ε hy);have hm':cs.getD (z.a+z.l).toNat 0=xg y.l y.v:=hm;walk_at "";rw[hm',LG];refine CC (λhv=>?_) (λhv=>?_)
   . walk_at "";rw[Qk hy hv] at q;exact q
   . walk_at "";rw[hm',G5,<-hn];rw[Ql hy hv] at q;exact q
abbrev vW(K:δ)(C:uH)(a:uH)(cs:List Int)(ps:List Pc)(k:Int)(H:Hp)(Q:VK)(E:XK):Prop:=(∀i z,ps[i]?=some z->z.a=k->z.v=true->∀(p:uH)(H':Hp),H p=none->Same H H'->H' p=some (.lst ((lfI cs (xa ps i z) (wQ ps i z)).map V.int))->Q (.ref p) H') /\ ((∀z∈ps,z.a=k->z.v≠true)->∀(H':Hp),Same H H'->E (.ref C) none H')
def fF(K:δ)(C:uH):Sp:=λvs H Q E=>∃(a:uH)(cs:List Int)(ps:List Pc)(k:Int),vs=[.ref a,.int k]/\SqL K H a (cs.map V.int)/\cs.length<=4000/\Ak 0 ps cs.length/\Au cs ps/\vW K C a cs ps k H Q E
variable (A9:wO P w K mg base "live_at" 6 ["cells","at"] (Sb K Y3 true))
variable (Dq:wO P w K mg base "free_begin" 2 ["cells","at"] (fD K))
variable (B3:wO P w K mg base "free_end" 2 ["cells","end"] (fE K))
include T A4 A9 Dq B3 in
theorem JC(S:Src K mg "freed" QX):wO P w K mg base "freed" 7 ["cells","at"] (fF K Y3):=by
 refine S.okx QY pD λf _ A _ s H vs Q E hr h=>?_;obtain⟨a,cs,ps,k,rfl,hS,hz,hc,mk,q,qe⟩:=h;refine⟨_,(Ad (CT (Bt A9 hr (by rfl) (Aa s_ (Aa r_ Ab))) (DS rfl (AO (p_ 2 QY) (AO (p_ 3 QY) (AO (p_ 4 QY) Cl))))) (Af (Ao (q_ A4 hr (Aa s_ (Aa (q_ Dq hr (Aa s_ (Aa t_ Ab))) (Aa (q_ B3 hr (Aa s_ (Aa (Am AL t_ u_) Ab))) Ab))))))),?_⟩;walk_at "D";have hw:=BZ hc mk;walk_at "";refine⟨a,cs,ps,k,rfl,hS,hz,hw,hc,λz hm hk hv t H1 s1 ht=>?_,λhn H1 s1=>qe hn _ s1⟩;obtain⟨i,hi⟩:=ai hm;have b1:=aM hc hi;have b2:=SY hc hi;have hS1:=s1.seq hS;obtain⟨z0,z1,_,z4⟩:=hc.mem z hm;walk_at "";refine⟨a,cs,ps,i,z,rfl,hS1,hc,mk,hi,?_⟩;walk_at "";refine⟨a,cs,ps,i,z,rfl,hS1,hc,mk,hi,?_⟩;walk_at "";refine⟨a,cs,_,_,rfl,hS1,hz,b1.1,by omega,by omega,λp H2 n2 s2 g2=>?_⟩;walk_at "";exact q i z hi hk hv p H2 (s1.free n2) (s1.trans s2) g2
abbrev vX(K:δ)(a:uH)(cs:List Int)(s g c:Int)(H:Hp)(Q:VK):Prop:=∀(p:uH)(H':Hp),H p=none->Same H H'->H' p=some (.lst ((xt cs s.toNat g.toNat c.toNat).map V.int))->Q (.ref p) H'
def fG(K:δ):Sp:=λvs H Q _=>∃(a:uH)(cs:List Int)(s g c:Int),vs=[.ref a,.int s,.int g,.int c]/\SqL K H a (cs.map V.int)/\cs.length<=1200/\0<=s/\0<=g/\0<=c/\s+c<=cs.length/\g+c<=cs.length/\vX K a cs s g c H Q
include T in
theorem MO(S:Src K mg "carried" Q2):wO P w K mg base "carried" 1 ["cells","source","goal","count"] (fG K):=by
 refine S.okx eE HN λf _ A _ s H vs Q E hr h=>?_;obtain⟨a,cs,s,g,c,rfl,hS,hz,h0,h1,h2,h3,h4,q⟩:=h;refine⟨_,PSs.nox (Ad (o_ 4 eE (EE Gu (by rfl) T.n_list cc (Aa s_ Ab))) (Af (Ao (Am SB (Am SB (LB LC vw Sz (G3 t_)) (LB LC vw (G3 r_) (G3 (Am AL r_ u_)))) (LB LC vw (G3 (Am AL t_ u_)) Sz))))),?_⟩;walk_at "D";have n1:=SR cs none (some g);have n2:=SR cs (some s) (some (s+c));have n3:=SR cs (some (g+c)) none;walk_at "";intro p0 m0;have s0:Same H (upd H p0 (.lst (cs.map V.int))):=Same.new m0;have e0:upd H p0 (.lst (cs.map V.int)) p0=some (.lst (cs.map V.int)):=upd_same;generalize upd H p0 (.lst (cs.map V.int))=H0 at s0 e0 ⊢;have hS0:SqL K H0 p0 (cs.map V.int):=SqL.of e0;clear hS;walk_at "";intro p1 H1 m1 s1 hh1;have hS1:=s1.seq hS0;walk_at "";intro p2 H2 m2 s2 hh2;have h1':=s2 p1 _ hh1;have hS2:=s2.seq hS1;walk_at "";intro p3 H3 m3 s3 hh3;have hS3:=s3.seq hS2;walk_at "";intro p4 H4 m4 s4 hh4;have h3':=s4 p3 _ hh3;have n4:(xo cs none (some g)++xo cs (some s) (some (s+c))).length+(xo cs (some (g+c)) none).length<=4000:=by rw[ι];omega
 walk_at "";intro p5 H5 m5 s5 h5;walk_at "";have s14:=(((s0.trans s1).trans s2).trans s3).trans s4;refine q p5 H5 (s14.free m5) (s14.trans s5) ?_;rw[h5,yp h1 (by omega),nG h0 h2 h3,nH (by omega) h4];unfold xt;rw[show (g+c).toNat=g.toNat+c.toNat by omega]
def fH(CA:uH):Sp:=λvs H Q E=>∃c b:Int,vs=[.int c,.int b]/\(c<1\/b<1->E (.ref CA) none H)/\(1<=c->1<=b->Q .non H)
include T in
theorem MP(S:Src K mg "check_ask" QF):wO P w K mg base "check_ask" 1 ["count","bound"] (fH C8):=by
 refine S.okx Hm Hn λf _ A _ s H vs Q E hr h=>?_;obtain⟨c,b,rfl,qe,q⟩:=h;refine⟨_,(Af (Ay (PW.pt (Bn (As Ct s_ Ac) (BR (As Ct r_ Ac)))) (Af (Cu T.pW hr.hd rfl (Aa AM Ab))) Az)),?_⟩;walk_at "D";walk_at "";refine AJ (λh1=>?_) (λh1=>?_)
 . walk_at "";exact qe (.inl h1)
 . walk_at "";refine AJ (λh2=>?_) (λh2=>?_)
   . walk_at "";exact qe (.inr h2)
   . walk_at "";exact q (by omega) (by omega)
def BgW(H1:Hp)(ps:List Pc)(s:Int)(D:uH)(i:Nat)(ys:List V)(H2:Hp):Prop:=Same H1 H2/\H2 D=some (.lst ys)/\ys=(((ps.take i).filter λz=>decide (z.a<=s)).map λz=>V.int z.a)
def fJ(CA CB:uH):Sp:=λvs H Q E=>∃c b:Int,vs=[.int c,.int b]/\(c<1\/b<1->E (.ref CA) none H)/\(1<=c->1<=b->b≠1->E (.ref CB) none H)/\(1<=c->b=1->Q .non H)
variable (Ba:wO P w K mg base "check_ask" 1 ["count","bound"] (fH C8))
include T Ba in
theorem Ua(S:Src K mg "check_plain_ask" EK):wO P w K mg base "check_plain_ask" 2 ["count","bound"] (fJ C8 Y2):=by
 refine S.okx L9 Ma λf _ A _ s H vs Q E hr h=>?_;obtain⟨c,b,rfl,qa,qb,q⟩:=h;refine⟨_,(Ad (Bd (Bt Ba hr (by rfl) (Aa s_ (Aa r_ Ab)))) (Af (Ay (As CU r_ Ac) (Af (Cu T.pX hr.hd rfl (Aa AM Ab))) Az))),?_⟩;walk_at "D";walk_at "";refine⟨c,b,rfl,qa,λh1 h2=>?_⟩;walk_at "";refine AJ (λh3=>?_) (λh3=>?_)
 . walk_at "";exact q h1 h3
 . walk_at "";exact qb h1 h2 h3
structure BS(C:W7->uH)(i:W7)(x dx a:uH)(r:Int)(cs:List Int)(ps:List Pc)(H:Hp):Prop where
 hx:H x=some (.ins (C i) dx (fsF i a r))
 ha:H a=some (.lst (cs.map V.int))
 hz:cs.length<=1200
 hc:Ak 0 ps cs.length
 mm:Au cs ps
structure KS(C:W7->uH)(x dx a:uH)(q:St7)(cs:List Int)(H:Hp):Prop where
 hx:H x=some (.ins (C q.let3) dx (fsF q.let3 a q.s))
 ha:H a=some (.lst (cs.map V.int))
 hl:(cs.length:Int)=q.n
 hz:cs.length<=1200
 ok:q.ok
 mm:Au cs q.ps
section
variable {C:W7->uH}{x dx a:uH}{q:St7}{cs:List Int}{H H':Hp}
theorem KS.same(S:KS C x dx a q cs H)(s:Same H H'):KS C x dx a q cs H':=⟨s x _ S.hx,s a _ S.ha,S.hl,S.hz,S.ok,S.mm⟩
theorem KS.ch(S:KS C x dx a q cs H):Ak 0 q.ps cs.length:=by rw[S.hl];exact St7.ch S.ok
theorem KS.bs(S:KS C x dx a q cs H):BS C q.let3 x dx a q.s cs q.ps H:=⟨S.hx,S.ha,S.hz,S.ch,S.mm⟩
end
abbrev vY(C:W7->uH)(i:W7)(x dx:uH)(n:Int)(H:Hp)(Q:VK):Prop:=∀(a:uH)(H':Hp),H a=none->AE x H H'->H' x=some (.ins (C i) dx [("room_cells",.ref a)])->H' a=some (.lst ((Bv n).map V.int))->Q .non H'
def yX(C:W7->uH):Sp:=λvs H Q _=>∃(i:W7)(x dx:uH)(n:Int),vs=[.ref x,.int n]/\H x=some (.ins (C i) dx [])/\1<=n/\n<=4000/\vY C i x dx n H Q
variable (AD:wO P w K mg base "fresh_room" 2 ["count"] (eX A5))
include T AD in
theorem MQ(F:Fun K "__init__" "Keeper.__init__" EQ f₀ fd₀)(M:ClsM K Y7 "__init__" f₀):xw P w K mg base "Keeper" "__init__" 3 ["self","size"] (yX (cF Ag Ah Ae Ai Y6 Y4 Aj)):=by
 refine⟨⟨Y7,f₀,fd₀,A3 F KO (λ_ A _ s H vs Q E hr h=>?_),M,F.binds KP,T.pP⟩⟩;obtain⟨i,x,dx,n,rfl,hx,h1,h4,q⟩:=h;refine⟨_,PSs.nox (Af (Cz s_ (q_ AD hr (Aa r_ Ab)) rfl)),?_⟩;walk_at "D";have cl:=wU T i;have na:=xk T i;walk_at "";refine⟨n,rfl,h4,λz=>absurd z (by omega),λ_ p H1 np s1 hp=>?_⟩;have hx1:=s1 x _ hx;have hne:p≠x:=λz=>by rw[z,hx] at np;cases np
 walk_at "";exact q p _ np (AE.of s1).put upd_same (look_ne hne hp)
abbrev vZ(C CS:uH)(x dx:uH)(n:Int)(H:Hp)(Q:VK)(E:XK):Prop:=(n<1->E (.ref CS) none H) /\ (1<=n->∀(a:uH)(H':Hp),H a=none->AE x H H'->H' x=some (.ins C dx [("room_cells",.ref a)])->H' a=some (.lst ((Bv n).map V.int))->Q .non H')
def xx(C CS:uH):Sp:=λvs H Q E=>∃(x dx:uH)(n:Int),vs=[.ref x,.int n]/\H x=some (.ins C dx [])/\n<=4000/\vZ C CS x dx n H Q E
include T AD in
theorem qL(F:Fun K "__init__" "Keeper.__init__" EQ f₀ fd₀)(M:Mk K Ag f₀):wY P w K mg base "First" Ag 3 ["self","size"] [] (xx Ag A5):=by
 refine⟨⟨f₀,fd₀,[],A3 F KO (λ_ A _ s H vs Q E hr h=>?_),M,F.binds KP,.nil⟩,T.pT⟩;obtain⟨x,dx,n,rfl,hx,h4,qe,q⟩:=h;refine⟨_,(Af (Cz s_ (Bt AD hr (by rfl) (Aa r_ Ab)) rfl)),?_⟩;walk_at "D";have cl:=T.R6;have na:=T.T5;walk_at "";refine⟨n,rfl,h4,λz=>qe z,λh1 p H1 np s1 hp=>?_⟩;have hx1:=s1 x _ hx;have hne:p≠x:=λz=>by rw[z,hx] at np;cases np
 walk_at "";exact q h1 p _ np (AE.of s1).put upd_same (look_ne hne hp)
include T AD in
theorem zZ(F:Fun K "__init__" "Keeper.__init__" EQ f₀ fd₀)(M:Mk K Ah f₀):wY P w K mg base "Best" Ah 3 ["self","size"] [] (xx Ah A5):=by
 refine⟨⟨f₀,fd₀,[],A3 F KO (λ_ A _ s H vs Q E hr h=>?_),M,F.binds KP,.nil⟩,T.c_Best⟩;obtain⟨x,dx,n,rfl,hx,h4,qe,q⟩:=h;refine⟨_,(Af (Cz s_ (Bt AD hr (by rfl) (Aa r_ Ab)) rfl)),?_⟩;walk_at "D";have cl:=T.R7;have na:=T.T6;walk_at "";refine⟨n,rfl,h4,λz=>qe z,λh1 p H1 np s1 hp=>?_⟩;have hx1:=s1 x _ hx;have hne:p≠x:=λz=>by rw[z,hx] at np;cases np
 walk_at "";exact q h1 p _ np (AE.of s1).put upd_same (look_ne hne hp)
include T AD in
theorem qM(F:Fun K "__init__" "Keeper.__init__" EQ f₀ fd₀)(M:Mk K Ai f₀):wY P w K mg base "Likes" Ai 3 ["self","size"] [] (xx Ai A5):=by
 refine⟨⟨f₀,fd₀,[],A3 F KO (λ_ A _ s H vs Q E hr h=>?_),M,F.binds KP,.nil⟩,T.pU⟩;obtain⟨x,dx,n,rfl,hx,h4,qe,q⟩:=h;refine⟨_,(Af (Cz s_ (Bt AD hr (by rfl) (Aa r_ Ab)) rfl)),?_⟩;walk_at "D";have cl:=T.R9;have na:=T.T7;walk_at "";refine⟨n,rfl,h4,λz=>qe z,λh1 p H1 np s1 hp=>?_⟩;have hx1:=s1 x _ hx;have hne:p≠x:=λz=>by rw[z,hx] at np;cases np
 walk_at "";exact q h1 p _ np (AE.of s1).put upd_same (look_ne hne hp)
include T AD in
theorem d_Row(F:Fun K "__init__" "Keeper.__init__" EQ f₀ fd₀)(M:Mk K Aj f₀):wY P w K mg base "Row" Aj 3 ["self","size"] [] (xx Aj A5):=by
 refine⟨⟨f₀,fd₀,[],A3 F KO (λ_ A _ s H vs Q E hr h=>?_),M,F.binds KP,.nil⟩,T.c_Row⟩;obtain⟨x,dx,n,rfl,hx,h4,qe,q⟩:=h;refine⟨_,(Af (Cz s_ (Bt AD hr (by rfl) (Aa r_ Ab)) rfl)),?_⟩;walk_at "D";have cl:=T.cl_Row;have na:=T.T9;walk_at "";refine⟨n,rfl,h4,λz=>qe z,λh1 p H1 np s1 hp=>?_⟩;have hx1:=s1 x _ hx;have hne:p≠x:=λz=>by rw[z,hx] at np;cases np
 walk_at "";exact q h1 p _ np (AE.of s1).put upd_same (look_ne hne hp)
include T AD in
theorem MR(F:Fun K "__init__" "Keeper.__init__" EQ f₀ fd₀)(M:ClsM K Y1 "__init__" f₀):xw P w K mg base "Stretches" "__init__" 3 ["self","size"] (xx Ae A5):=by
 refine⟨⟨Y1,f₀,fd₀,A3 F KO (λ_ A _ s H vs Q E hr h=>?_),M,F.binds KP,T.pS⟩⟩;obtain⟨x,dx,n,rfl,hx,h4,qe,q⟩:=h;refine⟨_,(Af (Cz s_ (Bt AD hr (by rfl) (Aa r_ Ab)) rfl)),?_⟩;walk_at "D";have cl:=T.Jz;have na:=T.KR;walk_at "";refine⟨n,rfl,h4,λz=>qe z,λh1 p H1 np s1 hp=>?_⟩;have hx1:=s1 x _ hx;have hne:p≠x:=λz=>by rw[z,hx] at np;cases np
 walk_at "";exact q h1 p _ np (AE.of s1).put upd_same (look_ne hne hp)
abbrev v_(C CS:uH)(x dx:uH)(n:Int)(H:Hp)(Q:VK)(E:XK):Prop:=(n<1->E (.ref CS) none H) /\ (1<=n->∀(a:uH)(H':Hp),H a=none->AE x H H'->H' x=some (.ins C dx [("room_cells",.ref a),("room_rover",.int 0)])->H' a=some (.lst ((Bv n).map V.int))->Q .non H')
def yV(C CS:uH):Sp:=λvs H Q E=>∃(x dx:uH)(n:Int),vs=[.ref x,.int n]/\H x=some (.ins C dx [])/\n<=4000/\v_ C CS x dx n H Q E
variable (Dr:xw P w K mg base "Stretches" "__init__" 3 ["self","size"] (xx Ae A5))
include T Dr in
theorem zY(F:Fun K "__init__" "Next.__init__" RG f₀ fd₀)(M:Mk K Ae f₀):wY P w K mg base "Next" Ae 4 ["self","size"] [] (yV Ae A5):=by
 refine⟨⟨f₀,fd₀,[],A3 F pG (λ_ A _ s H vs Q E hr h=>?_),M,F.binds pH,.nil⟩,T.c_Next⟩;obtain⟨x,dx,n,rfl,hx,h4,qe,q⟩:=h;refine⟨_,(Ad (Bd (SQ Dr Bl hr (by rfl) (Aa s_ (Aa r_ Ab)))) (Af (Cz s_ Ac rfl))),?_⟩;walk_at "D";have cl:=T.Jz;have na:=T.KR;have nr:=T.R8;walk_at "";refine⟨x,dx,n,rfl,hx,h4,λz=>qe z,λh1 a H1 na1 k1 hx1 ha1=>?_⟩;have hne:a≠x:=λz=>by rw[z,hx1] at ha1;cases ha1
 walk_at "";exact q h1 a _ na1 (k1.trans AE.refl.put) upd_same (look_ne hne ha1)
def fsB(i:W7)(r:Int):Int:=match i with
 | .shel=>r
 | _=>0
def bgC(i:W7)(cs:List Int)(ps:List Pc):List Int:=match i with
 | .half=>cs
 | .shel=>cs
 | .row=>cs
 | _=>Dg cs (BP ps)
theorem zT{a:uH}{r:Int}(h:i≠W7.next):fsF i a r=fsF i a (fsB i r):=by cases i <;> first | rfl | exact absurd rfl h
theorem bgC_3(h:ok3 i):bgC i cs ps=cs:=by cases i <;> first | rfl | exact h.elim
theorem z_(h:ok4 i):bgC i cs ps=Dg cs (BP ps):=by cases i <;> first | rfl | exact h.elim
def okS:W7->Prop
 | .first=>True
 | .best=>True
 | .likes=>True
 | _=>False
theorem okS.four(h:okS i):ok4 i:=by cases i <;> first | exact trivial | exact h.elim
theorem okS.ne(h:okS i):i≠.next:=by rintro rfl;exact h
abbrev wc(K:δ)(C:W7->uH)(i:W7)(r:Int)(x h dx a:uH)(cs:List Int)(ps:List Pc)(H:Hp)(Q:VK):Prop:=∀(a':uH)(H':Hp),H a'=none->AE x H H'->H' x=some (.ins (C i) dx (fsF i a' (fsB i r)))->H' a'=some (.lst ((bgC i cs ps).map V.int))->Q .non H'
def MS(K:δ)(C:W7->uH)(i:W7):Sp:=λvs H Q _=>∃(r:Int)(x h dx a:uH)(cs:List Int)(ps:List Pc),vs=[.ref x,.ref h]/\H x=some (.ins (C i) dx (fsF i a r))/\SqL K H h (cs.map V.int)/\cs.length<=4000/\Ak 0 ps cs.length/\By cs 0=(ps,none)/\wc K C i r x h dx a cs ps H Q
include T in
theorem JD(F:Fun K "room_begin" "Keeper.room_begin" ER f₀ fd₀)(M:∀i,(ok3) i->wT K ((cF Ag Ah Ae Ai Y6 Y4 Aj) i) "room_begin" f₀):Bu P w K mg base (ok3) (cF Ag Ah Ae Ai Y6 Y4 Aj) "room_begin" 1 ["self","cells"] [] (MS K (cF Ag Ah Ae Ai Y6 Y4 Aj)):=by
 refine Bu.made (A3 F Mg (λ_ A _ s H vs Q E hr h=>?_)) M (F.binds Mh) (wU T);refine⟨_,PSs.nox (Af (Cz s_ (EE Gu (by rfl) T.n_list cc (Aa r_ Ab)) rfl)),?_⟩;obtain⟨i,hi,r,x,h,dx,a,cs,ps,rfl,hx,hS,hz,hc,hw,q⟩:=h;have hi:ok3 i:=hi;have cl:=wU T i;have na:=xk T i;walk_at "";intro p np;have s1:Same H (upd H p (.lst (cs.map V.int))):=Same.new np;have hx1:=s1 x _ hx;have hp:upd H p (.lst (cs.map V.int)) p=some (.lst (cs.map V.int)):=upd_same;have hne:p≠x:=λz=>by rw[z,hx] at np;cases np
 generalize upd H p (.lst (cs.map V.int))=H1 at s1 hx1 hp ⊢;walk_at "";refine q p _ np (AE.of s1).put (by rw[upd_same,KD,<-zT (λe=>by rw[e] at hi;exact hi)]) (by rw[bgC_3 hi];exact look_ne hne hp)
variable (B4:wO P w K mg base "joined" 5 ["cells"] (fB K))
include T B4 in
theorem JE(F:Fun K "room_begin" "Stretches.room_begin" ES f₀ fd₀)(M:∀i,(okS) i->wT K ((cF Ag Ah Ae Ai Y6 Y4 Aj) i) "room_begin" f₀):Bu P w K mg base (okS) (cF Ag Ah Ae Ai Y6 Y4 Aj) "room_begin" 6 ["self","cells"] [] (MS K (cF Ag Ah Ae Ai Y6 Y4 Aj)):=by
 refine Bu.made (A3 F Mi (λ_ A _ s H vs Q E hr h=>?_)) M (F.binds Mj) (wU T);obtain⟨i,hi,r,x,h,dx,a,cs,ps,rfl,hx,hS,hz,hc,hw,q⟩:=h;refine⟨_,PSs.nox (Af (Cz s_ (q_ B4 hr (Aa r_ Ab)) rfl)),?_⟩;walk_at "D";have hi:okS i:=hi;have cl:=wU T i;have na:=xk T i;walk_at "";refine⟨h,cs,ps,rfl,hS,hz,hc,hw,λp H1 np s1 hp=>?_⟩;have hx1:=s1 x _ hx;have hne:p≠x:=λz=>by rw[z,hx] at np;cases np
 walk_at "";exact q p _ np (AE.of s1).put (by rw[upd_same,KD,<-zT hi.ne]) (by rw[z_ hi.four];exact look_ne hne hp)
include T B4 in
theorem JF(F:Fun K "room_begin" "Next.room_begin" ET f₀ fd₀)(M:∀i,(λi=>i=W7.next) i->wT K ((cF Ag Ah Ae Ai Y6 Y4 Aj) i) "room_begin" f₀):Bu P w K mg base (λi=>i=W7.next) (cF Ag Ah Ae Ai Y6 Y4 Aj) "room_begin" 6 ["self","cells"] [] (MS K (cF Ag Ah Ae Ai Y6 Y4 Aj)):=by
 refine Bu.made (A3 F Ml (λ_ A _ s H vs Q E hr h=>?_)) M (F.binds Mm) (wU T);obtain⟨i,hi,r,x,h,dx,a,cs,ps,rfl,hx,hS,hz,hc,hw,q⟩:=h;refine⟨_,PSs.nox (Ad (Cz s_ (q_ B4 hr (Aa r_ Ab)) rfl) (Af (Cz s_ Ac rfl))),?_⟩;walk_at "D";have hi:i=W7.next:=hi;subst hi;have hx:H x=some (.ins Ae dx [("room_cells",.ref a),("room_rover",.int r)]):=hx;have cl:=T.Jz;have na:=T.KR;have nr:=T.R8;walk_at "";refine⟨h,cs,ps,rfl,hS,hz,hc,hw,λp H1 np s1 hp=>?_⟩;have hx1:=s1 x _ hx;have hne:p≠x:=λz=>by rw[z,hx] at np;cases np
 walk_at "";generalize hH:upd H1 x _=H2;have hx2:H2 x=some (.ins Ae dx [("room_cells",.ref p),("room_rover",.int r)]):=by rw[<-hH];exact upd_same
 have hp2:H2 p=some (.lst ((Dg cs (BP ps)).map V.int)):=by rw[<-hH];exact look_ne hne hp
 have k2:AE x H H2:=by rw[<-hH];exact(AE.of s1).put
 walk_at "";exact q p _ np k2.put upd_same (look_ne hne hp2)
abbrev we(K:δ)(C:W7->uH)(i:W7)(r:Int)(x h dx a:uH)(cs0 cs:List Int)(ps:List Pc)(H:Hp)(Q:VK):Prop:=∀(a':uH)(H':Hp),H a'=none->AE x H H'->H' x=some (.ins (C i) dx (fsF i a' (fsB i r)))->H' a'=some (.lst ((bgC i cs ps).map V.int))->Q .non H'
def fK(K:δ)(C:W7->uH)(i:W7):Sp:=λvs H Q _=>∃(r:Int)(x h dx a:uH)(cs0 cs:List Int)(ps:List Pc),vs=[.ref x,.ref h]/\H x=some (.ins (C i) dx (fsF i a r))/\H a=some (.lst (cs0.map V.int))/\cs.length=cs0.length/\SqL K H h (cs.map V.int)/\cs.length<=4000/\Ak 0 ps cs.length/\By cs 0=(ps,none)/\we K C i r x h dx a cs0 cs ps H Q
variable (D_room_begin:A7 P w K mg base (cF Ag Ah Ae Ai Y6 Y4 Aj) "room_begin" 6 ["self","cells"] [] (MS K (cF Ag Ah Ae Ai Y6 Y4 Aj)))
include T AA D_room_begin in
theorem d_lay(F:Fun K "lay" "Keeper.lay" RJ f₀ fd₀)(M:∀i,wT K ((cF Ag Ah Ae Ai Y6 Y4 Aj) i) "lay" f₀):A7 P w K mg base (cF Ag Ah Ae Ai Y6 Y4 Aj) "lay" 7 ["self","cells"] [] (fK K (cF Ag Ah Ae Ai Y6 Y4 Aj)):=by
 refine A7.made (A3 F IP (λ_ A _ s H vs Q E hr h=>?_)) M (F.binds IQ) (wU T);obtain⟨i,r,x,h,dx,a,cs0,cs,ps,rfl,hx,ha,hl,hS,hz,hc,hw,q⟩:=h;refine⟨_,(Ad (Ay (As CU (Bs CW (by rfl) T.n_len bq (Aa r_ Ab)) (Bs CW (by rfl) T.n_len bq (Aa (BO s_ rfl) Ab))) (Af (Cu T.R5 hr.hd rfl (Aa AM Ab))) Az) (Ad (Bd (Bt AA hr (by rfl) (Aa r_ Ab))) (Af (Bd (BG D_room_begin Bz hr s_ (Aa r_ Ab)))))),?_⟩;walk_at "D";have cl:=wU T i;have na:=xk T i;walk_at "";refine⟨h,cs,rfl,hS,hz,(λc hc=>by rw[hw] at hc;cases hc),λ_ lp us H1 nlp s1 hlp pa=>?_⟩;have hx1:=s1 x _ hx;walk_at "";refine⟨r,x,h,dx,a,cs,ps,rfl,hx1,s1.seq hS,hz,hc,hw,λa' H2 na2 k2 hx2 ha2=>?_⟩;walk_at "";exact q a' H2 (s1.free na2) ((AE.of s1).trans k2) hx2 ha2
abbrev wf(C:W7->uH)(i:W7)(r:Int)(x dx a:uH)(cs:List Int)(ps:List Pc)(H:Hp)(Q:VK):Prop:=∀(p:uH)(us:List V)(H':Hp),H p=none->Same H H'->H' p=some (.lst us)->AH H' us ps->Q (.ref p) H'
def fL(C:W7->uH)(i:W7):Sp:=λvs H Q _=>∃(r:Int)(x dx a:uH)(cs:List Int)(ps:List Pc),vs=[.ref x]/\BS C i x dx a r cs ps H/\wf C i r x dx a cs ps H Q
include T AA in
theorem MT(F:Fun K "pieces" "Keeper.pieces" RK f₀ fd₀)(M:∀i,wT K ((cF Ag Ah Ae Ai Y6 Y4 Aj) i) "pieces" f₀):A7 P w K mg base (cF Ag Ah Ae Ai Y6 Y4 Aj) "pieces" 5 ["self"] [] (fL (cF Ag Ah Ae Ai Y6 Y4 Aj)):=by
 refine A7.made (A3 F IR (λ_ A _ s H vs Q E hr h=>?_)) M (F.binds IS) (wU T);obtain⟨i,r,x,dx,a,cs,ps,rfl,⟨hx,ha,hz,hc,mk⟩,q⟩:=h;refine⟨_,PSs.nox (Af (Ao (q_ AA hr (Aa (BO s_ rfl) Ab)))),?_⟩;walk_at "D";have cl:=wU T i;have na:=xk T i;have hw:=BZ hc mk;walk_at "";refine⟨a,cs,rfl,SqL.of ha,by omega,(λc hc=>by rw[hw] at hc;cases hc),λ_ lp us H1 nlp s1 hlp pa=>?_⟩;walk_at "";exact q lp us H1 nlp s1 hlp (by rw[hw] at pa;exact pa)
abbrev wg(C:W7->uH)(k:W7)(r:Int)(x dx a:uH)(cs:List Int)(H:Hp)(Q:VK):Prop:=∀(p:uH)(H':Hp),H p=none->Same H H'->H' p=some (.lst (cs.map V.int))->Q (.ref p) H'
def fM(C:W7->uH)(k:W7):Sp:=λvs H Q _=>∃(r:Int)(x dx a:uH)(cs:List Int),vs=[.ref x]/\H x=some (.ins (C k) dx (fsF k a r))/\H a=some (.lst (cs.map V.int))/\wg C k r x dx a cs H Q
include T in
theorem JG(F:Fun K "cells" "Keeper.cells" RL f₀ fd₀)(M:∀i,wT K ((cF Ag Ah Ae Ai Y6 Y4 Aj) i) "cells" f₀):A7 P w K mg base (cF Ag Ah Ae Ai Y6 Y4 Aj) "cells" 1 ["self"] [] (fM (cF Ag Ah Ae Ai Y6 Y4 Aj)):=by
 refine A7.made (A3 F IT (λ_ A _ s H vs Q E hr h=>?_)) M (F.binds IU) (wU T);refine⟨_,PSs.nox (Af (Ao (EE Gu (by rfl) T.n_list cc (Aa (BO s_ rfl) Ab)))),?_⟩;obtain⟨k,r,x,dx,a,cs,rfl,hx,ha,q⟩:=h;have cl:=wU T k;have na:=xk T k;walk_at "";intro p np;walk_at "";exact q p _ np (Same.new np) upd_same
def bl(n:Int):Int:=((Builtin.Int.intBits n:Nat):Int)
section
variable {X:Cx}
def qO:V->List V->Hp->VK->Prop:=λx xs H Q=>∃i,x = .int i/\xs=[]/\Q (.int (bl i)) H
theorem fN:MtM X "int.bit_length" qO:=by
 intro pins s σ H x xs v us Q I rx rs h;obtain⟨i,rfl,rfl,q⟩:=h;obtain⟨t,rfl⟩:=rx;cases rs;exact pk ⟨.int (bl i),H,I.tok _,⟨_,rfl⟩,q⟩
end
theorem qP{n:Int}{k:Nat}(h2:2<=n)(h3:n<2^220)(hk:CF k n):bl (n-1)=(k:Int)/\(k:Int)<=1000:=by
 have e0:(n-1).natAbs=(n-1).toNat:=by omega
 have h1:=bP (c:=(n-1).toNat) (by omega);have e1:(((n-1).toNat:Nat):Int)+1=n:=by omega
 rw[e1] at h1;have e2:Builtin.Int.intBits (n-1)=(n-1).toNat.log2+1:=by
   unfold Builtin.Int.intBits;rw[if_neg (by simp;omega),e0]
 have e3:=h1.uniq hk;unfold bl;rw[e2,e3];refine⟨rfl,?_⟩;rcases gj 220 k with g | g
 . have:=hk.2 220 g;omega
 . omega
def D3(n:Int):Bool:=decide (1<=n)&&decide (Builtin.bitAnd n (n-1)=0)
def yS:Sp:=λvs H Q _=>∃n:Int,vs=[.int n]/\Q (.bl (D3 n)) H
include T in
theorem MU(S:Src K mg "is_power" Q3):wO P w K mg base "is_power" 1 ["number"] (yS):=by
 refine S.okx HP HQ λf _ A _ s H vs Q E hr h=>⟨_,PSs.nox (Af (Ao (Lu (CV Gr s_ Ac) (Ku (CV AN (Am ZK s_ (Am Bk s_ Ac)) Ac))))),?_⟩;obtain⟨n,rfl,q⟩:=h;unfold D3 at q;walk_at "";refine AJ (λh1=>?_) (λh1=>?_)
 . walk_at "";rw[decide_eq_true h1,oi] at q;exact q
 . walk_at "";rw[decide_eq_false h1,my] at q;exact q
abbrev wk(C CN:uH)(x dx:uH)(n:Int)(H:Hp)(Q:VK)(E:XK):Prop:=(D3 n=false->E (.ref CN) none H) /\ (D3 n=true->∀(a:uH)(H':Hp),H a=none->AE x H H'->H' x=some (.ins C dx [("room_cells",.ref a)])->H' a=some (.lst ((Bv n).map V.int))->Q .non H')
def yW(C CN:uH):Sp:=λvs H Q E=>∃(x dx:uH)(n:Int),vs=[.ref x,.int n]/\H x=some (.ins C dx [])/\n<=4000/\wk C CN x dx n H Q E
variable (Ds:wO P w K mg base "is_power" 1 ["number"] (yS))
variable (B5:xw P w K mg base "Keeper" "__init__" 3 ["self","size"] (yX (cF Ag Ah Ae Ai Y6 Y4 Aj)))
include T Ds B5 in
theorem qR(F:Fun K "__init__" "Halves.__init__" RH f₀ fd₀)(M:Mk K Y6 f₀):wY P w K mg base "Halves" Y6 4 ["self","size"] [] (yW Y6 A5):=by
 refine⟨⟨f₀,fd₀,[],A3 F pI (λ_ A _ s H vs Q E hr h=>?_),M,F.binds pJ,.nil⟩,T.pQ⟩;obtain⟨x,dx,n,rfl,hx,h4,qe,q⟩:=h;refine⟨_,(Ad (Ay (Bo (Cy (q_ Ds hr (Aa r_ Ab)))) (Af (Cu T.R5 hr.hd rfl (Aa AM Ab))) Az) (Af (Bd (SQ B5 Bz hr (by rfl) (Aa s_ (Aa r_ Ab)))))),?_⟩;walk_at "D";walk_at "";refine⟨n,rfl,?_⟩;walk_at "";refine CC (λhp=>?_) (λhp=>?_)
 . have h1:1<=n:=by
     unfold D3 at hp;rw[df,decide_eq_true_eq] at hp;exact hp.1
   walk_at "";refine⟨W7.half,x,dx,n,rfl,hx,h1,h4,λa H1 na k1 hx1 ha1=>?_⟩;walk_at "";exact q hp a H1 na k1 hx1 ha1
 . walk_at "";exact qe hp
def fO:Sp:=λvs H Q _=>∃(n:Int)(k:Nat),vs=[.int n]/\2<=n/\n<2^220/\CF k n/\Q (.int (2^k)) H
include T in
theorem MV(S:Src K mg "block_for" Q4):wO P w K mg base "block_for" 1 ["need"] (fO):=by
 refine S.okx HR HS λf _ A _ s H vs Q E hr h=>⟨_,PSs.nox (Af (Ao (Am Td Ac (SA me kj km fN (Am Bk s_ Ac))))),?_⟩;obtain⟨n,k,rfl,h2,h3,hk,q⟩:=h;obtain⟨e,hb⟩:=qP (n:=n) (k:=k) h2 h3 hk;walk_at "";refine⟨rfl,_,rfl,rfl,?_⟩;rw[e];walk_at "";rw[show (1:Int)*2^(k:Int).toNat=2^k by rw[Int.one_mul];rfl];exact q
def wZ(b:Int)(ps:List Pc):List (List Int):=(ps.filter λz=>!z.v&&decide (b<=z.l)).map λz=>[z.l,z.a]
theorem qS{b:Int}{i:Nat}(h:i<ps.length):wZ b (ps.take (i+1))=wZ b (ps.take i)++(if (!ps[i].v&&decide (b<=ps[i].l))=true then [[ps[i].l,ps[i].a]] else []):=by
 unfold wZ;rw[ck,Ω h,ci,af]
 congr 1
 simp only [ix,bx,jz]
 split <;> rfl
theorem Ub{b:Int}{k:Nat}(h:k<(wZ b ps).length):∃z∈ps,z.v=false/\b<=z.l/\(wZ b ps).getD k []=[z.l,z.a]:=by
 have e:(wZ b ps).getD k []=(wZ b ps)[k]:=by rw[au,Ω h];rfl
 have hm:(wZ b ps)[k]∈wZ b ps:=bp h;rw[<-e] at hm;unfold wZ at hm;obtain⟨z,hz,ez⟩:=aw.mp hm;obtain⟨h1,h2⟩:=cf.mp hz;obtain⟨h3,h4⟩:=gk.mp h2;exact⟨z,h1,by simpa using h3,of_decide_eq_true h4,by unfold wZ;exact ez.symm⟩
theorem qT{b:Int}(hz:z∈ps)(hv:z.v=false)(hl:b<=z.l):∃k,k<(wZ b ps).length/\(wZ b ps).getD k []=[z.l,z.a]:=by
 have:[z.l,z.a]∈wZ b ps:=by
   unfold wZ;exact aw.mpr ⟨z,cf.mpr ⟨hz,by rw[hv,decide_eq_true hl];rfl⟩,rfl⟩
 obtain⟨k,hk⟩:=ai this;exact⟨k,(γ.mp hk).1,by rw[au,hk];rfl⟩
theorem qU{b:Int}(h:Bst b ps z):0<(wZ b ps).length/\(wZ b ps).getD (BW (wZ b ps) ((wZ b ps).length-1)) []=[z.l,z.a]:=by
 obtain⟨h1,h2,h3,h4⟩:=h;obtain⟨k,hk,ek⟩:=qT h1 h2 h3;have hm:=KA (wZ b ps) ((wZ b ps).length-1);obtain⟨y,hy,hyv,hyl,ey⟩:=Ub (ps:=ps) (b:=b) (k:=BW (wZ b ps) ((wZ b ps).length-1)) (by omega);refine⟨by omega,?_⟩;have hmin:=Tr (xs:=wZ b ps) (λk hk=>let ⟨z,_,_,_,e⟩:=Ub hk;⟨_,_,e⟩) ((wZ b ps).length-1) (by omega) k (by omega);rw[ek,ey,lex2] at hmin;rw[ey];rcases h4 y hy hyv hyl with g | ⟨g1,g2⟩
 . rw[if_neg (by omega)] at hmin;exact absurd g (of_decide_eq_false hmin)
 . rw[if_pos g1] at hmin;have:=of_decide_eq_false hmin;rw[g1,show y.a=z.a by omega]
abbrev wl(CN:uH)(p:uH)(us:List V)(ps:List Pc)(b:Int)(H:Hp)(Q:VK)(E:XK):Prop:=(((∀z∈ps,z.v=false->z.l<b)/\∀(H':Hp),Same H H'->E (.ref CN) none H')\/(∃z,Bst b ps z/\∀(u:uH)(H':Hp),Same H H'->H' u=some (.tup [.int z.a,.int z.l])->Q (.ref u) H'))
def fP(CN:uH):Sp:=λvs H Q E=>∃(p:uH)(us:List V)(ps:List Pc)(b:Int),vs=[.ref p,.int b]/\H p=some (.lst us)/\AH H us ps/\ps.length<=1200/\wl CN p us ps b H Q E
def LfW(H1:Hp)(ps:List Pc)(b:Int)(D:uH)(i:Nat)(ys:List V)(H2:Hp):Prop:=Same H1 H2/\H1 D=none/\H2 D=some (.lst ys)/\Cm H2 ys ((wZ b (ps.take i)).map λx=>x.map V.int)/\ys.length<=i
include T in
theorem MW(S:Src K mg "least_free" Q5):wO P w K mg base "least_free" 1 ["pieces","block"] (fP AT):=by
 refine S.okx Q6 HU λf _ A _ s H vs Q E hr h=>?_;obtain⟨p,us,ps,b,rfl,hp,pa,hz,hq⟩:=h;refine⟨_,(Ad (Kz (i:=2) ["at","long","live"] ["block"] [1] Q6.nd rfl (π rfl) rfl (BU s_) (λcl C s₀ H₀ ex=>(EH (K:=K) (n:=3) rfl rfl (AO (AF (i:=0) (show ((["at","long","live"]:List Str)++(["block"]:List Str)).Nodup by decide +kernel) rfl (π rfl)) (AO (AF (i:=1) (show ((["at","long","live"]:List Str)++(["block"]:List Str)).Nodup by decide +kernel) rfl (π rfl)) (AO (AF (i:=2) (show ((["at","long","live"]:List Str)++(["block"]:List Str)).Nodup by decide +kernel) rfl (π rfl)) Cl))))) (λcl C s₀ H₀ ex=>(EG (PW.pt (Bw (Bo (LQ (K:=K) rfl t_ (λ_=>rfl))) (BQ (As Gr r_ u_)))))) (λcl C s₀ H₀ ex=>(Cg (Aa r_ (Aa s_ Ab)))) (Hh rfl rfl rfl) (Hi (n:="block") (by decide +kernel) rfl) (λy h=>DQ (by decide +kernel) h)) (Ad (Ay (Bo (BV t_ (λ_=>rfl))) (Af (Cu T.Mv hr.hd rfl (Aa AM Ab))) Az) (Ad (CT (Bs (bM rfl hr.units) (by rfl) T.n_min fz (Aa t_ Ab)) (DS rfl (AO (p_ 3 Q6) (AO (p_ 4 Q6) Cl)))) (Af (Ao (Cg (Aa vw (Aa u_ Ab)))))))),?_⟩;walk_at "D";have hul:=pa.1;walk_at "";refine⟨p,rfl,⟨_,SqL.of hp⟩,Dh (K:=K) (a:=p) (xs:=us) (LfW H ps b) (λD hD=>⟨Same.new hD,hD,upd_same,Cm.nil,ψ _⟩) (λD i ys H2 _ h=>SqL.of (h.1 p _ hp)) ?_ ?_⟩
 . rintro D i y ys H2 hD hi ⟨s2,_,hD2,ta,hyl⟩ τ hτ;have hil:i<us.length:=(γ.mp hi).1;have hip:i<ps.length:=by omega
   obtain⟨t,et,hT⟩:=pa.2 i ps[i] (by simp [hip]);have ey:y = .ref t:=χ (hi.symm.trans et);subst ey;have hT2:=s2 t _ hT;have ef:=qS (b:=b) hip;generalize ps[i]=z at hT2 ef
   obtain⟨τ0,τ1,τ2,rfl⟩:=a_ hτ
   walk_at "";refine⟨⟨[_,_,_],rfl,rfl⟩,?_⟩;walk_at "";refine CC (λhv=>?_) (λhv=>?_)
   . walk_at "";rw[if_neg (by rw[hv];simp),ae] at ef;exact Bp hil ⟨s2,hD,hD2,by rw[ef];exact ta,by omega⟩
   . walk_at "";refine AJ (λhc=>?_) (λhc=>?_)
     . walk_at "";intro t2 ht2;rw[if_pos (by rw[hv,decide_eq_true (show b<=z.l by omega)];rfl)] at ef;refine⟨look_put ht2 hD2,small4000 (by omega),Bp hil ⟨(s2.put (s2.free ht2)).put hD,hD,upd_same,?_,by rw[ι,Θ];omega⟩⟩;rw[ef,af];exact ta.push hD2 ht2
     . walk_at "";rw[if_neg (by rw[decide_eq_false (show ¬b<=z.l by omega)];simp),ae] at ef;exact Bp hil ⟨s2,hD,hD2,by rw[ef];exact ta,by omega⟩
 . rintro D ys H2 hD ⟨s2,_,hD2,ta,hyl⟩;rw[ar (by omega)] at ta;rcases hq with ⟨hno,qe⟩ | ⟨z,hb,q⟩
   . have e0:wZ b ps=[]:=by
       cases e:wZ b ps with
       | nil=>rfl
       | cons x r=>
         obtain⟨z,h1,h2,h3,_⟩:=Ub (ps:=ps) (b:=b) (k:=0) (by rw[e];simp);have:=hno z h1 h2;omega
     rw[e0] at ta;have hys:ys=[]:=cv.mp ta.1;subst hys;walk_at "";refine iteT ?_;walk_at "";exact qe H2 s2
   . obtain⟨f1,f2⟩:=qU hb;have hyl2:=ta.1;rw[Ξ] at hyl2;cases ys with
     | nil=>rw[db] at hyl2;omega
     | cons y0 yr=>
       walk_at "";refine iteF ?_;walk_at "";refine⟨D,y0::yr,wZ b ps,rfl,hD2,ta,f1,λt' et ht'=>?_⟩;rw[f2] at ht';have ht3:H2 t'=some (.tup [.int z.l,.int z.a]):=ht';clear ht';walk_at "";intro w hw;walk_at "";exact q w _ (s2.put (s2.free hw)) upd_same
abbrev wm(K:δ)(a:uH)(cs:List Int)(b:Int)(B M:Nat)(ds rs:List Pc)(H:Hp)(Q:VK):Prop:=∀(p:uH)(cs':List Int)(H':Hp),H p=none->Same H H'->H' p=some (.lst (cs'.map V.int))->cs'.length=cs.length->Au cs' (ds++(hcP b B M++rs))->(∀j:Nat,(j:Int)<b\/b+2^M<=j->cs'[j]?=cs[j]?)->Q (.ref p) H'
def fQ(K:δ):Sp:=λvs H Q _=>∃(a:uH)(cs:List Int)(b:Int)(B M:Nat)(ds rs:List Pc),vs=[.ref a,.int b,.int (2^M),.int (2^B)]/\SqL K H a (cs.map V.int)/\cs.length<=1200/\B<=M/\0<=b/\Cn ds b/\EA rs (b+2^M)/\b+2^M<=cs.length/\Au cs (ds++rs)/\wm K a cs b B M ds rs H Q
def CdW(a:uH)(b:Int)(B M:Nat)(ds rs:List Pc)(cs:List Int)(H:Hp)(k:Nat)(σ:L2.St)(H':Hp):Prop:=
 ∃(r:uH)(cs':List Int),B+k<=M/\σ=[some (.ref a),some (.int b),some (.int (2^(B+k))),some (.int (2^B)),some (.ref r)]/\Same H H'/\H r=none/\H' r=some (.lst (cs'.map V.int))/\cs'.length=cs.length/\Au cs' (ds++(spl b (B+k) (M-(B+k))++rs))/\∀j:Nat,(j:Int)<b\/b+2^M<=j->cs'[j]?=cs[j]?
include T Aq in
theorem MX(S:Src K mg "cut_down" Q7):wO P w K mg base "cut_down" 3 ["cells","at","long","block"] (fQ K):=by
 refine S.okx Q8 HV λf _ A _ s H vs Q E hr h=>⟨_,PSs.nox (Ad (o_ 4 Q8 (EE Gu (by rfl) T.n_list cc (Aa s_ Ab))) (Ad (Lv bj (As DT t_ u_) (Ad (o_ 2 Q8 (Am Ez t_ Ac)) (Af (o_ 4 Q8 (q_ Aq hr (Aa vw (Aa (Am AL r_ t_) (Aa t_ (Aa AR Ab))))))))) (Af (Ao (q_ Aq hr (Aa vw (Aa r_ (Aa u_ (Aa AR Ab))))))))),?_⟩;walk_at "D";obtain⟨a,cs,b,B,M,ds,rs,rfl,hS,hz,hBM,h0,hd,hr,hl,mk0,q⟩:=h;walk_at "";intro r hr0;walk_at "";refine⟨CdW a b B M ds rs cs H,⟨M-B,r,cs,by omega,(by rw[show B+(M-B)=M by omega];rfl),Same.new hr0,hr0,upd_same,rfl,(by rw[show B+(M-B)=M by omega,di];exact mk0),λ_ _=>rfl⟩,?_⟩;rintro k σ H' ⟨r,cs',hk,rfl,s1,nr,hr',hl',mk,ho⟩;have pB:=pw1 B;walk_at "";refine AJ (λhlt=>?_) (λhlt=>?_)
 . refine⟨λσ' H''=>∃k',k'<k/\CdW a b B M ds rs cs H k' σ' H'',λσ' H'' hw=>hw,?_⟩;obtain⟨k1,rfl⟩:∃k1,k=k1+1:=⟨k-1,by
     cases k with
     | zero=>rw[sk] at hlt;omega
     | succ k=>rfl⟩
   have p2:=pw2 (B+k1);have p1:=pw1 (B+k1);have e1:(2:Int)^(B+(k1+1))/2=2^(B+k1):=by rw[show B+(k1+1)=B+k1+1 by omega,p2];omega
   obtain⟨g1,mk3⟩:=xM (L:=B+k1) (e:=M-(B+(k1+1))) h0 hd (by rw[show B+k1+1+(M-(B+(k1+1)))=M by omega];exact hr) (by rw[show B+k1+1+(M-(B+(k1+1)))=M by omega];omega) mk;walk_at "";rw[e1];generalize hg:(2:Int)^(B+k1)=L at p1 g1;walk_at "";refine⟨r,cs',b+L,L,false,rfl,SqL.of hr',by omega,by omega,p1,g1,λp H2 np s2 hp=>?_⟩;walk_at "";subst hg;refine⟨k1,by omega,p,_,by omega,rfl,s1.trans s2,s1.free np,hp,by rw[B0];exact hl',?_,λj hj=>?_⟩
   . rw[show M-(B+k1)=M-(B+(k1+1))+1 by omega];exact mk3
   . have pm:=Eb (show B+k1+1<=M by omega);rw[De (by omega) p1 (by omega)];exact ho j hj
 . have e0:k=0:=by
     cases k with
     | zero=>rfl
     | succ k=>
       have:=Eb (show B+1<=B+(k+1) by omega);have:=pw2 B;omega
   subst e0;obtain⟨g1,mk3⟩:=yw (B:=B) (e:=M-B) h0 hd (by rw[show B+(M-B)=M by omega];exact hr) (by rw[show B+(M-B)=M by omega];omega) mk;walk_at "";refine⟨r,cs',b,2^B,true,rfl,SqL.of hr',by omega,h0,pB,g1,λp H2 np s2 hp=>?_⟩;walk_at "";have pm:=Eb hBM;exact q p _ H2 (s1.free np) (s1.trans s2) hp (by rw[B0];exact hl') mk3 (λj hj=>by rw[De h0 pB (by omega)];exact ho j hj)
abbrev wn(C:W7->uH)(CB CN:uH)(i:W7)(x dx a:uH)(q:St7)(cs:List Int)(c b:Int)(H:Hp)(Q:VK)(E:XK):Prop:=(ok3 i->b≠1->∀H',Same H H'->E (.ref CB) none H')/\((ok3 i->b=1)->No7 c b q->∀H',Same H H'->E (.ref CN) none H') /\ ((ok3 i->b=1)->∀(p:Int)(q':St7)(a':uH)(cs':List Int)(H':Hp),xB q c b p q' cs cs'->H a'=none->AE x H H'->cs'.length=cs.length->KS C x dx a' q' cs' H'->Q (.int p) H')
def JH(C:W7->uH)(CB CN:uH)(i:W7):Sp:=λvs H Q E=>∃(x dx a:uH)(q:St7)(cs:List Int)(c b:Int),vs=[.ref x,.int c,.int b]/\i=q.let3/\KS C x dx a q cs H/\1<=c/\c<=30/\1<=b/\wn C CB CN i x dx a q cs c b H Q E
theorem c220{c:Int}(h:c<=30):c+2<2^220:=by
 have:(32:Int)<2^220:=by decide
 omega
variable (BB:wO P w K mg base "check_plain_ask" 2 ["count","bound"] (fJ C8 Y2))
variable (Dt:wO P w K mg base "block_for" 1 ["need"] (fO))
variable (AV:A7 P w K mg base (cF Ag Ah Ae Ai Y6 Y4 Aj) "pieces" 5 ["self"] [] (fL (cF Ag Ah Ae Ai Y6 Y4 Aj)))
variable (Du:wO P w K mg base "least_free" 1 ["pieces","block"] (fP AT))
variable (Av:A7 P w K mg base (cF Ag Ah Ae Ai Y6 Y4 Aj) "cells" 1 ["self"] [] (fM (cF Ag Ah Ae Ai Y6 Y4 Aj)))
variable (Dv:wO P w K mg base "cut_down" 3 ["cells","at","long","block"] (fQ K))
variable (D_lay:A7 P w K mg base (cF Ag Ah Ae Ai Y6 Y4 Aj) "lay" 7 ["self","cells"] [] (fK K (cF Ag Ah Ae Ai Y6 Y4 Aj)))
include T BB Dt AV Du Av Dv D_lay in
theorem JI{T₀:uH}{tk₀:Tok}{tc₀:uG}{tn₀:Nat}(F:FunD K "ask" "Halves.ask" EU (.ref T₀) f₀ fd₀)(LT:K.lookup T₀=some ⟨tc₀,td₀,.seq [.int 1 tk₀].toArray tn₀,ts₀⟩)(M:wT K Y6 "ask" f₀):MethD P w K mg base Y6 "ask" 8 ["self","count","bound"] [.int 1] (JH (cF Ag Ah Ae Ai Y6 Y4 Aj) Y2 AT W7.half):=by
 refine MethD.made (fd:=fd₀) ?_ M (F.bindsA LT (IV T₀ _)) (F.bindsD LT (IW T₀ _)) (.cons ⟨tk₀,rfl⟩ .nil) T.Mw;refine Gy F RM (λvs H Q E h=>by revert h;walk_at "l") (λ_ A _ s H vs Q E hr h=>?_);obtain⟨x,dx,a,q3,cs,c,b0,rfl,hi,S,c1',c30,hb0,qB,qN,qQ⟩:=h;refine⟨_,(Ad (Bd (Bt BB hr (by rfl) (Aa r_ (Aa t_ Ab)))) (Ad (o_ 3 RM (q_ Dt hr (Aa (Am AL r_ (ED (v:=.int 2) (by rfl) T.GE ⟨_,rfl⟩)) Ab))) (Ad (CT (Bt Du hr (by rfl) (Aa (Dj AV Bz hr s_) (Aa u_ Ab))) (DS rfl (AO (p_ 4 RM) (AO (p_ 5 RM) Cl)))) (Ad (Bd (BG D_lay Bl hr s_ (Aa (q_ Dv hr (Aa (Dj Av Bz hr s_) (Aa vw (Aa vx (Aa u_ Ab))))) Ab))) (Af (Ao (Am AL vw Ac))))))),?_⟩;walk_at "D";have o3:ok3 q3.let3:=by rw[<-hi];exact trivial
 have hc2:c+2<2^220/\(1:Int)=1:=⟨c220 c30,rfl⟩
 have qa:c<1\/b0<1->∀H',Same H H'->E (.ref C8) none H':=λh=>absurd h (by omega);have qb:1<=c->1<=b0->b0≠1->∀H',Same H H'->E (.ref Y2) none H':=λ_ _ h=>qB trivial h;have hq:1<=c->b0=1->((No7 c b0 q3/\∀H',Same H H'->E (.ref AT) none H')\/∃p q',yC c q3 p q'/\∀(a':uH)(cs':List Int)(H':Hp),xB q3 c 1 p q' cs cs'->H a'=none->AE x H H'->cs'.length=cs.length->KS (cF Ag Ah Ae Ai Y6 Y4 Aj) x dx a' q' cs' H'->Q (.int p) H'):=λc1 b1=>
   (TU b0 S.ok o3 c1).imp (λhn=>⟨hn,qN (λ_=>b1) hn⟩) λ⟨p,q',hA⟩=>⟨p,q',hA,λa' cs' H' hK=>qQ (λ_=>b1) p q' a' cs' H' (by rw[b1];exact hK)⟩
 cases q3 with
 | shel _ _=>cases hi
 | row _ _=>cases hi
 | st i0 _ _ _=>
   have hi0:W7.half=i0:=hi;subst hi0;exact(show False from S.ok.1).elim
 | half N ps=>
 have hx:H x=some (.ins ((cF Ag Ah Ae Ai Y6 Y4 Aj) W7.half) dx (fsF W7.half a (2^N))):=S.hx;have ha:=S.ha;have hl:(cs.length:Int)=2^N:=S.hl;obtain⟨hN,hc,al,nb⟩:=id S.ok;have mk:Au cs ps:=S.mm;have cl:=T.Mw;have na:=T.T8;have hz:=S.hz;have hple:0+(ps.length:Int)<=cs.length:=S.ch.le;walk_at "";refine⟨c,b0,rfl,λh=>qa h H (Same.refl _),λh1 h2 h3=>qb h1 h2 h3 H (Same.refl _),λhc1 hb1=>?_⟩;obtain⟨B,hB⟩:=TN c hc1;have B2:=hB.two' (by omega);walk_at "";refine⟨c+2,B,rfl,by omega,hc2.1,hB,?_⟩;walk_at "";refine⟨2^N,x,dx,a,cs,ps,rfl,⟨hx,ha,hz,by rw[hl];exact hc,mk⟩,λlp us H1 nlp s1 hlp pa=>?_⟩;walk_at "";refine⟨lp,us,ps,2^B,rfl,hlp,pa,by omega,?_⟩;rcases hq hc1 hb1 with ⟨g,qe⟩ | ⟨p0,q0,G0,q⟩
 . exact .inl ⟨g B hB,λH2 s2=>qe H2 (s1.trans s2)⟩
 cases G0 with
 | half hB' G=>
 rename_i B' M ds rs b;have eB:=hB.uniq hB';subst eB;refine .inr ⟨_,G.2,λu H2 s2 hu=>?_⟩;obtain⟨hBM,hMN,b0,c1,c3,c4,al4,_⟩:=G.lie B2 hc al;have hu:H2 u=some (.tup [.int b,.int (2^M)]):=hu;have s12:=s1.trans s2;have hx2:=s12 x _ hx;have ha2:=s12 a _ ha;have l3:=c3.le;walk_at "";refine⟨2^N,x,dx,a,cs,rfl,hx2,ha2,λp H3 np s3 hp=>?_⟩;walk_at "";refine⟨p,cs,b,B,M,ds,rs,rfl,SqL.of hp,by omega,hBM,b0,c1.endBy (aq 0),c3.fromOn,by omega,mk.sub (λy hy=>?_),λp2 cs' H4 np2 s4 hp2 hl' mk' ho=>?_⟩
 . rw[G.1];rcases θ.mp hy with g | g
   . exact μ _ g
   . exact ζ _ (ρ _ g)
 have s34:=s3.trans s4;have hw':=BZ (by rw[hl',hl];exact c4) mk';walk_at "";refine⟨2^N,x,p2,dx,a,cs,cs',_,rfl,s34 x _ hx2,s34 a _ ha2,hl',SqL.of hp2,by omega,by rw[hl',hl];exact c4,hw',λa' H5 na5 k5 hx5 ha5=>?_⟩;walk_at "";have s14:=s12.trans s34;exact q a' cs' H5 (oR hB B2 G hc al ho) (s14.free na5) ((AE.of s14).trans k5) hl' ⟨hx5,ha5,by rw[hl'];exact hl,by omega,⟨hN,c4,al4,nb.ask G.1 al hBM c4⟩,mk'⟩
def xu(s:Int)(m:Nat):List Int:=(ο m (Bv s)).flatten
theorem Uc{s:Int}(h:1<=s):Au (Bv s) [⟨0,s,false⟩]:=by
 unfold Bv;exact Au.lay (ds:=[]) (rs:=[]) (by omega) h (by rw[ag];omega) (λp hp=>by cases hp) (λp hp=>by cases hp) (Au.nil _)
theorem MY{s:Int}(h:1<=s)(m:Nat):((xu s m).length:Int)=s*(m:Int):=(Qq h (Ec (by omega)) (Uc h) m).2
theorem fR{s:Int}(h:1<=s)(m:Nat):By (xu s m) 0=(DY s 0 m,none):=by
 obtain⟨h1,h2⟩:=Qq h (Ec (by omega)) (Uc h) m;have c:=Qo h m 0;rw[show s*((0:Nat):Int)=0 by simp,md] at c;exact BZ (by unfold xu;rw[h2];exact c) h1
theorem fT(one:List Int):∀m:Nat,(ο m (one.map V.int)).flatten=((ο m one).flatten).map V.int
 | 0=>rfl
 | m+1=>by rw[cb,cu,fT one m,cb,cu,af]
abbrev wo(C:uH)(z s:Int)(H:Hp)(Q:VK)(E:XK):Prop:=((z<1\/s<1\/(1<=s/\z%s≠0))->E (.ref C) none H) /\ (∀m:Nat,1<=s->1<=m->z=s*(m:Int)->∀(p:uH)(H':Hp),H p=none->Same H H'->H' p=some (.lst ((xu s m).map V.int))->Q (.ref p) H')
def fU(C:uH):Sp:=λvs H Q E=>∃(z s:Int),vs=[.int z,.int s]/\z<=4000/\s<=4000/\wo C z s H Q E
include T AD in
theorem MZ(S:Src K mg "all_whole" Q9):wO P w K mg base "all_whole" 3 ["size","shelf"] (fU A5):=by
 refine S.okx HW HX λf _ A _ s H vs Q E hr h=>?_;obtain⟨z,s,rfl,hz,hs,qe,q⟩:=h;refine⟨_,(Ad (Ay (PW.pt (Bn (As Ct s_ Ac) (Bn (As Ct r_ Ac) (BR (As CU (Am A6 s_ r_) Ac))))) (Af (Cu T.R5 hr.hd rfl (Aa AM Ab))) Az) (Af (Ao (Am SC (Bt AD hr (by rfl) (Aa r_ Ab)) (Am Ez s_ r_))))),?_⟩;walk_at "D";walk_at "";refine AJ (λh1=>?_) (λh1=>?_)
 . walk_at "";exact qe (.inl h1)
 . walk_at "";refine AJ (λh2=>?_) (λh2=>?_)
   . walk_at "";exact qe (.inr (.inl h2))
   . walk_at "";refine AJ (λh3=>?_) (λh3=>?_)
     . walk_at "";obtain⟨m,em⟩:∃m:Nat,z=s*(m:Int):=⟨(z/s).toNat,by
         have h4:=cq z s;have h5:0<=z/s:=mj (by omega) (by omega);rw[bg h5];omega⟩
       have m1:1<=m:=by
         cases m with
         | zero=>simp at em;omega
         | succ m=>omega
       have ed:z/s=(m:Int):=by rw[em];exact gq _ (by omega)
       refine⟨s,rfl,hs,λz=>absurd z (by omega),λ_ p1 H1 np s1 hp=>?_⟩;walk_at "";rw[ed];have hf:=Ec (n:=s) (by omega);have hm4:(m:Int)<=4000:=by
         have h6:=gy (show (1:Int)<=s by omega) (show (0:Int)<=(m:Int) by omega);omega
       have hsz:(Bv s).length*m<=4000:=by
         have e2:(((Bv s).length*m:Nat):Int)=z:=by rw[ij,hf,em]
         omega
       refine⟨p1,(m:Int),_,rfl,rfl,hp,by omega,by omega,(by show ((Bv s).map V.int).length*(m:Int).toNat<=uU;rw[Ξ,jg];exact fh (small4000 hsz)),λp2 np2=>?_⟩;rw[jg,fT];walk_at "";exact q m (by omega) m1 em p2 _ (s1.free np2) (s1.put (s1.free np2)) upd_same
     . walk_at "";exact qe (.inr (.inr ⟨by omega,h3⟩))
def fV:Sp:=λvs H Q _=>∃(a s:Int),vs=[.int a,.int s]/\1<=s/\Q (.int (a-a%s)) H
include T in
theorem M0(S:Src K mg "begin_of" Ra):wO P w K mg base "begin_of" 1 ["at","shelf"] (fV):=by
 refine S.okx HY HZ λf _ A _ s H vs Q E hr h=>⟨_,PSs.nox (Af (Ao (Am Bk s_ (Am A6 s_ r_)))),?_⟩;obtain⟨a,s,rfl,hs,q⟩:=h;walk_at "";exact q
theorem turns{A s k:Int}(h1:1<=k)(h2:k<=s):(ak A (A+s) k).toNat=(s/k).toNat+(if k*((s/k).toNat:Int)=s then 0 else 1):=by
 have h3:=cq s k;have h4:=bi s (show k≠0 by omega);have h5:=bb s (show 0<k by omega);have h6:1<=s/k:=(Int.le_ediv_iff_mul_le (by omega)).mpr (by omega);have e:((s/k).toNat:Int)=s/k:=bg (by omega);rw[e];unfold ak;rw[if_pos (by omega),if_pos (by omega),show A+s-A-1=s-1 by omega]
 split
 . rename_i h;have:(s-1)/k=s/k-1:=by
     have:s-1=(k-1)+k*(s/k-1):=by rw[qk];omega
     rw[this,gb _ _ (by omega),fk (by omega) (by omega)];omega
   rw[this];omega
 . rename_i h;have:(s-1)/k=s/k:=by
     have:s-1=(s%k-1)+k*(s/k):=by omega
     rw[this,gb _ _ (by omega),fk (by omega) (by omega)];omega
   rw[this];omega
theorem fW{s:Int}(h:1<=s):∀(m j:Nat),alP s (s*(j:Int)) (ο m ⟨0,[]⟩)=DY s j m
 | 0,j=>rfl
 | m+1,j=>by
   rw[bQ,cb]
   show shP s (s*(j:Int)) ⟨0,[]⟩++alP s (s*(j:Int)+s) (ο m ⟨0,[]⟩)=_
   rw[GB h,<-Cw,fW h m (j+1)]
   rfl
theorem KU{s:Int}{fs:List Sf}(hs:1<=s)(w:∀f∈fs,SfW s f)(hl:(cs.length:Int)=s*(fs.length:Int)):Ak 0 (alP s 0 fs) cs.length:=by
 have:=GA hs fs 0 w;rw[dm,<-hl] at this;exact this
def FtW(H1:Hp)(ps:List Pc)(k:Int)(D:uH)(i:Nat)(ys:List V)(H2:Hp):Prop:=Same H1 H2/\H2 D=some (.lst ys)/\H1 D=none/\ys=(wV (ps.take i) k).map V.int/\ys.length<=i
abbrev wq(K:δ)(c:uH)(cs:List Int)(ps:List Pc)(k:Int)(H:Hp)(Q:VK):Prop:=∀(p:uH)(H':Hp),H p=none->Same H H'->H' p=some (.lst ((wV ps k).map V.int))->Q (.ref p) H'
def fX(K:δ):Sp:=λvs H Q _=>∃(c:uH)(cs:List Int)(ps:List Pc)(k:Int),vs=[.ref c,.int k]/\SqL K H c (cs.map V.int)/\cs.length<=4000/\By cs 0=(ps,none)/\ps.length<=4000/\wq K c cs ps k H Q
include T AA in
theorem M3(S:Src K mg "whole_ones" Rb):wO P w K mg base "whole_ones" 5 ["cells","shelf"] (fX K):=by
 refine S.okx Ia Ib λf _ A _ s H vs Q E hr h=>?_;obtain⟨c,cs,ps,k,rfl,hS,hz,hw,hpz,q⟩:=h;refine⟨_,PSs.nox (Af (Ao (Hf ["at","long","live"] ["shelf"] [1] rfl (BU (q_ AA hr (Aa s_ Ab))) (λcl C s₀ H₀ ex=>(EH (K:=K) (n:=3) rfl rfl (AO (AF (i:=0) (show ((["at","long","live"]:List Str)++(["shelf"]:List Str)).Nodup by decide +kernel) rfl (π rfl)) (AO (AF (i:=1) (show ((["at","long","live"]:List Str)++(["shelf"]:List Str)).Nodup by decide +kernel) rfl (π rfl)) (AO (AF (i:=2) (show ((["at","long","live"]:List Str)++(["shelf"]:List Str)).Nodup by decide +kernel) rfl (π rfl)) Cl))))) (λcl C s₀ H₀ ex=>(EG (PW.pt (Bw (Bo (LQ (K:=K) rfl t_ (λ_=>rfl))) (BQ (As AN r_ u_)))))) (λcl C s₀ H₀ ex=>s_) (Hh rfl rfl rfl) (Hi (n:="shelf") (by decide +kernel) rfl) (λy h=>DQ (by decide +kernel) h)))),?_⟩;walk_at "D";walk_at "";refine⟨c,cs,rfl,hS,hz,(λc hc=>by rw[hw] at hc;cases hc),λ_ lp us H1 nlp s1 hlp pa=>?_⟩;have pa:AH H1 us ps:=by rw[hw] at pa;exact pa
 have hul:=pa.1;walk_at "";refine⟨lp,rfl,⟨_,SqL.of hlp⟩,Dh (K:=K) (a:=lp) (xs:=us) (FtW H1 ps k) (λD hD=>⟨Same.new hD,upd_same,hD,rfl,ψ _⟩) (λD i ys H2 _ h=>SqL.of (h.1 lp _ hlp)) ?_ ?_⟩
 . rintro D i y ys H2 hD hi ⟨s2,hD2,_,ey,hyl⟩ τ hτ;have hil:i<us.length:=(γ.mp hi).1;have hip:i<ps.length:=by omega
   obtain⟨t,et,hT⟩:=pa.2 i ps[i] (by simp [hip]);have ey2:y = .ref t:=χ (hi.symm.trans et);subst ey2;have hT2:=s2 t _ hT;have ef:=cS (k:=k) hip;generalize ps[i]=z at hT2 ef
   obtain⟨τ0,τ1,τ2,rfl⟩:=a_ hτ
   walk_at "";refine⟨⟨[_,_,_],rfl,rfl⟩,?_⟩;walk_at "";refine CC (λhv=>?_) (λhv=>?_)
   . walk_at "";rw[hv] at ef;refine Bp hil ⟨s2,hD2,hD,?_,by omega⟩;rw[ey,ef];simp
   . walk_at "";rw[hv] at ef;refine AJ (λhl=>?_) (λhl=>?_)
     . walk_at "";rw[if_pos (by simp [hl])] at ef;refine⟨hD2,small4000 (by omega),Bp hil ⟨s2.put hD,upd_same,hD,?_,by rw[ι,Θ];omega⟩⟩;rw[ey,ef,af];rfl
     . walk_at "";rw[if_neg (by simp [hl])] at ef;exact Bp hil ⟨s2,hD2,hD,by rw[ey,ef,ae],by omega⟩
 . rintro D ys H2 hD ⟨s2,hD2,_,ey,hyl⟩;rw[ar (by omega)] at ey;walk_at "";exact q D H2 (s1.free hD) (s1.trans s2) (by rw[hD2,ey])
def SlW(H1:Hp)(cs:List Int)(xs:List Int)(k s:Int)(D:uH)(i:Nat)(ys:List V)(H2:Hp):Prop:=Same H1 H2/\H2 D=some (.lst ys)/\H1 D=none/\ys=((xs.take i).filter λa=>decide (cs.getD (a-a%s).toNat 0/2=k)).map V.int/\ys.length<=i
abbrev wt(K:δ)(c:uH)(cs:List Int)(ps:List Pc)(s k:Int)(H:Hp)(Q:VK):Prop:=∀(p:uH)(H':Hp),H p=none->Same H H'->H' p=some (.lst ((CZ cs ps k s).map V.int))->Q (.ref p) H'
def fY(K:δ):Sp:=λvs H Q _=>∃(c:uH)(cs:List Int)(ps:List Pc)(s k:Int),vs=[.ref c,.int s,.int k]/\SqL K H c (cs.map V.int)/\cs.length<=4000/\By cs 0=(ps,none)/\ps.length<=4000/\Ak 0 ps cs.length/\1<=s/\wt K c cs ps s k H Q
variable (Bb:wO P w K mg base "begin_of" 1 ["at","shelf"] (fV))
include T AC AA Bb in
theorem M4(S:Src K mg "free_slots" Rc):wO P w K mg base "free_slots" 5 ["cells","shelf","size"] (fY K):=by
 refine S.okx eG Ic λf _ A _ s H vs Q E hr h=>?_;obtain⟨c,cs,ps,s,k,rfl,hS,hz,hw,hpz,hc,hs,q⟩:=h;refine⟨_,PSs.nox (Ad (Kz (i:=3) ["at","long","live"] ["size"] [2] eG.nd rfl (π rfl) rfl (BU (q_ AA hr (Aa s_ Ab))) (λcl C s₀ H₀ ex=>(EH (K:=K) (n:=3) rfl rfl (AO (AF (i:=0) (show ((["at","long","live"]:List Str)++(["size"]:List Str)).Nodup by decide +kernel) rfl (π rfl)) (AO (AF (i:=1) (show ((["at","long","live"]:List Str)++(["size"]:List Str)).Nodup by decide +kernel) rfl (π rfl)) (AO (AF (i:=2) (show ((["at","long","live"]:List Str)++(["size"]:List Str)).Nodup by decide +kernel) rfl (π rfl)) Cl))))) (λcl C s₀ H₀ ex=>(EG (PW.pt (Bw (Bo (LQ (K:=K) rfl t_ (λ_=>rfl))) (BQ (As AN r_ u_)))))) (λcl C s₀ H₀ ex=>s_) (Hh rfl rfl rfl) (Hi (n:="size") (by decide +kernel) rfl) (λy h=>DQ (by decide +kernel) h)) (Af (Ao (Hf ["at"] ["size","cells","shelf"] [2,0,1] rfl (BU u_) (λcl C s₀ H₀ ex=>(AF (i:=0) (show ((["at"]:List Str)++(["size","cells","shelf"]:List Str)).Nodup by decide +kernel) rfl (π rfl))) (λcl C s₀ H₀ ex=>(EG (As AN (q_ AC hr (Aa (Ar (Tf (K:=K) rfl) t_ (q_ Bb hr (Aa s_ (Aa u_ Ab)))) Ab)) r_))) (λcl C s₀ H₀ ex=>s_) (mM rfl rfl rfl rfl rfl rfl rfl rfl rfl) (mO (n:="size") (m:="cells") (o:="shelf") (by decide +kernel) rfl rfl rfl) (λy h=>DQ (by decide +kernel) h))))),?_⟩;walk_at "D";walk_at "";refine⟨c,cs,rfl,hS,hz,(λc hc=>by rw[hw] at hc;cases hc),λ_ lp us H1 nlp s1 hlp pa=>?_⟩;have pa:AH H1 us ps:=by rw[hw] at pa;exact pa
 have hul:=pa.1;walk_at "";refine⟨lp,rfl,⟨_,SqL.of hlp⟩,Dh (K:=K) (a:=lp) (xs:=us) (FtW H1 ps k) (λD hD=>⟨Same.new hD,upd_same,hD,rfl,ψ _⟩) (λD i ys H2 _ h=>SqL.of (h.1 lp _ hlp)) ?_ ?_⟩
 . rintro D i y ys H2 hD hi ⟨s2,hD2,_,ey,hyl⟩ τ hτ;have hil:i<us.length:=(γ.mp hi).1;have hip:i<ps.length:=by omega
   obtain⟨t,et,hT⟩:=pa.2 i ps[i] (by simp [hip]);have ey2:y = .ref t:=χ (hi.symm.trans et);subst ey2;have hT2:=s2 t _ hT;have ef:=cS (k:=k) hip;generalize ps[i]=z at hT2 ef
   obtain⟨τ0,τ1,τ2,rfl⟩:=a_ hτ
   walk_at "";refine⟨⟨[_,_,_],rfl,rfl⟩,?_⟩;walk_at "";refine CC (λhv=>?_) (λhv=>?_)
   . walk_at "";rw[hv] at ef;refine Bp hil ⟨s2,hD2,hD,?_,by omega⟩;rw[ey,ef];simp
   . walk_at "";rw[hv] at ef;refine AJ (λhl=>?_) (λhl=>?_)
     . walk_at "";rw[if_pos (by simp [hl])] at ef;refine⟨hD2,small4000 (by omega),Bp hil ⟨s2.put hD,upd_same,hD,?_,by rw[ι,Θ];omega⟩⟩;rw[ey,ef,af];rfl
     . walk_at "";rw[if_neg (by simp [hl])] at ef;exact Bp hil ⟨s2,hD2,hD,by rw[ey,ef,ae],by omega⟩
 . rintro D ys H2 hD ⟨s2,hD2,_,ey,hyl⟩;rw[ar (by omega)] at ey;subst ey;rw[Ξ] at hyl;have hS2:=(s1.trans s2).seq hS;have hfi:∀a∈wV ps k,0<=a/\a<cs.length:=λa h=>yk hc h;have hsl:CZ cs ps k s=(wV ps k).filter λa=>decide (cs.getD (a-a%s).toNat 0/2=k):=rfl;generalize wV ps k=xs at hD2 hyl hfi hsl;walk_at "";refine⟨D,rfl,⟨_,SqL.of hD2⟩,Dh (K:=K) (a:=D) (xs:=xs.map V.int) (SlW H2 cs xs k s) (λD' hD'=>⟨Same.new hD',upd_same,hD',rfl,ψ _⟩) (λD' i ys H3 _ h=>SqL.of (h.1 D _ hD2)) ?_ ?_⟩
   . rintro D' i y ys H3 hD' hi ⟨s3,hD3,_,ey,hyl2⟩ τ hτ;obtain⟨a,ea,rfl⟩:∃a,xs[i]?=some a/\y = .int a:=by
       rw[cr] at hi;obtain⟨a,h1,h2⟩:=dj.mp hi;exact⟨a,h1,h2.symm⟩
     have hil:i<xs.length:=(γ.mp ea).1;have hil2:i<(xs.map V.int).length:=by rw[Ξ];exact hil
     obtain⟨a0,a1⟩:=hfi a (ε ea);obtain⟨b0,b1⟩:=nZ a0 hs;have hS3:=s3.seq hS2;have et:xs.take (i+1)=xs.take i++[a]:=by rw[ck,ea];rfl
     obtain⟨τ0,rfl⟩:=d_ hτ
     walk_at "";refine⟨⟨[_],rfl,rfl⟩,?_⟩;walk_at "";refine⟨a,s,rfl,hs,?_⟩;walk_at "";refine AJ (λhl=>?_) (λhl=>?_)
     . walk_at "";refine⟨hD3,small4000 (by omega),Bp hil2 ⟨s3.put hD',upd_same,hD',?_,by rw[ι,Θ];omega⟩⟩;rw[et,ci,af,ey,show ([a].filter λa=>decide (cs.getD (a-a%s).toNat 0/2=k))=[a] by rw[bx,if_pos (decide_eq_true hl)];rfl];rfl
     . walk_at "";refine Bp hil2 ⟨s3,hD3,hD',?_,by omega⟩;rw[et,ci,af,ey,show ([a].filter λa=>decide (cs.getD (a-a%s).toNat 0/2=k))=[] by rw[bx,if_neg (λz=>hl (of_decide_eq_true z))];rfl];simp
   . rintro D' ys H3 hD' ⟨s3,hD3,_,ey,hyl2⟩;rw[Ξ,ar (ψ _),<-hsl] at ey;walk_at "";exact q D' H3 ((s1.trans s2).free hD') ((s1.trans s2).trans s3) (by rw[hD3,ey])
abbrev wu(K:δ)(c:uH)(cs:List Int)(A s k:Int)(ds rs:List Pc)(H:Hp)(Q:VK):Prop:=∀(p:uH)(cs':List Int)(H':Hp),H p=none->Same H H'->H' p=some (.lst (cs'.map V.int))->cs'.length=cs.length->Au cs' (ds++(shP s A ⟨k,ο (s/k).toNat false⟩++rs))->(∀m:Nat,(m:Int)<A\/A+s<=m->cs'[m]?=cs[m]?)->Q (.ref p) H'
def fZ(K:δ):Sp:=λvs H Q _=>∃(c:uH)(cs:List Int)(A s k:Int)(ds rs:List Pc),vs=[.ref c,.int A,.int s,.int k]/\SqL K H c (cs.map V.int)/\cs.length<=1200/\0<=A/\A+s<=cs.length/\1<=k/\k<=s/\Cn ds A/\EA rs (A+s)/\Au cs (ds++rs)/\wu K c cs A s k ds rs H Q
def CfW(c:uH)(A s k:Int)(ds rs:List Pc)(cs:List Int)(H:Hp)(i:Nat)(σ:L2.St)(H':Hp):Prop:=
 ∃(r:uH)(cs':List Int)(x6:Option V),σ=[some (.ref c),some (.int A),some (.int s),some (.int k),some (.ref r),some (.int (A+s)),x6]/\Same H H'/\H r=none/\H' r=some (.lst (cs'.map V.int))/\cs'.length=cs.length/\Au cs' (ds++ctP A (A+s) k i++rs)/\∀m:Nat,(m:Int)<A\/A+s<=m->cs'[m]?=cs[m]?
include T Aq in
theorem M5(S:Src K mg "cut_for" Re):wO P w K mg base "cut_for" 3 ["cells","begin","shelf","size"] (fZ K):=by
 refine S.okx Md Id λf _ A _ s H vs Q E hr h=>⟨_,PSs.nox (Ad (o_ 4 Md (EE Gu (by rfl) T.n_list cc (Aa s_ Ab))) (Ad (o_ 5 Md (Am AL r_ t_)) (Ad (Db bj rfl (bR (by rfl) T.n_range (Aa r_ (Aa vx (Aa u_ Ab)))) (p_ 6 Md) (Af (o_ 4 Md (q_ Aq hr (Aa vw (Aa vz (Aa (Bs (Sv rfl) (by rfl) T.n_min fz (Aa u_ (Aa (Am Bk vx vz) Ab))) (Aa AR Ab)))))))) (Af (Ao vw))))),?_⟩;walk_at "D";obtain⟨c,cs,A,s,k,ds,rs,rfl,hS,hz,h0,hl,h1,h2,hd,hr,mk,q⟩:=h;obtain⟨d1,d2,d3⟩:=TD h1 h2;have ht:=turns (A:=A) h1 h2;walk_at "";intro r nr;walk_at "";refine zh ?_;walk_at "";refine⟨A,A+s,k,rfl,⟨by omega,by omega,by omega,by omega,by omega,by omega⟩,?_⟩;rw[ht];refine bT (CfW c A s k ds rs cs H) ⟨r,cs,none,rfl,Same.new nr,nr,upd_same,rfl,(by show Au cs (ds++[]++rs);rw[ae];exact mk),λ_ _=>rfl⟩ ?_ ?_
 . rintro i σ H2 hi ⟨r2,cs2,x6,rfl,s2,nr2,hr2,hl2,mk2,Ew⟩;have hlt:∀j:Nat,j<i+1->A+k*(j:Int)<A+s:=λj hj=>by
     by_cases e:k*((s/k).toNat:Int)=s
     . rw[if_pos e] at hi;have:=Ψ (show ((j:Int)+1)<=((s/k).toNat:Int) by omega) (show 0<=k by omega);rw[du,mz] at this;omega
     . rw[if_neg e] at hi;have:=Ψ (show (j:Int)<=((s/k).toNat:Int) by omega) (show 0<=k by omega);omega
   obtain⟨l0,l1,l2,mk3⟩:=yq h0 h1 hd hr (by omega) hlt mk2;have ei:A+(i:Int)*k=A+k*(i:Int):=by rw[jk]
   have hbA:A<=A+k*(i:Int):=by
     have:=fw (show 0<=k by omega) (show (0:Int)<=(i:Int) by omega);omega
   have hbE:A+k*(i:Int)+min k (A+s-(A+k*(i:Int)))<=A+s:=by omega
   rw[ei];have el:(if A+s-(A+k*(i:Int))<k then A+s-(A+k*(i:Int)) else k)=min k (A+s-(A+k*(i:Int))):=by omega
   walk_at "";rw[el];generalize min k (A+s-(A+k*(i:Int)))=l at l1 l2 mk3 hbE ⊢;generalize A+k*(i:Int)=b at l0 l2 mk3 hbA hbE ⊢;walk_at "";refine⟨r2,cs2,b,l,false,rfl,SqL.of hr2,by omega,l0,l1,by omega,λp H3 np s3 hp=>?_⟩;walk_at "";exact⟨p,_,_,rfl,s2.trans s3,s2.free np,hp,(by rw[B0];exact hl2),mk3,λm hm=>by rw[De l0 l1 (by omega)];exact Ew m hm⟩
 . rintro σ H2 ⟨r2,cs2,x6,rfl,s2,nr2,hr2,hl2,mk2,Ew⟩;walk_at "";refine q r2 cs2 H2 nr2 s2 hr2 hl2 ?_ Ew;rw[yt (q:=(s/k).toNat) h1 d1 d2 rfl,ao] at mk2;exact mk2
abbrev wv(K:δ)(CN:uH)(c:uH)(cs:List Int)(s k:Int)(fs:List Sf)(H:Hp)(Q:VK)(E:XK):Prop:=((L_ s k fs/\∀(H':Hp),Same H H'->E (.ref CN) none H') \/ (∃(j i:Nat)(b:List Bool)(fs1:List Sf),Gs s k fs j i b fs1/\∀(p:uH)(cs':List Int)(H':Hp),Same H H'->SqL K H' p (cs'.map V.int)->cs'.length=cs.length->fs1.length=fs.length->Au cs' (alP s 0 fs1)->(∀y∈alP s 0 fs,y.v=true->∀m:Nat,Inn y m->cs'[m]?=cs[m]?)->Q (.ref p) H'))
def gA(K:δ)(CN:uH):Sp:=λvs H Q E=>∃(c:uH)(cs:List Int)(s k:Int)(fs:List Sf),vs=[.ref c,.int s,.int k]/\SqL K H c (cs.map V.int)/\cs.length<=1200/\(cs.length:Int)=s*(fs.length:Int)/\1<=s/\3<=k/\(∀f∈fs,xh s f)/\Au cs (alP s 0 fs)/\wv K CN c cs s k fs H Q E
variable (B6:wO P w K mg base "free_slots" 5 ["cells","shelf","size"] (fY K))
variable (Dw:wO P w K mg base "whole_ones" 5 ["cells","shelf"] (fX K))
variable (Dx:wO P w K mg base "cut_for" 3 ["cells","begin","shelf","size"] (fZ K))
include T B6 Dw Dx in
theorem M6(S:Src K mg "with_slot" Rg):wO P w K mg base "with_slot" 6 ["cells","shelf","size"] (gA K AT):=by
 refine S.okx eI Ie λf _ A _ s H vs Q E hr h=>?_;obtain⟨c,cs,s,k,fs,rfl,hS,hz,hl,hs,hk,ok,mk,hq⟩:=h;refine⟨_,(Ad (Ay (BV (q_ B6 hr (Aa s_ (Aa r_ (Aa t_ Ab)))) (λ_=>rfl)) (Af (Ao s_)) Az) (Ad (o_ 3 eI (q_ Dw hr (Aa s_ (Aa r_ Ab)))) (Ad (Ay (PW.pt (Bn (As DT t_ r_) (BR (Bo (BV u_ (λ_=>rfl)))))) (Af (Cu T.Mv hr.hd rfl (Aa AM Ab))) Az) (Af (Ao (q_ Dx hr (Aa s_ (Aa (Ar AY u_ Ac) (Aa r_ (Aa t_ Ab)))))))))),?_⟩;walk_at "D";have W:∀f∈fs,SfW s f:=λf hf=>(ok f hf).1;have ch:=KU hs W hl;have hw:=BZ ch mk;have hle:=ch.le;walk_at "";refine⟨c,cs,_,s,k,rfl,hS,by omega,hw,by omega,ch,hs,λp H1 np s1 hp=>?_⟩;have hS1:=s1.seq hS;have none1:(∀f∈fs,¬(f.n=k/\false∈f.b))->¬(k=s/\∃f∈fs,f.n=0)->CZ cs (alP s 0 fs) k s=[]:=λg1 g2=>by
   have:=Tz (cs:=cs) (fs:=fs) (j:=0) hs (show 1<=k by omega) W (by rw[show s*((0:Nat):Int)=0 by simp];exact mk) (λf hf=>⟨g1 f hf,λh=>g2 ⟨h.1,f,hf,h.2⟩⟩);rw[show s*((0:Nat):Int)=0 by simp] at this;exact this
 rcases hq with ⟨⟨g1,g2⟩,qe⟩ | ⟨j,i,b,fs1,G,q⟩
 . have esl:=none1 g1 (by
     rintro⟨e,f,hf,e0⟩;rcases g2 with g2 | g2
     . omega
     . exact g2 f hf e0)
   rw[esl,ib] at hp;walk_at "";refine iteT ?_;walk_at "";refine⟨c,cs,_,s,rfl,hS1,by omega,hw,by omega,λp2 H2 np2 s2 hp2=>?_⟩;walk_at "";refine AJ (λhlt=>?_) (λhlt=>?_)
   . walk_at "";exact qe H2 (s1.trans s2)
   . have ef:=TC (A:=0) hs ok (g2.resolve_left (by omega));rw[ef,ib] at hp2;walk_at "";refine iteT ?_;walk_at "";exact qe H2 (s1.trans s2)
 . obtain⟨c1,c2,c3,c4,c5⟩:=id G;rcases c5 with e | ⟨c6,ks,i0,eb,⟨f0,c8,c9⟩,c10,e⟩
   . obtain⟨ys,esl⟩:=G.slot (cs:=cs) hs hk ok (by rw[e];exact mk);rw[e] at esl;rw[esl,av] at hp;walk_at "";refine iteF ?_;walk_at "";exact q c cs H1 s1 hS1 rfl (by rw[e]) (by rw[e];exact mk) (λ_ _ _ _ _=>rfl)
   . have ln:fs1.length=fs.length:=by rw[e];exact ax
     by_cases hsk:k=s
     . have e1:(s/s).toNat=1:=by rw[Int.ediv_self (by omega)];rfl
       have ea:alP s 0 fs1=alP s 0 fs:=by
         obtain⟨ds,rs,e3,_,_⟩:=Hk hs W c8;have e4:=e3 f0;rw[Hl c8] at e4;rw[e,e3,e4,eb,hsk,e1];have hf0:f0=⟨0,[]⟩:=by
           rcases(ok f0 (ε c8)).1 with ⟨z1,z2⟩ | ⟨z3,_⟩
           . obtain⟨n0,b0⟩:=f0;have z1:n0=0:=z1;have z2:b0=[]:=z2;rw[z1,z2]
           . omega
         rw[hf0,GB hs];unfold shP fr;show ds++((⟨s*(j:Int),s,false⟩::slP s (s*(j:Int)+s) []++if s*(j:Int)+s*((1:Nat):Int)=s*(j:Int)+s then [] else [⟨s*(j:Int)+s*((1:Nat):Int),_,false⟩])++rs)=_;rw[if_pos (by simp)];rfl
       obtain⟨ys,esl⟩:=G.slot (cs:=cs) hs hk ok (by rw[ea];exact mk);rw[ea] at esl;rw[esl,av] at hp;walk_at "";refine iteF ?_;walk_at "";exact q c cs H1 s1 hS1 rfl ln (by rw[ea];exact mk) (λ_ _ _ _ _=>rfl)
     . have esl:=none1 c6 (λh=>hsk h.1);rw[esl,ib] at hp;walk_at "";refine iteT ?_;walk_at "";refine⟨c,cs,_,s,rfl,hS1,by omega,hw,by omega,λp2 H2 np2 s2 hp2=>?_⟩;obtain⟨zs,ef⟩:=oC hs ok c8 c9 c10;rw[ef,av] at hp2;have hS2:=s2.seq hS1;walk_at "";refine iteF ?_;walk_at "";refine DN (v:=V.int (s*(j:Int))) (SqL.of hp2) (show atI (V.int _::_) ((0:Nat):Int)=some (V.int _) from Kv rfl) ?_;walk_at "";obtain⟨ds,rs,e3,k1,k2⟩:=Hk hs W c8;have l1:=k1.le;have l2:=k2.le;have mk2:=mk;rw[<-Hl c8,e3 f0] at mk2;refine⟨c,cs,s*(j:Int),s,k,ds,rs,rfl,hS2,hz,by omega,by omega,by omega,by omega,k1.endBy (aq 0),k2.fromOn,mk2.sub (λp hp=>?_),λp3 cs' H3 np3 s3 hp3 hl3 mk3 Sl=>?_⟩
       . rcases θ.mp hp with g | g
         . exact μ _ g
         . exact ζ _ (ζ _ g)
       walk_at "";refine q p3 cs' H3 ((s1.trans s2).trans s3) (SqL.of hp3) hl3 ln (by rw[e,e3,eb];exact mk3) (λy hy hv m hm=>Sl m ?_);obtain⟨m1,m2⟩:=hm;rw[<-Hl c8,e3 f0] at hy;rcases θ.mp hy with g | g
       . have:=(k1.mem y g).2.2.2;omega
       . rcases θ.mp g with g | g
         . obtain⟨i1,g1,_⟩:=dC g hv;rcases W f0 (ε c8) with ⟨_,z2⟩ | ⟨z3,_⟩
           . rw[z2] at g1;simp at g1
           . omega
         . have:=(k2.mem y g).1;omega
theorem AE.free{x a:uH}{H H':Hp}(k:AE x H H')(hx:H' x≠none)(n:H' a=none):H a=none:=by
 cases e:H a with
 | none=>rfl
 | some o=>
   by_cases w:a=x
   . rw[w] at n;exact absurd n hx
   . rw[k a o w e] at n;cases n
theorem gB{s:Int}(h:1<=s)(m:Nat):Ak 0 (DY s 0 m) (xu s m).length:=by
 have c:=Qo h m 0;rw[show s*((0:Nat):Int)=0 by simp,md] at c;rw[MY h m];exact c
abbrev ww(C CN:uH)(x dx:uH)(z s:Int)(H:Hp)(Q:VK)(E:XK):Prop:=((z<1\/s<1\/(1<=s/\z%s≠0))->E (.ref CN) none H) /\ (∀m:Nat,1<=s->1<=m->z=s*(m:Int)->∀(a:uH)(H':Hp),H a=none->AE x H H'->H' x=some (.ins C dx [("room_cells",.ref a),("shelf",.int s)])->H' a=some (.lst ((xu s m).map V.int))->Q .non H')
def yU(C CN:uH):Sp:=λvs H Q E=>∃(x dx:uH)(z s:Int),vs=[.ref x,.int z,.int s]/\H x=some (.ins C dx [])/\z<=1200/\s<=4000/\ww C CN x dx z s H Q E
theorem gD{s:Int}(h:1<=s)(m:Nat):((xu s m).length:Int)=s*((ο m (⟨0,[]⟩:Sf)).length:Int)/\(∀f∈ο m (⟨0,[]⟩:Sf),xh s f)/\Au (xu s m) (alP s 0 (ο m ⟨0,[]⟩)):=by
 refine⟨by rw[ag];exact MY h m,λf hf=>?_,?_⟩
 . rw[(la.mp hf).2];exact⟨.inl ⟨rfl,rfl⟩,λh0=>absurd rfl h0⟩
 . have:=fW h m 0;rw[show s*((0:Nat):Int)=0 by simp] at this;rw[this];exact(Qq h (Ec (by omega)) (Uc h) m).1
variable (B7:wO P w K mg base "all_whole" 3 ["size","shelf"] (fU A5))
include T B5 D_lay B7 in
theorem qV(F:Fun K "__init__" "Shelves.__init__" RI f₀ fd₀)(M:Mk K Y4 f₀):wY P w K mg base "Shelves" Y4 8 ["self","size","shelf"] [] (yU Y4 A5):=by
 refine⟨⟨f₀,fd₀,[],A3 F eJ (λ_ A _ s H vs Q E hr h=>?_),M,F.binds pK,.nil⟩,T.pR⟩;obtain⟨x,dx,z,s,rfl,hx,hz,hs4,qe,q⟩:=h;refine⟨_,(Ad (o_ 3 eJ (Bt B7 hr (by rfl) (Aa r_ (Aa t_ Ab)))) (Ad (Bd (SQ B5 Bz hr (by rfl) (Aa s_ (Aa r_ Ab)))) (Ad (Cz s_ t_ rfl) (Af (Bd (BG D_lay Bl hr s_ (Aa u_ Ab))))))),?_⟩;walk_at "D";have cl:=T.JA;have na:=T.Mx;have nb:=T.Sa;walk_at "";refine⟨z,s,rfl,by omega,by omega,qe,λm' h1 m1 ez p H1 np s1 hp=>?_⟩;have q:=q m' h1 m1 ez;have z1:s<=s*(m':Int):=by
   have:=Ψ (show (1:Int)<=(m':Int) by omega) (show 0<=s by omega);omega
 rw[<-ez] at z1;have hx1:=s1 x _ hx;have hpx:p≠x:=λw=>by rw[w,hx] at np;cases np
 walk_at "";refine⟨W7.shel,x,dx,z,rfl,hx1,by omega,by omega,λa H2 na2 k2 hx2 ha2=>?_⟩;have hx2:H2 x=some (.ins Y4 dx [("room_cells",.ref a)]):=hx2;have hp2:=k2 p _ hpx hp;have hax:a≠x:=λw=>by rw[w,hx1] at na2;cases na2
 have e1:=MY h1 m';have hl1:(xu s m').length=(Bv z).length:=by
   have e2:=Ec (n:=z) (by omega);omega
 walk_at "";have hxF:upd H2 x (.ins Y4 dx (xc "shelf" (.int s) [("room_cells",.ref a)])) x=some (.ins ((cF Ag Ah Ae Ai Y6 Y4 Aj) W7.shel) dx (fsF W7.shel a s)):=upd_same;refine⟨W7.shel,x,dx,_,rfl,hxF,rfl,?_⟩;walk_at "";refine⟨s,x,p,dx,a,Bv z,xu s m',_,rfl,hxF,look_ne hax ha2,hl1,SqL.of (look_ne hpx hp2),by omega,gB h1 m',fR h1 m',λa' H4 na4 k4 hx4 ha4=>?_⟩;walk_at "";exact q a' H4 (AE.free ((AE.of s1).trans k2).put (by rw[hxF];exact λw=>nomatch w) na4) (((AE.of s1).trans k2).put.trans k4) hx4 ha4
variable (Dy:wO P w K mg base "with_slot" 6 ["cells","shelf","size"] (gA K AT))
include T Aq BB Av D_lay B6 Dy in
theorem M7{T₀:uH}{tk₀:Tok}{tc₀:uG}{tn₀:Nat}(F:FunD K "ask" "Shelves.ask" EV (.ref T₀) f₀ fd₀)(LT:K.lookup T₀=some ⟨tc₀,td₀,.seq [.int 1 tk₀].toArray tn₀,ts₀⟩)(M:wT K Y4 "ask" f₀):MethD P w K mg base Y4 "ask" 8 ["self","count","bound"] [.int 1] (JH (cF Ag Ah Ae Ai Y6 Y4 Aj) Y2 AT W7.shel):=by
 refine MethD.made (fd:=fd₀) ?_ M (F.bindsA LT (IX T₀ _)) (F.bindsD LT (IY T₀ _)) (.cons ⟨tk₀,rfl⟩ .nil) T.JA;refine Gy F RN (λvs H Q E h=>by revert h;walk_at "l") (λ_ A _ s H vs Q E hr h=>?_);obtain⟨x,dx,a,q3,cs,c,b0,rfl,hi,S,c1',c30,hb0,qB,qN,qQ⟩:=h;refine⟨_,(Ad (Bd (Bt BB hr (by rfl) (Aa r_ (Aa t_ Ab)))) (Ad (o_ 3 RN (Am AL r_ (ED (v:=.int 2) (by rfl) T.GE ⟨_,rfl⟩))) (Ad (o_ 4 RN (Bt Dy hr (by rfl) (Aa (Dj Av Bz hr s_) (Aa (BO s_ rfl) (Aa u_ Ab))))) (Ad (o_ 5 RN (Ar AY (q_ B6 hr (Aa vw (Aa (BO s_ rfl) (Aa u_ Ab)))) Ac)) (Ad (Bd (BG D_lay Bl hr s_ (Aa (q_ Aq hr (Aa vw (Aa vx (Aa u_ (Aa AR Ab))))) Ab))) (Af (Ao (Am AL vx Ac)))))))),?_⟩;walk_at "D";have o3:ok3 q3.let3:=by rw[<-hi];exact trivial
 have hc2:c+2<2^220/\(1:Int)=1:=⟨c220 c30,rfl⟩
 have qa:c<1\/b0<1->∀H',Same H H'->E (.ref C8) none H':=λh=>absurd h (by omega);have qb:1<=c->1<=b0->b0≠1->∀H',Same H H'->E (.ref Y2) none H':=λ_ _ h=>qB trivial h;have hq:1<=c->b0=1->((No7 c b0 q3/\∀H',Same H H'->E (.ref AT) none H')\/∃p q',yC c q3 p q'/\∀(a':uH)(cs':List Int)(H':Hp),xB q3 c 1 p q' cs cs'->H a'=none->AE x H H'->cs'.length=cs.length->KS (cF Ag Ah Ae Ai Y6 Y4 Aj) x dx a' q' cs' H'->Q (.int p) H'):=λc1 b1=>
   (TU b0 S.ok o3 c1).imp (λhn=>⟨hn,qN (λ_=>b1) hn⟩) λ⟨p,q',hA⟩=>⟨p,q',hA,λa' cs' H' hK=>qQ (λ_=>b1) p q' a' cs' H' (by rw[b1];exact hK)⟩
 cases q3 with
 | half _ _=>cases hi
 | row _ _=>cases hi
 | st i0 _ _ _=>
   have hi0:W7.shel=i0:=hi;subst hi0;exact(show False from S.ok.1).elim
 | shel s fs=>
 have hx:H x=some (.ins ((cF Ag Ah Ae Ai Y6 Y4 Aj) W7.shel) dx (fsF W7.shel a s)):=S.hx;have hx0:H x=some (.ins Y4 dx [("room_cells",.ref a),("shelf",.int s)]):=S.hx;have ha:=S.ha;have hl:(cs.length:Int)=s*(fs.length:Int):=S.hl;have hz:=S.hz;obtain⟨hs3,hf1,ok⟩:=id S.ok;have hs:1<=s:=by omega
 have mk:Au cs (alP s 0 fs):=S.mm;have cl:=T.JA;have na:=T.Mx;have nb:=T.Sa;walk_at "";refine⟨c,b0,rfl,λh=>qa h H (Same.refl _),λh1 h2 h3=>qb h1 h2 h3 H (Same.refl _),λhc hb1=>?_⟩;walk_at "";refine⟨s,x,dx,a,cs,rfl,hx,ha,λp H1 np s1 hp=>?_⟩;have hx1:=s1 x _ hx;have hx01:=s1 x _ hx0;have ha1:=s1 a _ ha;walk_at "";refine⟨p,cs,s,c+2,fs,rfl,SqL.of hp,hz,hl,hs,by omega,ok,mk,?_⟩;rcases hq hc hb1 with ⟨g,qe⟩ | ⟨p0,q0,G0,q⟩
 . exact .inl ⟨g,λH2 s2=>qe H2 (s1.trans s2)⟩
 cases G0 with
 | shel G ln0=>
 rename_i fs1 j i b;refine .inr ⟨j,i,b,fs1,G,λp2 cs2 H2 s2 hp2 hl2 ln mk2 Ew=>?_⟩;obtain⟨pt1,_,pt3,_⟩:=G.parts hs (by omega) ok;have W1:=G.W (by omega) ok;have hl3:(cs2.length:Int)=s*(fs1.length:Int):=by rw[hl2,ln];exact hl
 have ch2:=KU hs W1 hl3;have hw2:=BZ ch2 mk2;have hle2:=ch2.le;have hx2:=s2 x _ hx1;have hx02:=s2 x _ hx01;have ha2:=s2 a _ ha1;obtain⟨ys,esl⟩:=G.slot hs (by omega) ok mk2;walk_at "";refine⟨p2,cs2,_,s,c+2,rfl,hp2,by omega,hw2,by omega,ch2,hs,λp3 H3 np3 s3 hp3=>?_⟩;rw[esl,av] at hp3;have hp23:=s3.seq hp2;have hx3:=s3 x _ hx2;have ha3:=s3 a _ ha2;obtain⟨g0,_,g4,_,mk4⟩:=cP (v:=true) hs W1 G.1 G.2.1 hl3 mk2;have ok4:=G.ok (by omega) ok;walk_at "";refine DN (SqL.of hp3) (show atI (V.int _::_) ((0:Nat):Int)=some (V.int _) from Kv rfl) ?_;generalize eat:s*(j:Int)+(c+2)*(i:Int)=at0 at g0 g4 mk4 q pt3;walk_at "";refine⟨p2,cs2,at0,c+2,true,rfl,hp23,by omega,g0,by omega,g4,λp4 H4 np4 s4 hp4=>?_⟩;have hl4:(AS cs2 at0 (c+2) true).length=cs.length:=by rw[B0];exact hl2
 have hl5:((AS cs2 at0 (c+2) true).length:Int)=s*((fs1.set j ⟨c+2,b.set i true⟩).length:Int):=by rw[B0,ax];exact hl3
 have hw4:=BZ (KU hs (λf hf=>(ok4 f hf).1) hl5) mk4;walk_at "";refine⟨s,x,p4,dx,a,cs,_,_,rfl,s4 x _ hx3,s4 a _ ha3,hl4,SqL.of hp4,by omega,KU hs (λf hf=>(ok4 f hf).1) hl5,hw4,λa' H5 na5 k5 hx5 ha5=>?_⟩;walk_at "";have s14:=((s1.trans s2).trans s3).trans s4;have ho:∀y∈alP s 0 fs,y.v=true->∀m:Nat,Inn y m->(AS cs2 at0 (c+2) true)[m]?=cs[m]?:=λy hy hv m hm=>by
   have ha:(m:Int)<at0\/at0+(c+2)<=m:=TV ch2 (pt1 y hy hv).1 pt3 (λe=>by rw[e] at hv;cases hv) hm;rw[De g0 (by omega) ha];exact Ew y hy hv m hm
 exact q a' _ H5 (by rw[<-eat];exact oS G hs ok hc (by rw[eat];exact ho)) (s14.free na5) ((AE.of s14).trans k5) hl4 ⟨hx5,ha5,hl5,by omega,⟨hs3,by rw[ax,ln];exact hf1,ok4⟩,mk4⟩
theorem qW(l:List Int):l=[]\/∃D y,l=D++[y]:=by
 rcases mt l with h | ⟨D,y,h⟩
 . exact .inl h
 . exact .inr ⟨D,y,by simpa using h⟩
variable (B8:wO P w K mg base "cut_out" 7 ["cells","at","place","long"] (y_ K Y3 AT))
include T BB AV Av D_lay B8 in
theorem JJ{T₀:uH}{tk₀:Tok}{tc₀:uG}{tn₀:Nat}(F:FunD K "ask" "Row.ask" EW (.ref T₀) f₀ fd₀)(LT:K.lookup T₀=some ⟨tc₀,td₀,.seq [.int 1 tk₀].toArray tn₀,ts₀⟩)(M:wT K Aj "ask" f₀):MethD P w K mg base Aj "ask" 8 ["self","count","bound"] [.int 1] (JH (cF Ag Ah Ae Ai Y6 Y4 Aj) Y2 AT W7.row):=by
 refine MethD.made (fd:=fd₀) ?_ M (F.bindsA LT (IZ T₀ _)) (F.bindsD LT (I0 T₀ _)) (.cons ⟨tk₀,rfl⟩ .nil) T.cl_Row;refine Gy F RO (λvs H Q E h=>by revert h;walk_at "l") (λ_ A _ s H vs Q E hr h=>?_);obtain⟨x,dx,a,q3,cs,c,b0,rfl,hi,S,c1',c30,hb0,qB,qN,qQ⟩:=h;refine⟨_,(Ad (Bd (Bt BB hr (by rfl) (Aa r_ (Aa t_ Ab)))) (Ad (CT (Ar AY (Dj AV Bz hr s_) (Gp Gq Ac)) (DS rfl (AO (p_ 3 RO) (AO (p_ 4 RO) (AO (p_ 5 RO) Cl))))) (Ad (Ay (BV vx (λ_=>rfl)) (Af (Cu T.Mv hr.hd rfl (Aa AM Ab))) Az) (Ad (Bd (BG D_lay Bl hr s_ (Aa (Bt B8 hr (by rfl) (Aa (Dj Av Bz hr s_) (Aa u_ (Aa u_ (Aa (Am AL r_ (ED (v:=.int 2) (by rfl) T.GE ⟨_,rfl⟩)) Ab))))) Ab))) (Af (Ao (Am AL u_ Ac))))))),?_⟩;walk_at "D";have o3:ok3 q3.let3:=by rw[<-hi];exact trivial
 have hc2:c+2<2^220/\(1:Int)=1:=⟨c220 c30,rfl⟩
 have qa:c<1\/b0<1->∀H',Same H H'->E (.ref C8) none H':=λh=>absurd h (by omega);have qb:1<=c->1<=b0->b0≠1->∀H',Same H H'->E (.ref Y2) none H':=λ_ _ h=>qB trivial h;have hq:1<=c->b0=1->((No7 c b0 q3/\∀H',Same H H'->E (.ref AT) none H')\/∃p q',yC c q3 p q'/\∀(a':uH)(cs':List Int)(H':Hp),xB q3 c 1 p q' cs cs'->H a'=none->AE x H H'->cs'.length=cs.length->KS (cF Ag Ah Ae Ai Y6 Y4 Aj) x dx a' q' cs' H'->Q (.int p) H'):=λc1 b1=>
   (TU b0 S.ok o3 c1).imp (λhn=>⟨hn,qN (λ_=>b1) hn⟩) λ⟨p,q',hA⟩=>⟨p,q',hA,λa' cs' H' hK=>qQ (λ_=>b1) p q' a' cs' H' (by rw[b1];exact hK)⟩
 cases q3 with
 | half _ _=>cases hi
 | shel _ _=>cases hi
 | st i0 _ _ _=>
   have hi0:W7.row=i0:=hi;subst hi0;exact(show False from S.ok.1).elim
 | row n ls=>
 have hl:(cs.length:Int)=n:=S.hl;subst hl;obtain⟨hn3,h3,hs⟩:=id S.ok;have cl:=T.cl_Row;have na:=T.T9;have hx:H x=some (.ins ((cF Ag Ah Ae Ai Y6 Y4 Aj) W7.row) dx (fsF W7.row a cs.length)):=S.hx;have ha:=S.ha;have hz:=S.hz;have hc:Ak 0 (rwP ls cs.length) cs.length:=S.ch;have mk:Au cs (rwP ls cs.length):=S.mm;have h0:=oM h3;walk_at "";refine⟨c,b0,rfl,λh=>qa h H (Same.refl _),λh1 h2 h3=>qb h1 h2 h3 H (Same.refl _),λh1 hb1=>?_⟩;have qe:(cs.length:Int)<wP ls+(c+2)->∀H',Same H H'->E (.ref AT) none H':=λhlt=>by
   rcases hq h1 hb1 with ⟨_,qe⟩ | ⟨p0,q0,G0,_⟩
   . exact qe
   . cases G0 with
     | row g=>omega
 have q:wP ls+(c+2)<=cs.length->∀(a':uH)(cs':List Int)(H':Hp),xB (.row cs.length ls) c 1 (wP ls+1) (.row cs.length (ls++[c+2])) cs cs'->H a'=none->AE x H H'->cs'.length=cs.length->KS (cF Ag Ah Ae Ai Y6 Y4 Aj) x dx a' (.row cs.length (ls++[c+2])) cs' H'->Q (.int (wP ls+1)) H':=λhle=>by
   rcases hq h1 hb1 with ⟨g,_⟩ | ⟨p0,q0,G0,q⟩
   . have g:(cs.length:Int)<wP ls+(c+2):=g;omega
   . cases G0 with
     | row g=>exact q
 walk_at "";refine⟨_,x,dx,a,cs,_,rfl,S.bs,λlp us H1 nlp s1 hlp pa=>?_⟩;have pa:AH H1 us (rwP ls cs.length):=pa;have hx1:=s1 x _ hx;have ha1:=s1 a _ ha;by_cases hf:wP ls<cs.length
 . rw[L8 hf] at pa;obtain⟨ui,t,rfl,pi,hT⟩:=pa.unsnoc;have hT:H1 t=some (.tup [.int (wP ls),.int (cs.length-wP ls),.bl false]):=hT;walk_at "";refine G8 (SqL.of hlp) ?_;walk_at "";refine⟨_,x,dx,a,cs,rfl,hx1,ha1,λp H2 np s2 hp=>?_⟩;have hx2:=s2 x _ hx1;have ha2:=s2 a _ ha1;have s12:=s1.trans s2;have hfm:(⟨wP ls,cs.length-wP ls,false⟩:Pc)∈rwP ls cs.length:=by rw[L8 hf];simp
   walk_at "";refine⟨p,cs,rwP ls cs.length,wP ls,wP ls,c+2,rfl,SqL.of hp,by omega,hc,mk,by omega,λz hzm hk hv e1 e2 p2 H3 np2 s3 hp2=>?_,λz hzm hk hv hno H3 s3=>?_,λhno=>absurd rfl (hno _ hfm rfl)⟩
   . have ez:=Cj hc hzm hfm hk;subst ez;have e2:wP ls+(c+2)<=wP ls+(cs.length-wP ls):=e2;have hle:wP ls+(c+2)<=cs.length:=by omega
     have hp2:H3 p2=some (.lst ((xq cs (wP ls) (cs.length-wP ls) (wP ls) (c+2)).map V.int)):=hp2;have s13:=s12.trans s3;have m2:=oK h3 rfl h0 (show 1<=c+2 by omega) hle mk;have g3:∀l∈ls++[c+2],3<=l:=λl hl=>(θ.mp hl).elim (h3 l) λhl=>by rw[υ.mp hl];omega
     have c2:=dH g3 (show wP (ls++[c+2])<=cs.length by rw[TK];omega);have lc:=Qh cs (wP ls) (cs.length-wP ls) (wP ls) (c+2);have c2':Ak 0 (rwP (ls++[c+2]) cs.length) (xq cs (wP ls) (cs.length-wP ls) (wP ls) (c+2)).length:=by rw[lc];exact c2
     have out:True:=trivial;have ho:∀y∈rwP ls cs.length,y.v=true->∀m:Nat,Inn y m->(xq cs (wP ls) (cs.length-wP ls) (wP ls) (c+2))[m]?=cs[m]?:=λy hy hv m hm=>cD (z:=⟨wP ls,cs.length-wP ls,false⟩) hc hfm rfl (by omega) (aq _) e2 hy hv hm;generalize xq cs (wP ls) (cs.length-wP ls) (wP ls) (c+2)=cs' at hp2 m2 lc c2' ho;walk_at "";refine⟨_,x,p2,dx,a,cs,cs',_,rfl,s3 x _ hx2,s3 a _ ha2,lc,SqL.of hp2,by omega,c2',BZ c2' m2,λa' H4 na4 k4 hx4 ha4=>?_⟩;walk_at "";exact q hle a' cs' H4 (oU h3 ho) (s13.free na4) ((AE.of s13).trans k4) lc ⟨hx4,ha4,by rw[lc];rfl,by omega,⟨hn3,g3,by rw[TK];omega⟩,m2⟩
   . have ez:=Cj hc hzm hfm hk;subst ez;have hno:¬(wP ls<=wP ls/\wP ls+(c+2)<=wP ls+(cs.length-wP ls)):=hno;exact qe (by omega) H3 (s12.trans s3)
 . have ef:wP ls=cs.length:=by omega
   rw[oJ ef] at pa;rcases qW ls with e0 | ⟨D,l,e0⟩
   . rw[e0] at ef;have:(0:Int)=cs.length:=ef;omega
   . rw[e0,KI] at pa;obtain⟨ui,t,rfl,pi,hT⟩:=pa.unsnoc;have hT:H1 t=some (.tup [.int (0+wP D),.int l,.bl true]):=hT;walk_at "";refine G8 (SqL.of hlp) ?_;walk_at "";exact qe (by omega) H1 s1
def Ed(L b:Int)(z:Pc):Option (List V):=if z.v=true then none else (fp z.a z.l L b).map λp=>[V.int z.a,V.int p]
def C9(ps:List Pc)(L b:Int):List (List V):=ps.filterMap (Ed L b)
theorem qX{L b:Int}{i:Nat}(h:ps[i]?=some z):C9 (ps.take (i+1)) L b=C9 (ps.take i) L b++(Ed L b z).toList:=by
 unfold C9;rw[ck,h,List.filterMap_append];cases e:Ed L b z <;> simp [e]
theorem M8(ps:List Pc)(L b:Int):(C9 ps L b).length<=ps.length:=List.length_filterMap_le _ _
def gF:Sp:=λvs H Q _=>∃(t:uH)(a n L b:Int)(v:Bool),vs=[.ref t,.int L,.int b]/\H t=some (.tup [.int a,.int n,.bl v])/\1<=b/\Q (wS (fp a n L b)) H
abbrev wx(K:δ)(a:uH)(cs:List Int)(ps:List Pc)(L b:Int)(H:Hp)(Q:VK):Prop:=∀(p:uH)(us:List V)(H':Hp),H p=none->Same H H'->H' p=some (.lst us)->Cm H' us (C9 ps L b)->Q (.ref p) H'
def gG(K:δ):Sp:=λvs H Q _=>∃(a:uH)(cs:List Int)(ps:List Pc)(L b:Int),vs=[.ref a,.int L,.int b]/\SqL K H a (cs.map V.int)/\cs.length<=4000/\By cs 0=(ps,none)/\1<=b/\wx K a cs ps L b H Q
include T in
theorem M9(S:Src K mg "first_place" Ri):wO P w K mg base "first_place" 1 ["piece","long","bound"] (gF):=by
 refine S.okx Me Ii λf _ A _ s H vs Q E hr h=>?_;obtain⟨t,a,n,L,b,v,rfl,ht,hb,q⟩:=h;refine⟨_,PSs.nox (Ad (CT s_ (DS rfl (AO (p_ 3 Me) (AO (p_ 4 Me) (AO (p_ 5 Me) Cl))))) (Ad (o_ 6 Me (Am AL u_ (Am A6 (Gp Gq (Am AL u_ Ac)) t_))) (Ad (Ay (As DT (Am AL vz r_) (Am AL u_ vw)) (Af (Ao CQ)) Az) (Af (Ao vz))))),?_⟩;walk_at "D";have e:a + -(a+1)%b=fpl a b:=by unfold fpl;rw[lK hb]
 walk_at "";rw[e];refine AJ (λhc=>?_) (λhc=>?_)
 . walk_at "";unfold fp at q;rw[if_neg (by omega)] at q;exact q
 . walk_at "";unfold fp at q;rw[if_pos (by omega)] at q;exact q
def SpW(f0 f1 f2:Option V)(sp lp:uH)(us:List V)(ps:List Pc)(L b:Int)(H:Hp)(i:Nat)(σ:L2.St)(H':Hp):Prop:=
 ∃(ws:List V)(x4 x5:Option V),σ=[f0,f1,f2,some (.ref sp),x4,x5]/\Same H H'/\H' lp=some (.lst us)/\AH H' us ps/\H' sp=some (.lst ws)/\Cm H' ws (C9 (ps.take i) L b)
variable (Dz:wO P w K mg base "first_place" 1 ["piece","long","bound"] (gF))
include T AA Dz in
theorem Na(S:Src K mg "spots_for" Rj):wO P w K mg base "spots_for" 5 ["cells","long","bound"] (gG K):=by
 refine S.okx Rk Ij λf _ A _ s H vs Q E hr h=>?_;obtain⟨a,cs,ps,L,b,rfl,hS,hz,hw,hb,q⟩:=h;refine⟨_,PSs.nox (Ad (o_ 3 Rk (DU Ab)) (Ad (Db bj rfl (BU (q_ AA hr (Aa s_ Ab))) (p_ 4 Rk) (Ad (o_ 5 Rk (q_ Dz hr (Aa vw (Aa r_ (Aa t_ Ab))))) (Af (Ay (PW.pt (Bw (Bo (BV (Ar AG vw Ac) (λ_=>rfl))) (BQ (As Ss vx CQ)))) (Af (Bd (LF ff fb fe Kw u_ (Aa (Cg (Aa (Ar AG vw Ac) (Aa vx Ab))) Ab)))) Az)))) (Af (Ao u_)))),?_⟩;walk_at "D";walk_at "";intro sp hsp;walk_at "";refine⟨a,cs,rfl,(Same.new hsp).seq hS,hz,(λc hc=>by rw[hw] at hc;cases hc),λ_ lp us H1 nlp s1 hlp pa=>?_⟩;have pa:AH H1 us ps:=by rw[hw] at pa;exact pa
 have hps:(ps.length:Int)<=cs.length:=by
   have:=Z9 cs cs.length 0 (by omega) (by omega);rw[hw] at this;exact this
 have hul:=pa.1;have hsp1:=s1 sp _ upd_same;have hne:lp≠sp:=λz=>by rw[z,upd_same] at nlp;cases nlp
 have s01:Same H H1:=(Same.new hsp).trans s1;refine⟨lp,rfl,⟨_,SqL.of hlp⟩,Ey (K:=K) (a:=lp) (xs:=us) (SpW (some (.ref a)) (some (.int L)) (some (.int b)) sp lp us ps L b H) ⟨[],none,none,rfl,s01,hlp,pa,hsp1,Cm.nil⟩ (λi σ H2 _ ⟨_,_,_,_,_,h,_⟩=>SqL.of h) ?_ ?_⟩
 . rintro i y σ H2 hi ⟨ws,x4,x5,rfl,s2,hlp2,pa2,hsp2,ta⟩;have hil:i<us.length:=(γ.mp hi).1;have hip:i<ps.length:=by omega
   obtain⟨t,et,hT⟩:=pa2.2 i ps[i] (by simp [hip]);have ey:y = .ref t:=χ (hi.symm.trans et);subst ey;have ht:=qX (L:=L) (b:=b) (show ps[i]?=some ps[i] by simp [hip]);have hwl:ws.length<=4000:=by
     have h1:=ta.1;have h2:=M8 (ps.take i) L b;rw[cj] at h2;omega
   generalize ps[i]=z at hT ht;walk_at "";refine⟨t,z.a,z.l,L,b,z.v,rfl,hT,hb,?_⟩;cases ef:fp z.a z.l L b with
   | none=>
     walk_at "";have e:Ed L b z=none:=by
       unfold Ed
       split
       . rfl
       . rw[ef];rfl
     rw[e,oz,ae] at ht;refine CC (λhv=>?_) (λhv=>?_)
     . walk_at "";exact⟨ws,_,_,rfl,s2,hlp2,pa2,hsp2,by rw[ht];exact ta⟩
     . walk_at "";exact⟨ws,_,_,rfl,s2,hlp2,pa2,hsp2,by rw[ht];exact ta⟩
   | some p=>
     walk_at "";refine CC (λhv=>?_) (λhv=>?_)
     . walk_at "";have e:Ed L b z=none:=by unfold Ed;rw[if_pos hv]
       rw[e,oz,ae] at ht;exact⟨ws,_,_,rfl,s2,hlp2,pa2,hsp2,by rw[ht];exact ta⟩
     . walk_at "";intro t2 ht2;have hst:sp≠t2:=BF hsp2 ht2;have hlt:lp≠t2:=BF hlp2 ht2;walk_at "";have e:Ed L b z=some [V.int z.a,V.int p]:=by unfold Ed;rw[hv,if_neg ν,ef];rfl
       rw[e] at ht;exact⟨ws++[.ref t2],_,_,rfl,(s2.put (s2.free ht2)).put hsp,look_ne hne (look_ne hlt hlp2),(pa2.mono (DO (.inl ht2))).mono (DO (.inr ⟨ws,look_ne hst hsp2⟩)),upd_same,by rw[ht];exact ta.push hsp2 ht2⟩
 . rintro σ H2 ⟨ws,x4,x5,rfl,s2,hlp2,pa2,hsp2,ta⟩;walk_at "";rw[ar (by omega)] at ta;exact q sp ws H2 hsp s2 hsp2 ta
def gH:Sp:=λvs H Q _=>∃(p:uH)(us:List V) (xs:List (List Int)),vs=[.ref p]/\H p=some (.lst us)/\Cm H us (xs.map λx=>x.map V.int)/\(∀x∈xs,x.length=3) /\
 (xs=[]->Q .non H)/\(0<xs.length->Q (.int ((xs.getD (BW xs (xs.length-1)) []).getD 2 0)) H)
include T in
theorem Nb(S:Src K mg "least_place" Rl):wO P w K mg base "least_place" 1 ["ranked"] (gH):=by
 refine S.okx Ik Il λf _ A _ s H vs Q E hr h=>?_;obtain⟨p,us,xs,rfl,hp,ta,h3,q0,q⟩:=h;refine⟨_,PSs.nox (Ad (Ay (Bo (BV s_ (λ_=>rfl))) (Af (Ao CQ)) Az) (Af (Ao (Ar AG (Bs (bM rfl hr.units) (by rfl) T.n_min fz (Aa s_ Ab)) Ac)))),?_⟩;walk_at "D";have hl:=ta.1;rw[Ξ] at hl;cases hx:us with
 | nil=>
   rw[hx] at hp hl;walk_at "";refine iteT ?_;walk_at "";exact q0 (cv.mp hl.symm)
 | cons u r=>
   have hpos:0<xs.length:=by rw[<-hl,hx,am];omega
   have hm:BW xs (xs.length-1)<xs.length:=by have:=KA xs (xs.length-1);omega
   rw[hx] at hp ta;walk_at "";refine iteF ?_;walk_at "";refine⟨p,_,xs,rfl,hp,ta,hpos,λt _ ht=>?_⟩;have q1:=q hpos;have hm3:(xs.getD (BW xs (xs.length-1)) []).length=3:=by
     have:xs.getD (BW xs (xs.length-1)) []=xs[BW xs (xs.length-1)]:=by simp [hm]
     rw[this];exact h3 _ (bp hm)
   generalize xs.getD (BW xs (xs.length-1)) []=m at ht q1 hm3
   match m,hm3 with
   | [m0,m1,m2],_=>
     walk_at "";exact q1
def BaW(H1:Hp)(ps:List Pc)(s:Int)(D:uH)(i:Nat)(ys:List V)(H2:Hp):Prop:=Same H1 H2/\H2 D=some (.lst ys)/\ys=(((ps.take i).filter λz=>decide (z.a<=s)).map λz=>V.int z.a)
def gJ(K:δ):Sp:=λvs H Q _=>∃(a:uH)(cs:List Int)(ps:List Pc)(i:Nat)(z:Pc)(s:Int),vs=[.ref a,.int s]/\SqL K H a (cs.map V.int)/\cs.length<=4000/\Ak 0 ps cs.length/\Au cs ps/\ps[i]?=some z/\z.a<=s/\s<z.a+z.l/\∀(H':Hp),Same H H'->Q (.int z.a) H'
theorem qY{n s:Int}{i:Nat}(hc:Ak 0 ps n)(hi:ps[i]?=some z)(h1:z.a<=s)(h2:s<z.a+z.l):∃D,(ps.filter λz=>decide (z.a<=s))=D++[z]:=by
 obtain⟨ds,rs,e1,e2,k1,k2⟩:=CD hc hi;subst e1;refine⟨ds.filter λz=>decide (z.a<=s),?_⟩;have e:(rs.filter λz=>decide (z.a<=s))=[]:=ig.mpr λp hp=>by
   have:=k2.fromOn p hp;rw[decide_eq_false (by omega)];exact ν
 rw[ci,bx,if_pos (decide_eq_true h1),e]
include T AA in
theorem Nc(S:Src K mg "begin_around" QS):wO P w K mg base "begin_around" 5 ["cells","cell"] (gJ K):=by
 refine S.okx dZ HE λf _ A _ s H vs Q E hr h=>?_;obtain⟨a,cs,ps,i,z,s,rfl,hS,hz,hc,mk,hi,h1,h2,q⟩:=h;refine⟨_,PSs.nox (Ad (Kz (i:=2) ["at","long","live"] ["cell"] [1] dZ.nd rfl (π rfl) rfl (BU (q_ AA hr (Aa s_ Ab))) (λcl C s₀ H₀ ex=>(EH (K:=K) (n:=3) rfl rfl (AO (AF (i:=0) (show ((["at","long","live"]:List Str)++(["cell"]:List Str)).Nodup by decide +kernel) rfl (π rfl)) (AO (AF (i:=1) (show ((["at","long","live"]:List Str)++(["cell"]:List Str)).Nodup by decide +kernel) rfl (π rfl)) (AO (AF (i:=2) (show ((["at","long","live"]:List Str)++(["cell"]:List Str)).Nodup by decide +kernel) rfl (π rfl)) Cl))))) (λcl C s₀ H₀ ex=>(EG (As Lx s_ u_))) (λcl C s₀ H₀ ex=>s_) (Hh rfl rfl rfl) (Hi (n:="cell") (by decide +kernel) rfl) (λy h=>DQ (by decide +kernel) h)) (Af (Ao (Ar AY t_ (Gp Gq Ac))))),?_⟩;walk_at "D";have hw:=BZ hc mk;have hple:=hc.le;walk_at "";refine⟨a,cs,rfl,hS,hz,(λc hc=>by rw[hw] at hc;cases hc),λ_ lp us H1 nlp s1 hlp pa=>?_⟩;have pa:AH H1 us ps:=by rw[hw] at pa;exact pa
 have hul:=pa.1;walk_at "";refine⟨lp,rfl,⟨_,SqL.of hlp⟩,Dh (K:=K) (a:=lp) (xs:=us) (fs:=[some (.int s)]) (BaW H1 ps s) (λD hD=>⟨Same.new hD,upd_same,rfl⟩) (λD i ys H2 _ h=>SqL.of (h.1 lp _ hlp)) ?_ ?_⟩
 . rintro D i y ys H2 hD hi ⟨s2,hD2,hy⟩ τ hτ;have hil:i<us.length:=(γ.mp hi).1;obtain⟨t,w,rfl,hw1,hT⟩:=LR (pa.same s2) hi;have hfl:=take_succ_filter (λp:Pc=>decide (p.a<=s)) ps i w hw1;have hyl:ys.length<=i:=by
     rw[hy,Ξ];refine de (jn _ _) ?_;rw[cj];omega
   obtain⟨τ0,τ1,τ2,rfl⟩:=a_ hτ
   walk_at "";refine⟨⟨[_,_,_],rfl,rfl⟩,?_⟩;walk_at "";refine AJ (λhle=>?_) (λhle=>?_)
   . rw[if_pos (decide_eq_true hle)] at hfl;walk_at "";refine⟨hD2,small4000 (by omega),Bp hil ⟨s2.put hD,upd_same,?_⟩⟩;rw[hfl,af,<-hy];rfl
   . rw[if_neg (by rw[decide_eq_false hle];exact ν),ae] at hfl;exact Bp hil ⟨s2,hD2,by rw[hfl];exact hy⟩
 . rintro D ys H2 hD ⟨s2,hD2,hy⟩;rw[ar (by omega)] at hy;obtain⟨D0,e0⟩:=qY hc hi h1 h2;rw[e0,af] at hy;subst hy;walk_at "";refine G8 (SqL.of hD2) ?_;walk_at "";exact q H2 (s1.trans s2)
theorem xZ{X:Cx}{K:δ}{e:uN}{f:Str}{pos:Pos}{ta:TE}(hK:X.K=K)(he:PE X e ta)(hb:attributeBase e f X.env (vh e X.env)=vh e X.env):PE X (.Attribute e f pos) (tFld K ta f):=hK▸BO he hb
theorem qZ{X:Cx}{K:δ}{T:String}{name:Str}{id:String}{r:V->List V->Hp->VK->Prop}{o:uN}{to:TE}{apos cpos:Pos}(hK:X.K=K)(pa:PlainAttrs T)(slot:Slot T name id)(hty:typeOf (.builtin id)=pure (.type "method_descriptor"))(hm:MtR X id r)(ho:PE X o to)
   (hbase:attributeBase o name X.env (vh o X.env)=vh o X.env:=by rfl) (hline:(apos.endLine==cpos.line)=true:=by rfl):PE X (.Call (.Attribute o name apos) [] [] cpos) (tBM0 K T r to):=hK▸SA pa slot hty hm ho hbase hline
def SpI(ps:List Pc)(L b a p:Int):Prop:=∃z∈ps,z.v=false/\z.a=a/\fp z.a z.l L b=some p
theorem fp_is{a l L b p:Int}(hb:1<=b)(h:fp a l L b=some p):a<=p/\p+L<=a+l/\(p+1)%b=0:=by
 unfold fp at h
 split at h
 . cases h;exact⟨zU hb,by assumption,lB hb⟩
 . cases h
theorem Sc{L b:Int}{q:List V}(h:q∈C9 ps L b):∃a p,q=[.int a,.int p]/\SpI ps L b a p:=by
 obtain⟨z,hz,e⟩:=kq.mp h;unfold Ed at e
 split at e
 . cases e
 . rename_i hv;obtain⟨p,e1,rfl⟩:=dj.mp e;exact⟨_,_,rfl,z,hz,by simpa using hv,rfl,e1⟩
theorem Sd{L b:Int}(h:(C9 ps L b).length=0):∀z∈ps,z.v=false->fp z.a z.l L b=none:=λz hz hv=>by
 have h:=List.filterMap_eq_nil_iff.mp (cv.mp h) z hz;unfold Ed at h;rw[if_neg (by rw[hv];exact ν)] at h;exact Option.map_eq_none_iff.mp h
def ChW(H1:Hp)(ps:List Pc)(L bd:Int)(D:uH)(i:Nat)(ys:List V)(H2:Hp):Prop:=Same H1 H2/\H2 D=some (.lst ys)/\∃xs:List (List Int),Cm H2 ys (xs.map λx=>x.map V.int)/\xs.length=i/\∀x∈xs,∃k a p,x=[k,a,p]/\SpI ps L bd a p
theorem Se{L bd:Int}{xs:List (List Int)}(h:∀x∈xs,∃k a p,x=[k,a,p]/\SpI ps L bd a p)(hp:0<xs.length):∃a,SpI ps L bd a ((xs.getD (BW xs (xs.length-1)) []).getD 2 0):=by
 have hm:=KA xs (xs.length-1);have hl:BW xs (xs.length-1)<xs.length:=by omega
 obtain⟨k,a,p,e,s⟩:=h _ (bp hl);rw[au (l:=xs),Ω hl];refine⟨a,?_⟩;show SpI ps L bd a ((xs[BW xs (xs.length-1)]).getD 2 0);rw[e];exact s
abbrev wy(C:W7->uH)(i:W7)(r:Int)(x dx a:uH)(cs:List Int)(ps:List Pc)(L bd:Int)(H:Hp)(Q:VK):Prop:=((∀z∈ps,z.v=false->fp z.a z.l L bd=none)->∀H',Same H H'->Q .non H')/\(∀b s:Int,SpI ps L bd b s->∀H',Same H H'->Q (.int s) H')
def KW(C:W7->uH)(i:W7):Sp:=λvs H Q _=>∃(r:Int)(x dx a:uH)(cs:List Int)(ps:List Pc)(L bd:Int),vs=[.ref x,.int L,.int bd]/\H x=some (.ins (C i) dx (fsF i a r))/\H a=some (.lst (cs.map V.int))/\cs.length<=1200/\Ak 0 ps cs.length/\Au cs ps/\1<=bd/\wy C i r x dx a cs ps L bd H Q
variable (AW:wO P w K mg base "spots_for" 5 ["cells","long","bound"] (gG K))
variable (AX:wO P w K mg base "least_place" 1 ["ranked"] (gH))
include T AW AX in
theorem Nd(F:Fun K "chosen" "First.chosen" RP f₀ fd₀)(M:wT K Ag "chosen" f₀):Methx P w K mg base Ag "chosen" 6 ["self","long","bound"] [] (KW (cF Ag Ah Ae Ai Y6 Y4 Aj) W7.first):=by
 refine⟨⟨f₀,fd₀,[],A3 F eK (λ_ A _ s H vs Q E hr h=>?_),M,F.binds Ja,.nil⟩,T.R6⟩;obtain⟨r,x,dx,a,cs,ps,L,bd,rfl,hx,ha,hz,hc,mk,hbd,qn,qs⟩:=h;refine⟨_,PSs.nox (Ad (o_ 3 eK (q_ AW hr (Aa (BO s_ rfl) (Aa r_ (Aa t_ Ab))))) (Af (Ao (q_ AX hr (Aa (Ti ["at","place"] rfl (BU u_) (λcl C s₀ H₀ ex=>(EH (K:=K) (n:=2) rfl rfl (AO (AF (i:=0) (show ((["at","place"]:List Str)++([]:List Str)).Nodup by decide +kernel) rfl (π rfl)) (AO (AF (i:=1) (show ((["at","place"]:List Str)++([]:List Str)).Nodup by decide +kernel) rfl (π rfl)) Cl)))) (λcl C s₀ H₀ ex=>Kx) (λcl C s₀ H₀ ex=>(Cg (Aa Ac (Aa s_ (Aa r_ Ab))))) ) Ab))))),?_⟩;walk_at "D";have hx:H x=some (.ins Ag dx [("room_cells",.ref a)]):=hx;have cl:=T.R6;have na:=T.T5;walk_at "";refine⟨a,cs,ps,L,bd,rfl,SqL.of ha,by omega,BZ hc mk,hbd,λsp us H1 nsp s1 hsp tsp=>?_⟩;have hs0:∀q∈C9 ps L bd,∃a p,q=[.int a,.int p]/\SpI ps L bd a p:=λq hq=>Sc hq;have hnl:=Sd (ps:=ps) (L:=L) (b:=bd);have hsl:=M8 ps L bd;have hple:=hc.le;generalize C9 ps L bd=ql at tsp hs0 hsl hnl;have htl:=tsp.1;have ha1:=s1 a _ ha;have hx1:=s1 x _ hx;walk_at "";refine⟨sp,rfl,⟨_,SqL.of hsp⟩,Dh (K:=K) (a:=sp) (xs:=us) (fs:=[]) (ChW H1 ps L bd) (λD hD=>⟨Same.new hD,upd_same,[],Cm.nil,rfl,(λx hx=>by cases hx)⟩) (λD i ys H2 _ h=>SqL.of (h.1 sp _ hsp)) ?_ ?_⟩
 . rintro D i y ys H2 hD hi ⟨s2,hD2,xs,ta,xl,x0⟩ τ hτ;have hil:i<us.length:=(γ.mp hi).1;have hiq:i<ql.length:=by omega
   obtain⟨t,et,hT⟩:=tsp.2 i ql[i] (by simp [hiq]);obtain⟨b,pp,eq0,hsp2⟩:=hs0 _ (bp hiq);rw[eq0] at hT;have ey:y = .ref t:=χ (hi.symm.trans et);subst ey;have hT2:=s2 t _ hT;have ha2:=s2 a _ ha1;have hx2:=s2 x _ hx1;have hyl:=ta.1;rw[Ξ] at hyl;obtain⟨z,hzm,hzv,rfl,_⟩:=id hsp2;obtain⟨z0,z1,_,z4⟩:=hc.mem z hzm
   obtain⟨τ0,τ1,rfl⟩:=f_ hτ
   walk_at "";refine⟨⟨[_,_],rfl,rfl⟩,?_⟩;walk_at "";intro t2 ht2;exact⟨look_put ht2 hD2,small4000 (by omega),Bp hil ⟨(s2.put (s2.free ht2)).put hD,upd_same,xs++[[_,z.a,pp]],by rw[af];exact ta.push hD2 ht2,by rw[ι,xl];rfl,λx hx=>(θ.mp hx).elim (x0 x) λw=>⟨_,z.a,pp,υ.mp w,hsp2⟩⟩⟩
 . rintro D ys H2 hD ⟨s2,hD2,xs,ta,xl,x0⟩;have s12:=s1.trans s2;walk_at "";refine⟨D,ys,xs,rfl,hD2,ta,(λx hx=>by obtain⟨k,b,p,e,_⟩:=x0 x hx;rw[e];rfl),λz=>?_,λhp=>?_⟩
   . walk_at "";exact qn (hnl (by have:=congrArg jb z;rw[db] at this;omega)) H2 s12
   . obtain⟨b,hb⟩:=Se x0 hp;walk_at "";exact qs b _ hb H2 s12
include T AC AW AX in
theorem Nf(F:Fun K "chosen" "Best.chosen" RQ f₀ fd₀)(M:wT K Ah "chosen" f₀):Methx P w K mg base Ah "chosen" 6 ["self","long","bound"] [] (KW (cF Ag Ah Ae Ai Y6 Y4 Aj) W7.best):=by
 refine⟨⟨f₀,fd₀,[],A3 F T0 (λ_ A _ s H vs Q E hr h=>?_),M,F.binds Jb,.nil⟩,T.R7⟩;obtain⟨r,x,dx,a,cs,ps,L,bd,rfl,hx,ha,hz,hc,mk,hbd,qn,qs⟩:=h;refine⟨_,PSs.nox (Ad (Aw (i:=3) T0.nd rfl (ku rfl) (BO s_ rfl)) (Ad (o_ 4 T0 (q_ AW hr (Aa u_ (Aa r_ (Aa t_ Ab))))) (Af (Ao (q_ AX hr (Aa (Hf ["at","place"] ["cells"] [3] rfl (BU vw) (λcl C s₀ H₀ ex=>(EH (K:=K) (n:=2) rfl rfl (AO (AF (i:=0) (show ((["at","place"]:List Str)++(["cells"]:List Str)).Nodup by decide +kernel) rfl (π rfl)) (AO (AF (i:=1) (show ((["at","place"]:List Str)++(["cells"]:List Str)).Nodup by decide +kernel) rfl (π rfl)) Cl)))) (λcl C s₀ H₀ ex=>Kx) (λcl C s₀ H₀ ex=>(Cg (Aa (q_ AC hr (Aa (Ar (Tf (K:=K) rfl) t_ s_) Ab)) (Aa s_ (Aa r_ Ab))))) (Hh rfl rfl rfl) (Hi (n:="cells") (by decide +kernel) rfl) (λy h=>DQ (by decide +kernel) h)) Ab)))))),?_⟩;walk_at "D";have hx:H x=some (.ins Ah dx [("room_cells",.ref a)]):=hx;have cl:=T.R7;have na:=T.T6;walk_at "";refine⟨a,cs,ps,L,bd,rfl,SqL.of ha,by omega,BZ hc mk,hbd,λsp us H1 nsp s1 hsp tsp=>?_⟩;have hs0:∀q∈C9 ps L bd,∃a p,q=[.int a,.int p]/\SpI ps L bd a p:=λq hq=>Sc hq;have hnl:=Sd (ps:=ps) (L:=L) (b:=bd);have hsl:=M8 ps L bd;have hple:=hc.le;generalize C9 ps L bd=ql at tsp hs0 hsl hnl;have htl:=tsp.1;have ha1:=s1 a _ ha;have hx1:=s1 x _ hx;walk_at "";refine⟨sp,rfl,⟨_,SqL.of hsp⟩,Dh (K:=K) (a:=sp) (xs:=us) (fs:=[some (.ref a)]) (ChW H1 ps L bd) (λD hD=>⟨Same.new hD,upd_same,[],Cm.nil,rfl,(λx hx=>by cases hx)⟩) (λD i ys H2 _ h=>SqL.of (h.1 sp _ hsp)) ?_ ?_⟩
 . rintro D i y ys H2 hD hi ⟨s2,hD2,xs,ta,xl,x0⟩ τ hτ;have hil:i<us.length:=(γ.mp hi).1;have hiq:i<ql.length:=by omega
   obtain⟨t,et,hT⟩:=tsp.2 i ql[i] (by simp [hiq]);obtain⟨b,pp,eq0,hsp2⟩:=hs0 _ (bp hiq);rw[eq0] at hT;have ey:y = .ref t:=χ (hi.symm.trans et);subst ey;have hT2:=s2 t _ hT;have ha2:=s2 a _ ha1;have hx2:=s2 x _ hx1;have hyl:=ta.1;rw[Ξ] at hyl;obtain⟨z,hzm,hzv,rfl,_⟩:=id hsp2;obtain⟨z0,z1,_,z4⟩:=hc.mem z hzm
   obtain⟨τ0,τ1,rfl⟩:=f_ hτ
   walk_at "";refine⟨⟨[_,_],rfl,rfl⟩,?_⟩;walk_at "";intro t2 ht2;exact⟨look_put ht2 hD2,small4000 (by omega),Bp hil ⟨(s2.put (s2.free ht2)).put hD,upd_same,xs++[[_,z.a,pp]],by rw[af];exact ta.push hD2 ht2,by rw[ι,xl];rfl,λx hx=>(θ.mp hx).elim (x0 x) λw=>⟨_,z.a,pp,υ.mp w,hsp2⟩⟩⟩
 . rintro D ys H2 hD ⟨s2,hD2,xs,ta,xl,x0⟩;have s12:=s1.trans s2;walk_at "";refine⟨D,ys,xs,rfl,hD2,ta,(λx hx=>by obtain⟨k,b,p,e,_⟩:=x0 x hx;rw[e];rfl),λz=>?_,λhp=>?_⟩
   . walk_at "";exact qn (hnl (by have:=congrArg jb z;rw[db] at this;omega)) H2 s12
   . obtain⟨b,hb⟩:=Se x0 hp;walk_at "";exact qs b _ hb H2 s12
include T AW AX in
theorem Ng(F:Fun K "chosen" "Next.chosen" RS f₀ fd₀)(M:wT K Ae "chosen" f₀):Methx P w K mg base Ae "chosen" 6 ["self","long","bound"] [] (KW (cF Ag Ah Ae Ai Y6 Y4 Aj) W7.next):=by
 refine⟨⟨f₀,fd₀,[],A3 F eO (λ_ A _ s H vs Q E hr h=>?_),M,F.binds Jc,.nil⟩,T.Jz⟩;obtain⟨r,x,dx,a,cs,ps,L,bd,rfl,hx,ha,hz,hc,mk,hbd,qn,qs⟩:=h;refine⟨_,PSs.nox (Ad (o_ 3 eO (q_ AW hr (Aa (BO s_ rfl) (Aa r_ (Aa t_ Ab))))) (Af (Ao (q_ AX hr (Aa (Hf ["at","place"] ["self"] [0] rfl (BU u_) (λcl C s₀ H₀ ex=>(EH (K:=K) (n:=2) rfl rfl (AO (AF (i:=0) (show ((["at","place"]:List Str)++(["self"]:List Str)).Nodup by decide +kernel) rfl (π rfl)) (AO (AF (i:=1) (show ((["at","place"]:List Str)++(["self"]:List Str)).Nodup by decide +kernel) rfl (π rfl)) Cl)))) (λcl C s₀ H₀ ex=>Kx) (λcl C s₀ H₀ ex=>(Cg (Aa (iO (As Gr s_ (xZ (K:=K) rfl t_ rfl)) Ac Ac) (Aa s_ (Aa r_ Ab))))) (Hh rfl rfl rfl) (Hi (n:="self") (by decide +kernel) rfl) (λy h=>DQ (by decide +kernel) h)) Ab))))),?_⟩;walk_at "D";have hx:H x=some (.ins Ae dx [("room_cells",.ref a),("room_rover",.int r)]):=hx;have cl:=T.Jz;have na:=T.KR;have nr:=T.R8;walk_at "";refine⟨a,cs,ps,L,bd,rfl,SqL.of ha,by omega,BZ hc mk,hbd,λsp us H1 nsp s1 hsp tsp=>?_⟩;have hs0:∀q∈C9 ps L bd,∃a p,q=[.int a,.int p]/\SpI ps L bd a p:=λq hq=>Sc hq;have hnl:=Sd (ps:=ps) (L:=L) (b:=bd);have hsl:=M8 ps L bd;have hple:=hc.le;generalize C9 ps L bd=ql at tsp hs0 hsl hnl;have htl:=tsp.1;have ha1:=s1 a _ ha;have hx1:=s1 x _ hx;walk_at "";refine⟨sp,rfl,⟨_,SqL.of hsp⟩,Dh (K:=K) (a:=sp) (xs:=us) (fs:=[some (.ref x)]) (ChW H1 ps L bd) (λD hD=>⟨Same.new hD,upd_same,[],Cm.nil,rfl,(λx hx=>by cases hx)⟩) (λD i ys H2 _ h=>SqL.of (h.1 sp _ hsp)) ?_ ?_⟩
 . rintro D i y ys H2 hD hi ⟨s2,hD2,xs,ta,xl,x0⟩ τ hτ;have hil:i<us.length:=(γ.mp hi).1;have hiq:i<ql.length:=by omega
   obtain⟨t,et,hT⟩:=tsp.2 i ql[i] (by simp [hiq]);obtain⟨b,pp,eq0,hsp2⟩:=hs0 _ (bp hiq);rw[eq0] at hT;have ey:y = .ref t:=χ (hi.symm.trans et);subst ey;have hT2:=s2 t _ hT;have ha2:=s2 a _ ha1;have hx2:=s2 x _ hx1;have hyl:=ta.1;rw[Ξ] at hyl;obtain⟨z,hzm,hzv,rfl,_⟩:=id hsp2;obtain⟨z0,z1,_,z4⟩:=hc.mem z hzm
   obtain⟨τ0,τ1,rfl⟩:=f_ hτ
   walk_at "";refine⟨⟨[_,_],rfl,rfl⟩,?_⟩;walk_at "";refine AJ (λhge=>?_) (λhge=>?_)
   . walk_at "";intro t2 ht2;exact⟨look_put ht2 hD2,small4000 (by omega),Bp hil ⟨(s2.put (s2.free ht2)).put hD,upd_same,xs++[[_,z.a,pp]],by rw[af];exact ta.push hD2 ht2,by rw[ι,xl];rfl,λx hx=>(θ.mp hx).elim (x0 x) λw=>⟨_,z.a,pp,υ.mp w,hsp2⟩⟩⟩
   . walk_at "";intro t2 ht2;exact⟨look_put ht2 hD2,small4000 (by omega),Bp hil ⟨(s2.put (s2.free ht2)).put hD,upd_same,xs++[[_,z.a,pp]],by rw[af];exact ta.push hD2 ht2,by rw[ι,xl];rfl,λx hx=>(θ.mp hx).elim (x0 x) λw=>⟨_,z.a,pp,υ.mp w,hsp2⟩⟩⟩
 . rintro D ys H2 hD ⟨s2,hD2,xs,ta,xl,x0⟩;have s12:=s1.trans s2;walk_at "";refine⟨D,ys,xs,rfl,hD2,ta,(λx hx=>by obtain⟨k,b,p,e,_⟩:=x0 x hx;rw[e];rfl),λz=>?_,λhp=>?_⟩
   . walk_at "";exact qn (hnl (by have:=congrArg jb z;rw[db] at this;omega)) H2 s12
   . obtain⟨b,hb⟩:=Se x0 hp;walk_at "";exact qs b _ hb H2 s12
include T AC AW AX in
theorem Nh(F:Fun K "chosen" "Likes.chosen" RT f₀ fd₀)(M:wT K Ai "chosen" f₀):Methx P w K mg base Ai "chosen" 6 ["self","long","bound"] [] (KW (cF Ag Ah Ae Ai Y6 Y4 Aj) W7.likes):=by
 refine⟨⟨f₀,fd₀,[],A3 F T1 (λ_ A _ s H vs Q E hr h=>?_),M,F.binds Jd,.nil⟩,T.R9⟩;obtain⟨r,x,dx,a,cs,ps,L,bd,rfl,hx,ha,hz,hc,mk,hbd,qn,qs⟩:=h;refine⟨_,PSs.nox (Ad (Aw (i:=3) T1.nd rfl (ku rfl) (BO s_ rfl)) (Ad (o_ 4 T1 (q_ AW hr (Aa u_ (Aa r_ (Aa t_ Ab))))) (Af (Ao (q_ AX hr (Aa (Hf ["at","place"] ["cells"] [3] rfl (BU vw) (λcl C s₀ H₀ ex=>(EH (K:=K) (n:=2) rfl rfl (AO (AF (i:=0) (show ((["at","place"]:List Str)++(["cells"]:List Str)).Nodup by decide +kernel) rfl (π rfl)) (AO (AF (i:=1) (show ((["at","place"]:List Str)++(["cells"]:List Str)).Nodup by decide +kernel) rfl (π rfl)) Cl)))) (λcl C s₀ H₀ ex=>Kx) (λcl C s₀ H₀ ex=>(Cg (Aa (qZ (K:=K) rfl me kj km fN (q_ AC hr (Aa (Ar (Tf (K:=K) rfl) t_ s_) Ab))) (Aa s_ (Aa r_ Ab))))) (Hh rfl rfl rfl) (Hi (n:="cells") (by decide +kernel) rfl) (λy h=>DQ (by decide +kernel) h)) Ab)))))),?_⟩;walk_at "D";have hx:H x=some (.ins Ai dx [("room_cells",.ref a)]):=hx;have cl:=T.R9;have na:=T.T7;walk_at "";refine⟨a,cs,ps,L,bd,rfl,SqL.of ha,by omega,BZ hc mk,hbd,λsp us H1 nsp s1 hsp tsp=>?_⟩;have hs0:∀q∈C9 ps L bd,∃a p,q=[.int a,.int p]/\SpI ps L bd a p:=λq hq=>Sc hq;have hnl:=Sd (ps:=ps) (L:=L) (b:=bd);have hsl:=M8 ps L bd;have hple:=hc.le;generalize C9 ps L bd=ql at tsp hs0 hsl hnl;have htl:=tsp.1;have ha1:=s1 a _ ha;have hx1:=s1 x _ hx;walk_at "";refine⟨sp,rfl,⟨_,SqL.of hsp⟩,Dh (K:=K) (a:=sp) (xs:=us) (fs:=[some (.ref a)]) (ChW H1 ps L bd) (λD hD=>⟨Same.new hD,upd_same,[],Cm.nil,rfl,(λx hx=>by cases hx)⟩) (λD i ys H2 _ h=>SqL.of (h.1 sp _ hsp)) ?_ ?_⟩
 . rintro D i y ys H2 hD hi ⟨s2,hD2,xs,ta,xl,x0⟩ τ hτ;have hil:i<us.length:=(γ.mp hi).1;have hiq:i<ql.length:=by omega
   obtain⟨t,et,hT⟩:=tsp.2 i ql[i] (by simp [hiq]);obtain⟨b,pp,eq0,hsp2⟩:=hs0 _ (bp hiq);rw[eq0] at hT;have ey:y = .ref t:=χ (hi.symm.trans et);subst ey;have hT2:=s2 t _ hT;have ha2:=s2 a _ ha1;have hx2:=s2 x _ hx1;have hyl:=ta.1;rw[Ξ] at hyl;obtain⟨z,hzm,hzv,rfl,_⟩:=id hsp2;obtain⟨z0,z1,_,z4⟩:=hc.mem z hzm
   obtain⟨τ0,τ1,rfl⟩:=f_ hτ
   walk_at "";refine⟨⟨[_,_],rfl,rfl⟩,?_⟩;walk_at "";refine⟨rfl,_,rfl,rfl,?_⟩;walk_at "";intro t2 ht2;exact⟨look_put ht2 hD2,small4000 (by omega),Bp hil ⟨(s2.put (s2.free ht2)).put hD,upd_same,xs++[[_,z.a,pp]],by rw[af];exact ta.push hD2 ht2,by rw[ι,xl];rfl,λx hx=>(θ.mp hx).elim (x0 x) λw=>⟨_,z.a,pp,υ.mp w,hsp2⟩⟩⟩
 . rintro D ys H2 hD ⟨s2,hD2,xs,ta,xl,x0⟩;have s12:=s1.trans s2;walk_at "";refine⟨D,ys,xs,rfl,hD2,ta,(λx hx=>by obtain⟨k,b,p,e,_⟩:=x0 x hx;rw[e];rfl),λz=>?_,λhp=>?_⟩
   . walk_at "";exact qn (hnl (by have:=congrArg jb z;rw[db] at this;omega)) H2 s12
   . obtain⟨b,hb⟩:=Se x0 hp;walk_at "";exact qs b _ hb H2 s12
def Sg(C:W7->uH)(i:W7):Sp:=λvs H Q _=>∃(r r':Int)(x dx a:uH),vs=[.ref x,.int r']/\H x=some (.ins (C i) dx (fsF i a r))/\∀H',AE x H H'->H' x=some (.ins (C i) dx (fsF i a r'))->Q .non H'
include T in
theorem JK(F:Fun K "room_granted" "Stretches.room_granted" EY f₀ fd₀)(M:∀i,(okS) i->wT K ((cF Ag Ah Ae Ai Y6 Y4 Aj) i) "room_granted" f₀):Bu P w K mg base (okS) (cF Ag Ah Ae Ai Y6 Y4 Aj) "room_granted" 1 ["self","behind"] [] (Sg (cF Ag Ah Ae Ai Y6 Y4 Aj)):=by
 refine Bu.made (A3 F Mn (λ_ A _ s H vs Q E hr h=>?_)) M (F.binds Mo) (wU T);refine⟨_,PSs.nox (Af iP),?_⟩;obtain⟨i,hi,r,r',x,dx,a,rfl,hx,q⟩:=h;walk_at "";refine q _ AE.refl ?_;cases i <;> first | exact hx | exact(show False from hi).elim
include T in
theorem JL(F:Fun K "room_granted" "Next.room_granted" EZ f₀ fd₀)(M:∀i,(λi=>i=W7.next) i->wT K ((cF Ag Ah Ae Ai Y6 Y4 Aj) i) "room_granted" f₀):Bu P w K mg base (λi=>i=W7.next) (cF Ag Ah Ae Ai Y6 Y4 Aj) "room_granted" 1 ["self","behind"] [] (Sg (cF Ag Ah Ae Ai Y6 Y4 Aj)):=by
 refine Bu.made (A3 F Mp (λ_ A _ s H vs Q E hr h=>?_)) M (F.binds Mq) (wU T);refine⟨_,PSs.nox (Af (Cz s_ r_ rfl)),?_⟩;obtain⟨i,hi,r,r',x,dx,a,rfl,hx,q⟩:=h;have hi:i=W7.next:=hi;subst hi;have hx:H x=some (.ins Ae dx [("room_cells",.ref a),("room_rover",.int r)]):=hx;have cl:=T.Jz;have na:=T.KR;have nr:=T.R8;walk_at "";exact q _ AE.refl.put upd_same
variable (D_chosen:Bu P w K mg base (ok4) (cF Ag Ah Ae Ai Y6 Y4 Aj) "chosen" 6 ["self","long","bound"] [] (KW (cF Ag Ah Ae Ai Y6 Y4 Aj)))
variable (DA:wO P w K mg base "begin_around" 5 ["cells","cell"] (gJ K))
variable (D_room_granted:Bu P w K mg base (ok4) (cF Ag Ah Ae Ai Y6 Y4 Aj) "room_granted" 1 ["self","behind"] [] (Sg (cF Ag Ah Ae Ai Y6 Y4 Aj)))
include T Ba B8 D_chosen DA D_room_granted in
theorem JM{T₀:uH}{tk₀:Tok}{tc₀:uG}{tn₀:Nat}(F:FunD K "ask" "Stretches.ask" E1 (.ref T₀) f₀ fd₀)(LT:K.lookup T₀=some ⟨tc₀,td₀,.seq [.int 1 tk₀].toArray tn₀,ts₀⟩)(M:∀i,(ok4) i->wT K ((cF Ag Ah Ae Ai Y6 Y4 Aj) i) "ask" f₀):MethSD P w K mg base (ok4) (cF Ag Ah Ae Ai Y6 Y4 Aj) "ask" 8 ["self","count","bound"] [.int 1] (JH (cF Ag Ah Ae Ai Y6 Y4 Aj) Y2 AT):=by
 refine MethSD.made (fd:=fd₀) ?_ M (F.bindsA LT (Je T₀ _)) (F.bindsD LT (Jf T₀ _)) (.cons ⟨tk₀,rfl⟩ .nil) (wU T);refine Gy F T2 (λvs H Q E h=>by obtain⟨_,_,h⟩:=h;revert h;walk_at "l") (λ_ A _ s H vs Q E hr h=>?_);obtain⟨i,hi,x,dx,a,q3,cs,c,bd,rfl,rfl,S,c1',c30,hbd,qB,qN,qQ⟩:=h;refine⟨_,(Ad (Bd (Bt Ba hr (by rfl) (Aa r_ (Aa t_ Ab)))) (Ad (o_ 3 T2 (Am AL r_ (ED (v:=.int 2) (by rfl) T.GE ⟨_,rfl⟩))) (Ad (o_ 4 T2 (Qu D_chosen Bz hr s_ (Aa u_ (Aa t_ Ab)))) (Ad (Ay (As Ly vw CQ) (Af (Cu T.Mv hr.hd rfl (Aa AM Ab))) Az) (Ad (Cz s_ (Bt B8 hr (by rfl) (Aa (BO s_ rfl) (Aa (q_ DA hr (Aa (BO s_ rfl) (Aa vw Ab))) (Aa vw (Aa u_ Ab))))) rfl) (Ad (Bd (Qu D_room_granted Bz hr s_ (Aa (Am AL vw u_) Ab))) (Af (Ao (Am AL vw Ac))))))))),?_⟩;walk_at "D";cases q3 with
 | half _ _=>exact(show False from hi).elim
 | shel _ _=>exact(show False from hi).elim
 | row _ _=>exact(show False from hi).elim
 | st k r n ps=>
 have hi:ok4 k:=hi;have n3:ok3 k->bd=1:=λh=>by cases k <;> first | exact h.elim | exact(show False from hi).elim
 have hx:H x=some (.ins ((cF Ag Ah Ae Ai Y6 Y4 Aj) k) dx (fsF k a r)):=S.hx;have ha:=S.ha;have hl:(cs.length:Int)=n:=S.hl;have hz:=S.hz;have hc:Ak 0 ps cs.length:=by rw[hl];exact S.ok.2.1
 have nj:AK ps:=S.ok.2.2;have mk:Au cs ps:=S.mm;have cl:=wU T k;have na:=xk T k;walk_at "";refine⟨c,bd,rfl,λh=>absurd h (by omega),λh1 _=>?_⟩;walk_at "";refine⟨r,x,dx,a,cs,ps,c+2,bd,rfl,hx,ha,hz,hc,mk,hbd,λhno H1 s1=>?_,λb s hs H1 s1=>?_⟩
 . walk_at "";exact qN n3 hno H1 s1
 have hx1:=s1 x _ hx;have ha1:=s1 a _ ha;obtain⟨z,hzm,hv,rfl,hfp⟩:=hs;obtain⟨g1,g2,g3⟩:=fp_is hbd hfp;obtain⟨i,hi2⟩:=ai hzm;walk_at "";refine⟨a,cs,ps,i,z,s,rfl,SqL.of ha1,by omega,hc,mk,hi2,g1,by omega,λH2 s2=>?_⟩;have hx2:=s2 x _ hx1;have ha2:=s2 a _ ha1;walk_at "";refine⟨a,cs,ps,z.a,s,c+2,rfl,SqL.of ha2,by omega,hc,mk,by omega,λy hy hk hv' e1 e2 p H3 np s3 hp=>?_,λy hy hk hv' hn'=>?_,λhn'=>absurd hv (hn' z hzm rfl)⟩
 . have ey:=Cj hc hy hzm hk;subst ey;have hx3:=s3 x _ hx2;have hne:p≠x:=λz=>by rw[z,hx2] at np;cases np
   have s13:=(s1.trans s2).trans s3;walk_at "";generalize hH:upd H3 x _=H4;have hx4:H4 x=some (.ins ((cF Ag Ah Ae Ai Y6 Y4 Aj) k) dx (fsF k p r)):=by rw[<-hH,upd_same,KD]
   have hp4:H4 p=some (.lst ((xq cs y.a y.l s (c+2)).map V.int)):=by rw[<-hH];exact look_ne hne hp
   have k4:AE x H H4:=by rw[<-hH];exact(AE.of s13).put
   walk_at "";refine⟨r,s+(c+2),x,dx,p,rfl,hx4,λH5 k5 hx5=>?_⟩;walk_at "";obtain⟨y0,y1,y3,y4⟩:=hc.mem y hzm;obtain⟨ds,rs,e3,e4,c1,c2⟩:=CD hc hi2;subst e3;have hcn:Ak 0 (ds++y::rs) n:=by rw[<-hl];exact hc
   refine qQ n3 (s+1) (.st k (s+(c+2)) n (xE ds rs y.a y.l s (c+2))) p _ H5 (yz hcn hv (by omega) g1 g2 g3 λy' hy' hv' j hj=>cD hc hzm hv (by omega) g1 g2 hy' hv' hj) ((s1.trans s2).free np) (k4.trans k5) (by rw[Qh]) ⟨hx5,k5 p _ hne hp4,by rw[Qh];exact hl,by rw[Qh];exact hz,⟨hi,?_,nB nj hv⟩,?_⟩
   . rw[<-hl];exact lD (by omega) g1 g2 c1 c2
   . exact aL y0 (by omega) g1 g2 (by omega) (c1.endBy (aq 0)) c2.fromOn mk
 . have ey:=Cj hc hy hzm hk;subst ey;exact absurd ⟨g1,g2⟩ hn'
def gK(C:W7->uH)(k:W7):Sp:=λvs H Q _=>∃(x dx a:uH)(q:St7)(cs:List Int)(z:Pc),vs=[.ref x,.int (z.a+1)]/\k=q.let3/\KS C x dx a q cs H/\z∈q.ps/\z.v=true /\
 ∀(H':Hp),Same H H'->Q (.int (z.l-2)) H'
include T A9 in
theorem JN(F:Fun K "many" "Keeper.many" RU f₀ fd₀)(M:∀i,wT K ((cF Ag Ah Ae Ai Y6 Y4 Aj) i) "many" f₀):A7 P w K mg base (cF Ag Ah Ae Ai Y6 Y4 Aj) "many" 7 ["self","place"] [] (gK (cF Ag Ah Ae Ai Y6 Y4 Aj)):=by
 refine A7.made (A3 F RV (λ_ A _ s H vs Q E hr h=>?_)) M (F.binds Jg) (wU T);obtain⟨i,x,dx,a,q3,cs,z,rfl,rfl,S,hm,hv,q⟩:=h;refine⟨_,(Ad (CT (Bt A9 hr (by rfl) (Aa (BO s_ rfl) (Aa (Am Bk r_ Ac) Ab))) (DS rfl (AO (p_ 2 RV) (AO (p_ 3 RV) (AO (p_ 4 RV) Cl))))) (Af (Ao (Am Bk u_ (ED (v:=.int 2) (by rfl) T.GE ⟨_,rfl⟩))))),?_⟩;walk_at "D";have hx:=S.hx;have ha:=S.ha;have cl:=wU T q3.let3;have na:=xk T q3.let3;have hc:=S.ch;have hw:=BZ hc S.mm;have hz:=S.hz;walk_at "";refine⟨a,cs,q3.ps,z.a,by rw[ca],SqL.of ha,by omega,hw,hc,λy hy hk hv' t H1 s1 ht=>?_,λhn=>absurd hv (hn z hm rfl)⟩;have ey:=Cj hc hy hm (by omega);subst ey;walk_at "";exact q _ s1
def gL(C:W7->uH)(k:W7):Sp:=λvs H Q _=>∃(x dx a:uH)(q:St7)(cs:List Int)(z:Pc)(j:Int),vs=[.ref x,.int (z.a+1),.int j]/\k=q.let3/\KS C x dx a q cs H/\z∈q.ps/\z.v=true/\0<=j/\j<z.l-2 /\
 ∀(H':Hp),Same H H'->Q (.int (z.a+1+j)) H'
variable (AB:A7 P w K mg base (cF Ag Ah Ae Ai Y6 Y4 Aj) "many" 7 ["self","place"] [] (gK (cF Ag Ah Ae Ai Y6 Y4 Aj)))
include T AB in
theorem Ni(F:Fun K "room_cell_of" "Keeper.room_cell_of" E2 f₀ fd₀)(M:∀i,wT K ((cF Ag Ah Ae Ai Y6 Y4 Aj) i) "room_cell_of" f₀):A7 P w K mg base (cF Ag Ah Ae Ai Y6 Y4 Aj) "room_cell_of" 8 ["self","place","k"] [] (gL (cF Ag Ah Ae Ai Y6 Y4 Aj)):=by
 refine A7.made (A3 F GC (λ_ A _ s H vs Q E hr h=>?_)) M (F.binds Mr) (wU T);obtain⟨k,x,dx,a,q3,cs,z,j,rfl,rfl,S,hm,hv,k0,k1,q⟩:=h;refine⟨_,(Ad (o_ 3 GC (BG AB Bl hr s_ (Aa r_ Ab))) (Ad (Ay (PW.pt (Bn (As Ct t_ Ac) (BR (As Gr t_ u_)))) (Af (Cu T.pY hr.hd rfl (Aa AM Ab))) Az) (Af (Ao (Am AL r_ t_))))),?_⟩;walk_at "D";have hx:=S.hx;walk_at "";refine⟨x,dx,a,q3,cs,z,rfl,rfl,S,hm,hv,λH1 s1=>?_⟩;walk_at "";exact q H1 s1
theorem rA{n x k:Int}(c:Ak 0 ps n)(m:Au cs ps)(hz:z∈ps)(hv:z.v=true)(k0:0<=k)(k1:k<z.l-2):Au (cs.set (z.a+1+k).toNat x) ps:=λp hp=>by
 obtain⟨z0,z1,z3,z4⟩:=c.mem z hz;obtain⟨p0,p1,p3,p4⟩:=c.mem p hp;obtain⟨m1,m2⟩:=m p hp;have far:p.a≠z.a+1+k/\p.a+p.l-1≠z.a+1+k:=by
   by_cases e:p=z
   . subst e;omega
   . constructor
     . intro h;exact e (KC c hp hz (aq _) (by omega) (by omega) (by omega))
     . intro h;exact e (KC c hp hz (p:=p.a+p.l-1) (by omega) (by omega) (by omega) (by omega))
 exact⟨by rw[aa (by omega)];exact m1,by rw[aa (by omega)];exact m2⟩
abbrev wz(C:W7->uH)(k:W7)(x dx a:uH)(q:St7)(cs:List Int)(z:Pc)(j n:Int)(H:Hp)(Q:VK):Prop:=∀(H':Hp),AE a H H'->KS C x dx a q (cs.set (z.a+1+j).toNat n) H'->Q .non H'
def yR(C:W7->uH)(k:W7):Sp:=λvs H Q _=>∃(x dx a:uH)(q:St7)(cs:List Int)(z:Pc)(j n:Int),vs=[.ref x,.int (z.a+1),.int j,.int n]/\k=q.let3/\KS C x dx a q cs H/\z∈q.ps/\z.v=true/\0<=j/\j<z.l-2/\wz C k x dx a q cs z j n H Q
variable (B9:A7 P w K mg base (cF Ag Ah Ae Ai Y6 Y4 Aj) "room_cell_of" 8 ["self","place","k"] [] (gL (cF Ag Ah Ae Ai Y6 Y4 Aj)))
include T B9 in
theorem d_put(F:Fun K "put" "Keeper.put" RW f₀ fd₀)(M:∀i,wT K ((cF Ag Ah Ae Ai Y6 Y4 Aj) i) "put" f₀):A7 P w K mg base (cF Ag Ah Ae Ai Y6 Y4 Aj) "put" 9 ["self","place","k","number"] [] (yR (cF Ag Ah Ae Ai Y6 Y4 Aj)):=by
 refine A7.made (A3 F eP (λ_ A _ s H vs Q E hr h=>?_)) M (F.binds Jh) (wU T);obtain⟨k,x,dx,a,q3,cs,z,j,n,rfl,rfl,S,hm,hv,k0,k1,q⟩:=h;refine⟨_,(Ad (o_ 4 eP (BG B9 Bl hr s_ (Aa r_ (Aa t_ Ab)))) (Af (CT u_ (GZ (BO s_ rfl) vw G4)))),?_⟩;walk_at "D";have hx:=S.hx;have cl:=wU T q3.let3;have na:=xk T q3.let3;obtain⟨z0,z1,z3,z4⟩:=S.ch.mem z hm;walk_at "";refine⟨x,dx,a,q3,cs,z,j,rfl,rfl,S,hm,hv,k0,k1,λH1 s1=>?_⟩;have hx1:=s1 x _ hx;have ha1:=s1 a _ S.ha;have hxa:x≠a:=λe=>by rw[e,ha1] at hx1;cases hx1
 have ls:(cs.set (z.a+1+j).toNat n).length=cs.length:=ax;walk_at "";exact q _ (AE.of s1).put ⟨look_ne hxa hx1,upd_same,by rw[ls];exact S.hl,by rw[ls];exact S.hz,S.ok,rA S.ch S.mm hm hv k0 k1⟩
def yZ(C:W7->uH)(k:W7):Sp:=λvs H Q _=>∃(x dx a:uH)(q:St7)(cs:List Int)(z:Pc)(j:Int),vs=[.ref x,.int (z.a+1),.int j]/\k=q.let3/\KS C x dx a q cs H/\z∈q.ps/\z.v=true/\0<=j/\j<z.l-2 /\
 ∀(H':Hp),Same H H'->Q (.int (cs.getD (z.a+1+j).toNat 0)) H'
include T B9 in
theorem d_get(F:Fun K "get" "Keeper.get" RX f₀ fd₀)(M:∀i,wT K ((cF Ag Ah Ae Ai Y6 Y4 Aj) i) "get" f₀):A7 P w K mg base (cF Ag Ah Ae Ai Y6 Y4 Aj) "get" 9 ["self","place","k"] [] (yZ (cF Ag Ah Ae Ai Y6 Y4 Aj)):=by
 refine A7.made (A3 F Ji (λ_ A _ s H vs Q E hr h=>?_)) M (F.binds Jj) (wU T);obtain⟨k,x,dx,a,q3,cs,z,j,rfl,rfl,S,hm,hv,k0,k1,q⟩:=h;refine⟨_,PSs.nox (Af (Ao (Ar AY (BO s_ rfl) (BG B9 Bz hr s_ (Aa r_ (Aa t_ Ab)))))),?_⟩;walk_at "D";have hx:=S.hx;have ha:=S.ha;have cl:=wU T q3.let3;have na:=xk T q3.let3;obtain⟨z0,z1,z3,z4⟩:=S.ch.mem z hm;walk_at "";refine⟨x,dx,a,q3,cs,z,j,rfl,rfl,S,hm,hv,k0,k1,λH1 s1=>?_⟩;have ha1:=s1 a _ ha;walk_at "";exact q H1 s1
abbrev wB(C:W7->uH)(CG:uH)(i:W7)(x dx a:uH)(q:St7)(cs:List Int)(z:Pc)(H:Hp)(Q:VK)(E:XK):Prop:=(i = .row->∀H',Same H H'->E (.ref CG) none H') /\ (∀(q':St7)(a':uH)(cs':List Int)(H':Hp),Gvn q z q' cs cs'->H a'=none->AE x H H'->cs'.length=cs.length->KS C x dx a' q' cs' H'->Q .non H')
def JO(C:W7->uH)(CG:uH)(i:W7):Sp:=λvs H Q E=>∃(x dx a:uH)(q:St7)(cs:List Int)(z:Pc),vs=[.ref x,.int (z.a+1)]/\i=q.let3/\KS C x dx a q cs H/\z∈q.ps/\z.v=true/\wB C CG i x dx a q cs z H Q E
variable (Cq:wO P w K mg base "freed" 7 ["cells","at"] (fF K Y3))
include T Cq in
theorem Nj(F:Fun K "give" "Stretches.give" E3 f₀ fd₀)(M:∀i,(ok4) i->wT K ((cF Ag Ah Ae Ai Y6 Y4 Aj) i) "give" f₀):Bu P w K mg base (ok4) (cF Ag Ah Ae Ai Y6 Y4 Aj) "give" 8 ["self","place"] [] (JO (cF Ag Ah Ae Ai Y6 Y4 Aj) Y9):=by
 refine Bu.made (A3 F Ms (λ_ A _ s H vs Q E hr h=>?_)) M (F.binds Mt) (wU T);obtain⟨i0,hi,x,dx,a,q3,cs,z,rfl,rfl,S,hm,hv,qE,qQ⟩:=h;refine⟨_,(Af (Cz s_ (Bt Cq hr (by rfl) (Aa (BO s_ rfl) (Aa (Am Bk r_ Ac) Ab))) rfl)),?_⟩;walk_at "D";cases q3 with
 | half _ _=>exact(show False from hi).elim
 | shel _ _=>exact(show False from hi).elim
 | row _ _=>exact(show False from hi).elim
 | st k r n ps=>
 have hi:ok4 k:=hi;have hx:H x=some (.ins ((cF Ag Ah Ae Ai Y6 Y4 Aj) k) dx (fsF k a r)):=S.hx;have ha:=S.ha;have hl:(cs.length:Int)=n:=S.hl;have hz:=S.hz;have hc:Ak 0 ps cs.length:=by rw[hl];exact S.ok.2.1
 have nj:AK ps:=S.ok.2.2;have mk:Au cs ps:=S.mm;have hm:z∈ps:=hm;have cl:=wU T k;have na:=xk T k;obtain⟨i,hi2⟩:=ai hm;walk_at "";refine⟨a,cs,ps,z.a,by rw[ca],SqL.of ha,by omega,hc,mk,λj y hj hk hv' p H1 np s1 hp=>?_,λhn=>absurd hv (hn z hm rfl)⟩;have ej:=LH hc hj hi2 (by omega);subst ej;have ey:y=z:=χ (hj.symm.trans hi2);subst ey;have hx1:=s1 x _ hx;have hne:p≠x:=λz=>by rw[z,hx] at np;cases np
 walk_at "";obtain⟨ds,rs,e1,e2,_,_⟩:=CD hc hi2;subst e1 e2;obtain⟨k1,k3,k4⟩:=mY hc mk nj hv;exact qQ _ p _ _ (zR S.ok.1 S.ok.2.1 hm λy' hy' hv' hne' j hj=>nP hc hi2 hy' hv' hne' hj) np (AE.of s1).put (by rw[Df]) ⟨by rw[upd_same,KD];rfl,look_ne hne hp,by rw[Df];exact hl,by rw[Df];exact hz,⟨hi,by rw[<-hl];exact k1,k3⟩,k4⟩
include T in
theorem Nk(F:Fun K "give" "Row.give" RY f₀ fd₀)(M:wT K Aj "give" f₀):Methx P w K mg base Aj "give" 1 ["self","place"] [] (JO (cF Ag Ah Ae Ai Y6 Y4 Aj) Y9 W7.row):=by
 refine⟨⟨f₀,fd₀,[],A3 F Jk (λ_ A _ s H vs Q E hr h=>?_),M,F.binds Jl,.nil⟩,T.cl_Row⟩;obtain⟨x,dx,a,q3,cs,z,rfl,hi,S,hm,hv,qE,qQ⟩:=h;refine⟨_,(Af (Cu T.eV hr.hd rfl (Aa AM Ab))),?_⟩;walk_at "D";walk_at "";exact qE rfl H (Same.refl _)
theorem gM:(ps.any λy=>eqP y z)=decide (z∈ps):=by
 rw[cy,dk,decide_eq_true_iff];constructor
 . rintro⟨y,hy,e⟩;rw[<-Hj.mp e];exact hy
 . exact λh=>⟨z,h,Hj.mpr rfl⟩
theorem xU{N m q:Nat}{rs:List Pc}(hN:N<=8)(hm:m<=N)(c:Ak (2^m*(q:Int)+2^m) rs (2^N)):m<9/\q<257/\0<=(2:Int)^m*(q:Int)/\(2:Int)^m*(q:Int)+2^m<=256:=by
 have h1:=c.le;have h2:=Eb hN;have h3:(2:Int)^8=256:=by decide
 have p1:=pw1 m;have h4:(q:Int)<=2^m*(q:Int):=by
   have:=gy p1 (show (0:Int)<=(q:Int) by omega);omega
 omega
theorem MgTo.lie{N:Nat}{ds rs ds' rs':List Pc}{m q m' q':Nat}(h:MgTo ps ds rs m q ds' rs' m' q'):Lie N ps ds rs m q->Lie N ps ds' rs' m' q':=by
 induction h with
 | stop _=>exact id
 | right hq hb k ih=>
   intro L;obtain⟨rs1,e,L1⟩:=L.right hq hb;rw[(qg.inj e).2] at ih;exact ih L1
 | left hq hb k ih=>
   intro L;obtain⟨ds1,e,L1⟩:=L.left hq hb;rw[(qh e rfl).1] at ih;exact ih L1
abbrev wC(p:uH)(us:List V)(ps ds rs ds' rs':List Pc)(N m q m' q':Nat)(H:Hp)(Q:VK):Prop:=∀(t:uH)(H':Hp),Same H H'->H' t=some (.tup [.int (2^m'*(q':Int)),.int (2^m')])->Q (.ref t) H'
def gN:Sp:=λvs H Q _=>∃(p:uH)(us:List V)(ps ds rs ds' rs':List Pc)(N m q m' q':Nat),vs=[.ref p,.int (2^m*(q:Int)),.int (2^m)]/\H p=some (.lst us)/\AH H us ps/\N<=8/\Lie N ps ds rs m q/\MgTo ps ds rs m q ds' rs' m' q'/\wC p us ps ds rs ds' rs' N m q m' q' H Q
def GtW(p:uH)(N:Nat)(ps ds' rs':List Pc)(m' q':Nat)(H:Hp)(k:Nat)(σ:L2.St)(H':Hp):Prop:=
 ∃(ds rs:List Pc)(m q:Nat),k=N-m/\σ=[some (.ref p),some (.int (2^m*(q:Int))),some (.int (2^m))]/\Same H H'/\Lie N ps ds rs m q/\MgTo ps ds rs m q ds' rs' m' q'
include T in
theorem Ud(S:Src K mg "grown_together" EL):wO P w K mg base "grown_together" 1 ["pieces","at","long"] (gN):=by
 refine S.okx TY Mc λf _ A _ s H vs Q E hr h=>?_;obtain⟨p,us,ps,ds,rs,ds',rs',N,m,q,m',q',rfl,hp,pa,hN,L,G,Q1⟩:=h;refine⟨_,PSs.nox (Ad (Lv bj (As (cG hr.units) (Cg (Aa (Am ZL r_ t_) (Aa t_ (Aa AR Ab)))) s_ rfl) (Ad (o_ 1 TY (Bs (Sv rfl) (by rfl) T.n_min fz (Aa r_ (Aa (Am ZL r_ t_) Ab)))) (Af (o_ 2 TY (Am Dc t_ Ac))))) (Af (Ao (Cg (Aa r_ (Aa t_ Ab)))))),?_⟩;walk_at "D";walk_at "";refine⟨GtW p N ps ds' rs' m' q' H,⟨_,ds,rs,m,q,rfl,rfl,Same.refl _,L,G⟩,?_⟩;rintro k σ H1 ⟨ds,rs,m,q,rfl,rfl,s1,L,G⟩;obtain⟨m9,q9,a0,a1⟩:=xU hN L.le L.c2;have p1:=pw1 m;have p2:=pw2 m;have ex:=nX m m9 q q9;walk_at "";rw[ex];intro t ht;have s2:=s1.put (o:=.tup [.int (bud m q),.int (2^m),.bl false]) (s1.free ht);have ht2:upd H1 t (.tup [.int (bud m q),.int (2^m),.bl false]) t=some (.tup [.int (bud m q),.int (2^m),.bl false]):=upd_same;generalize upd H1 t (.tup [.int (bud m q),.int (2^m),.bl false])=H2 at s2 ht2 ⊢;walk_at "";refine⟨t,p,us,ps,⟨bud m q,2^m,false⟩,rfl,rfl,ht2,s2 p _ hp,pa.same s2,?_⟩;rw[gM];by_cases hin:(⟨bud m q,2^m,false⟩:Pc)∈ps
 . rw[decide_eq_true hin];walk_at "";refine⟨λσ' H''=>∃k',k'<N-m/\GtW p N ps ds' rs' m' q' H k' σ' H'',λσ' H'' hw=>hw,?_⟩;have emul:(2:Int)^m*2=2^(m+1):=by rw[p2];omega
   cases G with
   | stop hno=>exact absurd hin hno
   | right hq hb G1=>
     obtain⟨rs1,e,L1⟩:=L.right hq hb;have er:=(qg.inj e).2;subst er;have ea:=cJ (m:=m) hq;have eb:bud m q=2^m*(q:Int)+2^m:=by unfold bud;rw[if_pos hq]
     walk_at "";rw[ex,if_neg (by omega)];walk_at "";rw[emul];exact⟨_,by have:=L1.le;omega,ds,_,m+1,q/2,rfl,by rw[ea],s2,L1,G1⟩
   | left hq hb G1=>
     obtain⟨ds1,e,L1⟩:=L.left hq hb;have er:=(qh e rfl).1;subst er;have ea:=cK (m:=m) hq;have eb:bud m q=2^m*(q:Int)-2^m:=by unfold bud;rw[if_neg (by omega)]
     walk_at "";rw[ex,if_pos (by omega)];walk_at "";rw[emul];exact⟨_,by have:=L1.le;omega,_,rs,m+1,q/2,rfl,by rw[ea,<-eb],s2,L1,G1⟩
 . rw[decide_eq_false hin];walk_at "";cases G with
   | stop hno=>
     intro w hw;exact Q1 w _ (s2.trans (Same.new hw)) upd_same
   | right hq hb G1=>exact absurd hb hin
   | left hq hb G1=>exact absurd hb hin
theorem rB{N m q:Nat}{ds rs:List Pc}{v:Bool}(hm:m<=N)(c:Ak 0 (ds++⟨2^m*(q:Int),2^m,v⟩::rs) (2^N)):Lie N (ds++⟨2^m*(q:Int),2^m,v⟩::rs) ds rs m q:=by
 obtain⟨k,c1,c2⟩:=KB c;obtain⟨ea,_,_,c3⟩:=c2;have ea:2^m*(q:Int)=k:=ea;have c3:Ak (k+2^m) rs (2^N):=c3;have p1:=pw1 m;refine⟨hm,by rw[ea];exact c1,by rw[ea];exact c3,λz hz=>?_⟩;constructor
 . intro h;rcases θ.mp h with g | g
   . exact .inl g
   . rcases Φ.mp g with e | e
     . rw[e] at hz;have hz:2^m*(q:Int)+2^m<=2^m*(q:Int)\/2^m*(q:Int)+2^m<=2^m*(q:Int):=hz;omega
     . exact .inr e
 . rintro(g | g)
   . exact μ _ g
   . exact ζ _ (ρ _ g)
theorem rC{N m q m' q':Nat}{ds rs ds' rs':List Pc}(hl:(cs.length:Int)=2^N)(mk:Au cs ps)(al:∀z∈ps,Al z)(hin:∀y,y∈ds\/y∈rs->y∈ps)(L:Lie N ps ds rs m q)(G:MgTo ps ds rs m q ds' rs' m' q'):
   0<=(2:Int)^m'*(q':Int)/\(2:Int)^m'*(q':Int)+2^m'<=cs.length/\Ak 0 (ds'++⟨2^m'*(q':Int),2^m',false⟩::rs') (2^N)/\Au (AS cs (2^m'*(q':Int)) (2^m') false) (ds'++⟨2^m'*(q':Int),2^m',false⟩::rs')/\∀z∈ds'++(⟨2^m'*(q':Int),2^m',false⟩::rs':List Pc),Al z:=by
 have L':=G.lie L;obtain⟨_,_,_,f4⟩:=G.facts;have p1:=pw1 m';have l1:=L'.c1.le;have l2:=L'.c2.le;refine⟨by omega,by omega,L'.c1.app ⟨rfl,p1,(λh=>by cases h),L'.c2⟩,Au.lay (by omega) p1 (by omega) (L'.c1.endBy (aq 0)) L'.c2.fromOn (mk.sub λp hp=>?_),λz hz=>?_⟩
 . rcases θ.mp hp with g | g
   . exact hin p (f4 p (.inl g))
   . exact hin p (f4 p (.inr g))
 . rcases θ.mp hz with g | g
   . exact al z (hin z (f4 z (.inl g)))
   . rcases Φ.mp g with e | e
     . rw[e];exact⟨m',q',rfl,rfl⟩
     . exact al z (hin z (f4 z (.inr e)))
variable (E8:wO P w K mg base "grown_together" 1 ["pieces","at","long"] (gN))
include T Aq AV Av D_lay AB E8 in
theorem Nl(F:Fun K "give" "Halves.give" RZ f₀ fd₀)(M:wT K Y6 "give" f₀):Methx P w K mg base Y6 "give" 8 ["self","place"] [] (JO (cF Ag Ah Ae Ai Y6 Y4 Aj) Y9 W7.half):=by
 refine⟨⟨f₀,fd₀,[],A3 F T3 (λ_ A _ s H vs Q E hr h=>?_),M,F.binds Jm,.nil⟩,T.Mw⟩;obtain⟨x,dx,a,q3,cs,z,rfl,hi,S,hzm,hv,qE,qQ⟩:=h;refine⟨_,(Ad (CT (q_ E8 hr (Aa (Dj AV Bz hr s_) (Aa (Am Bk r_ Ac) (Aa (Am AL (BG AB Bl hr s_ (Aa r_ Ab)) (ED (v:=.int 2) (by rfl) T.GE ⟨_,rfl⟩)) Ab)))) (DS rfl (AO (p_ 2 T3) (AO (p_ 3 T3) Cl)))) (Af (Bd (BG D_lay Bl hr s_ (Aa (q_ Aq hr (Aa (Dj Av Bz hr s_) (Aa t_ (Aa u_ (Aa AR Ab))))) Ab))))),?_⟩;walk_at "D";cases q3 with
 | shel _ _=>cases hi
 | row _ _=>cases hi
 | st i0 _ _ _=>
   have hi0:W7.half=i0:=hi;subst hi0;exact(show False from S.ok.1).elim
 | half N ps=>
 have hx:H x=some (.ins ((cF Ag Ah Ae Ai Y6 Y4 Aj) W7.half) dx (fsF W7.half a (2^N))):=S.hx;have ha:=S.ha;have hl:(cs.length:Int)=2^N:=S.hl;obtain⟨hN,hc,al,nb⟩:=id S.ok;have mk:Au cs ps:=S.mm;have hzm:z∈ps:=hzm;have cl:=T.Mw;have na:=T.T8;have hz:=S.hz;have hw:=BZ S.ch mk;obtain⟨m,q,em,ea⟩:=al z hzm;obtain⟨i0,hi0⟩:=ai hzm;obtain⟨ds,rs,eps,_,_,_⟩:=CD hc hi0;obtain⟨_,_,_,z4⟩:=hc.mem z hzm;obtain⟨za,zl,zv⟩:=z;have em:zl=2^m:=em;have ea:za=2^m*(q:Int):=ea;have hv:zv=true:=hv;subst em ea hv;have q0:(0:Int)<=2^m*(q:Int):=(hc.mem _ hzm).1;have hm:m<=N:=TM (by have z4:(2:Int)^m*(q:Int)+2^m<=2^N:=z4;omega);have L:Lie N ps ds rs m q:=by
   have:=rB (v:=true) hm (by rw[<-eps];exact hc);rw[<-eps] at this;exact this
 obtain⟨ds',rs',m',q',G,L'⟩:=MgTo.ex (N-m) (ψ _) L;have hin:∀y,y∈ds\/y∈rs->y∈ps:=λy hy=>by
   rw[eps];rcases hy with g | g
   . exact μ _ g
   . exact ζ _ (ρ _ g)
 have nb':=nb.give (N:=N) G hin;have GV:∀cs':List Int,(∀j:Nat,(j:Int)<2^m'*(q':Int)\/2^m'*(q':Int)+2^m'<=j->cs'[j]?=cs[j]?)->Gvn _ _ _ cs cs':=λcs'=>oY hc eps L L' G;obtain⟨g0,g1,g2,g3,g4⟩:=rC hl mk al (λy hy=>by
   rw[eps];rcases hy with g | g
   . exact μ _ g
   . exact ζ _ (ρ _ g)) L G
 have p1:=pw1 m';walk_at "";refine⟨2^N,x,dx,a,cs,ps,rfl,⟨hx,ha,hz,by rw[hl];exact hc,mk⟩,λlp us H1 nlp s1 hlp pa=>?_⟩;have S1:=S.same s1;have hx1:H1 x=some (.ins ((cF Ag Ah Ae Ai Y6 Y4 Aj) W7.half) dx (fsF W7.half a (2^N))):=S1.hx;have ha1:=S1.ha;walk_at "";refine⟨x,dx,a,.half N ps,cs,⟨2^m*(q:Int),2^m,true⟩,rfl,rfl,S1,hzm,rfl,λH2 s2=>?_⟩;have hx2:=s2 x _ hx1;have ha2:=s2 a _ ha1;walk_at "";refine⟨lp,us,ps,ds,rs,ds',rs',N,m,q,m',q',by rw[show (2:Int)^m*(q:Int)+1-1=2^m*(q:Int) by omega,show (2:Int)^m-2+2=2^m by omega],s2 lp _ hlp,pa.same s2,hN,L,G,λt H3 s3 ht=>?_⟩;have hx3:=s3 x _ hx2;have ha3:=s3 a _ ha2;generalize ea:(2:Int)^m'*(q':Int)=at0 at *;generalize el:(2:Int)^m'=lo at *;walk_at "";refine⟨2^N,x,dx,a,cs,rfl,hx3,ha3,λp H4 np s4 hp=>?_⟩;have hx4:=s4 x _ hx3;have ha4:=s4 a _ ha3;walk_at "";refine⟨p,cs,at0,lo,false,rfl,SqL.of hp,by omega,g0,p1,g1,λp5 H5 np5 s5 hp5=>?_⟩;have hl5:(AS cs at0 lo false).length=cs.length:=B0 _ _ _ _;have hw5:=BZ (by rw[hl5,hl];exact g2) g3;walk_at "";refine⟨2^N,x,p5,dx,a,cs,_,_,rfl,s5 x _ hx4,s5 a _ ha4,hl5,SqL.of hp5,by omega,by rw[hl5,hl];exact g2,hw5,λa' H6 na6 k6 hx6 ha6=>?_⟩;walk_at "";have s15:=(((s1.trans s2).trans s3).trans s4).trans s5;exact qQ _ a' _ H6 (GV _ λj hj=>De g0 p1 hj) (s15.free na6) ((AE.of s15).trans k6) hl5 ⟨hx6,ha6,by rw[hl5];exact hl,by omega,⟨hN,g2,g4,nb'⟩,g3⟩
def HvW(H1:Hp)(B s:Int)(ps:List Pc)(D:uH)(i:Nat)(ys:List V)(H2:Hp):Prop:=Same H1 H2/\H2 D=some (.lst ys)/\H1 D=none/\ys.length<=i/\∃bs:List Bool,ys=bs.map V.bl/\bs.any id=(ps.take i).any λz=>decide (z.a-z.a%s=B)&&z.v
abbrev wD(K:δ)(c:uH)(cs:List Int)(ps:List Pc)(b s:Int)(H:Hp)(Q:VK):Prop:=∀(H':Hp),Same H H'->Q (.bl (ps.any λz=>decide (z.a-z.a%s=b)&&z.v)) H'
def yY(K:δ):Sp:=λvs H Q _=>∃(c:uH)(cs:List Int)(ps:List Pc)(b s:Int),vs=[.ref c,.int b,.int s]/\SqL K H c (cs.map V.int)/\cs.length<=4000/\By cs 0=(ps,none)/\ps.length<=4000/\1<=s/\wD K c cs ps b s H Q
include T AA Bb in
theorem Nm(S:Src K mg "has_live" Rh):wO P w K mg base "has_live" 5 ["cells","begin","shelf"] (yY K):=by
 refine S.okx Ig Ih λf _ A _ s H vs Q E hr h=>?_;obtain⟨c,cs,ps,b,s,rfl,hS,hz,hw,hpz,hs,q⟩:=h;refine⟨_,PSs.nox (Af (Ao (Bs (mS rfl) (by rfl) T.n_any sy (Aa (Hf ["at","long","live"] ["begin","shelf"] [1,2] rfl (BU (q_ AA hr (Aa s_ Ab))) (λcl C s₀ H₀ ex=>(EH (K:=K) (n:=3) rfl rfl (AO (AF (i:=0) (show ((["at","long","live"]:List Str)++(["begin","shelf"]:List Str)).Nodup by decide +kernel) rfl (π rfl)) (AO (AF (i:=1) (show ((["at","long","live"]:List Str)++(["begin","shelf"]:List Str)).Nodup by decide +kernel) rfl (π rfl)) (AO (AF (i:=2) (show ((["at","long","live"]:List Str)++(["begin","shelf"]:List Str)).Nodup by decide +kernel) rfl (π rfl)) Cl))))) (λcl C s₀ H₀ ex=>(EG (As AN (q_ Bb hr (Aa s_ (Aa vw Ab))) u_))) (λcl C s₀ H₀ ex=>t_) (Tg rfl rfl rfl rfl rfl rfl) (Th (n:="begin") (m:="shelf") (by decide +kernel) rfl rfl) (λy h=>DQ (by decide +kernel) h)) Ab)))),?_⟩;walk_at "D";walk_at "";refine⟨c,cs,rfl,hS,hz,(λc hc=>by rw[hw] at hc;cases hc),λ_ lp us H1 nlp s1 hlp pa=>?_⟩;have pa:AH H1 us ps:=by rw[hw] at pa;exact pa
 have hul:=pa.1;walk_at "";refine⟨lp,rfl,⟨_,SqL.of hlp⟩,Dh (K:=K) (a:=lp) (xs:=us) (HvW H1 b s ps) (λD hD=>⟨Same.new hD,upd_same,hD,ψ _,[],rfl,rfl⟩) (λD i ys H2 _ h=>SqL.of (h.1 lp _ hlp)) ?_ ?_⟩
 . rintro D i y ys H2 hD hi ⟨s2,hD2,_,hyl,bs,ey,eb⟩ τ hτ;have hil:i<us.length:=(γ.mp hi).1;have hip:i<ps.length:=by omega
   obtain⟨t,et,hT⟩:=pa.2 i ps[i] (by simp [hip]);have ey2:y = .ref t:=χ (hi.symm.trans et);subst ey2;have hT2:=s2 t _ hT;have etk:ps.take (i+1)=ps.take i++[ps[i]]:=by rw[ck,Ω hip];rfl
   generalize ps[i]=z at hT2 etk
   obtain⟨τ0,τ1,τ2,rfl⟩:=a_ hτ
   walk_at "";refine⟨⟨[_,_,_],rfl,rfl⟩,?_⟩;walk_at "";refine⟨z.a,s,rfl,hs,?_⟩;walk_at "";refine AJ (λhl=>?_) (λhl=>?_)
   . walk_at "";refine⟨hD2,small4000 (by omega),Bp hil ⟨s2.put hD,upd_same,hD,by rw[ι,Θ];omega,bs++[z.v],by rw[ey,af];rfl,?_⟩⟩;rw[etk,ik,ik,eb,eo,pq,eo,pq,decide_eq_true hl];simp
   . walk_at "";refine Bp hil ⟨s2,hD2,hD,by omega,bs,ey,?_⟩;rw[etk,ik,eb,eo,pq,decide_eq_false hl];simp
 . rintro D ys H2 hD ⟨s2,hD2,_,hyl,bs,ey,eb⟩;subst ey;rw[ar (by omega)] at eb;walk_at "";refine⟨D,bs,rfl,hD2,?_⟩;rw[eb];walk_at "";exact q _ (s1.trans s2)
variable (DB:wO P w K mg base "has_live" 5 ["cells","begin","shelf"] (yY K))
include T Aq Av D_lay Bb AB DB in
theorem Nn(F:Fun K "give" "Shelves.give" R0 f₀ fd₀)(M:wT K Y4 "give" f₀):Methx P w K mg base Y4 "give" 8 ["self","place"] [] (JO (cF Ag Ah Ae Ai Y6 Y4 Aj) Y9 W7.shel):=by
 refine⟨⟨f₀,fd₀,[],A3 F R1 (λ_ A _ s H vs Q E hr h=>?_),M,F.binds Jn,.nil⟩,T.JA⟩;obtain⟨x,dx,a,q3,cs,z,rfl,hi,S,hzm,hv,qE,qQ⟩:=h;refine⟨_,(Ad (o_ 2 R1 (q_ Aq hr (Aa (Dj Av Bz hr s_) (Aa (Am Bk r_ Ac) (Aa (Am AL (BG AB Bl hr s_ (Aa r_ Ab)) (ED (v:=.int 2) (by rfl) T.GE ⟨_,rfl⟩)) (Aa AR Ab)))))) (Ad (o_ 3 R1 (q_ Bb hr (Aa (Am Bk r_ Ac) (Aa (BO s_ rfl) Ab)))) (Ad (Ay (Bo (Cy (q_ DB hr (Aa t_ (Aa u_ (Aa (BO s_ rfl) Ab)))))) (Af (o_ 2 R1 (q_ Aq hr (Aa t_ (Aa u_ (Aa (BO s_ rfl) (Aa AR Ab))))))) Az) (Af (Bd (BG D_lay Bl hr s_ (Aa t_ Ab))))))),?_⟩;walk_at "D";cases q3 with
 | half _ _=>cases hi
 | row _ _=>cases hi
 | st i0 _ _ _=>
   have hi0:W7.shel=i0:=hi;subst hi0;exact(show False from S.ok.1).elim
 | shel s fs=>
 have hx:H x=some (.ins ((cF Ag Ah Ae Ai Y6 Y4 Aj) W7.shel) dx (fsF W7.shel a s)):=S.hx;have ha:=S.ha;have hl:(cs.length:Int)=s*(fs.length:Int):=S.hl;have hz:=S.hz;obtain⟨hs,hf1,ok⟩:=id S.ok;have mk:Au cs (alP s 0 fs):=S.mm;have hzm:z∈alP s 0 fs:=hzm;have cl:=T.JA;have na:=T.Mx;have nb:=T.Sa;have ch:=S.ch;have hw:=BZ ch mk;have W:∀f∈fs,SfW s f:=λf hf=>(ok f hf).1;obtain⟨j,i,n,b,hj,hi,rfl⟩:=KH hzm hv;have q:∀(a':uH)(cs':List Int)(H':Hp),(∀y∈alP s 0 fs,y.v=true->y≠⟨s*(j:Int)+n*(i:Int),n,true⟩->∀m:Nat,Inn y m->cs'[m]?=cs[m]?)->H a'=none->AE x H H'->cs'.length=cs.length->KS (cF Ag Ah Ae Ai Y6 Y4 Aj) x dx a' (.shel s (giv fs j i n b)) cs' H'->Q .non H':=λa' cs' H' ho=>qQ _ a' cs' H' (oZ hs ok hj hi ho);clear qE qQ;have hib:i<b.length:=(γ.mp hi).1;obtain⟨g0,g3,g4,gm,mk3⟩:=cP (v:=false) hs W hj hi hl mk;obtain⟨w0,w4,_⟩:=cQ hs W hj hl mk;have hfl:=(dE hs W hj hi).2.2.1;have gp3:=(dF hs ok hj hi).2.2;generalize eat:s*(j:Int)+n*(i:Int)=at0 at g0 g4 gm mk3 hfl q gp3 ⊢;have BE:∀y∈alP s 0 fs,y.v=true->y≠⟨at0,n,true⟩->∀m:Nat,Inn y m->(AS cs at0 n false)[m]?=cs[m]?:=λy hy hv hne m hm=>De g0 (by omega) (show (m:Int)<at0\/at0+n<=m from TV ch hy gm hne hm);walk_at "";refine⟨s,x,dx,a,cs,rfl,hx,ha,λp H1 np s1 hp=>?_⟩;have hx1:=s1 x _ hx;have ha1:=s1 a _ ha;walk_at "";refine⟨x,dx,a,.shel s fs,cs,⟨at0,n,true⟩,rfl,rfl,S.same s1,gm,rfl,λH2 s2=>?_⟩;have hx2:=s2 x _ hx1;have ha2:=s2 a _ ha1;have hp2:=s2 p _ hp;walk_at "";refine⟨p,cs,at0+1-1,n-2+2,false,rfl,SqL.of hp2,by omega,by omega,by omega,by omega,λp3 H3 np3 s3 hp3=>?_⟩;rw[show at0+1-1=at0 by omega,show n-2+2=n by omega] at hp3;have hx3:=s3 x _ hx2;have ha3:=s3 a _ ha2;walk_at "";refine⟨at0+1-1,s,rfl,hs,?_⟩;rw[show at0+1-1=at0 by omega,hfl];walk_at "";have hl3:(AS cs at0 n false).length=cs.length:=B0 _ _ _ _;have hl4:((AS cs at0 n false).length:Int)=s*((fs.set j ⟨n,b.set i false⟩).length:Int):=by rw[hl3,ax];exact hl
 have W3:∀f∈fs.set j ⟨n,b.set i false⟩,SfW s f:=C_ W (Qz (W _ (ε hj)) hib);have ch3:=KU hs W3 hl4;have hw3:=BZ ch3 mk3;have hle3:=ch3.le;have hj3:(fs.set j ⟨n,b.set i false⟩)[j]?=some ⟨n,b.set i false⟩:=aj (γ.mp hj).1;have hany:=oF hs W3 hj3;have gok:=cZ ok hj hib;have glen:=cY fs j i n b;refine⟨p3,_,_,s*(j:Int),s,rfl,SqL.of hp3,by omega,hw3,by omega,hs,λH4 s4=>?_⟩;rw[hany];have hp4:=s4 p3 _ hp3;have hx4:=s4 x _ hx3;have ha4:=s4 a _ ha3;have s14:=((s1.trans s2).trans s3).trans s4;cases hb:(b.set i false).any id with
 | true=>
   have eg:giv fs j i n b=fs.set j ⟨n,b.set i false⟩:=by unfold giv;rw[if_pos hb]
   rw[eg] at gok q;walk_at "";refine⟨s,x,p3,dx,a,cs,_,_,rfl,hx4,ha4,hl3,SqL.of hp4,by omega,ch3,hw3,λa' H6 na6 k6 hx6 ha6=>?_⟩;walk_at "";exact q a' _ H6 BE (s14.free na6) ((AE.of s14).trans k6) hl3 ⟨hx6,ha6,hl4,by omega,⟨hs,by rw[ax];exact hf1,gok⟩,mk3⟩
 | false=>
   have eg:giv fs j i n b=fs.set j ⟨0,[]⟩:=by unfold giv;rw[if_neg (by rw[hb];exact ν)]
   rw[eg] at gok q;obtain⟨_,w5,mk5⟩:=cQ hs W3 hj3 hl4 mk3;rw[sr] at mk5;walk_at "";refine⟨p3,_,s*(j:Int),s,false,rfl,SqL.of hp4,by omega,w0,hs,w5,λp5 H5 np5 s5 hp5=>?_⟩;have hl5:(AS (AS cs at0 n false) (s*(j:Int)) s false).length=cs.length:=by rw[B0];exact hl3
   have hl6:((AS (AS cs at0 n false) (s*(j:Int)) s false).length:Int)=s*((fs.set j ⟨0,[]⟩).length:Int):=by rw[hl5,ax];exact hl
   have ch5:=KU hs (λf hf=>(gok f hf).1) hl6;have hw5:=BZ ch5 mk5;have hx5:=s5 x _ hx4;have ha5:=s5 a _ ha4;walk_at "";refine⟨s,x,p5,dx,a,cs,_,_,rfl,hx5,ha5,hl5,SqL.of hp5,by omega,ch5,hw5,λa' H6 na6 k6 hx6 ha6=>?_⟩;walk_at "";have s15:=s14.trans s5;exact q a' _ H6 (λy hy hv hne m hm=>by
     have:=gp3 hb y hy hv hne;rw[De w0 hs (by obtain⟨m1,m2⟩:=hm;omega)];exact BE y hy hv hne m hm) (s15.free na6) ((AE.of s15).trans k6) hl5 ⟨hx6,ha6,hl6,by omega,⟨hs,by rw[ax];exact hf1,gok⟩,mk5⟩
def okM:W7->Prop
 | .row=>False
 | _=>True
theorem gO{c L:Int}{q:St7}(h:lnF c q L):c+2<=L:=by
 cases q with
 | half N ps=>
   obtain⟨B,hB,rfl⟩:=h;exact hB.1
 | shel _ _=>exact mf (su h)
 | row _ _=>exact mf (su h)
 | st _ _ _ _=>exact mf (su h)
structure Grwn(q:St7)(z:Pc)(c b p:Int)(q':St7)(cs cs':List Int):Prop where
 n:q'.n=q.n
 lt:q'.let3=q.let3
 sh:q'.sh=q.sh
 bd:p%b=0
 lf:∃L,(lnF c q L\/(ok3 q.let3/\L=z.l/\c+2<=z.l))/\G_ q.ps q'.ps cs cs' ⟨p-1,L,true⟩ λy=>y=z
 own:∀j:Nat,(j:Int)<c->(j:Int)<z.l-2->cs'[p.toNat+j]?=cs[(z.a+1).toNat+j]?
def F_(c b:Int)(z:Pc):St7->Prop
 | .st _ _ _ ps=>(z.a+1)%b=0/\∃i,ps[i]?=some z/\z.a+(c+2)<=wQ ps i z
 | _=>c+2<=z.l
abbrev wE(C:W7->uH)(CN:uH)(i:W7)(x dx a:uH)(q:St7)(cs:List Int)(z:Pc)(c b:Int)(H:Hp)(Q:VK)(E:XK):Prop:=(No7 c b q->∀H',Same H H'->E (.ref CN) none H') /\ ∀(p:Int)(q':St7)(a':uH)(cs':List Int)(H':Hp),Grwn q z c b p q' cs cs'->H a'=none->AE x H H'->cs'.length=cs.length->KS C x dx a' q' cs' H'->Q (.int p) H'
def Ue(C:W7->uH)(CN:uH)(i:W7):Sp:=λvs H Q E=>∃(x dx a:uH)(q:St7)(cs:List Int)(z:Pc)(c b:Int),vs=[.ref x,.int (z.a+1),.int c,.int b]/\i=q.let3/\KS C x dx a q cs H/\z∈q.ps/\z.v=true/\1<=c/\c<=30/\1<=b/\(ok3 i->b=1)/\wE C CN i x dx a q cs z c b H Q E
theorem Gvn.new{q q1 q2:St7}{c b p:Int}{cs1 cs2 cs3:List Int}(A:xB q c b p q1 cs cs1)(hm:z∈q.ps)(hv:z.v=true)(ch:Ak 0 q1.ps cs1.length)(off:∀j:Nat,(j:Int)<p-1\/(∀L,(⟨p-1,L,true⟩:Pc)∈q1.ps->p-1+L<=j)->cs2[j]?=cs1[j]?)(inn:∀j:Nat,(j:Int)<c->(j:Int)<z.l-2->cs2[p.toNat+j]?=cs1[(z.a+1).toNat+j]?)(G:Gvn q1 z q2 cs2 cs3):Grwn q z c b p q2 cs cs3:=by
 obtain⟨L,hL,hnew,hvn,hkp,hbk⟩:=A.lf;have h2:=gO hL;obtain⟨hzc,hzp,hzin⟩:=hkp z hm hv id;have hzp:z.a≠p-1:=hzp;have nz:(⟨p-1,L,true⟩:Pc)≠z:=λe=>hzp (by rw[<-e]);obtain⟨n1,_,_,_⟩:=ch.mem _ hnew;have n1:0<=p-1:=n1;obtain⟨z1,_,_,_⟩:=ch.mem z hzc;have one:∀L',(⟨p-1,L',true⟩:Pc)∈q1.ps->L'=L:=λL' h=>congrArg Pc.l (Cj ch h hnew rfl);have e1:(p.toNat:Int)=p:=bg (by omega);have e2:((z.a+1).toNat:Int)=z.a+1:=bg (by omega);refine⟨G.n.trans A.n,G.lt.trans A.lt,G.sh.trans A.sh,A.bd,⟨L,.inl hL,(G.kp _ hnew rfl nz).1,rfl,λy hy yv hyz=>?_,λy hy yv=>?_⟩,λj hj1 hj2=>?_⟩
 . obtain⟨k1,k2,k3⟩:=hkp y hy yv id;obtain⟨k4,k5⟩:=G.kp y k1 yv hyz;refine⟨k4,k2,λj hj=>?_⟩;have ha:=TV ch k1 hnew (λe=>k2 (by rw[e])) hj;have ha:(j:Int)<p-1\/p-1+L<=j:=ha;rw[k5 j hj,off j (ha.imp id λh L' hL'=>by rw[one L' hL'];exact h),k3 j hj]
 . obtain⟨k1,k2⟩:=G.bk y hy yv;exact(hbk y k1 yv).imp id λh=>⟨h.1,k2⟩
 . rw[(G.kp _ hnew rfl nz).2 (p.toNat+j) ⟨by show p-1+1<=_;omega,by show _<p-1+L-1;omega⟩,inn j hj1 hj2];exact hzin _ ⟨by omega,by omega⟩
variable (D_ask:xr P w K mg base (cF Ag Ah Ae Ai Y6 Y4 Aj) "ask" 8 ["self","count","bound"] [.int 1] (JH (cF Ag Ah Ae Ai Y6 Y4 Aj) Y2 AT))
variable (DC:wO P w K mg base "carried" 1 ["cells","source","goal","count"] (fG K))
variable (D_give:A7 P w K mg base (cF Ag Ah Ae Ai Y6 Y4 Aj) "give" 8 ["self","place"] [] (JO (cF Ag Ah Ae Ai Y6 Y4 Aj) Y9))
include T AB D_ask DC D_give in
theorem No(F:Fun K "room_moved" "Keeper.room_moved" E4 f₀ fd₀)(M:∀i,(okM) i->wT K ((cF Ag Ah Ae Ai Y6 Y4 Aj) i) "room_moved" f₀):Bu P w K mg base (okM) (cF Ag Ah Ae Ai Y6 Y4 Aj) "room_moved" 9 ["self","place","count","bound"] [] (Ue (cF Ag Ah Ae Ai Y6 Y4 Aj) AT):=by
 refine Bu.made (A3 F GD (λ_ A _ s H vs Q E hr h=>?_)) M (F.binds Mu) (wU T);obtain⟨i,hi,x,dx,a,q,cs,z,c,b,rfl,rfl,S,hm,hv,c1,c30,hb,b3,qN,qQ⟩:=h;refine⟨_,(Ad (o_ 4 GD (BG D_ask.all Bl hr s_ (Aa t_ (Aa u_ Ab)))) (Ad (Cz s_ (q_ DC hr (Aa (BO s_ rfl) (Aa r_ (Aa vw (Aa (Bs (Sv rfl) (by rfl) T.n_min fz (Aa (BG AB Bl hr s_ (Aa r_ Ab)) (Aa t_ Ab))) Ab))))) rfl) (Ad (Bd (BG D_give Bl hr s_ (Aa r_ Ab))) (Af (Ao vw))))),?_⟩;walk_at "D";have cl:=wU T q.let3;have na:=xk T q.let3;have hx:=S.hx;walk_at "";refine⟨x,dx,a,q,cs,c,b,rfl,rfl,S,c1,c30,hb,λh hne=>absurd (b3 h) hne,λ_ hn H1 s1=>qN hn H1 s1,λ_ p q1 a1 cs1 H1 A na1 k1 l1 S1=>?_⟩;obtain⟨L,hL,hnew,hvn,hkp,hbk⟩:=A.lf;have Lc:=gO hL;obtain⟨hzc,hzp,hzin⟩:=hkp z hm hv id;have hz:=S1.hz;obtain⟨z1,z2,z3,z4⟩:=S1.ch.mem z hzc;have z3:=z3 hv;obtain⟨n1,n2,n3,n4⟩:=S1.ch.mem _ hnew;have n4:p-1+L<=cs1.length:=n4;have n1:0<=p-1:=n1;have hx1:=S1.hx;have ha1:=S1.ha;have cl1:=wU T q1.let3;have na1':=xk T q1.let3;have ok1:okM q1.let3:=by rw[A.lt];exact hi
 walk_at "";refine⟨x,dx,a1,q1,cs1,z,rfl,rfl,S1,hzc,hv,λH2 s2=>?_⟩;have hx2:=s2 x _ hx1;have ha2:=s2 a1 _ ha1;walk_at "";have hmj:∀j:Nat,(j:Int)<c->(j:Int)<z.l-2->(j:Int)<(if c<z.l-2 then c else z.l-2):=λj h1 h2=>by split <;> omega
 have b1:(if c<z.l-2 then c else z.l-2)<=c:=by split <;> omega
 have b2:(if c<z.l-2 then c else z.l-2)<=z.l-2:=by split <;> omega
 have b3:0<=(if c<z.l-2 then c else z.l-2):=by split <;> omega
 generalize (if c<z.l-2 then c else z.l-2)=m at b1 b2 b3 hmj ⊢;refine⟨a1,cs1,z.a+1,p,m,rfl,SqL.of ha2,hz,by omega,by omega,b3,by omega,by omega,λw H3 nw s3 hw=>?_⟩;have hx3:=s3 x _ hx2;have hne:w≠x:=λz=>by rw[z,hx2] at nw;cases nw
 have e1:(p.toNat:Int)=p:=bg (by omega);have e2:((z.a+1).toNat:Int)=z.a+1:=bg (by omega);have e3:(m.toNat:Int)=m:=bg b3;have lc:(xt cs1 (z.a+1).toNat p.toNat m.toNat).length=cs1.length:=nE (by omega) (by omega);have mc:=nF (s:=(z.a+1).toNat) (c:=m.toNat) S1.ch rfl S1.mm hnew rfl (by omega) (show (m.toNat:Int)<=L-2 by omega);have mc:Au (xt cs1 (z.a+1).toNat p.toNat m.toNat) q1.ps:=by rw[show (⟨p-1,L,true⟩:Pc).a+1=p from oy _ _] at mc;exact mc
 walk_at "";generalize hH:upd H3 x _=H4;have S4:KS (cF Ag Ah Ae Ai Y6 Y4 Aj) x dx w q1 (xt cs1 (z.a+1).toNat p.toNat m.toNat) H4:=⟨by rw[<-hH,upd_same,KD],by rw[<-hH];exact look_ne hne hw,by rw[lc];exact S1.hl,by rw[lc];exact hz,S1.ok,mc⟩
 have k4:AE x H H4:=by rw[<-hH];exact(k1.trans (AE.of (s2.trans s3))).put
 have hx4:=S4.hx;walk_at "";refine⟨x,dx,w,q1,_,z,rfl,rfl,S4,hzc,hv,λe=>by rw[e] at ok1;exact ok1.elim,λq2 a' cs' H5 G na5 k5 l5 S5=>?_⟩;walk_at "";refine qQ p q2 a' cs' H5 (Gvn.new A hm hv S1.ch (λj hj=>bX (by omega) (by omega) (by rcases hj with h | h;exact .inl (by omega);have:=h L hnew;exact .inr (by omega))) (λj hj1 hj2=>by have:=hmj j hj1 hj2;exact yu (by omega) (by omega) (by omega)) G) (k4.free (by rw[S4.hx];exact λe=>by cases e) na5) (k4.trans k5) (by omega) S5
theorem rD{L e:Int}(h:z∈ps):(⟨z.a,L,true⟩:Pc)∈w_ ps z.a L e:=by
 unfold w_;refine lw.mpr ⟨rg1 z.a L e z,aw.mpr ⟨z,h,rfl⟩,?_⟩;unfold rg1;rw[if_pos rfl];exact μ _ (ζ _ (υ.mpr rfl))
def okG:W7->Prop
 | .half=>True
 | .shel=>True
 | _=>False
theorem okG.three(h:okG i):ok3 i:=by cases i <;> first | exact trivial | exact h.elim
theorem okG.moved(h:okG i):okM i:=by cases i <;> first | exact trivial | exact h.elim
theorem okG.row(h:okG i):i≠.row:=by rintro rfl;exact h
theorem ok4.moved(h:ok4 i):okM i:=by cases i <;> first | exact trivial | exact h.elim
theorem ok4.three(h:ok4 i)(h3:ok3 i):False:=by cases i <;> first | exact h | exact h3
theorem ok4.row(h:ok4 i):i≠.row:=by rintro rfl;exact h
abbrev wF(C:W7->uH)(CB CN CG:uH)(i:W7)(x dx a:uH)(q:St7)(cs:List Int)(z:Pc)(c b:Int)(H:Hp)(Q:VK)(E:XK):Prop:=(i = .row->∀H',Same H H'->E (.ref CG) none H')/\(ok3 i->i≠.row->b≠1->∀H',Same H H'->E (.ref CB) none H') /\ (i≠.row->(ok3 i->b=1)->No7 c b q->¬F_ c b z q->∀H',Same H H'->E (.ref CN) none H') /\ (i≠.row->(ok3 i->b=1)->∀(p:Int)(q':St7)(a':uH)(cs':List Int)(H':Hp),Grwn q z c b p q' cs cs'->(ok3 i->c+2<=z.l->q'=q/\p=z.a+1/\cs'=cs)->(a'=a\/H a'=none)->AE x H H'->cs'.length=cs.length->KS C x dx a' q' cs' H'->Q (.int p) H')
def KY(C:W7->uH)(CB CN CG:uH)(i:W7):Sp:=λvs H Q E=>∃(x dx a:uH)(q:St7)(cs:List Int)(z:Pc)(c b:Int),vs=[.ref x,.int (z.a+1),.int c,.int b]/\i=q.let3/\KS C x dx a q cs H/\z∈q.ps/\z.v=true/\1<=c/\c<=30/\1<=b/\wF C CB CN CG i x dx a q cs z c b H Q E
variable (Ca:Bu P w K mg base (okM) (cF Ag Ah Ae Ai Y6 Y4 Aj) "room_moved" 9 ["self","place","count","bound"] [] (Ue (cF Ag Ah Ae Ai Y6 Y4 Aj) AT))
include T BB AB Ca in
theorem Np{T₀:uH}{tk₀:Tok}{tc₀:uG}{tn₀:Nat}(F:FunD K "grow" "Keeper.grow" E5 (.ref T₀) f₀ fd₀)(LT:K.lookup T₀=some ⟨tc₀,td₀,.seq [.int 1 tk₀].toArray tn₀,ts₀⟩)(M:∀i,(okG) i->wT K ((cF Ag Ah Ae Ai Y6 Y4 Aj) i) "grow" f₀):MethSD P w K mg base (okG) (cF Ag Ah Ae Ai Y6 Y4 Aj) "grow" 10 ["self","place","count","bound"] [.int 1] (KY (cF Ag Ah Ae Ai Y6 Y4 Aj) Y2 AT Y9):=by
 refine MethSD.made (fd:=fd₀) ?_ M (F.bindsA LT (Jo T₀ _)) (F.bindsD LT (Jp T₀ _)) (.cons ⟨tk₀,rfl⟩ .nil) (wU T);refine Gy F eU (λvs H Q E h=>by obtain⟨_,_,h⟩:=h;revert h;walk_at "l") (λ_ A _ s H vs Q E hr h=>?_);obtain⟨i,hi,x,dx,a,q,cs,z,c,b,rfl,rfl,S,hm,hv,c1,c30,hb,qG,qB,qN,qQ⟩:=h;refine⟨_,(Ad (o_ 4 eU (BG AB Bl hr s_ (Aa r_ Ab))) (Ad (Bd (Bt BB hr (by rfl) (Aa t_ (Aa u_ Ab)))) (Ad (Ay (As Gr vw t_) (Af (Ao r_)) Az) (Af (Ao (Qu Ca Bl hr s_ (Aa r_ (Aa t_ (Aa u_ Ab))))))))),?_⟩;walk_at "D";have hi:okG q.let3:=hi;have cl:=wU T q.let3;have na:=xk T q.let3;have hx:=S.hx;have om:=hi.moved;have es:F_ c b z q↔c+2<=z.l:=by
   cases q with
   | st k _ _ _=>cases k <;> first | exact(show False from hi).elim | exact(show False from S.ok.1).elim
   | half _ _=>exact uv
   | shel _ _=>exact uv
   | row _ _=>exact(show False from hi).elim
 obtain⟨z0,_,z3,_⟩:=S.ch.mem z hm;have z3:=z3 hv;walk_at "";refine⟨x,dx,a,q,cs,z,rfl,rfl,S,hm,hv,λH1 s1=>?_⟩;have S1:=S.same s1;have hx1:=S1.hx;walk_at "";refine⟨c,b,rfl,λh=>absurd h (by omega),λ_ _ h=>qB hi.three hi.row h H1 s1,λ_ b1=>?_⟩;subst b1;walk_at "";refine AJ (λh1=>?_) (λh1=>?_)
 . walk_at "";refine qQ hi.row (λ_=>rfl) (z.a+1) q a cs H1 ⟨rfl,rfl,rfl,QB _,⟨z.l,.inr ⟨hi.three,rfl,by omega⟩,?_⟩,λ_ _ _=>rfl⟩ (λ_ _=>⟨rfl,rfl,rfl⟩) (.inl rfl) (AE.of s1) rfl S1;have ez:(⟨z.a+1-1,z.l,true⟩:Pc)=z:=by rw[ca,<-hv]
   rw[ez];exact⟨hm,hv,λy hy _ hne=>⟨hy,λe=>hne (Cj S.ch hy hm e),λ_ _=>rfl⟩,λy hy _=>(uF (y=z)).imp id λh=>⟨hy,h⟩⟩
 . walk_at "";refine⟨x,dx,a,q,cs,z,c,1,rfl,rfl,S1,hm,hv,c1,c30,hb,λ_=>rfl,λhn H2 s2=>qN hi.row (λ_=>rfl) hn (by rw[es];omega) H2 (s1.trans s2),λp q' a' cs' H2 G na2 k2 l2 S2=>qQ hi.row (λ_=>rfl) p q' a' cs' H2 G (λ_ h=>absurd h (by omega)) (.inr (s1.free na2)) ((AE.of s1).trans k2) l2 S2⟩
include T in
theorem Nq{T₀:uH}{tk₀:Tok}{tc₀:uG}{tn₀:Nat}(F:FunD K "grow" "Row.grow" E6 (.ref T₀) f₀ fd₀)(LT:K.lookup T₀=some ⟨tc₀,td₀,.seq [.int 1 tk₀].toArray tn₀,ts₀⟩)(M:∀i,(λi=>i=W7.row) i->wT K ((cF Ag Ah Ae Ai Y6 Y4 Aj) i) "grow" f₀):MethSD P w K mg base (λi=>i=W7.row) (cF Ag Ah Ae Ai Y6 Y4 Aj) "grow" 1 ["self","place","count","bound"] [.int 1] (KY (cF Ag Ah Ae Ai Y6 Y4 Aj) Y2 AT Y9):=by
 refine MethSD.made (fd:=fd₀) ?_ M (F.bindsA LT (Jr T₀ _)) (F.bindsD LT (Js T₀ _)) (.cons ⟨tk₀,rfl⟩ .nil) (wU T);refine Gy F Jq (λvs H Q E h=>by obtain⟨_,_,h⟩:=h;revert h;walk_at "l") (λ_ A _ s H vs Q E hr h=>?_);obtain⟨i,hi,x,dx,a,q,cs,z,c,b,rfl,rfl,S,hm,hv,c1,c30,hb,qG,qB,qN,qQ⟩:=h;refine⟨_,(Af (Cu T.eV hr.hd rfl (Aa AM Ab))),?_⟩;walk_at "D";walk_at "";exact qG hi H (Same.refl _)
include T Aq A4 A9 B3 Ba Ca in
theorem Nr{T₀:uH}{tk₀:Tok}{tc₀:uG}{tn₀:Nat}(F:FunD K "grow" "Stretches.grow" E7 (.ref T₀) f₀ fd₀)(LT:K.lookup T₀=some ⟨tc₀,td₀,.seq [.int 1 tk₀].toArray tn₀,ts₀⟩)(M:∀i,(ok4) i->wT K ((cF Ag Ah Ae Ai Y6 Y4 Aj) i) "grow" f₀):MethSD P w K mg base (ok4) (cF Ag Ah Ae Ai Y6 Y4 Aj) "grow" 10 ["self","place","count","bound"] [.int 1] (KY (cF Ag Ah Ae Ai Y6 Y4 Aj) Y2 AT Y9):=by
 refine MethSD.made (fd:=fd₀) ?_ M (F.bindsA LT (Jt T₀ _)) (F.bindsD LT (Ju T₀ _)) (.cons ⟨tk₀,rfl⟩ .nil) (wU T);refine Gy F KQ (λvs H Q E h=>by obtain⟨_,_,h⟩:=h;revert h;walk_at "l") (λ_ A _ s H vs Q E hr h=>?_);obtain⟨i0,hi,x,dx,a,q,cs,z,c,b,rfl,rfl,S,hm,hv,h1,c30,h2,qG,qB,qN,qQ⟩:=h;refine⟨_,(Ad (CT (Bt A9 hr (by rfl) (Aa (BO s_ rfl) (Aa (Am Bk r_ Ac) Ab))) (DS rfl (AO (p_ 4 KQ) (AO (p_ 5 KQ) (AO (p_ 6 KQ) Cl))))) (Ad (Bd (Bt Ba hr (by rfl) (Aa t_ (Aa u_ Ab)))) (Ad (o_ 7 KQ (Am AL t_ (ED (v:=.int 2) (by rfl) T.GE ⟨_,rfl⟩))) (Ad (o_ 8 KQ (q_ B3 hr (Aa (BO s_ rfl) (Aa (Am AL vw vx) Ab)))) (Ad (Ay (PW.pt (Bn (As CU (Am A6 r_ u_) Ac) (BR (As DT (Am AL vw vy) (pv 8))))) (Af (Ao (Qu Ca Bl hr s_ (Aa r_ (Aa t_ (Aa u_ Ab)))))) Az) (Ad (Cz s_ (q_ A4 hr (Aa (q_ Aq hr (Aa (BO s_ rfl) (Aa vw (Aa vy (Aa AR Ab))))) (Aa (Am AL vw vy) (Aa (pv 8) Ab)))) rfl) (Af (Ao r_)))))))),?_⟩;walk_at "D";cases q with
 | half _ _=>exact(show False from hi).elim
 | shel _ _=>exact(show False from hi).elim
 | row _ _=>exact(show False from hi).elim
 | st k r n ps=>
 have hi:ok4 k:=hi;have om:=hi.moved;have n3:ok3 k->b=1:=λh=>(hi.three h).elim;have nr:=hi.row;have hm:z∈ps:=hm;have cl:=wU T k;have na:=xk T k;have hx:H x=some (.ins ((cF Ag Ah Ae Ai Y6 Y4 Aj) k) dx (fsF k a r)):=S.hx;have ha:=S.ha;have hl:(cs.length:Int)=n:=S.hl;have hz:=S.hz;have hc:Ak 0 ps cs.length:=by rw[hl];exact S.ok.2.1
 have nj:AK ps:=S.ok.2.2;have mk:Au cs ps:=S.mm;have hw:=BZ hc mk;obtain⟨i,hi2⟩:=ai hm;obtain⟨z0,z1,z3,z4⟩:=hc.mem z hm;obtain⟨f1,f2⟩:=SY hc hi2;have sty:¬((z.a+1)%b=0/\z.a+(c+2)<=wQ ps i z)->¬F_ c b z (.st k r n ps):=λhn ⟨g1,j,hj,g2⟩=>by
   rw[LH hc hj hi2 rfl] at g2;exact hn ⟨g1,g2⟩
 walk_at "";refine⟨a,cs,ps,z.a,by rw[ca],SqL.of ha,by omega,hw,hc,λy hy hk hv' t H1 s1 ht=>?_,λhn=>absurd hv (hn z hm rfl)⟩;have ey:=Cj hc hy hm (by omega);subst ey;have S1:=S.same s1;have hx1:H1 x=some (.ins ((cF Ag Ah Ae Ai Y6 Y4 Aj) k) dx (fsF k a r)):=S1.hx;have ha1:=S1.ha;walk_at "";refine⟨c,b,rfl,λh=>absurd h (by omega),λ_ _=>?_⟩;walk_at "";refine⟨a,cs,ps,i,y,rfl,SqL.of ha1,hc,mk,hi2,?_⟩;have mv:¬((y.a+1)%b=0/\y.a+(c+2)<=wQ ps i y)->Ue (cF Ag Ah Ae Ai Y6 Y4 Aj) AT k [.ref x,.int (y.a+1),.int c,.int b] H1 Q E:=λhs=>⟨x,dx,a,.st k r n ps,cs,y,c,b,rfl,rfl,S1,hm,hv,h1,c30,h2,n3,λhn H2 s2=>qN nr n3 hn (sty hs) H2 (s1.trans s2),λp q' a' cs' H2 G na2 k2 l2 S2=>qQ nr n3 p q' a' cs' H2 G (λh=>(ok4.three hi h).elim) (.inr (s1.free na2)) ((AE.of s1).trans k2) l2 S2⟩
 walk_at "";refine AJ (λh3=>?_) (λh3=>?_)
 . walk_at "";refine AJ (λh4=>?_) (λh4=>?_)
   . walk_at "";exact mv (by omega)
   . walk_at "";refine⟨a,cs,y.a,c+2,true,rfl,SqL.of ha1,by omega,z0,by omega,by omega,λp H2 np s2 hp=>?_⟩;walk_at "";refine⟨p,_,_,_,rfl,SqL.of hp,by rw[B0];omega,by omega,by omega,by rw[B0];omega,λp2 H3 np2 s3 hp2=>?_⟩;have s13:=(s1.trans s2).trans s3;have hx3:=s13 x _ hx;have hne:p2≠x:=λz=>by rw[z,(s1.trans s2) x _ hx] at np2;cases np2
     walk_at "";have gi:Ak 0 (w_ ps y.a (c+2) (wQ ps i y)) cs.length/\AK (w_ ps y.a (c+2) (wQ ps i y))/\Au (lfI (AS cs y.a (c+2) true) (y.a+(c+2)) (wQ ps i y)) (w_ ps y.a (c+2) (wQ ps i y)):=by
       obtain⟨ds,rs,e1,e2,_,_⟩:=CD hc hi2;subst e1 e2;exact nA hc mk nj (show 3<=c+2 by omega) (by omega)
     obtain⟨k1,k3,k4⟩:=gi;refine qQ nr n3 (y.a+1) (.st k r n (w_ ps y.a (c+2) (wQ ps i y))) p2 _ _ ⟨rfl,rfl,rfl,by omega,⟨c+2,.inl rfl,?_⟩,λj hj1 hj2=>by have e:=bg (show 0<=y.a+1 by omega);exact nR (j:=(y.a+1).toNat+j) z0 (by omega) (by omega) (by omega)⟩ (λh=>(ok4.three hi h).elim) (.inr ((s1.trans s2).free np2)) (AE.of s13).put (by rw[Df,B0]) ⟨by rw[upd_same,KD];rfl,look_ne hne hp2,by rw[Df,B0];exact hl,by rw[Df,B0];exact hz,⟨hi,by rw[<-hl];exact k1,k3⟩,k4⟩;rw[ca];refine⟨rD hm,rfl,λy' hy' hv' hne'=>⟨?_,λe=>hne' (Cj hc hy' hm e),λj hj=>nQ hc hi2 (by omega) (by omega) hy' hv' hne' hj⟩,λy' hy' hv'=>(oO hy' hv').imp id λg=>⟨g.1,λe=>by rw[e] at g;omega⟩⟩;have hy':y'∈ps:=hy';refine nS hy' ?_;obtain⟨_,y1,_,_⟩:=hc.mem y' hy';have a1:=apart hc hm hy' (λe=>hne' e.symm) (i:=y'.a) (aq _) (by omega);rcases To hc hi2 with e | ⟨p,hp,hpv,hpa,e⟩
     . omega
     . have hyp:p≠y':=λw=>by rw[w,hv'] at hpv;cases hpv
       have a2:=apart hc hp hy' hyp (i:=y'.a) (aq _) (by omega);omega
 . walk_at "";exact mv (by omega)
theorem Uf{n:Int}(h:1<=n):Ak 0 [⟨0,n,false⟩] n:=⟨rfl,h,(λh=>by cases h),by show (0:Int)+n=n;omega⟩
def Bm:W7->Str
 | .first=>"first"
 | .best=>"best"
 | .next=>"next"
 | .likes=>"likes"
 | .half=>"halves"
 | .shel=>"shelves"
 | .row=>"row"
def gdF(n s:Int):W7->Prop
 | .half=>D3 n=true
 | .shel=>1<=n/\1<=s/\n%s=0
 | _=>1<=n
inductive Fr7(n s:Int):W7->St7->Prop
 | st {i:W7}:ok4 i->Fr7 n s i (.st i 0 n [⟨0,n,false⟩])
 | half {N:Nat}:N<=8->n=2^N->Fr7 n s .half (.half N [⟨0,2^N,false⟩])
 | shel {m:Nat}:1<=m->1<=s->n=s*(m:Int)->Fr7 n s .shel (.shel s (ο m ⟨0,[]⟩))
 | row:1<=n->Fr7 n s .row (.row n [])
theorem Nt{n:Int}(h:1<=n):Ak 0 [⟨0,n,false⟩] ((Bv n).length:Int)/\Au (Bv n) [⟨0,n,false⟩]:=by
 have hl:=Ec (show 0<=n by omega);refine⟨⟨rfl,h,(λh=>by cases h),?_⟩,λp hp=>?_⟩
 . show (0:Int)+n=_;rw[hl];omega
 . rw[υ.mp hp];unfold Bv at hl ⊢;rw[B0] at hl;exact⟨aJ (aq 0) h (by omega),aK (aq 0) h (by omega)⟩
theorem Sh{C:W7->uH}{x dx a:uH}{n:Int}{H H1 H2:Hp}(h4:ok4 i)(n1:1<=n)(n2:n<=1200)(nx:H x=none)(s:Same H H1)(k:AE x H1 H2)(hx:H2 x=some (.ins (C i) dx (fsF i a 0)))(ha:H2 a=some (.lst ((Bv n).map V.int))):Same H H2/\KS C x dx a (.st i 0 n [⟨0,n,false⟩]) (Bv n) H2:=by
 have fl:=Ec (show 0<=n by omega);obtain⟨f1,f2⟩:=Nt n1;exact⟨λb o h=>k b o (λe=>by rw[e,nx] at h;cases h) (s b o h),⟨hx,ha,fl,by omega,⟨h4,Uf n1,aT _⟩,f2⟩⟩
abbrev wG(C:W7->uH)(CN CS:uH)(wd:Str)(n:Int)(H:Hp)(Q:VK)(E:XK):Prop:=((∀i,ok4 i->wd≠Bm i)->∀H',Same H H'->E (.ref CN) none H')/\(∀i,ok4 i->wd=Bm i->n<1->∀H',Same H H'->E (.ref CS) none H') /\ (∀i,ok4 i->wd=Bm i->1<=n->∀(x dx a:uH)(H':Hp),H x=none->H a=none->Same H H'->KS C x dx a (.st i 0 n [⟨0,n,false⟩]) (Bv n) H'->Q (.ref x) H')
def spOf(C:W7->uH)(CN CS:uH):Sp:=λvs H Q E=>∃(wd:Str)(n:Int),vs=[.str wd,.int n]/\n<=1200/\wG C CN CS wd n H Q E
variable (D_First:wY P w K mg base "First" Ag 3 ["self","size"] [] (xx Ag A5))
variable (D_Best:wY P w K mg base "Best" Ah 3 ["self","size"] [] (xx Ah A5))
variable (D_Next:wY P w K mg base "Next" Ae 4 ["self","size"] [] (yV Ae A5))
variable (D_Likes:wY P w K mg base "Likes" Ai 3 ["self","size"] [] (xx Ai A5))
include T D_First D_Best D_Next D_Likes in
theorem Nu(S:Src K mg "stretches_of" Rm):wO P w K mg base "stretches_of" 6 ["word","size"] (spOf (cF Ag Ah Ae Ai Y6 Y4 Aj) Dk A5):=by
 refine S.okx Im Io λf _ A _ s H vs Q E hr h=>?_;obtain⟨wd,n,rfl,h4,qn,qs,q⟩:=h;refine⟨_,(Ad (Ay (As AN s_ AM) (Af (Ao (G7 D_First Bl hr (by rfl) (Aa r_ Ab)))) Az) (Ad (Ay (As AN s_ AM) (Af (Ao (G7 D_Best Bl hr (by rfl) (Aa r_ Ab)))) Az) (Ad (Ay (As AN s_ AM) (Af (Ao (G7 D_Next Bl hr (by rfl) (Aa r_ Ab)))) Az) (Ad (Ay (As AN s_ AM) (Af (Ao (G7 D_Likes Bl hr (by rfl) (Aa r_ Ab)))) Az) (Af (Cu T.pV hr.hd rfl (Aa AM Ab))))))),?_⟩;walk_at "D";walk_at "";refine AJ (λh_first=>?_) (λh_first=>?_)
 . walk_at "";intro x dx nx ndx nex;have s6:Same H (upd (upd H dx (.own x)) x (.ins Ag dx [])):=(Same.new ndx).put nx;refine⟨x,dx,n,rfl,upd_same,by omega,λhn=>qs W7.first trivial h_first hn _ s6,λh1 a H7 na7 k7 hx7 ha7=>⟨rfl,?_⟩⟩;obtain⟨s7,S7⟩:=Sh (C:=(cF Ag Ah Ae Ai Y6 Y4 Aj)) (i:=W7.first) trivial h1 h4 nx s6 k7 hx7 ha7;walk_at "";exact q W7.first trivial h_first h1 x dx a H7 nx (s6.free na7) s7 S7
 walk_at "";refine AJ (λh_best=>?_) (λh_best=>?_)
 . walk_at "";intro x dx nx ndx nex;have s6:Same H (upd (upd H dx (.own x)) x (.ins Ah dx [])):=(Same.new ndx).put nx;refine⟨x,dx,n,rfl,upd_same,by omega,λhn=>qs W7.best trivial h_best hn _ s6,λh1 a H7 na7 k7 hx7 ha7=>⟨rfl,?_⟩⟩;obtain⟨s7,S7⟩:=Sh (C:=(cF Ag Ah Ae Ai Y6 Y4 Aj)) (i:=W7.best) trivial h1 h4 nx s6 k7 hx7 ha7;walk_at "";exact q W7.best trivial h_best h1 x dx a H7 nx (s6.free na7) s7 S7
 walk_at "";refine AJ (λh_next=>?_) (λh_next=>?_)
 . walk_at "";intro x dx nx ndx nex;have s6:Same H (upd (upd H dx (.own x)) x (.ins Ae dx [])):=(Same.new ndx).put nx;refine⟨x,dx,n,rfl,upd_same,by omega,λhn=>qs W7.next trivial h_next hn _ s6,λh1 a H7 na7 k7 hx7 ha7=>⟨rfl,?_⟩⟩;obtain⟨s7,S7⟩:=Sh (C:=(cF Ag Ah Ae Ai Y6 Y4 Aj)) (i:=W7.next) trivial h1 h4 nx s6 k7 hx7 ha7;walk_at "";exact q W7.next trivial h_next h1 x dx a H7 nx (s6.free na7) s7 S7
 walk_at "";refine AJ (λh_likes=>?_) (λh_likes=>?_)
 . walk_at "";intro x dx nx ndx nex;have s6:Same H (upd (upd H dx (.own x)) x (.ins Ai dx [])):=(Same.new ndx).put nx;refine⟨x,dx,n,rfl,upd_same,by omega,λhn=>qs W7.likes trivial h_likes hn _ s6,λh1 a H7 na7 k7 hx7 ha7=>⟨rfl,?_⟩⟩;obtain⟨s7,S7⟩:=Sh (C:=(cF Ag Ah Ae Ai Y6 Y4 Aj)) (i:=W7.likes) trivial h1 h4 nx s6 k7 hx7 ha7;walk_at "";exact q W7.likes trivial h_likes h1 x dx a H7 nx (s6.free na7) s7 S7
 walk_at "";refine qn (λi h4 e=>?_) _ (Same.refl _);cases i
 . exact h_first e
 . exact h_best e
 . exact h_next e
 . exact h_likes e
 . exact(show False from h4).elim
 . exact(show False from h4).elim
 . exact(show False from h4).elim
theorem rE:∀n:Nat,n<401->D3 (n:Int)=true->∃N,N<9/\(n:Int)=2^N:=by decide +kernel
theorem zm{n:Int}(h:D3 n=true)(h4:n<=400):∃N:Nat,N<=8/\n=2^N:=by
 have h1:1<=n:=by
   unfold D3 at h;rw[df,decide_eq_true_eq] at h;exact h.1
 have e:((n.toNat:Nat):Int)=n:=by omega
 obtain⟨N,hN,eN⟩:=rE n.toNat (by omega) (by rw[e];exact h);exact⟨N,by omega,by rw[<-e];exact eN⟩
theorem gd4{n s:Int}(h:ok4 i):gdF n s i↔1<=n:=by
 cases i <;> first | exact uv | exact(show False from h).elim
abbrev wH(C:W7->uH)(CN CS:uH)(wd:Str)(n s:Int)(H:Hp)(Q:VK)(E:XK):Prop:=((∀i,wd≠Bm i)->∀H',Same H H'->E (.ref CN) none H')/\(∀i,wd=Bm i->¬gdF n s i->∀H',Same H H'->E (.ref CS) none H') /\ (∀i,wd=Bm i->gdF n s i->∀(x dx a:uH)(q:St7)(cs:List Int)(H':Hp),H x=none->H a=none->Same H H'->Fr7 n s i q->KS C x dx a q cs H'->Q (.ref x) H')
def xN(C:W7->uH)(CN CS:uH):Sp:=λvs H Q E=>∃(wd:Str)(n s:Int),vs=[.str wd,.int n,.int s]/\n<=400/\s<=4000/\wH C CN CS wd n s H Q E
variable (D_Halves:wY P w K mg base "Halves" Y6 4 ["self","size"] [] (yW Y6 A5))
variable (D_Shelves:wY P w K mg base "Shelves" Y4 8 ["self","size","shelf"] [] (yU Y4 A5))
variable (D_Row:wY P w K mg base "Row" Aj 3 ["self","size"] [] (xx Aj A5))
variable (DD:wO P w K mg base "stretches_of" 6 ["word","size"] (spOf (cF Ag Ah Ae Ai Y6 Y4 Aj) Dk A5))
include T D_Halves D_Shelves D_Row DD in
theorem Nv{T₀:uH}{tk₀:Tok}{tc₀:uG}{tn₀:Nat}(S:SrcD K mg "keeper_of" EB T₀)(LT:K.lookup T₀=some ⟨tc₀,td₀,.seq [.int 8 tk₀].toArray tn₀,ts₀⟩):M_ P w K mg base "keeper_of" 10 ["word","size","shelf"] [.int 8] (xN (cF Ag Ah Ae Ai Y6 Y4 Aj) Dk A5):=by
 refine S.okx LT Ip (Iq T₀ _) (Ir T₀ _) (.cons ⟨tk₀,rfl⟩ .nil) (λvs H Q E h=>by revert h;walk_at "l") (λf _ A _ s H vs Q E hr h=>?_);obtain⟨wd,n,s,rfl,h4,h40,qn,qs,q⟩:=h;refine⟨_,(Ad (Ay (As AN s_ AM) (Af (Ao (G7 D_Halves Bl hr (by rfl) (Aa r_ Ab)))) Az) (Ad (Ay (As AN s_ AM) (Af (Ao (G7 D_Shelves Bl hr (by rfl) (Aa r_ (Aa t_ Ab))))) Az) (Ad (Ay (As AN s_ AM) (Af (Ao (G7 D_Row Bl hr (by rfl) (Aa r_ Ab)))) Az) (Af (Ao (Bt DD hr (by rfl) (Aa s_ (Aa r_ Ab)))))))),?_⟩;walk_at "D";have sm:∀{x:uH}{H1 H2:Hp},H x=none->Same H H1->AE x H1 H2->Same H H2:=λnx s k b o h=>k b o (λe=>by rw[e,nx] at h;cases h) (s b o h);walk_at "";refine AJ (λh1=>?_) (λh1=>?_)
 . walk_at "";intro x dx nx ndx nex;have s6:Same H (upd (upd H dx (.own x)) x (.ins Y6 dx [])):=(Same.new ndx).put nx;refine⟨x,dx,n,rfl,upd_same,by omega,λhp=>qs .half h1 (λg=>by have g:D3 n=true:=g;rw[hp] at g;cases g) _ s6,λhp a H7 na7 k7 hx7 ha7=>⟨rfl,?_⟩⟩;obtain⟨N,hN,rfl⟩:=zm hp h4;have p1:=pw1 N;have fl:=Ec (show 0<=(2:Int)^N by omega);walk_at "";exact q .half h1 hp x dx a _ _ H7 nx (s6.free na7) (sm nx s6 k7) (.half hN rfl) ⟨hx7,ha7,fl,by omega,⟨hN,Uf p1,λz hz=>by rw[υ.mp hz];exact⟨N,0,rfl,by simp⟩,NbF.one N⟩,(Nt p1).2⟩
 walk_at "";refine AJ (λh2=>?_) (λh2=>?_)
 . walk_at "";intro x dx nx ndx nex;have s6:Same H (upd (upd H dx (.own x)) x (.ins Y4 dx [])):=(Same.new ndx).put nx;refine⟨x,dx,n,s,rfl,upd_same,by omega,h40,λhb=>qs .shel h2 (λg=>?_) _ s6,λm s1 m1 ez a H7 na7 k7 hx7 ha7=>⟨rfl,?_⟩⟩
   . obtain⟨g1,g2,g3⟩:=(show 1<=n/\1<=s/\n%s=0 from g)
     omega
   obtain⟨r1,r2,r3⟩:=gD s1 m;have r4:=MY s1 m;have z1:s<=s*(m:Int):=by
     have:=Ψ (show (1:Int)<=(m:Int) by omega) (show 0<=s by omega);omega
   walk_at "";exact q .shel h2 ⟨by omega,s1,by rw[ez];exact fv _ _⟩ x dx a _ _ H7 nx (s6.free na7) (sm nx s6 k7) (.shel m1 s1 ez) ⟨hx7,ha7,r1,by omega,⟨s1,by rw[ag];exact m1,r2⟩,r3⟩
 walk_at "";refine AJ (λh3=>?_) (λh3=>?_)
 . walk_at "";intro x dx nx ndx nex;have s6:Same H (upd (upd H dx (.own x)) x (.ins Aj dx [])):=(Same.new ndx).put nx;refine⟨x,dx,n,rfl,upd_same,by omega,λhn=>qs .row h3 (λg=>by have g:1<=n:=g;omega) _ s6,λn1 a H7 na7 k7 hx7 ha7=>⟨rfl,?_⟩⟩;have fl:=Ec (show 0<=n by omega);have e:rwP [] n=[⟨0,n,false⟩]:=by
     rw[L8 (ls:=[]) (show wP []<n from (by show (0:Int)<n;omega))];show [(⟨0,n-0,false⟩:Pc)]=_;rw[sv]
   walk_at "";exact q .row h3 n1 x dx a _ _ H7 nx (s6.free na7) (sm nx s6 k7) (.row n1) ⟨hx7,ha7,fl,by omega,⟨n1,(λl hl=>by cases hl),by show (0:Int)<=n;omega⟩,by show Au (Bv n) (rwP [] n);rw[e];exact(Nt n1).2⟩
 walk_at "";refine⟨wd,n,rfl,by omega,λhn H' s'=>qn (λi e=>?_) H' s',λi h e hlt H' s'=>qs i e (λg=>by have:=(gd4 h).mp g;omega) H' s',λi h e n1 x dx a H' nx na s' S=>q i e ((gd4 h).mpr n1) x dx a _ _ H' nx na s' (.st h) S⟩;cases i
 . exact hn .first trivial e
 . exact hn .best trivial e
 . exact hn .next trivial e
 . exact hn .likes trivial e
 . exact h1 e
 . exact h2 e
 . exact h3 e
abbrev wI(C:W7->uH)(i:W7)(x dx a:uH)(q:St7)(cs:List Int)(H:Hp)(Q:VK):Prop:=∀(q0:St7)(a':uH)(cs':List Int)(H':Hp),Fr7 q.n q.s q.let3 q0->H a'=none->AE x H H'->cs'.length=cs.length->KS C x dx a' q0 cs' H'->Q .non H'
def Si(C:W7->uH)(i:W7):Sp:=λvs H Q _=>∃(x dx a:uH)(q:St7)(cs:List Int),vs=[.ref x]/\i=q.let3/\KS C x dx a q cs H/\1<=q.n/\wI C i x dx a q cs H Q
theorem rF{n:Int}(h:1<=n):rwP [] n=[⟨0,n,false⟩]:=by
 rw[L8 (ls:=[]) (show wP []<n from (by show (0:Int)<n;omega))];show [(⟨0,n-0,false⟩:Pc)]=_;rw[sv]
theorem rG{C:W7->uH}{q:St7}{x dx a':uH}{H:Hp}(ok:q.ok)(hi:q.let3≠.shel)(n1:1<=q.n)(n2:q.n<=1200)(hx:H x=some (.ins (C q.let3) dx (fsF q.let3 a' (fsB q.let3 q.s))))(ha:H a'=some (.lst ((bgC q.let3 (Bv q.n) [⟨0,q.n,false⟩]).map V.int))):∃(q0:St7)(cs0:List Int),Fr7 q.n q.s q.let3 q0/\(cs0.length:Int)=q.n/\KS C x dx a' q0 cs0 H:=by
 have fl:=Ec (show 0<=q.n by omega);have f2:=(Nt n1).2;have oc:=Uf n1;cases q with
 | shel _ _=>exact absurd rfl hi
 | half N ps=>exact⟨_,_,.half ok.1 rfl,fl,hx,ha,fl,by omega,⟨ok.1,oc,λz hz=>by rw[υ.mp hz];exact⟨N,0,rfl,by simp [St7.n]⟩,NbF.one N⟩,f2⟩
 | row n ls=>exact⟨_,_,.row n1,fl,hx,ha,fl,by omega,⟨n1,(λl hl=>by cases hl),by show (0:Int)<=n;have n1:1<=n:=n1;omega⟩,by show Au (Bv n) (rwP [] n);rw[rF (show 1<=n from n1)];exact f2⟩
 | st i r n ps=>
   have h4:ok4 i:=ok.1;have hl:=S8 (BP [⟨0,n,false⟩]) (Bv n);have ha:H a'=some (.lst ((bgC i (Bv n) [⟨0,n,false⟩]).map V.int)):=ha;rw[z_ h4] at ha;have oc:Ak 0 [⟨0,n,false⟩] n:=oc;have fl:((Bv n).length:Int)=n:=fl;refine⟨_,_,.st h4,by rw[hl];exact fl,?_,ha,by rw[hl];exact fl,by have n2:n<=1200:=n2;omega,⟨h4,oc,aT _⟩,aQ (ds:=[]) (m:=0) rfl (by rw[fl];exact oc) (Au.nil _)⟩;cases i <;> first | exact hx | exact h4.elim
include T AD D_room_begin in
theorem Nw(F:Fun K "clear" "Keeper.clear" R3 f₀ fd₀)(M:∀i,(λi=>i≠W7.shel) i->wT K ((cF Ag Ah Ae Ai Y6 Y4 Aj) i) "clear" f₀):Bu P w K mg base (λi=>i≠W7.shel) (cF Ag Ah Ae Ai Y6 Y4 Aj) "clear" 7 ["self"] [] (Si (cF Ag Ah Ae Ai Y6 Y4 Aj)):=by
 refine Bu.made (A3 F Jv (λ_ A _ s H vs Q E hr h=>?_)) M (F.binds Jw) (wU T);obtain⟨i,hi,x,dx,a,q,cs,rfl,rfl,S,n1,qq⟩:=h;refine⟨_,PSs.nox (Af (Bd (BG D_room_begin Bz hr s_ (Aa (q_ AD hr (Aa (Bs CW (by rfl) T.n_len bq (Aa (BO s_ rfl) Ab)) Ab)) Ab)))),?_⟩;walk_at "D";have hx:=S.hx;have ha:=S.ha;have cl:=wU T q.let3;have na:=xk T q.let3;have hz:=S.hz;have hl:=S.hl;have fl:=Ec (show 0<=q.n by omega);obtain⟨f1,f2⟩:=Nt n1;walk_at "";rw[hl];refine⟨q.n,rfl,by omega,λz=>absurd z (by omega),λ_ p H1 np s1 hp=>?_⟩;have hx1:=s1 x _ hx;walk_at "";refine⟨q.s,x,p,dx,a,_,_,rfl,hx1,SqL.of hp,by omega,f1,BZ f1 f2,λa' H2 na2 k2 hx2 ha2=>?_⟩;obtain⟨q0,cs0,F0,l0,S0⟩:=rG S.ok hi n1 (by omega) hx2 ha2;walk_at "";exact qq q0 a' cs0 H2 F0 (s1.free na2) ((AE.of s1).trans k2) (by omega) S0
include T Av D_lay B7 in
theorem Ny(F:Fun K "clear" "Shelves.clear" R4 f₀ fd₀)(M:∀i,(λi=>i=W7.shel) i->wT K ((cF Ag Ah Ae Ai Y6 Y4 Aj) i) "clear" f₀):Bu P w K mg base (λi=>i=W7.shel) (cF Ag Ah Ae Ai Y6 Y4 Aj) "clear" 8 ["self"] [] (Si (cF Ag Ah Ae Ai Y6 Y4 Aj)):=by
 refine Bu.made (A3 F Jx (λ_ A _ s H vs Q E hr h=>?_)) M (F.binds Jy) (wU T);obtain⟨i,hi,x,dx,a,q3,cs,rfl,hq3,S,n1,qq⟩:=h;refine⟨_,PSs.nox (Af (Bd (BG D_lay Bz hr s_ (Aa (q_ B7 hr (Aa (Bs CW (by rfl) T.n_len bq (Aa (Dj Av Bz hr s_) Ab)) (Aa (BO s_ rfl) Ab))) Ab)))),?_⟩;walk_at "D";have hi:i=W7.shel:=hi;subst hi;cases q3 with
 | half _ _=>cases hq3
 | row _ _=>cases hq3
 | st i0 _ _ _=>
   have hi0:W7.shel=i0:=hq3;subst hi0;exact(show False from S.ok.1).elim
 | shel s fs=>
 have hx:H x=some (.ins ((cF Ag Ah Ae Ai Y6 Y4 Aj) W7.shel) dx (fsF W7.shel a s)):=S.hx;have hx0:H x=some (.ins Y4 dx [("room_cells",.ref a),("shelf",.int s)]):=S.hx;have ha:=S.ha;have hl:(cs.length:Int)=s*(fs.length:Int):=S.hl;have hz:=S.hz;obtain⟨hs,m1,ok⟩:=id S.ok;have cl:=T.JA;have na:=T.Mx;have nb:=T.Sa;have z1:s<=s*(fs.length:Int):=by
   have:=Ψ (show (1:Int)<=(fs.length:Int) by omega) (show 0<=s by omega);omega
 have em:(s*(fs.length:Int))%s=0:=fv _ _;rw[<-hl] at em;walk_at "";refine⟨s,x,dx,a,cs,rfl,hx,ha,λp H1 np s1 hp=>?_⟩;have hx1:=s1 x _ hx;have hx01:=s1 x _ hx0;have ha1:=s1 a _ ha;walk_at "";refine⟨(cs.length:Int),s,rfl,by omega,by omega,λh=>absurd h (by omega),λm' _ _ e p2 H2 np2 s2 hp2=>?_⟩;have emm:m'=fs.length:=by
   have:=gc (show s≠0 by omega) (e.symm.trans hl);omega
 subst emm;have e1:=MY hs fs.length;have hx2:=s2 x _ hx1;have ha2:=s2 a _ ha1;walk_at "";refine⟨s,x,p2,dx,a,cs,xu s fs.length,_,rfl,hx2,ha2,by omega,SqL.of hp2,by omega,gB hs _,fR hs _,λa' H4 na4 k4 hx4 ha4=>?_⟩;walk_at "";obtain⟨r1,r2,r3⟩:=gD hs fs.length;have s12:=s1.trans s2;exact qq (.shel s (ο fs.length ⟨0,[]⟩)) a' (xu s fs.length) H4 (.shel m1 hs rfl) (s12.free na4) ((AE.of s12).trans k4) (by omega) ⟨hx4,ha4,r1,by omega,⟨hs,by rw[ag];exact m1,r2⟩,r3⟩
include T in
theorem Nz(S:Src K mg "_law_cell_at" Rn):wO P w K mg base "_law_cell_at" 1 ["_law_script","_law_k"] (SV K):=by
 refine S.okx Iu Iv λf _ A _ s H vs Q E hr h=>⟨_,PSs.nox (Ad (Ay (As Ct r_ (Bs CW (by rfl) T.n_len bq (Aa s_ Ab))) (Af (Ao (Ar AY s_ r_))) Az) (Af (Ao Ac))),?_⟩;obtain⟨a,ns,k,rfl,hS,h0,q⟩:=h;walk_at "";refine AJ (λhc=>?_) (λhc=>?_)
 . walk_at "";exact q
 . walk_at "";have e:ns.getD k.toNat 0=0:=by
     rw[au,cn (by omega)];rfl
   rw[e] at q;exact q
include T in
theorem NA(S:Src K mg "_law_whole" Ro):wO P w K mg base "_law_whole" 1 ["_law_found"] (SW):=by
 refine S.okx Iw Ix λf _ A _ s H vs Q E hr h=>⟨_,PSs.nox (Af (Ao (Lu (Bs SH (by rfl) T.n_isinstance il (Aa s_ (Aa (Sn (v:=.ty "int") (by rfl) T.n_int tf rfl) Ab))) (Ku (ZH (Bs SH (by rfl) T.n_isinstance il (Aa s_ (Aa (Sn (v:=.ty "bool") (by rfl) T.n_bool sx rfl) Ab)))))))),?_⟩;obtain⟨n,rfl,q⟩:=h;walk_at "";exact q
abbrev wJ(K:δ)(r:uH)(cs:List Int)(ps:List Pc)(H:Hp)(Q:VK):Prop:=∀(p:uH)(us:List V)(H':Hp),H p=none->Same H H'->H' p=some (.lst us)->AH H' us ps->Q (.ref p) H'
def gP(K:δ):Sp:=λvs H Q _=>∃(r:uH)(cs:List Int)(ps:List Pc),vs=[.ref r,.int cs.length]/\H r=some (.lst (cs.map V.int))/\Ak 0 ps cs.length/\Au cs ps/\cs.length<=1200/\wJ K r cs ps H Q
def WkW(r p:uH)(n:Int)(ps:List Pc)(H:Hp)(m:Nat)(σ:L2.St)(H':Hp):Prop:=
 ∃(ds rs:List Pc)(us:List V)(k:Int)(x3 x4:Option V),σ=[some (.ref r),some (.int n),some (.ref p),some (.int k),x3,x4]/\m=(n-k).toNat/\ps=ds++rs/\Ak 0 ds k/\Ak k rs n/\Same H H'/\H' p=some (.lst us)/\AH H' us ds
variable (Cb:wO P w K mg base "_law_whole" 1 ["_law_found"] (SW))
include T Cb in
theorem NB(S:Src K mg "_law_walk" Rq):wO P w K mg base "_law_walk" 2 ["_law_cells","_law_size"] (gP K):=by
 refine S.okx KL IA λf _ A _ s H vs Q E hr h=>?_;obtain⟨r,cs,ps,rfl,hR,hc,mk,hz,q⟩:=h;refine⟨_,PSs.nox (Ad (Ay (PW.pt (Bn (Bo (Cy (Bs SH (by rfl) T.n_isinstance il (Aa s_ (Aa (Sn (v:=.ty "list") (by rfl) T.n_list cc rfl) Ab))))) (BR (As CU (Bs CW (by rfl) T.n_len bq (Aa s_ Ab)) r_)))) (Af (Ao CQ)) Az) (Ad (o_ 2 KL (DU Ab)) (Ad (o_ 3 KL Ac) (Ad (Lv bj (As Ct u_ r_) (Ad (Ay (Bo (Cy (q_ Cb hr (Aa (Ar AY s_ u_) Ab)))) (Af (Ao CQ)) Az) (Ad (o_ 4 KL (Am Ez (Ar AY s_ u_) Ac)) (Ad (o_ 5 KL (CV AN (Am A6 (Ar AY s_ u_) Ac) Ac)) (Ad (Ay (PW.pt (Bn (As Ct vw Ac) (Bn (As DT vw (Am Bk r_ u_)) (Bn (PW.pt (Bw (BV vx (λ_=>rfl)) (BQ (As Ct vw Ac)))) (BR (As CU (Ar AY s_ (Am Bk (Am AL u_ vw) Ac)) (Ar AY s_ u_))))))) (Af (Ao CQ)) Az) (Ad (Bd (LF ff fb fe Kw t_ (Aa (Cg (Aa u_ (Aa vw (Aa vx Ab)))) Ab))) (Af (o_ 3 KL (Am AL u_ vw))))))))) (Af (Ao t_)))))),?_⟩;walk_at "D";walk_at "";intro p hp;walk_at "";refine⟨WkW r p cs.length ps H,⟨_,[],ps,[],0,none,none,rfl,rfl,rfl,rfl,hc,Same.new hp,upd_same,AH.nil⟩,?_⟩;rintro m σ H1 ⟨ds,rs,us,k,x3,x4,rfl,rfl,eps,c1,c2,s1,hp1,pu⟩;have hul:=pu.1;have hS1:SqL K H1 r (cs.map V.int):=SqL.of (s1 r _ hR);have k0:=c1.le;walk_at "";refine AJ (λhlt=>?_) (λhlt=>?_)
 . refine⟨λσ' H''=>∃m',m'<((cs.length:Int)-k).toNat/\WkW r p cs.length ps H m' σ' H'',λσ' H'' hw=>hw,?_⟩;cases rs with
   | nil=>
     have:k=cs.length:=c2;omega
   | cons z r2=>
     obtain⟨ea,z1,z3,c3⟩:=c2;have hle:=c3.le;obtain⟨m1,m2⟩:=mk z (by rw[eps];simp);have g1:=G6 m1;have g2:=G6 m2;rw[ea] at g1 g2;have e1:cs.getD k.toNat 0=xg z.l z.v:=g1;have e2:cs.getD (k+z.l-1).toNat 0=xg z.l z.v:=g2;have fin:∀t,H1 t=none->(∃m',m'<((cs.length:Int)-k).toNat/\WkW r p cs.length ps H m' [some (.ref r),some (.int cs.length),some (.ref p),some (.int (k+z.l)),some (.int z.l),some (.bl z.v)] (upd (upd H1 t (.tup [.int k,.int z.l,.bl z.v])) p (.lst (us++[.ref t])))):=λt ht=>by
       obtain⟨g1,g2⟩:=AH.push (z:=z) pu hp1 ht;rw[ea] at g2;refine⟨_,?_,ds++[z],r2,_,k+z.l,_,_,rfl,rfl,by rw[eps];simp,?_,c3,(s1.put (s1.free ht)).put hp,upd_same,g2⟩
       . omega
       . have:=Ak.snoc (p:=z) (by rw[ea];exact c1) z1 z3
         rwa [ea] at this
     walk_at "1";walk_at "1";rw[e1,G5];walk_at "1";rw[e1,LG];walk_at "s";cases hv:z.v with
     | true=>
       rw[hv] at fin e1 e2;have z3:=z3 hv;walk_at "";intro t ht;walk_at "";exact fin t ht
     | false=>
       rw[hv] at fin e1 e2;walk_at "";intro t ht;walk_at "";exact fin t ht
 . have er:rs=[]:=by
     cases rs with
     | nil=>rfl
     | cons z r2=>
       have:=c2.le;rw[am] at this;omega
   rw[er,ae] at eps;subst eps;walk_at "";exact q p us H1 hp s1 hp1 pu
def gQ:Sp:=λvs H Q _=>∃(n:Int)(k:Nat),vs=[.int n]/\CF k n/\Q (.int (2^k)) H
def BkW(n:Int)(k:Nat)(H:Hp)(m:Nat)(σ:L2.St)(H':Hp):Prop:=H=H'/\∃j:Nat,j<=k/\m=k-j/\σ=[some (.int n),some (.int (2^j))]
include T in
theorem NC(S:Src K mg "_law_block" Rr):wO P w K mg base "_law_block" 1 ["_law_long"] (gQ):=by
 refine S.okx TZ IC λf _ A _ s H vs Q E hr h=>?_;obtain⟨n,k,rfl,hk,q⟩:=h;refine⟨_,PSs.nox (Ad (o_ 1 TZ Ac) (Ad (Lv bj (As Ct r_ s_) (Af (o_ 1 TZ (Am Dc r_ Ac)))) (Af (Ao r_)))),?_⟩;walk_at "D";walk_at "";refine⟨BkW n k H,⟨k,rfl,0,dz _,rfl,rfl⟩,?_⟩;rintro m σ H1 ⟨rfl,j,hj,rfl,rfl⟩;walk_at "";refine AJ (λhlt=>?_) (λhlt=>?_)
 . refine⟨λσ' H''=>∃m',m'<k-j/\BkW n k H m' σ' H'',λσ' H'' hw=>hw,?_⟩;have hjk:j≠k:=λe=>by rw[e] at hlt;have:=hk.1;omega
   walk_at "";exact⟨k-(j+1),by omega,rfl,j+1,by omega,rfl,by rw[ki]⟩
 . have hjk:j=k:=by
     rcases gj j k with g | g
     . exact absurd (hk.2 j g) hlt
     . omega
   subst hjk;walk_at "";exact q
def gR:Sp:=λvs H Q _=>∃(p:uH)(us:List V)(ps:List Pc),vs=[.ref p]/\H p=some (.lst us)/\AH H us ps/\(∀z∈ps,Al z)/\NbF ps/\(∀z∈ps,z.l<=400)/\∀H',Same H H'->Q (.bl true) H'
def HsW(f0:Option V)(H:Hp)(i:Nat)(σ:L2.St)(H':Hp):Prop:=Same H H'/\∃x1 x2 x3 x4:Option V,σ=[f0,x1,x2,x3,x4]
variable (Bc:wO P w K mg base "_law_block" 1 ["_law_long"] (gQ))
include T Bc in
theorem ND(S:Src K mg "_law_halves" Rs):wO P w K mg base "_law_halves" 2 ["_law_pieces"] (gR):=by
 refine S.okx KM ID λf _ A _ s H vs Q E hr h=>?_;obtain⟨p,us,ps,rfl,hp,pa,al,nb,h4,q⟩:=h;refine⟨_,PSs.nox (Ad (Db bj rfl (BU s_) (p_ 1 KM) (Ad (o_ 2 KM (Ar AG r_ Ac)) (Ad (o_ 3 KM (Ar AG r_ Ac)) (Ad (Ay (PW.pt (Bn (As CU (q_ Bc hr (Aa u_ Ab)) u_) (BR (As CU (Am A6 t_ u_) Ac)))) (Af (Ao AR)) Az) (Ad (o_ 4 KM (Am AL t_ u_)) (Ad (Ay (As AN (Am A6 (Am Ez t_ u_) Ac) Ac) (Af (o_ 4 KM (Am Bk t_ u_))) Az) (Af (Ay (PW.pt (Bw (Bo (BV (Ar AG r_ Ac) (λ_=>rfl))) (BQ (As (cG hr.units) (Cg (Aa vw (Aa u_ (Aa AR Ab)))) s_ rfl)))) (Af (Ao AR)) Az)))))))) (Af (Ao AR))),?_⟩;walk_at "D";walk_at "";refine⟨p,rfl,⟨_,SqL.of hp⟩,Ey (K:=K) (a:=p) (xs:=us) (HsW (some (.ref p)) H) ⟨Same.refl _,none,none,none,none,rfl⟩ (λi σ H2 _ ⟨s,_⟩=>SqL.of (s p _ hp)) ?_ ?_⟩
 . rintro i y σ H1 hi ⟨s1,x1,x2,x3,x4,rfl⟩;obtain⟨t,z,rfl,hzi,hT⟩:=LR (pa.same s1) hi;have hzm:=ε hzi;obtain⟨m,qq,em,ea⟩:=al z hzm;have p1:=pw1 m;have l4:=h4 z hzm;rw[em] at l4;have hl:CF m (2^m):=⟨aq _,λj hj=>by have:=Eb (show j+1<=m from hj);have:=pw1 j;have:=pw2 j;omega⟩
   have e1:(2:Int)^m*(qq:Int)%2^m=0:=fv _ _;have e2:(2:Int)^m*(qq:Int)/2^m=qq:=gq _ (by omega);have hb:(z.v=false->(⟨bud m qq,2^m,false⟩:Pc) ∉ ps):=λhv=>nb m qq (by rw[<-ea,<-em,<-hv];exact hzm);have eb:bud m qq=if qq%2=0 then 2^m*(qq:Int)+2^m else 2^m*(qq:Int)-2^m:=rfl
   rw[em,ea] at hT;generalize bud m qq=B at hb eb;generalize (2:Int)^m*(qq:Int)=A at hT e1 e2 eb;generalize hlo:(2:Int)^m=lo at hT e1 e2 eb hb p1 hl l4;walk_at "";refine⟨lo,m,rfl,hl,?_⟩;rw[hlo];walk_at "s";refine Cv (M:=λσ' H'=>H1=H'/\σ'=[some (.ref p),some (.ref t),some (.int A),some (.int lo),some (.int B)]) ?_ (λnx hM=>?_)
   . rintro σ' H' ⟨rfl,rfl⟩;walk_at "";cases hv:z.v with
     | true=>
       rw[hv] at hT;walk_at "";exact⟨s1,_,_,_,_,rfl⟩
     | false=>
       rw[hv] at hT;have hb:=hb hv;walk_at "";intro u hu;have s2:=Same.new (o:=.tup [.int B,.int lo,.bl false]) hu;have hu2:upd H1 u (.tup [.int B,.int lo,.bl false]) u=some (.tup [.int B,.int lo,.bl false]):=upd_same;generalize upd H1 u (.tup [.int B,.int lo,.bl false])=H2 at s2 hu2 ⊢;have s12:=s1.trans s2;walk_at "";refine⟨u,p,us,ps,⟨B,lo,false⟩,rfl,rfl,hu2,s12 p _ hp,pa.same s12,?_⟩;rw[gM,decide_eq_false hb];walk_at "";exact⟨s12,_,_,_,_,rfl⟩
   . walk_at "";rw[e2];refine AJ (λh=>?_) (λh=>?_)
     . walk_at "";exact hM _ _ ⟨rfl,by rw[eb,if_neg (by omega)]⟩
     . walk_at "";exact hM _ _ ⟨rfl,by rw[eb,if_pos (by omega)]⟩
 . rintro σ H1 ⟨s1,x1,x2,x3,x4,rfl⟩;walk_at "";exact q H1 s1
def plB:W7->Bool
 | .half=>true
 | .shel=>true
 | .row=>true
 | _=>false
theorem zK(i:W7):inV (.str (Bm i)) [.str "halves",.str "shelves",.str "row"]=plB i:=by cases i <;> decide
def gS:Sp:=λvs H Q _=>∃i:W7,vs=[.str (Bm i)]/\∀H',Same H H'->Q (.bl (plB i)) H'
include T in
theorem NE(S:Src K mg "_law_plain" Rp):wO P w K mg base "_law_plain" 1 ["_law_word"] (gS):=by
 refine S.okx Iy Iz λf _ A _ s H vs Q E hr h=>⟨_,PSs.nox (Af (Ao (CV jV s_ (Cg (Aa AM (Aa AM (Aa AM Ab)))) rfl))),?_⟩;obtain⟨i,rfl,q⟩:=h;walk_at "";intro t ht;walk_at "";refine⟨t,_,rfl,.inr (SqT.of upd_same),rfl,rfl,?_⟩;have e:=zK i;simp only [iw,if_false];rw[e];walk_at "";exact q _ (Same.new ht)
def Deed(C:W7->uH)(CB CN CG:uH)(k:W7)(x:uH)(w pl c b:Int)(H:Hp)(Q:VK)(E:XK):Prop:=
 (w=0/\JH C CB CN k [.ref x,.int c,.int b] H Q E)\/(w=1/\KY C CB CN CG k [.ref x,.int pl,.int c,.int b] H Q E)\/(w=2/\JO C CG k [.ref x,.int pl] H Q E)
theorem Deed.mono{C:W7->uH}{CB CN CG:uH}{k:W7}{x:uH}{w pl c b:Int}{H:Hp}{Q Q':VK}{E E':XK}(h:Deed C CB CN CG k x w pl c b H Q E)(hQ:∀v H1,Q v H1->Q' v H1)(hE:∀v o H1,E v o H1->E' v o H1):Deed C CB CN CG k x w pl c b H Q' E':=by
 rcases h with ⟨h0,x,dx,a,q,cs,c,b,h1,h2,h3,h4,h5,h6,h7,h8,h9⟩ | ⟨h0,x,dx,a,q,cs,z,c,b,h1,h2,h3,h4,h5,h6,h7,h8,h9,h10,h11,h12⟩ | ⟨h0,x,dx,a,q,cs,z,h1,h2,h3,h4,h5,h6,h7⟩
 . exact .inl ⟨h0,x,dx,a,q,cs,c,b,h1,h2,h3,h4,h5,h6,λg1 g2 H1 s=>hE _ _ _ (h7 g1 g2 H1 s),λg1 g2 H1 s=>hE _ _ _ (h8 g1 g2 H1 s),λg p q' a' cs' H1 g1 g2 g3 g4 g5=>hQ _ _ (h9 g p q' a' cs' H1 g1 g2 g3 g4 g5)⟩
 . exact .inr (.inl ⟨h0,x,dx,a,q,cs,z,c,b,h1,h2,h3,h4,h5,h6,h7,h8,λg H1 s=>hE _ _ _ (h9 g H1 s),λg1 g2 g3 H1 s=>hE _ _ _ (h10 g1 g2 g3 H1 s),λg1 g2 g3 g4 H1 s=>hE _ _ _ (h11 g1 g2 g3 g4 H1 s),λg g0 p q' a' cs' H1 g1 g2 g3 g4 g5 g6=>hQ _ _ (h12 g g0 p q' a' cs' H1 g1 g2 g3 g4 g5 g6)⟩)
 . exact .inr (.inr ⟨h0,x,dx,a,q,cs,z,h1,h2,h3,h4,h5,λg H1 s=>hE _ _ _ (h6 g H1 s),λq' a' cs' H1 g1 g2 g3 g4 g5=>hQ _ _ (h7 q' a' cs' H1 g1 g2 g3 g4 g5)⟩)
def gT(C:W7->uH)(CB CN CG:uH):Sp:=λvs H Q E=>∃(k:W7)(x dx a:uH)(r w pl c b:Int)(br:Bool),vs=[.ref x,.int w,.int pl,.int c,.int b,.bl br]/\H x=some (.ins (C k) dx (fsF k a r))/\(br=true->b=1)/\Deed C CB CN CG k x w pl c b H Q E
variable (D_grow:xr P w K mg base (cF Ag Ah Ae Ai Y6 Y4 Aj) "grow" 10 ["self","place","count","bound"] [.int 1] (KY (cF Ag Ah Ae Ai Y6 Y4 Aj) Y2 AT Y9))
include T D_ask D_give D_grow in
theorem NF(S:Src K mg "_law_done" Rz):wO P w K mg base "_law_done" 11 ["_law_keeper","_law_way","_law_place","_law_count","_law_bound","_law_brief"] (gT (cF Ag Ah Ae Ai Y6 Y4 Aj) Y2 AT Y9):=by
 refine S.okx II IJ λf _ A _ s H vs Q E hr h=>?_;obtain⟨k,x,dx,a,r,w,pl,c,b,br,rfl,hx,hb,D⟩:=h;refine⟨_,(Ad (Ay (As AN r_ Ac) (Af (Ao (BG D_give Bl hr s_ (Aa t_ Ab)))) Az) (Ad (Ay (PW.pt (Bw (As AN r_ Ac) (BQ (BV vx (λ_=>rfl))))) (Af (Ao (BG D_ask.less Bl hr s_ (Aa u_ Ab)))) Az) (Ad (Ay (As AN r_ Ac) (Af (Ao (BG D_ask.all Bl hr s_ (Aa u_ (Aa vw Ab))))) Az) (Ad (Ay (BV vx (λ_=>rfl)) (Af (Ao (BG D_grow.less Bl hr s_ (Aa t_ (Aa u_ Ab))))) Az) (Af (Ao (BG D_grow.all Bl hr s_ (Aa t_ (Aa u_ (Aa vw Ab)))))))))),?_⟩;walk_at "D";rcases D with ⟨rfl,D⟩ | ⟨rfl,D⟩ | ⟨rfl,D⟩
 . cases hbr:br with
   | true=>
     rw[hb hbr] at D;walk_at "";exact D
   | false=>
     walk_at "";exact D
 . cases hbr:br with
   | true=>
     rw[hb hbr] at D;walk_at "";exact D
   | false=>
     walk_at "";exact D
 . walk_at "";exact D
abbrev wK(C:W7->uH)(CB CN CG:uH)(k:W7)(x dx a:uH)(r w pl c b:Int)(br:Bool)(QV:VK)(F:Str->Hp->Prop)(H:Hp)(Q:VK):Prop:=(∀v H1,QV v H1->∀t,H1 t=none->Q (.ref t) (upd H1 t (.tup [.str "ok",v])))/\(∀w H1,F w H1->∀H2,Same H1 H2->∀t,H2 t=none->Q (.ref t) (upd H2 t (.tup [.str w,.non])))
def gU(C:W7->uH)(CB CN CG:uH):Sp:=λvs H Q _=>∃(k:W7)(x dx a:uH)(r w pl c b:Int)(br:Bool)(QV:VK)(F:Str->Hp->Prop),vs=[.ref x,.int w,.int pl,.int c,.int b,.bl br]/\H x=some (.ins (C k) dx (fsF k a r))/\(br=true->b=1)/\Deed C CB CN CG k x w pl c b H QV (λv o H1=>o=none/\((v = .ref CN/\F "narrow" H1)\/(v = .ref CB/\F "bound" H1)\/(v = .ref CG/\F "give" H1)))/\wK C CB CN CG k x dx a r w pl c b br QV F H Q
variable (DE:wO P w K mg base "_law_done" 11 ["_law_keeper","_law_way","_law_place","_law_count","_law_bound","_law_brief"] (gT (cF Ag Ah Ae Ai Y6 Y4 Aj) Y2 AT Y9))
include T DE in
theorem NG(S:Src K mg "_law_tried" RA):wO P w K mg base "_law_tried" 12 ["_law_keeper","_law_way","_law_place","_law_count","_law_bound","_law_brief"] (gU (cF Ag Ah Ae Ai Y6 Y4 Aj) Y2 AT Y9):=by
 refine S.okx IK IL λf _ A _ s H vs Q E hr h=>?_;obtain⟨k,x,dx,a,r,w,pl,c,b,br,QV,F,rfl,hx,hb,D,q1,q2⟩:=h;refine⟨_,PSs.nox (Ad (o_ 6 IK AM) (Ad (o_ 7 IK CQ) (Ad (kY (i:=7) IK.nd rfl (π rfl) (xV DE hr (by rfl) (Aa s_ (Aa r_ (Aa t_ (Aa u_ (Aa vw (Aa vx Ab))))))) ⟨rfl,rfl⟩ (SO (by rfl) T.pO (λx=>(Af (o_ 6 IK AM))) (SO (by rfl) T.pN (λx=>(Af (o_ 6 IK AM))) (SO (by rfl) T.pM (λx=>(Af (o_ 6 IK AM))) zn)))) (Af (Ao (Cg (Aa vz (Aa vy Ab)))))))),?_⟩;walk_at "D";walk_at "";refine⟨k,x,dx,a,r,w,pl,c,b,br,rfl,hx,hb,D.mono (λv H1 hv=>?_) (λv o H1 he=>?_)⟩
 . walk_at "";intro t ht;walk_at "";exact q1 v H1 hv t ht
 . obtain⟨rfl,⟨rfl,f⟩ | ⟨rfl,f⟩ | ⟨rfl,f⟩⟩:=he
   . refine⟨_,rfl,λy hy=>π ⟨T.qA,?_⟩⟩;walk_at "";intro t ht;walk_at "";exact q2 _ H1 f _ (Same.new hy) t ht
   . refine⟨_,rfl,λy hy=>ku ⟨T.qC,π ⟨T.qD,?_⟩⟩⟩;walk_at "";intro t ht;walk_at "";exact q2 _ H1 f _ (Same.new hy) t ht
   . refine⟨_,rfl,λy hy=>ku ⟨T.qF,ku ⟨T.qH,π ⟨T.qI,?_⟩⟩⟩⟩;walk_at "";intro t ht;walk_at "";exact q2 _ H1 f _ (Same.new hy) t ht
def TsAt(H:Hp)(us:List V)(xss:List (List V)):Prop:=us.length=xss.length/\∀(i:Nat)(xs:List V),xss[i]?=some xs->∃t,us[i]?=some (.ref t)/\H t=some (.tup xs)
def xy(xss yss:List (List V)):Bool:=decide (xss.length=yss.length)&&(ia xss.length).all λj=>xv (xss.getD j []) (yss.getD j [])
theorem gW{xss:List (List V)}(hf:∀xs∈xss,xs.all Ch=true):xy xss xss=true:=by
 unfold xy;rw[decide_eq_true rfl,oi,gw];intro j hj;have hj:j<xss.length:=kn.mp hj;exact LJ (hf _ (by rw[au,Ω hj];exact bp hj))
theorem gX{xss yss:List (List V)}(h:xss.length≠yss.length):xy xss yss=false:=by
 unfold xy;rw[decide_eq_false h,my]
theorem gY{X:Cx}(hu:X.A.units+64<vj):OpR X (vd .Eq) (λx y H Q=>∃a b us ws xss yss,x = .ref a/\y = .ref b/\H a=some (.lst us)/\H b=some (.lst ws)/\TsAt H us xss/\TsAt H ws yss/\(∀xs∈xss,xs.all Ch=true)/\(∀ys∈yss,ys.all Ch=true)/\Q (.bl (xy xss yss)) H):=by
 intro pins s σ H x y v u Q I rx ry h;obtain⟨a,b,us,ws,xss,yss,rfl,rfl,ha,hb,pu,pw,f1,f2,q⟩:=h;cases rx;cases ry;obtain⟨its,r1,p1,_⟩:=I.list (SqL.of ha);obtain⟨its2,r2,p2,_⟩:=I.list (SqL.of hb);have l1:=r1.length;have l2:=r2.length;have m1:=pu.1;have m2:=pw.1;have key:SeqAt.RcAt X.A s (.ref a) (.ref b) (xy xss yss):=by
   by_cases hlen:xss.length=yss.length
   . have:=uw (A:=X.A) (s:=s) (e:=λj=>xv (xss.getD j []) (yss.getD j [])) p1.isList p2.isList (by rw[Δ,Δ];omega) (by omega) λj h1 h2=>by
       rw[Δ] at h1 h2;have hj:j<xss.length:=by omega
       have hj2:j<yss.length:=by omega
       obtain⟨t1,e1,g1⟩:=pu.2 j xss[j] (by simp [hj]);obtain⟨t2,e2,g2⟩:=pw.2 j yss[j] (by simp [hj2]);obtain⟨u1,k1,q1⟩:=r1.get e1;obtain⟨u2,k2,q2⟩:=r2.get e2;cases q1;cases q2;obtain⟨_,k1⟩:=γ.mp k1;obtain⟨_,k2⟩:=γ.mp k2;have ex:xss.getD j []=xss[j]:=by simp [hj]
       have ey:yss.getD j []=yss[j]:=by simp [hj2]
       have z:SeqAt.EqAt X.A.in1 s (.ref t1) (.ref t2) (xv xss[j] yss[j]):=by
         by_cases e:t1=t2
         . subst e;rw[g1] at g2;rw[<-HO.tup.inj (χ g2),LJ (f1 _ (bp hj))];exact jx _
         . exact ky e (S9 (A:=X.A.in1) (by show X.A.units+1<vj;omega) I (SqT.of g1) (SqT.of g2) (f1 _ (bp hj)) (f2 _ (bp hj2)))
       rw[<-ex,<-ey,<-k1,<-k2] at z;simpa using z
     have e:xy xss yss=(ia its.toArray.size).all λj=>xv (xss.getD j []) (yss.getD j []):=by
       unfold xy;rw[decide_eq_true hlen,oi,Δ,<-l1,m1]
     rw[e];exact this
   . rw[gX hlen];exact rj p1.isList p2.isList (by rw[Δ,Δ];simp;omega) (by omega)
 exact key _ _ _ _ ⟨.bl _,H,I,rfl,q⟩
def pcV(z:Pc):List V:=[.int z.a,.int z.l,.bl z.v]
theorem Ug(ps:List Pc):∀xs∈ps.map pcV,xs.all Ch=true:=λxs h=>by
 obtain⟨z,_,rfl⟩:=aw.mp h;rfl
theorem AH.ts{H:Hp}{us:List V}(h:AH H us ps):TsAt H us (ps.map pcV):=⟨by rw[Ξ];exact h.1,λi xs hx=>by
 rw[cr] at hx;obtain⟨z,h1,rfl⟩:=dj.mp hx;exact h.2 i z h1⟩
theorem yl(hv:z.v=false)(h:∃y∈ps,y.v=true):xy (ps.map pcV) ([z].map pcV)=false:=by
 by_cases e:ps.length=1
 . match ps,e with
   | [y],_=>
     obtain⟨y',hy,hv'⟩:=h;rw[υ.mp hy] at hv';have:xy ([y].map pcV) ([z].map pcV)=(true&&(xv (pcV y) (pcV z)&&true)):=rfl;rw[this];have h2:xv (pcV y) (pcV z)=eqP y z:=cE y z;rw[h2];cases g:eqP y z with
     | false=>rfl
     | true=>
       rw[Hj.mp g,hv] at hv';cases hv'
 . exact gX (by rw[Ξ];exact e)
def prV(p:Int×Int):List V:=[.int p.1,.int p.2]
theorem Uh(qs:List (Int×Int)):∀xs∈qs.map prV,xs.all Ch=true:=λxs h=>by
 obtain⟨z,_,rfl⟩:=aw.mp h;rfl
theorem TsAt.snoc{H H':Hp}{us:List V}{xss:List (List V)}{t:uH}{xs:List V}(h:TsAt H us xss)(k:∀b ws,H b=some (.tup ws)->H' b=some (.tup ws))(ht:H' t=some (.tup xs)):TsAt H' (us++[.ref t]) (xss++[xs]):=by
 refine⟨by rw[ι,ι,h.1];rfl,λj q' hq=>?_⟩;rcases gh j xss.length with g | g | g
 . rw[ξ g] at hq;obtain⟨t',h1,h2⟩:=h.2 j q' hq;exact⟨t',by rw[ξ (by rw[h.1];exact g)];exact h1,k _ _ h2⟩
 . subst g;rw[η (ψ _),di] at hq;have e:xs=q':=χ hq;subst e;exact⟨t,by rw[η (by rw[h.1];exact ψ _),h.1,di];rfl,ht⟩
 . rw[cn (by rw[ι,Θ];omega)] at hq;cases hq
theorem TsAt.same{H H':Hp}{us:List V}{xss:List (List V)}(h:TsAt H us xss)(s:Same H H'):TsAt H' us xss:=⟨h.1,λi xs hx=>let ⟨t,h1,h2⟩:=h.2 i xs hx;⟨t,h1,s t _ h2⟩⟩
theorem xR{s A:Int}{f:Sf}(h1:1<=s)(w:SfW s f)(h:z∈shP s A f)(hv:z.v=false):(f.n=0/\z=⟨A,s,false⟩)\/(3<=f.n/\((∃i:Nat,f.b[i]?=some false/\z=⟨A+f.n*(i:Int),f.n,false⟩)\/(z.l=s-f.n*(f.b.length:Int)/\z.l<f.n))):=by
 rcases w with ⟨e1,e2⟩ | ⟨h3,h4,h5,h6⟩
 . obtain⟨n,b⟩:=f;have e1:n=0:=e1;have e2:b=[]:=e2;subst e1 e2;rw[GB h1] at h;exact .inl ⟨rfl,υ.mp h⟩
 . refine .inr ⟨h3,?_⟩;unfold shP at h;rcases θ.mp h with g | g
   . obtain⟨i,h7,h8⟩:=TF g;rw[hv] at h7 h8;exact .inl ⟨i,h7,h8⟩
   . have:=(L3 g).2.1;exact .inr ⟨by omega,by omega⟩
theorem rH{s:Int}{fs:List Sf}{j:Nat}{f:Sf}(h1:1<=s)(w:∀f∈fs,SfW s f)(h:fs[j]?=some f):(alP s 0 fs).filter (λz=>decide (s*(j:Int)<=z.a/\z.a<s*(j:Int)+s))=shP s (s*(j:Int)) f:=by
 obtain⟨ds,rs,e,c1,c2⟩:=Hk h1 w h;rw[<-Hl h,e f,ci,ci];have n1:ds.filter (λz=>decide (s*(j:Int)<=z.a/\z.a<s*(j:Int)+s))=[]:=ig.mpr λz hz=>by
   obtain⟨_,z1,_,z4⟩:=c1.mem z hz;simp;omega
 have n2:rs.filter (λz=>decide (s*(j:Int)<=z.a/\z.a<s*(j:Int)+s))=[]:=ig.mpr λz hz=>by
   obtain⟨z0,_,_,_⟩:=c2.mem z hz;simp;omega
 have n3:(shP s (s*(j:Int)) f).filter (λz=>decide (s*(j:Int)<=z.a/\z.a<s*(j:Int)+s))=shP s (s*(j:Int)) f:=oa.mpr λz hz=>by
   obtain⟨z0,z1,_,z4⟩:=(KF (A:=s*(j:Int)) h1 (w f (ε h))).mem z hz;exact decide_eq_true ⟨z0,by omega⟩
 rw[n1,n2,n3,bz,ae]
def xD(A n:Int)(m:Nat):List (Int×Int):=(ia m).map λi:Nat=>(A+n*(i:Int),n)
theorem rJ(A n:Int)(m:Nat):xD A n (m+1)=xD A n m++[(A+n*(m:Int),n)]:=by
 unfold xD;rw[qt,af];rfl
theorem rK(n:Int)(b:List Bool):∀A:Int,(slP n A b).map (λz=>(z.a,z.l))=xD A n b.length:=by
 induction b with
 | nil=>intro A;rfl
 | cons v r ih=>
   intro A;show (A,n)::(slP n (A+n) r).map (λz=>(z.a,z.l))=_;rw[ih (A+n)];unfold xD;rw[am,List.range_succ_eq_map,av,List.map_map]
   congr 1
   . simp
   . refine ke λi _=>?_;show (A+n+n*(i:Int),n)=(A+n*((i+1:Nat):Int),n);rw[Cw]
     congr 1
     omega
theorem rL{s A:Int}{f:Sf}(w:SfW s f)(h0:f.n≠0):3<=f.n/\s/f.n=(f.b.length:Int)/\s%f.n=s-f.n*(f.b.length:Int)/\(shP s A f).map (λz=>(z.a,z.l))=xD A f.n f.b.length++(if 0<s%f.n then [(A+s-s%f.n,s%f.n)] else []):=by
 rcases w with ⟨e1,_⟩ | ⟨h3,h4,h5,h6⟩
 . exact absurd e1 h0
 have q1:s/f.n=(f.b.length:Int):=by
   have:s=(s-f.n*(f.b.length:Int))+f.n*(f.b.length:Int):=by omega
   rw[this,gb _ _ (by omega),fk (by omega) (by omega)];omega
 have q2:s%f.n=s-f.n*(f.b.length:Int):=by rw[Int.emod_def,q1]
 refine⟨h3,q1,q2,?_⟩;unfold shP;rw[af,rK,q2]
 congr 1
 unfold fr;by_cases e:A+f.n*(f.b.length:Int)=A+s
 . rw[if_pos e,if_neg (by omega)];rfl
 . rw[if_neg e,if_pos (by omega)];show [(A+f.n*(f.b.length:Int),A+s-(A+f.n*(f.b.length:Int)))]=_;rw[show A+s-(A+f.n*(f.b.length:Int))=s-f.n*(f.b.length:Int) by omega,show A+f.n*(f.b.length:Int)=A+s-(s-f.n*(f.b.length:Int)) by omega]
def DuW(H1:Hp)(A n:Int)(D:uH)(i:Nat)(ys:List V)(H2:Hp):Prop:=Same H1 H2/\H2 D=some (.lst ys)/\H1 D=none/\TsAt H2 ys ((xD A n i).map prV)/\ys.length<=i
def PqW(H1:Hp)(ps:List Pc)(D:uH)(i:Nat)(ys:List V)(H2:Hp):Prop:=Same H1 H2/\H2 D=some (.lst ys)/\H1 D=none/\TsAt H2 ys (((ps.take i).map λz=>(z.a,z.l)).map prV)/\ys.length<=i
theorem xQ{s A:Int}{f:Sf}(w:SfW s f)(h0:f.n≠0)(h:f.n*(f.b.length:Int)<s):shP s A f=slP f.n A f.b++[⟨A+f.n*(f.b.length:Int),A+s-(A+f.n*(f.b.length:Int)),false⟩]:=by
 unfold shP fr;rw[if_neg (by omega)]
def FvW(H1:Hp)(ps:List Pc)(D:uH)(i:Nat)(ys:List V)(H2:Hp):Prop:=Same H1 H2/\H2 D=some (.lst ys)/\H1 D=none/\ys.length=((ps.take i).filter λz=>z.v).length/\ys.length<=i
def yQ:Sp:=λvs H Q _=>∃(l:uH)(us:List V)(s A:Int)(f:Sf),vs=[.ref l,.int A,.int s]/\H l=some (.lst us)/\AH H us (shP s A f)/\1<=s/\s<=1200/\0<=A/\A<=1200/\us.length<=1200/\xh s f/\∀H',Same H H'->Q (.bl true) H'
include T in
theorem NH(S:Src K mg "_law_one_shelf" Rt):wO P w K mg base "_law_one_shelf" 1 ["_law_pieces","_law_start","_law_shelf"] (yQ):=by
 refine S.okx Ru IE λf _ A _ s H vs Q E hr h=>?_;obtain⟨l,us,s,A,f,rfl,hl,pa,hs,hs2,hA0,hA2,hu2,ok,q⟩:=h;refine⟨_,PSs.nox (Ad (Aw (i:=3) Ru.nd rfl (ku rfl) (Ar AG (Ar AY s_ Ac) Ac)) (Ad (Ay (As (gY hr.units) s_ (DU (Aa (Cg (Aa r_ (Aa t_ (Aa AR Ab)))) Ab))) (Af (Ao AR)) Az) (Ad (o_ 4 Ru (Am Ez t_ u_)) (Ad (Ay (As AN (Bs CW (by rfl) T.n_len bq (Aa (Ti ["_law_piece"] rfl (BU s_) (λcl C s₀ H₀ ex=>(AF (i:=0) (show ((["_law_piece"]:List Str)++([]:List Str)).Nodup by decide +kernel) rfl (π rfl))) (λcl C s₀ H₀ ex=>(EG (LQ (K:=K) rfl (Ar (Hg (K:=K) rfl) s_ Ac) (λ_=>rfl)))) (λcl C s₀ H₀ ex=>s_) ) Ab)) Ac) (Af (Ao AR)) Az) (Ad (Kz (i:=5) ["_law_k"] ["_law_size","_law_start"] [3,1] Ru.nd rfl (π rfl) rfl (So (by rfl) T.n_range (Aa vw Ab)) (λcl C s₀ H₀ ex=>(AF (i:=0) (show ((["_law_k"]:List Str)++(["_law_size","_law_start"]:List Str)).Nodup by decide +kernel) rfl (π rfl))) (λcl C s₀ H₀ ex=>Kx) (λcl C s₀ H₀ ex=>(Cg (Aa (Am AL t_ (Am Dc s_ r_)) (Aa r_ Ab)))) (Tg rfl rfl rfl rfl rfl rfl) (Th (n:="_law_size") (m:="_law_start") (by decide +kernel) rfl rfl) (λy h=>DQ (by decide +kernel) h)) (Ad (Ay (As DT t_ (Am Dc vw u_)) (Ad (Bd (LF ff fb fe Kw vx (Aa (Cg (Aa (Am AL r_ (Am Dc vw u_)) (Aa (Am Bk t_ (Am Dc vw u_)) Ab))) Ab))) (Af (Ay (BV (Ar AG (Ar AY s_ (Gp Gq Ac)) Ac) (λ_=>rfl)) (Af (Ao AR)) Az))) Az) (Af (Ao (CV (gY hr.units) (Ti ["_law_piece"] rfl (BU s_) (λcl C s₀ H₀ ex=>(AF (i:=0) (show ((["_law_piece"]:List Str)++([]:List Str)).Nodup by decide +kernel) rfl (π rfl))) (λcl C s₀ H₀ ex=>Kx) (λcl C s₀ H₀ ex=>(Cg (Aa (Ar (Hg (K:=K) rfl) s_ Ac) (Aa (Ar (Hg (K:=K) rfl) s_ Ac) Ab)))) ) vx))))))))),?_⟩;walk_at "D";have hul:=pa.1;obtain⟨v0,r0,e0⟩:=L5 (A:=A) hs ok.1;obtain⟨t0,et0,ht0⟩:=pa.2 0 ⟨A,flS s f,v0⟩ (by rw[e0];rfl);have ht0:H t0=some (.tup [.int A,.int (flS s f),.bl v0]):=ht0;walk_at "";refine DN (SqL.of hl) (show atI us ((0:Nat):Int)=some (.ref t0) from Kv et0) ?_;walk_at "";intro t nt;have s1:Same H (upd H t (.tup [.int A,.int s,.bl false])):=Same.new nt;have ht1:upd H t (.tup [.int A,.int s,.bl false]) t=some (.tup [.int A,.int s,.bl false]):=upd_same;generalize upd H t (.tup [.int A,.int s,.bl false])=H1 at s1 ht1 ⊢;walk_at "";intro p np;have s2:Same H1 (upd H1 p (.lst [.ref t])):=Same.new np;have hp2:upd H1 p (.lst [.ref t]) p=some (.lst [.ref t]):=upd_same;generalize upd H1 p (.lst [.ref t])=H2 at s2 hp2 ⊢;have s02:=s1.trans s2;have pt:AH H2 [.ref t] [⟨A,s,false⟩]:=AH.nil.snoc (p:=⟨A,s,false⟩) (s2 t _ ht1);refine⟨l,p,us,[.ref t],_,_,rfl,rfl,s02 l _ hl,hp2,(pa.same s02).ts,pt.ts,Ug _,Ug _,?_⟩;by_cases h0:f.n=0
 . have eb:f=⟨0,[]⟩:=by
     obtain⟨n,b⟩:=f;rcases ok.1 with ⟨e1,e2⟩ | ⟨h3,_⟩
     . have e1:n=0:=e1;have e2:b=[]:=e2;rw[e1,e2]
     . omega
   rw[eb,GB hs,gW (Ug _)];walk_at "";exact q H2 s02
 obtain⟨n3,q1,q2,hpr⟩:=rL (A:=A) ok.1 h0;obtain⟨i0,hi0⟩:=ai (ok.2 h0);have hlv:(⟨A+f.n*(i0:Int),f.n,true⟩:Pc)∈shP s A f:=dD (b:=f.b) hi0;rw[yl rfl ⟨_,hlv,rfl⟩];have efl:flS s f=f.n:=by unfold flS;rw[if_neg h0]
 rw[efl];have hbl:f.n<=s/\f.n*(f.b.length:Int)<=s/\(f.b.length:Int)<=s:=by
   rcases ok.1 with ⟨e1,_⟩ | ⟨_,_,h5,_⟩
   . exact absurd e1 h0
   . have:=gy (show (1:Int)<=f.n by omega) (show (0:Int)<=(f.b.length:Int) by omega);omega
 obtain⟨hb1,hb2,hb3⟩:=hbl;have hl2:=s02 l _ hl;have pa2:=pa.same s02;clear s1 ht1 nt np hp2 pt s2;walk_at "";rw[q1];refine⟨l,rfl,⟨_,SqL.of hl2⟩,Dh (K:=K) (a:=l) (xs:=us) (fs:=[]) (FvW H2 (shP s A f)) (λD hD=>⟨Same.new hD,upd_same,hD,rfl,ψ _⟩) (λD i ys H2 _ h=>SqL.of (h.1 l _ hl2)) ?_ ?_⟩
 . rintro D2 i y ys H4 hD hi ⟨s4,hD4,_,ey,hyl⟩ τ hτ;have hil:i<us.length:=(γ.mp hi).1;obtain⟨z,hzi⟩:∃z,(shP s A f)[i]?=some z:=⟨_,Ω (by omega)⟩
   obtain⟨t1,et,hT⟩:=pa2.2 i z hzi;have ey2:y = .ref t1:=χ (hi.symm.trans et);subst ey2;have hT4:=s4 t1 _ hT;have ef:=take_succ_filter (λz:Pc=>z.v) (shP s A f) i z hzi
   obtain⟨τ0,rfl⟩:=d_ hτ
   walk_at "";refine⟨⟨[_],rfl,rfl⟩,?_⟩;walk_at "";refine CC (λhv=>?_) (λhv=>?_)
   . walk_at "";rw[if_pos hv] at ef;exact⟨hD4,small4000 (by omega),Bp hil ⟨s4.put hD,upd_same,hD,by rw[ef,ι,ι,ey];rfl,by rw[ι,Θ];omega⟩⟩
   . walk_at "";rw[if_neg (by rw[hv];exact ν),ae] at ef;exact Bp hil ⟨s4,hD4,hD,by rw[ef];exact ey,by omega⟩
 rintro D1 ys1 H4 hD1 ⟨s4,hD14,_,ey,hyl⟩;rw[ar (by omega)] at ey;have hpos:0<ys1.length:=by
   rw[ey];exact jj (cf.mpr ⟨hlv,rfl⟩)
 have s04:=s02.trans s4;have hl4:=s04 l _ hl;have pa4:=pa.same s04;walk_at "";refine⟨_,rfl,by omega,by omega,mT (fs:=[some (.int f.n),some (.int A)]) (DuW H4 A f.n) (λD hD=>⟨Same.new hD,upd_same,hD,⟨rfl,λi xs h=>by simp [xD] at h⟩,ψ _⟩) ?_ ?_⟩
 . rintro D2 i ys H5 hD hi ⟨s5,hD5,_,pt5,hyl⟩ τ hτ;rw[dm]
   obtain⟨τ0,rfl⟩:=d_ hτ
   walk_at "";refine⟨⟨[_],rfl,rfl⟩,?_⟩;walk_at "";intro t2 nt2;have hne2:t2≠D2:=λw=>by rw[w,hD5] at nt2;cases nt2
   refine⟨look_put nt2 hD5,small4000 (by omega),Bp hi ⟨(s5.put (s5.free nt2)).put hD,upd_same,hD,?_,by rw[ι,Θ];omega⟩⟩;rw[rJ,af,jk (i:Int) f.n];exact pt5.snoc (λb xs e=>look_ne (λw=>by rw[w,hD5] at e;cases e) (look_ne (λw=>by rw[w,nt2] at e;cases e) e)) (look_ne hne2 upd_same)
 rintro D5 ys H5 hD5 ⟨s5,hD55,_,pt5,hyl⟩;rw[show ((f.b.length:Int)).toNat=f.b.length from jg _] at pt5 hyl;have s05:=s04.trans s5;have hl5:=s05 l _ hl;have pa5:=pa.same s05;have hlD:l≠D5:=λw=>by rw[<-w,hl4] at hD5;cases hD5
 walk_at "s";refine Cv (M:=λσ' H'=>∃ys6,Same H H'/\H' D5=some (.lst ys6)/\TsAt H' ys6 (((shP s A f).map λz=>(z.a,z.l)).map prV)/\ys6.length<=1300/\σ'=[some (.ref l),some (.int A),some (.int s),some (.int f.n),some (.int f.b.length),some (.ref D5)]) ?_ (λnx hM=>?_)
 . rintro σ' H6 ⟨ys6,s6,hD6,pt6,hy6,rfl⟩;have hl6:=s6 l _ hl;have pa6:=pa.same s6;walk_at "";refine⟨l,rfl,⟨_,SqL.of hl6⟩,Dh (K:=K) (a:=l) (xs:=us) (fs:=[]) (PqW H6 (shP s A f)) (λD hD=>⟨Same.new hD,upd_same,hD,⟨rfl,λi xs h=>by simp at h⟩,ψ _⟩) (λD i ys H2 _ h=>SqL.of (h.1 l _ hl6)) ?_ ?_⟩
   . rintro D2 i y ys H7 hD hi ⟨s7,hD7,_,pt7,hyl⟩ τ hτ;have hil:i<us.length:=(γ.mp hi).1;obtain⟨z,hzi⟩:∃z,(shP s A f)[i]?=some z:=⟨_,Ω (by omega)⟩
     obtain⟨t1,et,hT⟩:=pa6.2 i z hzi;have ey2:y = .ref t1:=χ (hi.symm.trans et);subst ey2;have hT7:=s7 t1 _ hT
     obtain⟨τ0,rfl⟩:=d_ hτ
     walk_at "";refine⟨⟨[_],rfl,rfl⟩,?_⟩;walk_at "";intro t2 nt2;have hne2:t2≠D2:=λw=>by rw[w,hD7] at nt2;cases nt2
     refine⟨look_put nt2 hD7,small4000 (by omega),Bp hil ⟨(s7.put (s7.free nt2)).put hD,upd_same,hD,?_,by rw[ι,Θ];omega⟩⟩;rw[ck,hzi,af,af];exact pt7.snoc (λb xs e=>look_ne (λw=>by rw[w,hD7] at e;cases e) (look_ne (λw=>by rw[w,nt2] at e;cases e) e)) (look_ne hne2 upd_same)
   rintro D7 ys7 H7 hD7 ⟨s7,hD77,_,pt7,hyl7⟩;rw[ar (by omega)] at pt7;walk_at "";refine⟨D7,D5,ys7,ys6,_,_,rfl,rfl,hD77,s7 D5 _ hD6,pt7,pt6.same s7,Uh _,Uh _,?_⟩;rw[gW (Uh _)];exact q H7 (s6.trans s7)
 . rw[hpr] at hM;have nD5:H D5=none:=s04.free hD5;walk_at "";refine AJ (λhlt=>?_) (λhlt=>?_)
   . rw[jk] at hlt;rw[if_pos (show 0<s%f.n by omega)] at hM;walk_at "";intro t6 nt6;rw[jk (f.b.length:Int) f.n];have htD:t6≠D5:=λw=>by rw[w,hD55] at nt6;cases nt6
     have er:A+f.n*(f.b.length:Int)=A+s-s%f.n:=by omega
     have er2:s-f.n*(f.b.length:Int)=s%f.n:=by omega
     rw[er,er2];have s6:Same H5 (upd H5 t6 (.tup [.int (A+s-s%f.n),.int (s%f.n)])):=Same.new nt6;have ht6:upd H5 t6 (.tup [.int (A+s-s%f.n),.int (s%f.n)]) t6=some (.tup [.int (A+s-s%f.n),.int (s%f.n)]):=upd_same;generalize upd H5 t6 (.tup [.int (A+s-s%f.n),.int (s%f.n)])=H6 at s6 ht6 ⊢;have hD6:=s6 D5 _ hD55;walk_at "";have s7:Same H (upd H6 D5 (.lst (ys++[.ref t6]))):=(s05.trans s6).put nD5;have hD7:upd H6 D5 (.lst (ys++[.ref t6])) D5=some (.lst (ys++[.ref t6])):=upd_same;have pt7:TsAt (upd H6 D5 (.lst (ys++[.ref t6]))) (ys++[.ref t6]) ((xD A f.n f.b.length).map prV++[prV (A+s-s%f.n,s%f.n)]):=(pt5.same s6).snoc (λb xs e=>look_ne (λw=>by rw[w,hD6] at e;cases e) e) (look_ne htD ht6);generalize upd H6 D5 (.lst (ys++[.ref t6]))=H7 at s7 hD7 pt7 ⊢;have pa7:=pa.same s7;have hl7:=s7 l _ hl;rw[xQ ok.1 h0 hlt] at pa7;obtain⟨ui,tl,eu,_,htl⟩:=pa7.unsnoc;have htl:H7 tl=some (.tup [.int (A+f.n*(f.b.length:Int)),.int (A+s-(A+f.n*(f.b.length:Int))),.bl false]):=htl;rw[eu] at hl7;refine G8 (SqL.of hl7) ?_;walk_at "";exact hM _ _ ⟨_,s7,hD7,by rw[af];exact pt7,by rw[ι,Θ];omega,rfl⟩
   . rw[jk] at hlt;rw[if_neg (show ¬0<s%f.n by omega),ae] at hM;walk_at "";exact hM _ _ ⟨ys,s05,hD55,pt5,by omega,rfl⟩
theorem Da{j:W7}(h:Bm i=Bm j):i=j:=by cases i <;> cases j <;> first | rfl | exact absurd h (by decide)
theorem rM{H:Hp}{us:List V}{t:uH}(h:AH H us ps)(ht:H t=some (.tup [.int z.a,.int z.l,.bl z.v])):AH H (us++[.ref t]) (ps++[z]):=by
 have hl:=h.1;refine⟨by rw[ι,ι,hl];rfl,λi p hp=>?_⟩;by_cases e:i<ps.length
 . rw[ξ e] at hp;obtain⟨t',h1,h2⟩:=h.2 i p hp;exact⟨t',by rw[ξ (by omega)];exact h1,h2⟩
 . have hi:i=ps.length:=by
     have:=(γ.mp hp).1;rw[ι,Θ] at this;omega
   subst hi;rw[η (ψ _),di] at hp;have ep:=χ hp;subst ep;exact⟨t,by rw[η (by omega),hl,di];rfl,ht⟩
theorem rN{s:Int}{m:Nat}(h:1<=s):(ak 0 (s*(m:Int)) s).toNat=m:=by
 unfold ak;rw[if_pos (by omega)];cases m with
 | zero=>simp
 | succ m=>
   rw[Cw];have h0:=fw (show 0<=s by omega) (show (0:Int)<=(m:Int) by omega);rw[if_pos (by omega),show s*(m:Int)+s-0-1=(s-1)+s*(m:Int) by omega,gb _ _ (by omega),fk (by omega) (by omega)];omega
def FlW(H1:Hp)(ps:List Pc)(B s:Int)(D:uH)(i:Nat)(ys:List V)(H2:Hp):Prop:=Same H1 H2/\H2 D=some (.lst ys)/\H1 D=none/\AH H2 ys ((ps.take i).filter λz=>decide (B<=z.a/\z.a<B+s))/\ys.length<=i
theorem yj{B s:Int}{i:Nat}(h:ps[i]?=some z):(ps.take (i+1)).filter (λz=>decide (B<=z.a/\z.a<B+s))=(ps.take i).filter (λz=>decide (B<=z.a/\z.a<B+s))++(if B<=z.a/\z.a<B+s then [z] else []):=by
 rw[ck,h,ci]
 congr 1
 simp only [ix,bx,jz];by_cases e:B<=z.a/\z.a<B+s
 . rw[if_pos e,if_pos (decide_eq_true e)]
 . rw[if_neg e,if_neg (by simpa using e)]
def ShW(f0 f1:Option V)(H:Hp)(i:Nat)(σ:L2.St)(H':Hp):Prop:=Same H H'/\∃x2 x3:Option V,σ=[f0,f1,x2,x3,none]
def SkW(f0 f1:Option V)(H:Hp)(i:Nat)(σ:L2.St)(H':Hp):Prop:=H=H'/\∃x4:Option V,σ=[f0,f1,none,none,x4]
theorem zd{ls:List Int}{n:Int}{k:Nat}{y:Pc}(hy:(rwP ls n)[k]?=some y)(hz:(rwP ls n)[k+1]?=some z):y.v=true:=by
 unfold rwP at hy hz;by_cases h:k<(xp 0 ls).length
 . rw[ξ h] at hy;have all:∀(ls:List Int)(a:Int),∀w∈xp a ls,w.v=true:=λls=>by
     induction ls with
     | nil=>exact λa w hw=>by cases hw
     | cons l r ih=>
       intro a w hw;rcases Φ.mp hw with e | e
       . rw[e]
       . exact ih _ w e
   exact all ls 0 y (ε hy)
 . rw[η (by omega)] at hz;have:(fr (wP ls) n).length<=1:=by unfold fr;split <;> simp
   rw[cn (by omega)] at hz;cases hz
theorem rO{q:St7}(ok:q.ok)(h1:q.let3≠.half)(h2:q.let3≠.shel):∀(k:Nat)(y z:Pc),q.ps[k]?=some y->q.ps[k+1]?=some z->y.v=true\/(q.let3≠.row/\z.v=true):=by
 cases q with
 | half _ _=>exact absurd rfl h1
 | shel _ _=>exact absurd rfl h2
 | row n ls=>exact λk y z hy hz=>.inl (zd hy hz)
 | st i r n ps=>exact λk y z hy hz=>(ok.2.2 k y z hy hz).imp id λh=>⟨ok4.row ok.1,h⟩
def gZ:Sp:=λvs H Q _=>∃(p rm:uH)(us:List V)(q:St7)(sh:Int),vs=[.ref p,.ref rm]/\H p=some (.lst us)/\AH H us q.ps/\H rm=some (.tup [.str (Bm q.let3),.int q.n,.int sh])/\(q.let3 = .shel->sh=q.s)/\q.ok/\q.n<=400/\∀H',Same H H'->Q (.bl true) H'
variable (DF:wO P w K mg base "_law_halves" 2 ["_law_pieces"] (gR))
variable (DG:wO P w K mg base "_law_one_shelf" 1 ["_law_pieces","_law_start","_law_shelf"] (yQ))
include T DF DG in
theorem NI(S:Src K mg "_law_shaped" Rv):wO P w K mg base "_law_shaped" 3 ["_law_pieces","_law_room"] (gZ):=by
 refine S.okx Rw IF λf _ A _ s H vs Q E hr h=>?_;obtain⟨p,rm,us,q,sh,rfl,hp,pa,hrm,hsh,ok,n4,qq⟩:=h;refine⟨_,PSs.nox (Ad (Ay (As AN (Ar AG r_ Ac) AM) (Af (Ao (q_ DF hr (Aa s_ Ab)))) Az) (Ad (Ay (As AN (Ar AG r_ Ac) AM) (Ad (Db bj rfl (bR (by rfl) T.n_range (Aa Ac (Aa (Ar AG r_ Ac) (Aa (Ar AG r_ Ac) Ab)))) (AF (i:=2) Rw.nd rfl (ku rfl)) (Ad (Kz (i:=3) ["_law_piece"] ["_law_start","_law_room"] [2,1] Rw.nd rfl (π rfl) rfl (BU s_) (λcl C s₀ H₀ ex=>(AF (i:=0) (show ((["_law_piece"]:List Str)++(["_law_start","_law_room"]:List Str)).Nodup by decide +kernel) rfl (π rfl))) (λcl C s₀ H₀ ex=>(EG (PW.pt (Bw (As Lx r_ (Ar (Hg (K:=K) rfl) s_ Ac)) (BQ (As Ct (Ar (Hg (K:=K) rfl) s_ Ac) (Am AL r_ (Ar (Hg (K:=K) rfl) t_ Ac)))))))) (λcl C s₀ H₀ ex=>s_) (Tg rfl rfl rfl rfl rfl rfl) (Th (n:="_law_start") (m:="_law_room") (by decide +kernel) rfl rfl) (λy h=>DQ (by decide +kernel) h)) (Af (Ay (PW.pt (Bn (Bo (BV u_ (λ_=>rfl))) (BR (Bo (Cy (q_ DG hr (Aa u_ (Aa t_ (Aa (Ar AG r_ Ac) Ab))))))))) (Af (Ao AR)) Az)))) (Af (Ao AR))) Az) (Ad (Db bj rfl (iS (by rfl) T.n_range (Aa Ac (Aa (Bs CW (by rfl) T.n_len bq (Aa s_ Ab)) Ab))) (p_ 4 Rw) (Af (Ay (PW.pt (Bw (Bo (BV (Ar AG (Ar AY s_ (Am Bk vw Ac)) Ac) (λ_=>rfl))) (BQ (PW.pt (Bn (As AN (Ar AG r_ Ac) AM) (BR (Bo (BV (Ar AG (Ar AY s_ vw) Ac) (λ_=>rfl))))))))) (Af (Ao AR)) Az))) (Af (Ao AR))))),?_⟩;walk_at "D";have ch:=St7.ch ok;have hle:=ch.le;have hul:=pa.1;by_cases hk:q.let3≠.half/\q.let3≠.shel
 . have nl:=rO ok hk.1 hk.2;walk_at "";refine AJ (λh=>absurd (Da (j:=.half) h) hk.1) (λ_=>?_);walk_at "";refine AJ (λh=>absurd (Da (j:=.shel) h) hk.2) (λ_=>?_);walk_at "";refine⟨⟨by omega,by omega,by omega,by omega⟩,Sq (SkW (some (.ref p)) (some (.ref rm)) H) ⟨rfl,none,rfl⟩ ?_ ?_⟩
   . rintro k σ H1 hk1 ⟨rfl,x4,rfl⟩;rw[show (1:Int)+(k:Int)=((k+1:Nat):Int) by omega];obtain⟨z,hzi⟩:∃z,q.ps[k+1]?=some z:=⟨_,Ω (by omega)⟩
     obtain⟨y,hyi⟩:∃y,q.ps[k]?=some y:=⟨_,Ω (by omega)⟩
     obtain⟨tz,ez,hTz⟩:=pa.2 (k+1) z hzi;obtain⟨ty,ey,hTy⟩:=pa.2 k y hyi;have az:atI us ((k+1:Nat):Int)=some (.ref tz):=Kv ez;have ay:atI us (((k+1:Nat):Int)-1)=some (.ref ty):=by rw[show ((k+1:Nat):Int)-1=(k:Int) by omega];exact Kv ey
     walk_at "";refine DN (SqL.of hp) ay ?_;walk_at "";cases hv:y.v with
     | true=>
       rw[hv] at hTy;walk_at "";exact⟨rfl,_,rfl⟩
     | false=>
       obtain⟨nr,hzv⟩:=(nl k y z hyi hzi).resolve_left (by rw[hv];exact ν);rw[hv] at hTy;rw[hzv] at hTz;walk_at "";refine AJ (λh=>absurd (Da (j:=.row) h) nr) (λ_=>?_);walk_at "";refine DN (SqL.of hp) az ?_;walk_at "";exact⟨rfl,_,rfl⟩
   . rintro σ H1 ⟨rfl,x4,rfl⟩;walk_at "";exact qq H (Same.refl _)
 cases q with
 | row _ _=>exact absurd ⟨λe=>(by cases e),λe=>by cases e⟩ hk
 | st i _ _ _=>exact absurd ⟨λe=>by rw[show i = .half from e] at ok;exact ok.1.elim,λe=>by rw[show i = .shel from e] at ok;exact ok.1.elim⟩ hk
 | half N ps=>
   have hrm:H rm=some (.tup [.str "halves",.int (2^N),.int sh]):=hrm;have pa:AH H us ps:=pa;have n4:(2:Int)^N<=400:=n4;walk_at "";refine⟨p,us,ps,rfl,hp,pa,ok.2.2.1,ok.2.2.2,λz hz=>?_,λH1 s1=>?_⟩
   . have:=ok.2.1.mem z hz;omega
   . walk_at "";exact qq H1 s1
 | shel s fs=>
   obtain⟨hs,hf1,okS⟩:=ok;have es:sh=s:=hsh rfl;subst es;have hrm:H rm=some (.tup [.str "shelves",.int (sh*(fs.length:Int)),.int sh]):=hrm;have n4:sh*(fs.length:Int)<=400:=n4;have W:∀f∈fs,SfW sh f:=λf hf=>(okS f hf).1;have hss:sh<=sh*(fs.length:Int):=by
     have:=Ψ (show (1:Int)<=(fs.length:Int) by omega) (show 0<=sh by omega);omega
   have pa:AH H us (alP sh 0 fs):=pa;have hle:0+((alP sh 0 fs).length:Int)<=sh*(fs.length:Int):=hle;have hul:us.length=(alP sh 0 fs).length:=hul;generalize eps:alP sh 0 fs=ps at pa hle hul;walk_at "";refine zh ?_;walk_at "";refine⟨0,sh*(fs.length:Int),sh,rfl,⟨by omega,by omega,by omega,by omega,by omega,by omega⟩,?_⟩;rw[rN hs];refine bT (ShW (some (.ref p)) (some (.ref rm)) H) ⟨Same.refl _,none,none,rfl⟩ ?_ ?_
   . rintro i σ H3 hi ⟨s3,x2,x3,rfl⟩;obtain⟨f,hf⟩:∃f,fs[i]?=some f:=⟨_,Ω hi⟩
     have hp3:=s3 p _ hp;have pa3:=pa.same s3;have hrm3:=s3 rm _ hrm;have eat:0+(i:Int)*sh=sh*(i:Int):=by rw[dm,jk]
     have hi1:sh*(i:Int)+sh<=sh*(fs.length:Int):=by
       have:=Ψ (show ((i+1:Nat):Int)<=(fs.length:Int) by omega) (show 0<=sh by omega);rw[Cw] at this;omega
     have hi0:0<=sh*(i:Int):=fw (by omega) (by omega);have efl:=rH hs W hf;obtain⟨v0,r0,e0⟩:=L5 (A:=sh*(i:Int)) hs (W f (ε hf));rw[eps] at efl;rw[eat];generalize sh*(i:Int)=B at hi1 hi0 efl e0 ⊢;walk_at "";refine⟨p,rfl,⟨_,SqL.of hp3⟩,Dh (K:=K) (a:=p) (xs:=us) (fs:=[some (.int B),some (.ref rm)]) (FlW H3 ps B sh) (λD hD=>⟨Same.new hD,upd_same,hD,AH.nil,ψ _⟩) (λD i ys H2 _ h=>SqL.of (h.1 p _ hp3)) ?_ ?_⟩
     . rintro D2 i2 y ys H4 hD hi2 ⟨s4,hD4,_,pr,hyl⟩ τ hτ;have hil:i2<us.length:=(γ.mp hi2).1;obtain⟨z,hzi⟩:∃z,ps[i2]?=some z:=⟨_,Ω (by omega)⟩
       obtain⟨t,et,hT⟩:=pa3.2 i2 z hzi;have ey2:y = .ref t:=χ (hi2.symm.trans et);subst ey2;have hT4:=s4 t _ hT;have hrm4:=s4 rm _ hrm3;have ef:=yj (B:=B) (s:=sh) hzi
       obtain⟨τ0,rfl⟩:=d_ hτ
       walk_at "";refine⟨⟨[_],rfl,rfl⟩,?_⟩;by_cases hb:B<=z.a
       . by_cases hb2:z.a<B+sh
         . rw[if_pos ⟨hb,hb2⟩] at ef;walk_at "";refine⟨hD4,small4000 (by omega),Bp hil ⟨s4.put hD,upd_same,hD,?_,by rw[ι,Θ];omega⟩⟩;rw[ef];exact rM (pr.mono (DO (.inr ⟨_,hD4⟩))) (look_ne (λw=>by rw[w,hD4] at hT4;cases hT4) hT4)
         . rw[if_neg (λh=>hb2 h.2),ae] at ef;walk_at "";exact Bp hil ⟨s4,hD4,hD,by rw[ef];exact pr,by omega⟩
       . rw[if_neg (λh=>hb h.1),ae] at ef;walk_at "";exact Bp hil ⟨s4,hD4,hD,by rw[ef];exact pr,by omega⟩
     rintro D ys H4 hD ⟨s4,hD4,_,pr,hyl⟩;rw[ar (by omega),efl] at pr;have hne:ys.isEmpty=false:=by
       have:=pr.1;rw[e0] at this;cases ys with
       | nil=>cases this
       | cons _ _=>rfl
     have hrm4:=s4 rm _ hrm3;walk_at "";rw[hne];walk_at "";refine⟨D,ys,sh,B,f,rfl,hD4,pr,hs,by omega,hi0,by omega,by omega,okS f (ε hf),λH5 s5=>?_⟩;walk_at "";exact⟨(s3.trans s4).trans s5,_,_,rfl⟩
   . rintro σ H3 ⟨s3,x2,x3,rfl⟩;walk_at "";exact qq H3 s3
def stE(pl:Bool)(ps:List Pc)(iz:Nat)(z:Pc)(j:Nat):Int:=if j<=iz then z.a else if j=iz+1\/pl=true then z.a+z.l else wQ ps iz z
theorem Ui{n:Int}{i j:Nat}{y:Pc}(c:Ak 0 ps n)(hz:ps[i]?=some z)(hy:ps[j]?=some y)(h:i<j):z.a+z.l<=y.a:=by
 obtain⟨ds,rs,e1,e2,c1,c2⟩:=CD c hz;subst e1 e2;rw[η (by omega)] at hy;obtain⟨k,ek⟩:∃k,j-ds.length=k+1:=⟨j-ds.length-1,by omega⟩
 rw[ek,lv] at hy;exact(c2.mem y (ε hy)).1
theorem rP{pl:Bool}{iz j:Nat}{y:Pc}{n:Int}(c:Ak 0 ps n)(hz:ps[iz]?=some z)(hy:ps[j]?=some y)(nj:pl=false->AK ps):
   (y.a=z.a/\stE pl ps iz z (j+1)=y.a+y.l)\/(y.a≠z.a/\y.a=stE pl ps iz z j/\z.a+1<=stE pl ps iz z j/\y.v=false/\pl=false/\stE pl ps iz z (j+1)=y.a+y.l) \/
   (y.a≠z.a/\stE pl ps iz z (j+1)=stE pl ps iz z j/\(y.a≠stE pl ps iz z j\/stE pl ps iz z j<z.a+1\/y.v=true\/pl=true)):=by
 obtain⟨_,z1,_,_⟩:=c.mem z (ε hz);obtain⟨_,y1,_,_⟩:=c.mem y (ε hy);unfold stE;rcases gh j iz with h | h | h
 . have:=Ui c hy hz h;rw[if_pos (show j<=iz by omega),if_pos (show j+1<=iz by omega)];exact .inr (.inr ⟨by omega,rfl,.inl (by omega)⟩)
 . subst h;have e:y=z:=χ (hy.symm.trans hz);subst e;rw[if_neg (by omega),if_pos (.inl rfl)];exact .inl ⟨rfl,rfl⟩
 . have hb:=Ui c hz hy h;rw[if_neg (show ¬j<=iz by omega),if_neg (show ¬j+1<=iz by omega)];by_cases h1:j=iz+1
   . subst h1;have ea:=DW c hz hy;have ef:wQ ps iz z=if y.v=true then z.a+z.l else y.a+y.l:=by unfold wQ;rw[hy]
     rw[if_pos (show iz+1=iz+1\/pl=true from .inl rfl)];cases hp:pl with
     | true=>
       rw[if_pos (.inr rfl)];exact .inr (.inr ⟨by omega,rfl,.inr (.inr (.inr rfl))⟩)
     | false=>
       rw[if_neg (by simp),ef];cases hv:y.v with
       | true=>exact .inr (.inr ⟨by omega,by rw[if_pos rfl],.inr (.inr (.inl rfl))⟩)
       | false=>exact .inr (.inl ⟨by omega,ea,by omega,rfl,rfl,by rw[if_neg ν]⟩)
   . have hjl:=(γ.mp hy).1;obtain⟨w,hw⟩:∃w,ps[iz+1]?=some w:=⟨_,Ω (by omega)⟩
     have wa:=DW c hz hw;have wb:=Ui c hw hy (by omega);obtain⟨_,w1,_,_⟩:=c.mem w (ε hw);cases hp:pl with
     | true=>
       rw[if_pos (.inr rfl),if_pos (.inr rfl)];exact .inr (.inr ⟨by omega,rfl,.inl (by omega)⟩)
     | false=>
       rw[if_neg (by simp;omega),if_neg (by simp;omega)];have ef:wQ ps iz z=if w.v=true then z.a+z.l else w.a+w.l:=by unfold wQ;rw[hw]
       refine .inr (.inr ⟨by omega,rfl,?_⟩);rw[ef];cases hv:w.v with
       | true=>exact .inl (by rw[if_pos rfl];omega)
       | false=>
         rw[if_neg ν];by_cases e:y.a=w.a+w.l
         . obtain⟨v,hvv⟩:∃v,ps[iz+1+1]?=some v:=⟨_,Ω (by omega)⟩
           have va:=DW c hw hvv;have ey:=Cj c (ε hy) (ε hvv) (by omega);rw[ey];exact .inr (.inr (.inl ((nj hp (iz+1) w v hw hvv).resolve_left (by rw[hv];exact ν))))
         . exact .inl e
def hI:Sp:=λvs H Q _=>∃(p rm:uH)(us:List V)(ps:List Pc)(i:W7)(iz:Nat)(z:Pc)(n m sh c b:Int),vs=[.ref p,.ref rm,.int (z.a+1),.int (c+2),.int b]/\H p=some (.lst us)/\AH H us ps/\H rm=some (.tup [.str (Bm i),.int n,.int sh])/\Ak 0 ps m/\ps[iz]?=some z/\(plB i=false->AK ps)/\1<=b/\¬((z.a+1)%b=0/\z.a+(c+2)<=if plB i=true then z.a+z.l else wQ ps iz z)/\∀H',Same H H'->Q (.bl false) H'
def StW(f0 f1 f2 f3 f4:Option V)(pl:Bool)(ps:List Pc)(iz:Nat)(z:Pc)(H:Hp)(j:Nat)(σ:L2.St)(H':Hp):Prop:=Same H H'/\∃x6 x7:Option V,σ=[f0,f1,f2,f3,f4,some (.int (stE pl ps iz z j)),x6,x7]
variable (BH:wO P w K mg base "_law_plain" 1 ["_law_word"] (gS))
include T BH in
theorem NJ(S:Src K mg "_law_stays" Ry):wO P w K mg base "_law_stays" 2 ["_law_pieces","_law_room","_law_place","_law_long","_law_bound"] (hI):=by
 refine S.okx Mf IH λf _ A _ s H vs Q E hr h=>?_;obtain⟨p,rm,us,ps,i,iz,z,n,m,sh,c,b,rfl,hp,pa,hrm,ch,hz,nj,hb,hno,q⟩:=h;refine⟨_,PSs.nox (Ad (o_ 5 Mf (Am Bk t_ Ac)) (Ad (Db bj rfl (BU s_) (p_ 6 Mf) (Ad (o_ 7 Mf (CV AN (Ar AG vz Ac) (Am Bk t_ Ac))) (Af (Ay (PW.pt (Bn (BV vy (λ_=>rfl)) (BR (PW.pt (Bw (As AN (Ar AG vz Ac) vx) (Bw (As Gr vx t_) (Bw (Bo (BV (Ar AG vz Ac) (λ_=>rfl))) (BQ (Bo (Cy (q_ BH hr (Aa (Ar AG r_ Ac) Ab)))))))))))) (Af (o_ 5 Mf (Am AL (Ar AG vz Ac) (Ar AG vz Ac)))) Az)))) (Af (Ao (Lu (CV AN (Am A6 t_ vw) Ac) (Ku (CV Lx (Am AL (Am Bk t_ Ac) u_) vx))))))),?_⟩;walk_at "D";have hul:=pa.1;have hzl:iz<ps.length:=(γ.mp hz).1;have e0:stE (plB i) ps iz z 0=z.a:=by unfold stE;rw[if_pos (dz _)]
 walk_at "";refine⟨p,rfl,⟨_,SqL.of hp⟩,Ey (K:=K) (a:=p) (xs:=us) (StW (some (.ref p)) (some (.ref rm)) (some (.int (z.a+1))) (some (.int (c+2))) (some (.int b)) (plB i) ps iz z H) ⟨Same.refl _,none,none,by rw[e0,ca];rfl⟩ (λi σ H2 _ ⟨s,_⟩=>SqL.of (s p _ hp)) ?_ ?_⟩
 . rintro j y σ H1 hi ⟨s1,x6,x7,rfl⟩;obtain⟨t,y,rfl,hyi,hT⟩:=LR (pa.same s1) hi;have hrm1:=s1 rm _ hrm;have st:=rP ch hz hyi nj;generalize stE (plB i) ps iz z j=e at st;walk_at "s";rw[ca];rcases st with ⟨ha,es⟩ | ⟨ha,he,h1,hv,hpl,es⟩ | ⟨ha,es,hn⟩
   . rw[decide_eq_true ha];walk_at "";exact⟨s1,_,_,by rw[es]⟩
   . rw[decide_eq_false ha];rw[hv] at hT;walk_at "";refine⟨i,rfl,λH2 s2=>?_⟩;rw[hpl] at es ⊢;have hT2:=s2 t _ hT;walk_at "";exact⟨s1.trans s2,_,_,by rw[es]⟩
   . rw[decide_eq_false ha];by_cases h1:y.a=e
     . by_cases h2:z.a+1<=e
       . walk_at "";cases hv:y.v with
         | true=>
           rw[hv] at hT;walk_at "";exact⟨s1,_,_,by rw[es]⟩
         | false=>
           rw[hv] at hT;have hpl:plB i=true:=by
             rcases hn with g | g | g | g
             . exact absurd h1 g
             . omega
             . rw[hv] at g;cases g
             . exact g
           walk_at "";refine⟨i,rfl,λH2 s2=>?_⟩;rw[hpl] at es ⊢;walk_at "";exact⟨s1.trans s2,_,_,by rw[es]⟩
       . walk_at "";exact⟨s1,_,_,by rw[es]⟩
     . walk_at "";exact⟨s1,_,_,by rw[es]⟩
 . rintro σ H1 ⟨s1,x6,x7,rfl⟩;have el:stE (plB i) ps iz z us.length=if plB i=true then z.a+z.l else wQ ps iz z:=by
     unfold stE;rw[if_neg (by omega)];cases hpl:plB i with
     | true=>rw[if_pos (.inr rfl),if_pos rfl]
     | false=>
       rw[if_neg ν];by_cases e:us.length=iz+1
       . rw[if_pos (.inl e)];unfold wQ;rw[cn (by omega)]
       . rw[if_neg (by simp;omega)]
   rw[el];generalize (if plB i=true then z.a+z.l else wQ ps iz z)=e at hno;walk_at "";refine AJ (λh1=>?_) (λh1=>?_)
   . walk_at "";rw[decide_eq_false (by omega)];exact q H1 s1
   . walk_at "";exact q H1 s1
theorem al_on{s:Int}{fs:List Sf}{y:Pc}(h1:1<=s)(W:∀f∈fs,SfW s f)(hy:y∈alP s 0 fs):∃(j:Nat)(f:Sf),fs[j]?=some f/\y∈shP s (s*(j:Int)) f/\y.a/s=(j:Int)/\(y.a%s=0->y.l=flS s f):=by
 obtain⟨j,f,hj,hm⟩:=yA hy;have c:=KF (A:=s*(j:Int)) h1 (W f (ε hj));obtain⟨a1,a2,_,a4⟩:=c.mem y hm;have ed:y.a=(y.a-s*(j:Int))+s*(j:Int):=by omega
 have e1:y.a/s=(j:Int):=by
   rw[ed,gb _ _ (by omega),fk (by omega) (by omega),dm]
 refine⟨j,f,hj,hm,e1,λh0=>?_⟩;have h2:=cq y.a s;rw[e1,h0,ji] at h2;obtain⟨v,r,e⟩:=L5 (A:=s*(j:Int)) h1 (W f (ε hj));have hm2:(⟨s*(j:Int),flS s f,v⟩:Pc)∈shP s (s*(j:Int)) f:=by rw[e];exact ω
 exact congrArg Pc.l (Cj c hm hm2 h2.symm)
theorem rQ{s k A:Int}{fs:List Sf}{f:Sf}(h1:1<=s)(k3:3<=k)(o:∀f∈fs,xh s f)(g:L_ s k fs)(hf:f∈fs)(hz:z∈shP s A f)(hv:z.v=false)(hk:k<=s):z.l≠s/\¬(z.l=k/\flS s f=k):=by
 have ok:=o f hf;have h0:f.n≠0:=(g.2.resolve_left (by omega)) f hf;have htr:=ok.2 h0;have efl:flS s f=f.n:=by unfold flS;rw[if_neg h0]
 have hlen:0<f.b.length:=jj htr;rw[efl];rcases xR h1 ok.1 hz hv with ⟨e,_⟩ | ⟨n3,⟨i,hi,ez⟩ | ⟨e1,e2⟩⟩
 . exact absurd e h0
 . have hfl:false∈f.b:=ε hi;have el:z.l=f.n:=by rw[ez]
   refine⟨λe=>?_,λ⟨_,e⟩=>g.1 f hf ⟨e,hfl⟩⟩;rcases ok.1 with ⟨e0,_⟩ | ⟨_,_,h5,_⟩
   . exact h0 e0
   . have h2:2<=f.b.length:=by
       rcases gj f.b.length 2 with w | w
       . match f.b,hlen,w,htr,hfl with
         | [x],_,_,h6,h7=>
           rw[<-υ.mp h6] at h7;exact absurd (υ.mp h7) ν
       . exact w
     have:=Ψ (show (2:Int)<=(f.b.length:Int) by omega) (show 0<=f.n by omega);omega
 . refine⟨λe=>?_,λ⟨e3,e4⟩=>by omega⟩;have:=Ψ (show (1:Int)<=(f.b.length:Int) by omega) (show 0<=f.n by omega);omega
theorem hU{σ:L2.St}{H:Hp}{Q:VK}{td ty:TE}(h:td σ H λx H1=>∃a,x = .ref a/\IsD H1 a/\ty σ H1 λy H2=>∃o,DGet H2 a y o/\Q (o.getD .non) H2):bB td ty σ H Q:=h
def NfW(f0 f1 f2 f3:Option V)(fd:uH)(S:Prop)(s:Int)(ps:List Pc)(H:Hp)(i:Nat)(σ:L2.St)(H':Hp):Prop:=
 Same H H'/\∃(kvs:List (Key×V)) (x5:Option V),σ=[f0,f1,f2,f3,some (.ref fd),x5,none,none]/\H' fd=some (.dK kvs)/\kvs.length<=i/\∀(j:Nat)(y:Pc),j<i->ps[j]?=some y->S->y.a%s=0->wW kvs (.inl (y.a/s))=some (.int y.l)
def NgW(f0 f1 f2 f3:Option V)(fd:uH)(H:Hp)(i:Nat)(σ:L2.St)(H':Hp):Prop:=Same H H'/\∃x5 x6 x7:Option V,σ=[f0,f1,f2,f3,some (.ref fd),x5,x6,x7]
theorem zL(h1:i≠.half)(h2:i≠.shel):inV (.str (Bm i)) [.str "halves",.str "shelves"]=false:=by cases i <;> first | exact absurd rfl h1 | exact absurd rfl h2 | decide
def hV:Sp:=λvs H Q _=>∃(p rm:uH)(us:List V)(q:St7)(sh c b:Int),vs=[.ref p,.ref rm,.int (c+2),.int b]/\H p=some (.lst us)/\AH H us q.ps/\H rm=some (.tup [.str (Bm q.let3),.int q.n,.int sh])/\(q.let3 = .shel->sh=q.s)/\q.ok/\q.n<=400/\1<=sh/\sh<=400/\1<=c/\1<=b/\(ok3 q.let3->b=1)/\No7 c b q/\∀H',Same H H'->Q (.bl true) H'
theorem yb{q:St7}{c b:Int}(ok:q.ok)(c1:1<=c)(hb:1<=b)(b3:ok3 q.let3->b=1)(hn:No7 c b q)(hz:z∈q.ps)(hv:z.v=false):
   (q.let3 = .half->∀B,CF B (c+2)->z.l<2^B)/\(q.let3 = .shel->c+2<=q.s->z.l≠q.s/\∃y∈q.ps,y.a%q.s=0/\y.a/q.s=z.a/q.s/\¬(z.l=c+2/\y.l=c+2))/\(q.let3≠.half->q.let3≠.shel->z.a+z.l<z.a+(b-1-z.a%b)+(c+2)):=by
 cases q with
 | half N ps=>exact⟨λ_ B hB=>hn B hB z hz hv,(λe=>by cases e),λe=>absurd rfl e⟩
 | shel s fs=>
   refine⟨(λe=>by cases e),λ_ hk=>?_,λ_ e=>absurd rfl e⟩;obtain⟨h1,_,o⟩:=ok;have W:∀f∈fs,SfW s f:=λf hf=>(o f hf).1;obtain⟨j,f,hj,hm,e1,_⟩:=al_on h1 W hz;have hf:=ε hj;obtain⟨n1,n2⟩:=rQ h1 (show 3<=c+2 by omega) o hn hf hm hv hk;obtain⟨v,r,e⟩:=L5 (A:=s*(j:Int)) h1 (W f hf);have hm2:(⟨s*(j:Int),flS s f,v⟩:Pc)∈shP s (s*(j:Int)) f:=by rw[e];exact ω
   exact⟨n1,_,dB h1 W hj hm2,fv _ _,(gq _ (show s≠0 by omega)).trans e1.symm,n2⟩
 | row n ls=>
   refine⟨(λe=>by cases e),(λe=>by cases e),λ_ _=>?_⟩;have eb:b=1:=b3 trivial;subst eb;have hn:n<wP ls+(c+2):=hn;have hz:z∈rwP ls n:=hz;rcases θ.mp hz with w | w
   . have all:∀(ls:List Int)(a:Int),∀w∈xp a ls,w.v=true:=λls=>by
       induction ls with
       | nil=>exact λa w hw=>by cases hw
       | cons l r ih=>
         intro a w hw;rcases Φ.mp hw with e | e
         . rw[e]
         . exact ih _ w e
     rw[all ls 0 z w] at hv;cases hv
   . unfold fr at w
     split at w
     . cases w
     . rw[υ.mp w];show wP ls+(n-wP ls)<wP ls+(1-1-wP ls%1)+(c+2);omega
 | st i r n ps=>
   refine⟨λe=>?_,λe=>?_,λ_ _=>?_⟩
   . have e:i = .half:=e;rw[e] at ok;exact ok.1.elim
   . have e:i = .shel:=e;rw[e] at ok;exact ok.1.elim
   . have h:=hn z hz hv;unfold fp fpl at h
     split at h
     . cases h
     . omega
include T Bc in
theorem NK(S:Src K mg "_law_narrow" Rx):wO P w K mg base "_law_narrow" 2 ["_law_pieces","_law_room","_law_long","_law_bound"] (hV):=by
 refine S.okx KN IG λf _ A _ s H vs Q E hr h=>?_;obtain⟨p,rm,us,q,sh,c,b,rfl,hp,pa,hrm,hsh,ok,n4,s1',s4',c1,hb,b3,hn,qq⟩:=h;refine⟨_,PSs.nox (Ad (o_ 4 KN aZ) (Ad (Db bj rfl (BU s_) (p_ 5 KN) (Af (Ay (PW.pt (Bw (As AN (Ar AG r_ Ac) AM) (BQ (As AN (Am A6 (Ar AG vx Ac) (Ar AG r_ Ac)) Ac)))) (Af (aX (EI hr.units) vw (Am Ez (Ar AG vx Ac) (Ar AG r_ Ac)) (Ar AG vx Ac) rfl)) Az))) (Ad (Db bj rfl (BU s_) (p_ 5 KN) (Af (Ay (Bo (BV (Ar AG vx Ac) (λ_=>rfl))) (Ad (o_ 6 KN (Am AL (Ar AG vx Ac) (Am A6 (Am Bk (Am Bk Ac (Ar AG vx Ac)) Ac) u_))) (Ad (Ay (PW.pt (Bw (As AN (Ar AG r_ Ac) AM) (BQ (As Gr (Ar AG vx Ac) (q_ Bc hr (Aa t_ Ab)))))) (Af (Ao AR)) Az) (Ad (Ay (PW.pt (Bw (As AN (Ar AG r_ Ac) AM) (BQ (As Lx t_ (Ar AG r_ Ac))))) (Ad (o_ 7 KN (bD (EI hr.units) vw (Am Ez (Ar AG vx Ac) (Ar AG r_ Ac)) ⟨rfl,rfl,rfl,rfl⟩)) (Af (Ay (PW.pt (Bn (As AN (Ar AG vx Ac) (Ar AG r_ Ac)) (BR (PW.pt (Bw (As AN (Ar AG vx Ac) t_) (BQ (As AN vy t_))))))) (Af (Ao AR)) Az))) Az) (Af (Ay (PW.pt (Bw (As jW (Ar AG r_ Ac) (Cg (Aa AM (Aa AM Ab))) rfl) (BQ (As Lx (Am AL vz t_) (Am AL (Ar AG vx Ac) (Ar AG vx Ac)))))) (Af (Ao AR)) Az))))) Az))) (Af (Ao AR))))),?_⟩;walk_at "D";have ch:=St7.ch ok;have hle:=ch.le;have hul:=pa.1;walk_at "";intro fd nfd;have hpd:p≠fd:=BF hp nfd;have hrd:rm≠fd:=BF hrm nfd;walk_at "";refine⟨p,rfl,⟨_,SqL.of (look_put nfd hp)⟩,Ey (K:=K) (a:=p) (xs:=us) (NfW (some (.ref p)) (some (.ref rm)) (some (.int (c+2))) (some (.int b)) fd (q.let3 = .shel) sh q.ps H) ⟨Same.new nfd,[],none,rfl,upd_same,ψ _,λj y hj=>absurd hj (fg _)⟩ (λi σ H2 _ ⟨s,_⟩=>SqL.of (s p _ hp)) ?_ ?_⟩
 . rintro i y σ H1 hi ⟨s1,kvs,x5,rfl,hfd,hkl,hkv⟩;have hil:i<us.length:=(γ.mp hi).1;obtain⟨t,y,rfl,hyi,hT⟩:=LR (pa.same s1) hi;have hrm1:=s1 rm _ hrm;have old:∀(j:Nat)(w:Pc),j<i+1->¬(q.let3 = .shel/\y.a%sh=0)->q.ps[j]?=some w->q.let3 = .shel->w.a%sh=0->wW kvs (.inl (w.a/sh))=some (.int w.l):=λj w hj hno hw hS hm=>by
     rcases gj j i with g | g
     . exact hkv j w g hw hS hm
     . have:j=i:=by omega
       subst this;rw[χ (hw.symm.trans hyi)] at hm;exact absurd ⟨hS,hm⟩ hno
   walk_at "";refine AJ (λhS=>?_) (λhS=>?_)
   . have hS:q.let3 = .shel:=Da (j:=.shel) hS;walk_at "";refine AJ (λh0=>?_) (λh0=>?_)
     . walk_at "";refine⟨fd,_,rfl,DPut.k (k:=.inl (y.a/sh)) hfd (small4000 (by omega)),?_⟩;refine⟨s1.put nfd,_,_,rfl,upd_same,by have:=Ta kvs (.inl (y.a/sh):Key) (V.int y.l);omega,λj w hj hw _ hm=>?_⟩;rw[lT];by_cases e:w.a/sh=y.a/sh
       . rw[if_pos (by rw[e])];have e1:=cq w.a sh;have e2:=cq y.a sh;rw[hm,e] at e1;rw[h0] at e2;rw[Cj ch (ε hw) (ε hyi) (by omega)]
       . rw[if_neg (λg=>e (ja g))];rcases gj j i with g | g
         . exact hkv j w g hw hS hm
         . have:j=i:=by omega
           subst this;exact absurd (by rw[χ (hw.symm.trans hyi)]) e
     . walk_at "";exact⟨s1,kvs,_,rfl,hfd,by omega,λj w hj=>old j w hj (λg=>h0 g.2)⟩
   . walk_at "";exact⟨s1,kvs,_,rfl,hfd,by omega,λj w hj=>old j w hj (λg=>hS (by rw[g.1];rfl))⟩
 rintro σ H1 ⟨s1,kvs,x5,rfl,hfd,hkl,hkv⟩;have hp1:=s1 p _ hp;walk_at "";refine⟨p,rfl,⟨_,SqL.of hp1⟩,Ey (K:=K) (a:=p) (xs:=us) (NgW (some (.ref p)) (some (.ref rm)) (some (.int (c+2))) (some (.int b)) fd H1) ⟨Same.refl _,_,_,_,rfl⟩ (λi σ H2 _ ⟨s,_⟩=>SqL.of (s p _ hp1)) ?_ ?_⟩
 . rintro i y σ H2 hi ⟨s2,x5,x6,x7,rfl⟩;obtain⟨t,z,rfl,hzi,hT⟩:=LR ((pa.same s1).same s2) hi;have hrm2:=s2 rm _ (s1 rm _ hrm);have hfd2:=s2 fd _ hfd;cases hv:z.v with
   | true=>
     rw[hv] at hT;walk_at "";exact⟨s2,_,_,_,rfl⟩
   | false=>
     rw[hv] at hT;obtain⟨nh,nsh,nr⟩:=yb ok c1 hb b3 hn (ε hzi) hv;have nm:=oQ (a:=z.a) hb;walk_at "s";rw[nm];by_cases kh:q.let3 = .half
     . rw[kh] at hrm2;have hrm2:H2 rm=some (.tup [.str "halves",.int q.n,.int sh]):=hrm2;obtain⟨B,hB⟩:=TN c c1;have:=nh kh B hB;walk_at "";refine⟨c+2,B,rfl,hB,?_⟩;walk_at "";intro u hu;walk_at "";refine⟨u,_,rfl,.inr (SqT.of upd_same),rfl,rfl,?_⟩;rw[if_pos rfl,show inV (V.str "halves") [V.str "halves",V.str "shelves"]=true from by decide];walk_at "";exact⟨s2.put (s2.free hu),_,_,_,rfl⟩
     by_cases ks:q.let3 = .shel
     . have es:=hsh ks;have nsh:=nsh ks;rw[<-es] at nsh;rw[ks] at hrm2;have hrm2:H2 rm=some (.tup [.str "shelves",.int q.n,.int sh]):=hrm2;walk_at "1";refine Cv (M:=λσ' H'=>Same H1 H'/\∃x7':Option V,σ'=[some (.ref p),some (.ref rm),some (.int (c+2)),some (.int b),some (.ref fd),some (.ref t),some (.int (z.a+(b-1-z.a%b))),x7']) ?_ (λnx hM=>?_)
       . rintro σ' H3 ⟨s3,x7',rfl⟩;have hrm3:H3 rm=some (.tup [.str "shelves",.int q.n,.int sh]):=by have:=s3 rm _ (s1 rm _ hrm);rw[ks] at this;exact this
         walk_at "";intro u hu;walk_at "";refine⟨u,_,rfl,.inr (SqT.of upd_same),rfl,rfl,?_⟩;rw[if_pos rfl,show inV (V.str "shelves") [V.str "halves",V.str "shelves"]=true from by decide];walk_at "";exact⟨s3.put (s3.free hu),_,_,_,rfl⟩
       . walk_at "";refine AJ (λhk=>?_) (λhk=>?_)
         . obtain⟨n1,y,hy,y0,ye,n2⟩:=nsh hk;obtain⟨iy,hiy⟩:=ai hy;have hval:=hkv iy y (by rw[hul];exact(γ.mp hiy).1) hiy ks y0;rw[ye] at hval;walk_at "";refine hU ?_;walk_at "";refine⟨fd,rfl,.inl ⟨kvs,.inl hfd2⟩,?_⟩;walk_at "";refine⟨_,DGet.k (k:=.inl (z.a/sh)) hfd2,?_⟩;rw[show (wW kvs (.inl (z.a/sh))).getD V.non = .int y.l by rw[hval];rfl];walk_at "";refine AJ (λe1=>?_) (λe1=>?_)
           . have n3:y.l≠c+2:=λe=>n2 ⟨e1,e⟩;walk_at "";exact hM _ _ ⟨s2,_,rfl⟩
           . walk_at "";exact hM _ _ ⟨s2,_,rfl⟩
         . walk_at "";exact hM _ _ ⟨s2,_,rfl⟩
     . have:=nr kh ks;walk_at "";refine AJ (λh=>absurd (Da (j:=.half) h) kh) (λ_=>?_);walk_at "";refine AJ (λh=>absurd (Da (j:=.shel) h) ks) (λ_=>?_);walk_at "";intro u hu;walk_at "";refine⟨u,_,rfl,.inr (SqT.of upd_same),rfl,rfl,?_⟩;rw[if_pos rfl,zL kh ks];walk_at "";exact⟨s2.put (s2.free hu),_,_,_,rfl⟩
 . rintro σ H2 ⟨s2,x5,x6,x7,rfl⟩;walk_at "";exact qq H2 (s1.trans s2)
theorem Uj{kvs:List (Key×V)}(nd:(kvs.map (·.1)).Nodup):∀{kv:Key×V},kv∈kvs->wW kvs kv.1=some kv.2:=by
 induction kvs with
 | nil=>intro kv h;cases h
 | cons p r ih=>
   intro kv h;rw[av] at nd;obtain⟨n1,n2⟩:=ce.mp nd;rcases Φ.mp h with g | g
   . subst g;exact DX rfl
   . rw[DP (λe=>n1 (by rw[e];exact aw.mpr ⟨kv,g,rfl⟩))];exact ih n2 g
theorem hW{kvs:List (Key×V)}{k:Key}(h:∀kv∈kvs,kv.1≠k):wW kvs k=none:=by
 induction kvs with
 | nil=>rfl
 | cons p r ih=>
   rw[DP (h p ω)];exact ih λkv hk=>h kv (ρ _ hk)
theorem Sj{kvs:List (Key×V)}{k:Key}{kv:Key×V}(h:kv∈Ck kvs k):kv∈kvs/\kv.1≠k:=by
 obtain⟨h1,h2⟩:=cf.mp h;exact⟨h1,by simpa using h2⟩
theorem xS(n:Nat):(ο n [V.non]).flatten=(ο n (none:Option Int)).map wS:=by
 induction n with
 | zero=>rfl
 | succ n ih=>rw[cb,cu,ih,cb,av];rfl
theorem Uk{xs:List V}{i:Nat}{v:V}(h:xs[i]?=some v):atI xs (i:Int)=some v:=by
 have hl:i<xs.length:=(γ.mp h).1;unfold atI;rw[SN (by omega) (by omega)];simpa using h
def lnW(c:Int):W7->Int->Prop
 | .half,L=>∃B,CF B (c+2)/\L=2^B
 | _,L=>L=c+2
theorem zB{c L:Int}{q:St7}(ok:q.ok)(h:lnF c q L):lnW c q.let3 L:=by
 cases q with
 | st i _ _ _=>cases i <;> first | exact h | exact(show False from ok.1).elim
 | half _ _=>exact h
 | shel _ _=>exact h
 | row _ _=>exact h
theorem KZ{c L:Int}(h:lnW c i L):c+2<=L:=by
 cases i <;> first | exact mf (su h) | (obtain⟨B,hB,e⟩:=h;rw[e];exact hB.1)
theorem rR{c r L:Int}(h:lnW r i L)(hc:c+2<=L):lnW (max c r) i L:=by
 cases i <;> first | (obtain⟨B,hB,e⟩:=h;exact⟨B,⟨by have:=hB.1;omega,λj hj=>by have:=hB.2 j hj;omega⟩,e⟩) | (have h:L=r+2:=h;show L=max c r+2;omega)
def RwA(i:W7)(H0:Hp)(cs:List Int)(ps:List Pc)(a:uH)(H:Hp)(v:V)(z:Pc)(b:uH)(row:List (Option Int)):Prop:=v = .ref b/\z∈ps/\z.v=true/\H b=some (.lst (row.map wS))/\lnW row.length i z.l/\b≠a/\H0 b=none /\
 ∀(j:Nat)(n:Int),row[j]?=some (some n)->cs[(z.a+1).toNat+j]?=some n
structure HdS(i:W7)(H0:Hp)(cs:List Int)(ps:List Pc)(a kd:uH)(kvs:List (Key×V))(H:Hp):Prop where
 hd:H kd=some (.dK kvs)
 nd:(kvs.map (·.1)).Nodup
 rw:∀kv∈kvs,∃z b row,kv.1 = .inl (z.a+1)/\RwA i H0 cs ps a H kv.2 z b row
 ap:∀kv∈kvs,∀kv'∈kvs,kv.2=kv'.2->kv=kv'
section
variable {i:W7}{H0 H H':Hp}{cs cs':List Int}{ps ps':List Pc}{a a' b kd x:uH}{kvs kvs1:List (Key×V)}{z:Pc}{row:List (Option Int)}
theorem HdS.same(h:HdS i H0 cs ps a kd kvs H)(s:Same H H'):HdS i H0 cs ps a kd kvs H':=
 ⟨s kd _ h.hd,h.nd,λkv hk=>let ⟨z,b,row,e,h2,h3,h4,h5,h6⟩:=h.rw kv hk;⟨z,b,row,e,h2,h3,h4,s b _ h5,h6⟩,h.ap⟩
theorem HdS.left{C dx:uH}{fs:List (Str×V)}(h:HdS i H0 cs ps a kd kvs H)(sub:∀kv∈kvs1,kv∈kvs)(nd:(kvs1.map (·.1)).Nodup)(hx:H x=some (.ins C dx fs))(kp:∀b o,H b=some o->b≠x->b≠kd->H' b=some o)(hd:H' kd=some (.dK kvs1))(ha:a'=a\/H a'=none)(c0:∀y∈ps,0<=y.a)
   (L:∀y∈ps,y.v=true->(∃kv∈kvs1,kv.1 = .inl (y.a+1))->y∈ps'/\∀j:Nat,Inn y j->cs'[j]?=cs[j]?):HdS i H0 cs' ps' a' kd kvs1 H':=by
 refine⟨hd,nd,λkv hk=>?_,λkv hk kv' hk'=>h.ap kv (sub kv hk) kv' (sub kv' hk')⟩;obtain⟨z,b,row,e,h2,h3,h4,h5,h6,h7,h8,h9⟩:=h.rw kv (sub kv hk);obtain⟨l1,l2⟩:=L z h3 h4 ⟨kv,hk,e⟩;have hl:=KZ h6;refine⟨z,b,row,e,h2,l1,h4,kp b _ h5 (λe=>by rw[e,hx] at h5;cases h5) (λe=>by rw[e,h.hd] at h5;cases h5),h6,λe=>?_,h8,λj n hj=>?_⟩
 . rcases ha with g | g
   . exact h7 (e.trans g)
   . rw[e,g] at h5;cases h5
 . have hjl:=(γ.mp hj).1;have:=c0 z h3;rw[l2 _ ⟨by omega,by omega⟩];exact h9 j n hj
theorem HdS.add(D:HdS i H0 cs ps a kd kvs H)(R:RwA i H0 cs ps a H (.ref b) z b row)(hno:∀kv∈kvs,kv.1≠.inl (z.a+1))(hfr:∀kv∈kvs,kv.2≠.ref b):HdS i H0 cs ps a kd (kvs++[(.inl (z.a+1),.ref b)]) (upd H kd (.dK (kvs++[(.inl (z.a+1),.ref b)]))):=by
 have hd:=D.hd;have ne:∀{b:uH}{xs:List V},H b=some (.lst xs)->b≠kd:=λh e=>by rw[e,hd] at h;cases h
 refine⟨upd_same,?_,λkv hk=>?_,λkv hk kv' hk' e=>?_⟩
 . rw[af];exact bH D.nd (λh=>by obtain⟨kv,h1,h2⟩:=aw.mp h;exact hno kv h1 h2)
 . rcases θ.mp hk with g | g
   . obtain⟨y,b',row',e,h2,h3,h4,h5,h6⟩:=D.rw kv g;exact⟨y,b',row',e,h2,h3,h4,look_ne (ne h5) h5,h6⟩
   . rw[υ.mp g];obtain⟨h2,h3,h4,h5,h6⟩:=R;exact⟨z,b,row,rfl,h2,h3,h4,look_ne (ne h5) h5,h6⟩
 . rcases θ.mp hk with g | g
   . rcases θ.mp hk' with g' | g'
     . exact D.ap kv g kv' g' e
     . rw[υ.mp g'] at e;exact absurd e (hfr kv g)
   . rcases θ.mp hk' with g' | g'
     . rw[υ.mp g] at e;exact absurd e.symm (hfr kv' g')
     . rw[υ.mp g,υ.mp g']
end
structure Us(C:W7->uH)(H0:Hp)(i:W7)(n sh:Int)(x dx kd rm a:uH)(q:St7)(cs:List Int)(kvs:List (Key×V))(H:Hp):Prop where
 S:KS C x dx a q cs H
 qi:q.let3=i
 qn:q.n=n
 qs:i = .shel->q.sh=sh
 sm:Same H0 H
 nx:H0 x=none
 na:H0 a=none
 nk:H0 kd=none
 hr:H0 rm=some (.tup [.str (Bm i),.int n,.int sh])
 n4:n<=400
 s1:1<=sh
 s4:sh<=400
 D:HdS i H0 cs q.ps a kd kvs H
 sj:∀z∈q.ps,z.v=true->∃kv∈kvs,kv.1 = .inl (z.a+1)
section
variable {C:W7->uH}{H0 H H':Hp}{i:W7}{n sh:Int}{x dx kd rm a a':uH}{q q':St7}{cs cs':List Int}{kvs kvs':List (Key×V)}
theorem Us.next(U:Us C H0 i n sh x dx kd rm a q cs kvs H)(e1:q'.n=q.n)(e2:q'.let3=q.let3)(e3:q'.sh=q.sh)(S:KS C x dx a' q' cs' H')(sm:Same H0 H')(na:H0 a'=none)(D:HdS i H0 cs' q'.ps a' kd kvs' H')(sj:∀z∈q'.ps,z.v=true->∃kv∈kvs',kv.1 = .inl (z.a+1)):Us C H0 i n sh x dx kd rm a' q' cs' kvs' H':=
 ⟨S,e2.trans U.qi,e1.trans U.qn,λh=>e3.trans (U.qs h),sm,U.nx,na,U.nk,U.hr,U.n4,U.s1,U.s4,D,sj⟩
theorem Us.same(U:Us C H0 i n sh x dx kd rm a q cs kvs H)(s:Same H H'):Us C H0 i n sh x dx kd rm a q cs kvs H':=U.next rfl rfl rfl (U.S.same s) (U.sm.trans s) U.na (U.D.same s) U.sj
theorem Us.few(U:Us C H0 i n sh x dx kd rm a q cs kvs H):(q.ps.filter λz=>z.v).length=kvs.length/\kvs.length<=400:=by
 have e:=oP U.S.ch U.D.nd (λkv hk=>let ⟨z,_,_,e,_,h3,h4,_⟩:=U.D.rw kv hk;⟨z,h3,h4,e⟩) U.sj;have:=jn (λz=>z.v) q.ps;have:=U.S.ch.le;have:=U.S.hl;have:=U.qn;have:=U.n4;exact⟨e,by omega⟩
theorem Us.find(U:Us C H0 i n sh x dx kd rm a q cs kvs H)(hz:z∈q.ps)(hv:z.v=true):∃(b:uH) (row:List (Option Int)),(.inl (z.a+1),.ref b)∈kvs/\wW kvs (.inl (z.a+1))=some (.ref b)/\RwA i H0 cs q.ps a H (.ref b) z b row:=by
 obtain⟨⟨k,v⟩,hk,e⟩:=U.sj z hz hv;obtain⟨y,b,row,e',R⟩:=U.D.rw _ hk;have e:k = .inl (z.a+1):=e;have e':k = .inl (y.a+1):=e';have ey:y=z:=Cj U.S.ch R.2.1 hz (by rw[e] at e';have:=ja e';omega);subst ey;have hb:v = .ref b:=R.1;subst hb e;exact⟨b,row,hk,Uj U.D.nd hk,R⟩
end
def Dn(C:W7->uH)(w c b:Int)(z:Pc)(q:St7)(cs:List Int)(x dx a:uH)(H:Hp)(v:V)(H1:Hp):Prop:=
 ∃(q':St7)(a':uH)(cs':List Int),q'.n=q.n/\q'.let3=q.let3/\q'.sh=q.sh/\(a'=a\/H a'=none)/\AE x H H1/\KS C x dx a' q' cs' H1/\(q.let3 = .row->w=0)/\(w≠2->ok3 q.let3->b=1)/\(∀y∈q.ps,y.v=true->(w≠0->y≠z)->y∈q'.ps/\∀j:Nat,Inn y j->cs'[j]?=cs[j]?) /\
   ((w=2/\v = .non/\∀y∈q'.ps,y.v=true->y∈q.ps/\y≠z) \/
     (w≠2/\∃p L,v = .int p/\p%b=0/\(lnF c q L/\(w=1->ok3 q.let3->z.l<c+2)\/(w=1/\ok3 q.let3/\c+2<=z.l/\L=z.l/\p=z.a+1/\cs'=cs))/\(⟨p-1,L,true⟩:Pc)∈q'.ps/\(∀y∈q.ps,y.v=true->(w≠0->y≠z)->y.a≠p-1) /\
       (∀y∈q'.ps,y.v=true->y=⟨p-1,L,true⟩\/(y∈q.ps/\(w≠0->y≠z)))/\(w=1->∀j:Nat,(j:Int)<c->(j:Int)<z.l-2->cs'[p.toNat+j]?=cs[(z.a+1).toNat+j]?)))
def Rf(w c b:Int)(z:Pc)(q:St7)(H:Hp)(wd:Str)(H1:Hp):Prop:=Same H H1/\((wd="give"/\q.let3 = .row/\w≠0)\/((q.let3 = .row->w=0)/\w≠2/\((wd="bound"/\ok3 q.let3/\b≠1)\/(wd="narrow"/\(ok3 q.let3->b=1)/\No7 c b q/\(w=1->¬F_ c b z q)))))
theorem ym{C:W7->uH}{CB CN CG x dx a:uH}{q:St7}{H:Hp}{w pl c b:Int}(S:KS C x dx a q cs H)(hw:w=0\/((w=1\/w=2)/\z∈q.ps/\z.v=true/\pl=z.a+1))(c1:1<=c)(c30:c<=30)(b1:1<=b):
   Deed C CB CN CG q.let3 x w pl c b H (Dn C w c b z q cs x dx a H) (λv o H1=>o=none/\((v = .ref CN/\Rf w c b z q H "narrow" H1)\/(v = .ref CB/\Rf w c b z q H "bound" H1)\/(v = .ref CG/\Rf w c b z q H "give" H1))):=by
 have no {A:Prop} {m n:Int} (h:m=n) (g:m≠n):A:=absurd h g;rcases hw with rfl | ⟨rfl | rfl,hz,hv,rfl⟩
 . refine .inl ⟨rfl,x,dx,a,q,cs,c,b,rfl,rfl,S,c1,c30,b1,λo3 hb H1 s=>⟨rfl,.inr (.inl ⟨rfl,s,.inr ⟨λ_=>rfl,by decide,.inl ⟨rfl,o3,hb⟩⟩⟩)⟩,λo3 hn H1 s=>⟨rfl,.inl ⟨rfl,s,.inr ⟨λ_=>rfl,by decide,.inr ⟨rfl,o3,hn,(no · (by decide))⟩⟩⟩⟩,λo3 p q' a' cs' H1 A na k l S1=>?_⟩;obtain⟨L,hL,hnew,_,kp,bk⟩:=A.lf;exact⟨q',a',cs',A.n,A.lt,A.sh,.inr na,k,S1,λ_=>rfl,λ_=>o3,λy hy hv _=>⟨(kp y hy hv id).1,(kp y hy hv id).2.2⟩,.inr ⟨by decide,p,L,rfl,A.bd,.inl ⟨hL,(no · (by decide))⟩,hnew,λy hy hv _=>(kp y hy hv id).2.1,λy hy hv=>(bk y hy hv).imp id λh=>⟨h.1,(absurd rfl ·)⟩,(no · (by decide))⟩⟩
 . refine .inr (.inl ⟨rfl,x,dx,a,q,cs,z,c,b,rfl,rfl,S,hz,hv,c1,c30,b1,λhr H1 s=>⟨rfl,.inr (.inr ⟨rfl,s,.inl ⟨rfl,hr,by decide⟩⟩)⟩,λo3 hr hb H1 s=>⟨rfl,.inr (.inl ⟨rfl,s,.inr ⟨λh=>absurd h hr,by decide,.inl ⟨rfl,o3,hb⟩⟩⟩)⟩,λhr o3 hn hs H1 s=>⟨rfl,.inl ⟨rfl,s,.inr ⟨λh=>absurd h hr,by decide,.inr ⟨rfl,o3,hn,λ_=>hs⟩⟩⟩⟩,λhr o3 p q' a' cs' H1 G st na k l S1=>?_⟩);obtain⟨L,hL,hnew,_,kp,bk⟩:=G.lf;have d:(1:Int)≠0:=by decide
   refine⟨q',a',cs',G.n,G.lt,G.sh,na,k,S1,λh=>absurd h hr,λ_=>o3,λy hy hv hne=>⟨(kp y hy hv (hne d)).1,(kp y hy hv (hne d)).2.2⟩,.inr ⟨by decide,p,L,rfl,G.bd,?_,hnew,λy hy hv hne=>(kp y hy hv (hne d)).2.1,λy hy hv=>(bk y hy hv).imp id λh=>⟨h.1,λ_=>h.2⟩,λ_=>G.own⟩⟩;by_cases hc:ok3 q.let3/\c+2<=z.l
   . obtain⟨e1,e2,e3⟩:=st hc.1 hc.2;rw[e1] at hnew;exact .inr ⟨rfl,hc.1,hc.2,congrArg Pc.l (Cj S.ch hnew hz (by show p-1=z.a;omega)),e2,e3⟩
   . rcases hL with g | ⟨g1,g2,g3⟩
     . exact .inl ⟨g,λ_ o=>Int.not_le.mp λh=>hc ⟨o,h⟩⟩
     . exact absurd ⟨g1,g3⟩ hc
 . exact .inr (.inr ⟨rfl,x,dx,a,q,cs,z,rfl,rfl,S,hz,hv,λhr H1 s=>⟨rfl,.inr (.inr ⟨rfl,s,.inl ⟨rfl,hr,by decide⟩⟩)⟩,λq' a' cs' H1 G na k l S1=>⟨q',a',cs',G.n,G.lt,G.sh,.inr na,k,S1,λh=>absurd h G.nr,(absurd rfl ·),λy hy hv hne=>G.kp y hy hv (hne (by decide)),.inl ⟨rfl,rfl,G.bk⟩⟩⟩)
theorem sh_s{q:St7}(ok:q.ok)(h:q.let3 = .shel):q.sh=q.s:=by
 cases q with
 | st i _ _ _=>
   have h:i = .shel:=h;rw[h] at ok;exact ok.1.elim
 | shel _ _=>rfl
 | half _ _=>cases h
 | row _ _=>cases h
theorem hZ(h:plB i=true):ok3 i:=by cases i <;> first | exact trivial | cases h
theorem zw(h:ok4 i):plB i=false:=by cases i <;> first | rfl | exact h.elim
theorem pl_nj{q:St7}(ok:q.ok)(h:plB q.let3=false):AK q.ps:=by
 cases q with
 | st _ _ _ _=>exact ok.2.2
 | shel _ _=>cases h
 | half _ _=>cases h
 | row _ _=>cases h
theorem yO{q:St7}{c b:Int}{iz:Nat}(ok:q.ok)(hz:q.ps[iz]?=some z)(h:¬F_ c b z q):¬((z.a+1)%b=0/\z.a+(c+2)<=if plB q.let3=true then z.a+z.l else wQ q.ps iz z):=by
 rintro⟨h1,h2⟩;cases q with
 | st i _ _ _=>
   rw[show plB (St7.st i _ _ _).let3=false from zw ok.1,if_neg ν] at h2;exact h ⟨h1,iz,hz,h2⟩
 | half _ _=>exact h (by show c+2<=z.l;have h2:z.a+(c+2)<=z.a+z.l:=h2;omega)
 | shel _ _=>exact h (by show c+2<=z.l;have h2:z.a+(c+2)<=z.a+z.l:=h2;omega)
 | row _ _=>exact h (by show c+2<=z.l;have h2:z.a+(c+2)<=z.a+z.l:=h2;omega)
theorem zx(h:ok3 i):plB i=true:=by cases i <;> first | rfl | exact h.elim
theorem rS(h:ok3 i)(hr:i≠.row):i = .half\/i = .shel:=by cases i <;> first | exact .inl rfl | exact .inr rfl | exact absurd rfl hr | exact h.elim
theorem iA{H0 H H':Hp}{x:uH}(s:Same H0 H)(k:AE x H H')(n:H0 x=none):Same H0 H':=λb o h=>k b o (λe=>by rw[e,n] at h;cases h) (s b o h)
theorem KS.updK{C:W7->uH}{x dx a kd:uH}{q:St7}{H:Hp}{kvs kvs':List (Key×V)}(S:KS C x dx a q cs H)(h:H kd=some (.dK kvs)):KS C x dx a q cs (upd H kd (.dK kvs')):=
 ⟨look_ne (λe=>by have:=S.hx;rw[e,h] at this;cases this) S.hx,look_ne (λe=>by have:=S.ha;rw[e,h] at this;cases this) S.ha,S.hl,S.hz,S.ok,S.mm⟩
theorem Us.drop{C:W7->uH}{H0 H:Hp}{n sh:Int}{x dx kd rm a:uH}{q:St7}{kvs:List (Key×V)}{y:Pc}(U:Us C H0 i n sh x dx kd rm a q cs kvs H)(hz:z∈q.ps)(hy:y∈q.ps)(hv:y.v=true)(hne:y≠z):∃kv∈Ck kvs (.inl (z.a+1)),kv.1 = .inl (y.a+1):=by
 obtain⟨kv,h1,h2⟩:=U.sj y hy hv;have:kv.1≠.inl (z.a+1):=λe=>hne (Cj U.S.ch hy hz (by rw[h2] at e;have:=ja e;omega));exact⟨kv,cf.mpr ⟨h1,by simpa using this⟩,h2⟩
def NwM(x rm kd pb t:uH)(w pl c0 ct bd:Int)(x10:Option V)(H:Hp)(σ:L2.St)(H':Hp):Prop:=Same H H'/\σ=[some (.ref x),some (.ref rm),some (.ref kd),some (.int w),some (.int pl),some (.int c0),some (.int ct),some (.int bd),some (.ref pb),some (.ref t),x10,none]
def NrM(C:W7->uH)(H0:Hp)(i:W7)(x dx kd rm pb t a':uH)(q':St7)(cs':List Int)(w pl c0 bd:Int)(wp:Pc)(σ:L2.St)(H':Hp):Prop:=
 ∃(b:uH) (row:List (Option Int)) (kvs1:List (Key×V)) (c2:Int),σ=[some (.ref x),some (.ref rm),some (.ref kd),some (.int w),some (.int pl),some (.int c0),some (.int c2),some (.int bd),some (.ref pb),some (.ref t),none,some (.ref b)]/\H' b=some (.lst (row.map wS))/\KS C x dx a' q' cs' H'/\HdS i H0 cs' q'.ps a' kd kvs1 H'/\Same H0 H'/\H' t=some (.tup [.str "ok",.int (wp.a+1)])/\(∀kv∈kvs1,kv.1≠.inl (wp.a+1)) /\
   (∀y∈q'.ps,y.v=true->y=wp\/∃kv∈kvs1,kv.1 = .inl (y.a+1))/\lnW c2 i wp.l/\1<=c2/\c2<=400/\row.length<=400/\kvs1.length<=400/\∀(j:Nat)(n:Int),row[j]?=some (some n)->(j:Int)<c2->cs'[(wp.a+1).toNat+j]?=some n
abbrev wL(C:W7->uH)(H0:Hp)(i:W7)(n sh:Int)(x dx kd rm a:uH)(q:St7)(cs:List Int)(kvs:List (Key×V))(z:Pc)(w pl c0:Int)(H:Hp)(Q:VK):Prop:=∀(a':uH)(q':St7)(cs':List Int) (kvs':List (Key×V)) (H':Hp),Us C H0 i n sh x dx kd rm a' q' cs' kvs' H'->Q (.bl true) H'
def yT(C:W7->uH):Sp:=λvs H Q _=>∃(H0:Hp)(i:W7)(n sh:Int)(x dx kd rm a:uH)(q:St7)(cs:List Int) (kvs:List (Key×V)) (z:Pc) (w pl c0:Int),vs=[.ref x,.ref rm,.ref kd,.int w,.int pl,.int c0]/\Us C H0 i n sh x dx kd rm a q cs kvs H/\(w=0\/((w=1\/w=2)/\z∈q.ps/\z.v=true/\pl=z.a+1))/\(w=2->c0=0)/\wL C H0 i n sh x dx kd rm a q cs kvs z w pl c0 H Q
variable (DH:wO P w K mg base "_law_tried" 12 ["_law_keeper","_law_way","_law_place","_law_count","_law_bound","_law_brief"] (gU (cF Ag Ah Ae Ai Y6 Y4 Aj) Y2 AT Y9))
variable (Cc:wO P w K mg base "_law_walk" 2 ["_law_cells","_law_size"] (gP K))
variable (DI:wO P w K mg base "_law_stays" 2 ["_law_pieces","_law_room","_law_place","_law_long","_law_bound"] (hI))
variable (DJ:wO P w K mg base "_law_narrow" 2 ["_law_pieces","_law_room","_law_long","_law_bound"] (hV))
include T Av Cb BH DH Cc DI DJ in
theorem JP(S:Src K mg "_law_new" RB):wO P w K mg base "_law_new" 13 ["_law_keeper","_law_room","_law_held","_law_way","_law_place","_law_c"] (yT (cF Ag Ah Ae Ai Y6 Y4 Aj)):=by
 refine S.okx EM EN λf _ A _ s H vs Q E hr h=>?_;obtain⟨H0,i,n,sh,x,dx,kd,rm,a,q,cs,kvs,z,w,pl,c0,rfl,U,hw,hw2,kk⟩:=h;refine⟨_,PSs.nox (Ad (o_ 6 EM (Am AL Ac (Am A6 (Am A6 (Am Dc vx Ac) Ac) (Ar AY (DU (Aa Ac (Aa Ac (Aa Ac Ab)))) (Am A6 vx Ac))))) (Ad (o_ 7 EM (Ar AY (DU (Aa Ac (Aa Ac (Aa (Am AL Ac (Am A6 (Am A6 (Am Dc vx Ac) Ac) Ac)) (Aa (Am AL Ac (Am A6 (Am A6 (Am Dc vx Ac) Ac) Ac)) Ab))))) (Am A6 (Am A6 (Am Dc vx Ac) Ac) Ac))) (Ad (o_ 8 EM (Dj Av Bz hr s_)) (Ad (o_ 9 EM (q_ DH hr (Aa s_ (Aa u_ (Aa vw (Aa vz (Aa vy (Aa (Lu (CV AN vy Ac) (Ku (CV AN (Am A6 (Am Ez vx Ac) Ac) Ac))) Ab)))))))) (Ad (Ay (As CU (Ar AG vA Ac) AM) (Ad (Ay (As (zr hr.units) (Dj Av Bz hr s_) (pv 8)) (Af (Ao AR)) Az) (Ad (Ay (PW.pt (Bw (As AN (Ar AG r_ Ac) AM) (BQ (As DT u_ Ac)))) (Af (Ao (CV AN (Ar AG vA Ac) AM))) Az) (Ad (Ay (PW.pt (Bw (As DT vy Ac) (BQ (Cy (q_ BH hr (Aa (Ar AG r_ Ac) Ab)))))) (Af (Ao (CV AN (Ar AG vA Ac) AM))) Az) (Ad (o_ 10 EM (q_ Cc hr (Aa (pv 8) (Aa (Ar AG r_ Ac) Ab)))) (Ad (Ay (PW.pt (Bn (As Ly (pv 10) CQ) (BR (PW.pt (Bw (As AN u_ Ac) (BQ (Cy (q_ DI hr (Aa (pv 10) (Aa r_ (Aa vw (Aa (Am AL vz Ac) (Aa vy Ab))))))))))))) (Af (Ao AR)) Az) (Af (Ao (Lu (CV AN (Ar AG vA Ac) AM) (Ku (q_ DJ hr (Aa (pv 10) (Aa r_ (Aa (Am AL vz Ac) (Aa vy Ab)))))))))))))) Az) (Ad (Ay (PW.pt (Bn (PW.pt (Bw (Cy (q_ BH hr (Aa (Ar AG r_ Ac) Ab))) (BQ (As DT vy Ac)))) (BR (PW.pt (Bw (As AN (Ar AG r_ Ac) AM) (BQ (As DT u_ Ac))))))) (Af (Ao AR)) Az) (Ad (Ay (As AN u_ Ac) (Ad (Bd (bE t_ vw ⟨rfl,rfl,rfl,rfl⟩)) (Af (Ao (CV Ly (Ar AG vA Ac) CQ)))) Az) (Ad (o_ 11 EM (DU Ab)) (Ad (Ay (As AN u_ Ac) (Ad (o_ 11 EM (bE t_ vw ⟨rfl,rfl,rfl,rfl⟩)) (Af (Ay (PW.pt (Bn (As AN (Ar AG r_ Ac) AM) (BR (As AN (Ar AG r_ Ac) AM)))) (Af (o_ 6 EM (Bs (iW rfl) (by rfl) T.n_max tj (Aa vz (Aa (Bs CW (by rfl) T.n_len bq (Aa (pv 11) Ab)) Ab))))) Az))) Az) (Ad (Ay (PW.pt (Bn (Bo (Cy (q_ Cb hr (Aa (Ar AG vA Ac) Ab)))) (Bn (zk (zp (EI hr.units) (Ar AG vA Ac) t_)) (BR (As CU (Am A6 (Ar AG vA Ac) vy) Ac))))) (Af (Ao AR)) Az) (Ad (aX (EI hr.units) t_ (Ar AG vA Ac) (LB LC (Am SB (pv 11) (Am SC (DU (Aa CQ Ab)) vz)) Sz (G3 vz)) rfl) (Af (Ao AR))))))))))))),?_⟩;walk_at "D";obtain rfl:=U.qi;obtain rfl:=U.qn;refine Cv (M:=λσ' H'=>Same H H'/\∃ct:Int,1<=ct/\ct<=30/\σ'=[some (.ref x),some (.ref rm),some (.ref kd),some (.int w),some (.int pl),some (.int c0),some (.int ct),none,none,none,none,none]) ?_ (λnx hM=>?_)
 rotate_left
 . have t0:=bi c0 (show (3:Int)≠0 by decide);have t1:=bb c0 (show (0:Int)<3 by decide);have hmm:1<=([9,14,30]:List Int).getD (c0%3).toNat 0/\([9,14,30]:List Int).getD (c0%3).toNat 0<=30:=by
     rcases(show (c0%3).toNat=0\/(c0%3).toNat=1\/(c0%3).toNat=2 by omega) with h | h | h <;> rw[h] <;> decide
   walk_at "";intro p1 np1;have hp1:upd H p1 (.lst [.int 9,.int 14,.int 30]) p1=some (.lst (([9,14,30]:List Int).map V.int)):=upd_same;walk_at "";have:=bi (c0*16807%10007) (show ([9,14,30]:List Int).getD (c0%3).toNat 0≠0 by omega);have:=bb (c0*16807%10007) (show 0<([9,14,30]:List Int).getD (c0%3).toNat 0 by omega);exact hM _ _ ⟨Same.new np1,_,by omega,by omega,rfl⟩
 rintro σ' H1 ⟨s1,ct,ct1,ct2,rfl⟩;refine Cv (M:=λσ' H'=>Same H1 H'/\∃bd:Int,1<=bd/\(w=2->bd=1)/\σ'=[some (.ref x),some (.ref rm),some (.ref kd),some (.int w),some (.int pl),some (.int c0),some (.int ct),some (.int bd),none,none,none,none]) ?_ (λnx hM=>?_)
 rotate_left
 . have f0:=bi (c0*48271%65537) (show (4:Int)≠0 by decide);have f1:=bb (c0*48271%65537) (show (0:Int)<4 by decide);have b9:=bi (c0*40692%21013) (show (9:Int)≠0 by decide);have b60:=bi (c0*28629%12041) (show (60:Int)≠0 by decide);walk_at "";intro p2 np2;have hp2:upd H1 p2 (.lst [.int 1,.int 1,.int (1+c0*40692%21013%9),.int (1+c0*28629%12041%60)]) p2=some (.lst (([1,1,1+c0*40692%21013%9,1+c0*28629%12041%60]:List Int).map V.int)):=upd_same;walk_at "";refine hM _ _ ⟨Same.new np2,_,?_,λh=>by rw[hw2 h];decide,rfl⟩;rcases(show (c0*48271%65537%4).toNat=0\/(c0*48271%65537%4).toNat=1\/(c0*48271%65537%4).toNat=2\/(c0*48271%65537%4).toNat=3 by omega) with h | h | h | h <;> rw[h]
   . exact aq 1
   . exact aq 1
   . show 1<=1+c0*40692%21013%9;omega
   . show 1<=1+c0*28629%12041%60;omega
 rintro σ' H2 ⟨s2,bd,hBd,hb2,rfl⟩;have U2:=U.same (s1.trans s2);clear s1 s2 hw2;refine Cv (M:=λσ' H'=>∃pb,Same H2 H'/\H' pb=some (.lst (cs.map V.int))/\σ'=[some (.ref x),some (.ref rm),some (.ref kd),some (.int w),some (.int pl),some (.int c0),some (.int ct),some (.int bd),some (.ref pb),none,none,none]) ?_ (λnx hM=>?_)
 rotate_left
 . have hx2:=U2.S.hx;walk_at "";refine⟨_,x,dx,a,cs,rfl,hx2,U2.S.ha,λpb H3 _ s3 hpb=>?_⟩;walk_at "";exact hM _ _ ⟨pb,s3,hpb,rfl⟩
 rintro σ' H3 ⟨pb,s3,hpb,rfl⟩;have U3:=U2.same s3;have hx3:=U3.S.hx;clear s3 U2 U;refine Cv (M:=λσ' H'=>∃t,σ'=[some (.ref x),some (.ref rm),some (.ref kd),some (.int w),some (.int pl),some (.int c0),some (.int ct),some (.int bd),some (.ref pb),some (.ref t),none,none]/\((∃v H4,Dn (cF Ag Ah Ae Ai Y6 Y4 Aj) w ct bd z q cs x dx a H3 v H4/\Same H4 H'/\H' t=some (.tup [.str "ok",v]))\/∃wd,Rf w ct bd z q H3 wd H'/\H' t=some (.tup [.str wd,.non]))) ?_ (λnx hM=>?_)
 rotate_left
 . walk_at "a";refine zi (λv=>v=true->bd=1) (λbr hbr=>?_) (λQ' hM=>?_)
   rotate_left
   . walk_at "";refine AJ (λh=>?_) (λh=>?_)
     . walk_at "";exact hM _ (λ_=>h)
     . exact hM _ (λh=>by cases h)
   walk_at "";refine⟨q.let3,x,dx,a,q.s,w,pl,ct,bd,br,Dn (cF Ag Ah Ae Ai Y6 Y4 Aj) w ct bd z q cs x dx a H3,Rf w ct bd z q H3,rfl,hx3,hbr,ym U3.S hw ct1 ct2 hBd,λv H4 hD t ht=>?_,λwd H4 hR H5 s5 t ht=>?_⟩
   . walk_at "";exact hM _ _ ⟨t,rfl,.inl ⟨v,H4,hD,Same.new ht,upd_same⟩⟩
   . walk_at "";exact hM _ _ ⟨t,rfl,.inr ⟨wd,⟨(hR.1.trans s5).trans (Same.new ht),hR.2⟩,upd_same⟩⟩
 rintro σ' H5 ⟨t,rfl,hT⟩;refine Cv (M:=λσ' H'=>σ'=[some (.ref x),some (.ref rm),some (.ref kd),some (.int w),some (.int pl),some (.int c0),some (.int ct),some (.int bd),some (.ref pb),some (.ref t),none,none]/\∃v H4,Dn (cF Ag Ah Ae Ai Y6 Y4 Aj) w ct bd z q cs x dx a H3 v H4/\Same H4 H'/\H' t=some (.tup [.str "ok",v])) ?_ (λnx hM=>?_)
 . clear hT;rintro σ' H5 ⟨rfl,v,H4,hD,s5,ht5⟩;obtain⟨q',a',cs',e1,e2,e3,ha',k4,S4,hr0,hb1,L4,hv⟩:=hD;have sm5:Same H0 H5:=(iA U3.sm k4 U3.nx).trans s5;have hrm5:=sm5 rm _ U3.hr;have pb1:plB q.let3=true->bd=1:=λh=>by
     by_cases h2:w=2
     . exact hb2 h2
     . exact hb1 h2 (hZ h)
   refine Cv (M:=NwM x rm kd pb t w pl c0 ct bd none H5) ?_ (λnx hM=>?_)
   rotate_left
   . walk_at "";refine⟨q.let3,rfl,λH6 s6=>?_⟩;have hrm6:=s6 rm _ hrm5;cases hpl:plB q.let3 with
     | true=>
       have:=pb1 hpl;walk_at "";refine AJ (λh=>?_) (λ_=>?_)
       . have:=hr0 (Da (j:=.row) h);walk_at "";exact hM _ _ ⟨s6,rfl⟩
       . walk_at "";exact hM _ _ ⟨s6,rfl⟩
     | false=>
       walk_at "";refine AJ (λh=>by rw[Da (j:=.row) h] at hpl;cases hpl) (λ_=>?_);walk_at "";exact hM _ _ ⟨s6,rfl⟩
   rintro σ' H6 ⟨s6,rfl⟩;have sm6:=sm5.trans s6;have S6:=(S4.same s5).same s6;have ht6:=s6 t _ ht5;have hkx:kd≠x:=λe=>by have:=U3.D.hd;rw[e,hx3] at this;cases this
   have kp6:∀b o,H3 b=some o->b≠x->H6 b=some o:=λb o h n=>s6 b o (s5 b o (k4 b o n h));have hkd6:=kp6 kd _ U3.D.hd hkx;have na':H0 a'=none:=ha'.elim (λe=>by rw[e];exact U3.na) U3.sm.free;have c0':∀y∈q.ps,0<=y.a:=λy hy=>(U3.S.ch.mem y hy).1;have few:=U3.few.2;have htk:t≠kd:=λe=>by rw[e,hkd6] at ht6;cases ht6
   have dropD:∀{H':Hp},w≠0->Same H6 H'->HdS q.let3 H0 cs' q'.ps a' kd (Ck kvs (.inl (z.a+1))) (upd H' kd (.dK (Ck kvs (.inl (z.a+1))))):=λh0 s=>U3.D.left (λkv h=>(Sj h).1) (Tc U3.D.nd) hx3 (λb o h n1 n2=>look_ne n2 (s b o (kp6 b o h n1))) upd_same ha' c0' λy hy hv ⟨kv,h1,h2⟩=>L4 y hy hv λ_ e=>(Sj h1).2 (by rw[h2,e]);rcases hv with ⟨rfl,rfl,bk⟩ | ⟨hw2',p,L,rfl,hbd,hln,hnew,hna,bk,own⟩
   . obtain⟨hzm,hzv,rfl⟩:z∈q.ps/\z.v=true/\pl=z.a+1:=hw.elim (λh=>absurd h (by decide)) λh=>h.2;obtain⟨b,row,hkm,hval,R⟩:=U3.find hzm hzv;walk_at "";refine⟨kd,rfl,.inl ⟨kvs,.inl hkd6⟩,?_⟩;walk_at "";refine⟨kvs,.inl (z.a+1),.ref b,hkd6,rfl,hval,?_⟩;walk_at "";exact kk a' q' cs' _ _ (U3.next e1 e2 e3 (S6.updK hkd6) (sm6.put U3.nk) na' (dropD (by decide) (Same.refl _)) λy hy hv=>U3.drop hzm (bk y hy hv).1 hv (bk y hy hv).2)
   obtain⟨s,rfl⟩:∃s,p=s+1:=⟨p-1,by omega⟩
   rw[ca] at hnew;simp only [ca] at hna bk;walk_at "s";walk_at "1";walk_at "1";intro b0 nb0;walk_at "s";refine Cv (M:=NrM (cF Ag Ah Ae Ai Y6 Y4 Aj) H0 q.let3 x dx kd rm pb t a' q' cs' w pl c0 bd ⟨s,L,true⟩) ?_ (λnx hM=>?_)
   . rintro σ' H7 ⟨b,row,kvs1,c2,rfl,hb,S7,D7,sm7,ht7,hno,hsj,hl2,c21,c24,hrl,hkl,hct⟩;have hkd7:=D7.hd;have ht7:H7 t=some (.tup [.str "ok",.int (s+1)]):=ht7;walk_at "";refine⟨kd,_,rfl,DGet.k (k:=.inl (s+1)) hkd7,?_⟩;rw[hW hno];walk_at "";refine iteF ?_;walk_at "";intro l6 nl6;walk_at "";refine⟨l6,c2,_,rfl,rfl,upd_same,by omega,by omega,(by show 1*c2.toNat<=uU;exact fh (small4000 (by omega))),λb6 nb6=>?_⟩;rw[xS];have s8:Same H7 (upd (upd H7 l6 (.lst [.non])) b6 (.lst ((ο c2.toNat (none:Option Int)).map wS))):=(Same.new nl6).trans (Same.new nb6);have h8:upd (upd H7 l6 (.lst [.non])) b6 (.lst ((ο c2.toNat (none:Option Int)).map wS)) b6=some (.lst ((ο c2.toNat (none:Option Int)).map wS)):=upd_same;generalize upd (upd H7 l6 (.lst [.non])) b6 (.lst ((ο c2.toNat (none:Option Int)).map wS))=H8 at s8 h8 ⊢;refine⟨b,b6,row.map wS,(ο c2.toNat (none:Option Int)).map wS,rfl,rfl,s8 b _ hb,h8,fh (small4000 (by rw[Ξ,Ξ,ag];omega)),λb7 nb7=>?_⟩;rw[<-af];have s9:=s8.trans (Same.new (o:=.lst ((row++ο c2.toNat (none:Option Int)).map wS)) nb7);have h9:upd H8 b7 (.lst ((row++ο c2.toNat (none:Option Int)).map wS)) b7=some (.lst ((row++ο c2.toNat (none:Option Int)).map wS)):=upd_same;generalize upd H8 b7 (.lst ((row++ο c2.toNat (none:Option Int)).map wS))=H9 at s9 h9 ⊢;walk_at "";intro b8 nb8;have ecut:xz ((row++ο c2.toNat (none:Option Int)).map wS) none (some c2)=((row++ο c2.toNat (none:Option Int)).map wS).take c2.toNat:=by
       have:=mU ((row++ο c2.toNat (none:Option Int)).map wS) c2.toNat (by rw[Ξ,ι,ag];omega)
       rwa [bg (by omega)] at this
     rw[ecut,<-re];have nb5:H7 b8=none:=s9.free nb8;obtain⟨row8,er8⟩:∃r8,(row++ο c2.toNat (none:Option Int)).take c2.toNat=r8:=⟨_,rfl⟩
     rw[er8];have lr8:(row8.length:Int)=c2:=by rw[<-er8,cj,ι,ag];omega
     have cr8:∀(j:Nat)(n:Int),row8[j]?=some (some n)->cs'[(s+1).toNat+j]?=some n:=λj n hj=>by
       have hjl:j<c2.toNat:=by have:=(γ.mp hj).1;omega
       rw[<-er8,kz,if_pos hjl] at hj;rcases gj j row.length with g | g
       . rw[ξ g] at hj;exact hct j n hj (by omega)
       . rw[η g,gu] at hj
         split at hj <;> cases hj
     have s10:Same H7 (upd H9 b8 (.lst (row8.map wS))):=s9.trans (Same.new nb8);have h10:upd H9 b8 (.lst (row8.map wS)) b8=some (.lst (row8.map wS)):=upd_same;generalize upd H9 b8 (.lst (row8.map wS))=H10 at s10 h10 ⊢;have D8:=D7.same s10;have ht10:=s10 t _ ht7;have hkd8:=D8.hd;walk_at "";refine⟨kd,_,rfl,DPut.k (k:=.inl (s+1)) hkd8 (small4000 (by omega)),?_⟩;rw[lU _ (hW hno)];walk_at "";have D9:=D8.add (z:=⟨s,L,true⟩) (b:=b8) (row:=row8) ⟨rfl,hnew,rfl,h10,by rw[lr8];exact hl2,(λe=>by have:=S7.ha;rw[<-e,nb5] at this;cases this),sm7.free nb5,cr8⟩ hno λkv hk e=>by
       obtain⟨_,b',row',_,h2,_,_,h5,_⟩:=D7.rw kv hk;rw[h2] at e;cases e;rw[nb5] at h5;cases h5
     refine kk a' q' cs' _ _ (U3.next e1 e2 e3 ((S7.same s10).updK hkd8) ((sm7.trans s10).put U3.nk) na' D9 λy hy hv=>?_);rcases hsj y hy hv with e | ⟨kv,g1,g2⟩
     . exact⟨_,ζ _ (υ.mpr rfl),by rw[e]⟩
     . exact⟨kv,μ _ g1,g2⟩
   . have s7:Same H6 (upd H6 b0 (.lst [])):=Same.new nb0;have hb0:upd H6 b0 (.lst []) b0=some (.lst (([]:List (Option Int)).map wS)):=upd_same;generalize upd H6 b0 (.lst [])=H7 at s7 hb0 ⊢;have hkd7:=s7 kd _ hkd6;have ht7:=s7 t _ ht6;have sm7:=sm6.trans s7;have S7:=S6.same s7;rcases hw with rfl | ⟨hw1,hzm,hzv,rfl⟩
     . walk_at "";refine hM _ _ ⟨b0,[],kvs,ct,rfl,hb0,S7,U3.D.left (λkv h=>h) U3.D.nd hx3 (λb o h n1 _=>s7 b o (kp6 b o h n1)) hkd7 ha' c0' (λy hy hv _=>L4 y hy hv (absurd rfl ·)),sm7,ht7,λkv hk e=>?_,λy hy hv=>(bk y hy hv).imp id λh=>U3.sj y h.1 hv,?_,ct1,by omega,dz _,few,λj n hj=>by simp at hj⟩
       . obtain⟨y,_,_,e1,_,h3,h4,_⟩:=U3.D.rw kv hk;rw[e1] at e;exact hna y h3 h4 (absurd rfl ·) (by have:y.a+1=s+1:=ja e;omega)
       . exact zB U3.S.ok (hln.elim (λh=>h.1) λh=>absurd h.1 (by decide))
     . have hw1:w=1:=hw1.resolve_right hw2';subst hw1;obtain⟨b,row,hkm,hval,R⟩:=U3.find hzm hzv;obtain⟨_,_,_,hb,hrl,_,_,hct⟩:=id R;have hrl2:=KZ hrl;have z4:=(U3.S.ch.mem z hzm)
       have hn4:=U3.n4;have hcl:=U3.S.hl;have hb7:=s7 b _ (kp6 b _ hb (λe=>by rw[e,hx3] at hb;cases hb));have hbk:b≠kd:=λe=>by rw[e,hkd7] at hb7;cases hb7
       have hr:q.let3≠.row:=λh=>absurd (hr0 h) (by decide);have hrm7:=sm7 rm _ U3.hr;have hrk:rm≠kd:=λe=>by rw[e,hkd7] at hrm7;cases hrm7
       have hlm:(row.map wS).length=row.length:=Ξ _;walk_at "";refine⟨kd,rfl,.inl ⟨kvs,.inl hkd7⟩,?_⟩;walk_at "";refine⟨kvs,.inl (z.a+1),.ref b,hkd7,rfl,hval,?_⟩;have fin:∀c2:Int,(c2=ct/\¬ok3 q.let3\/c2=max ct row.length/\ok3 q.let3)->NrM (cF Ag Ah Ae Ai Y6 Y4 Aj) H0 q.let3 x dx kd rm pb t a' q' cs' 1 (z.a+1) c0 bd ⟨s,L,true⟩ [some (.ref x),some (.ref rm),some (.ref kd),some (.int 1),some (.int (z.a+1)),some (.int c0),some (.int c2),some (.int bd),some (.ref pb),some (.ref t),none,some (.ref b)] (upd H7 kd (.dK (Ck kvs (.inl (z.a+1))))):=λc2 h2=>by
         have key:lnW c2 q.let3 L/\∀(j:Nat)(n:Int),row[j]?=some (some n)->(j:Int)<c2->cs'[(s+1).toNat+j]?=some n:=by
           rcases hln with ⟨g1,g2⟩ | ⟨_,o3,g3,rfl,g5,rfl⟩
           . have e:c2=ct:=h2.elim (λh=>h.1) λh=>by have:=g2 rfl h.2;omega
             subst e;exact⟨zB U3.S.ok g1,λj n hj hjc=>by have:=(γ.mp hj).1;rw[own rfl j hjc (by omega)];exact hct j n hj⟩
           . have e:c2=max ct row.length:=h2.elim (λh=>absurd o3 h.2) λh=>h.1;subst e;exact⟨rR hrl g3,λj n hj _=>by rw[g5];exact hct j n hj⟩
         refine⟨b,row,_,c2,rfl,look_ne hbk hb7,S7.updK hkd7,dropD (by decide) s7,sm7.put U3.nk,look_ne htk ht7,λkv hk e=>?_,λy hy hv=>(bk y hy hv).imp id λh=>U3.drop hzm h.1 hv (h.2 (by decide)),key.1,by omega,by omega,by omega,de (Tb _ _) few,key.2⟩;obtain⟨y,_,_,e1,_,h3,h4,_⟩:=U3.D.rw kv (Sj hk).1;exact hna y h3 h4 (λ_ w=>(Sj hk).2 (by rw[e1,w])) (by rw[e1] at e;have:y.a+1=s+1:=ja e;omega)
       by_cases o3:ok3 q.let3
       . have hc2:=fin (if ((row.map wS).length:Int)>ct then ((row.map wS).length:Int) else ct) (.inr ⟨by rw[hlm];split <;> omega,o3⟩);rcases rS o3 hr with e | e
         . rw[e] at hrm7;have hrm7:H7 rm=some (.tup [.str "halves",.int q.n,.int sh]):=hrm7;walk_at "";exact hM _ _ hc2
         . rw[e] at hrm7;have hrm7:H7 rm=some (.tup [.str "shelves",.int q.n,.int sh]):=hrm7;walk_at "";exact hM _ _ hc2
       . walk_at "";refine AJ (λh=>absurd (by rw[Da (j:=.half) h];trivial) o3) (λ_=>?_);walk_at "";refine AJ (λh=>absurd (by rw[Da (j:=.shel) h];trivial) o3) (λ_=>?_);walk_at "";exact hM _ _ (fin _ (.inl ⟨rfl,o3⟩))
 . rcases hT with ⟨v,H4,hD,s5,ht5⟩ | ⟨wd,⟨sA,hR⟩,ht6⟩
   . walk_at "";exact hM _ _ ⟨rfl,v,H4,hD,s5,ht5⟩
   clear hM;have hne:wd≠("ok":Str):=by rcases hR with ⟨rfl,_⟩ | ⟨_,_,⟨rfl,_⟩ | ⟨rfl,_⟩⟩ <;> decide
   have U6:=U3.same sA;have hpb6:=sA pb _ hpb;have hx6:=U6.S.hx;walk_at "";refine⟨_,x,dx,a,cs,rfl,hx6,U6.S.ha,λpc H7 npc s7 hpc=>?_⟩;walk_at "";refine⟨pc,pb,cs,cs,rfl,rfl,SqL.of hpc,SqL.of (s7 pb _ hpb6),?_⟩;rw[decide_eq_true rfl];have U7:=U6.same s7;have ht7:=s7 t _ ht6;have hpb7:=s7 pb _ hpb6;have hrm7:=U7.sm rm _ U7.hr;rcases hR with ⟨rfl,hr,hw0⟩ | ⟨hr,hw2',hf⟩
   . rw[hr] at hrm7;have hrm7:H7 rm=some (.tup [.str "row",.int q.n,.int sh]):=hrm7;have hw1:0<w:=by rcases hw with h | ⟨h | h,_⟩ <;> omega
     walk_at "";exact kk _ _ _ _ _ U7
   walk_at "s";refine Cv (M:=NwM x rm kd pb t w pl c0 ct bd none H7) ?_ (λnx hM=>?_)
   rotate_left
   . walk_at "";refine AJ (λh=>?_) (λ_=>?_)
     . have:=hr (Da (j:=.row) h);walk_at "";exact hM _ _ ⟨Same.refl _,rfl⟩
     . walk_at "";exact hM _ _ ⟨Same.refl _,rfl⟩
   rintro σ' H8 ⟨s8,rfl⟩;have hrm8:=s8 rm _ hrm7;rcases hf with ⟨rfl,o3,hb⟩ | ⟨rfl,o3,hn,hs⟩
   . walk_at "";refine⟨q.let3,rfl,λH9 s9=>?_⟩;rw[zx o3];have ht9:=(s8.trans s9) t _ ht7;walk_at "";exact kk _ _ _ _ _ (U7.same (s8.trans s9))
   walk_at "s";refine Cv (M:=NwM x rm kd pb t w pl c0 ct bd none H8) ?_ (λnx hM=>?_)
   rotate_left
   . by_cases hb:bd=1
     . walk_at "";exact hM _ _ ⟨Same.refl _,rfl⟩
     . walk_at "";refine⟨q.let3,rfl,λH9 s9=>?_⟩;rw[show plB q.let3=false from Bool.eq_false_iff.mpr λh=>hb (o3 (hZ h))];walk_at "";exact hM _ _ ⟨s9,rfl⟩
   rintro σ' H9 ⟨s9,rfl⟩;have s79:=s8.trans s9;have U9:=U7.same s79;have hrm9:=s9 rm _ hrm8;have hpb9:=s79 pb _ hpb7;walk_at "";refine⟨pb,cs,q.ps,by rw[U9.S.hl],hpb9,U9.S.ch,U9.S.mm,U9.S.hz,λpw us H10 npw s10 hpw pa=>?_⟩;have hrm10:=s10 rm _ hrm9;walk_at "s";refine Cv (M:=NwM x rm kd pb t w pl c0 ct bd (some (.ref pw)) H10) ?_ (λnx hM=>?_)
   rotate_left
   . by_cases w1:w=1
     . obtain⟨hzm,rfl⟩:z∈q.ps/\pl=z.a+1:=hw.elim (λh=>by omega) λh=>⟨h.2.1,h.2.2.2⟩
       obtain⟨iz,hiz⟩:=ai hzm;walk_at "";refine⟨pw,rm,us,q.ps,q.let3,iz,z,q.n,cs.length,sh,ct,bd,rfl,hpw,pa,hrm10,U9.S.ch,hiz,pl_nj U9.S.ok,hBd,yO U9.S.ok hiz (hs w1),λH11 s11=>?_⟩;walk_at "";exact hM _ _ ⟨s11,rfl⟩
     . walk_at "";exact hM _ _ ⟨Same.refl _,rfl⟩
   rintro σ' H11 ⟨s11,rfl⟩;have ht11:=(s79.trans (s10.trans s11)) t _ ht7;walk_at "";refine⟨pw,rm,us,q,sh,ct,bd,rfl,s11 pw _ hpw,pa.same s11,s11 rm _ hrm10,λh=>((sh_s U9.S.ok h).symm.trans (U9.qs h)).symm,U9.S.ok,U9.n4,U9.s1,U9.s4,ct1,hBd,o3,hn,λH12 s12=>?_⟩;walk_at "";exact kk _ _ _ _ _ ((U9.same (s10.trans s11)).same s12)
theorem rT{i:Nat}(h:ps[i]?=some z):(ps.take (i+1)).filter (λz=>z.v)=(ps.take i).filter (λz=>z.v)++(if z.v=true then [z] else []):=by
 rw[ck,h,ci]
 congr 1
 simp only [ix,bx,jz]
def HlW(H1:Hp)(ps:List Pc)(D:uH)(i:Nat)(ys:List V)(H2:Hp):Prop:=Same H1 H2/\H2 D=some (.lst ys)/\H1 D=none/\AH H2 ys ((ps.take i).filter λz=>z.v)/\ys.length<=i
def iB(C:W7->uH):Sp:=λvs H Q _=>∃(H0:Hp)(i:W7)(n sh:Int)(x dx kd rm a:uH)(q:St7)(cs:List Int) (kvs:List (Key×V)),vs=[.ref x,.ref rm,.ref kd]/\Us C H0 i n sh x dx kd rm a q cs kvs H/\∀H',Same H H'->Q (.bl true) H'
def RgW(f:List (Option V))(H:Hp)(i:Nat)(σ:L2.St)(H':Hp):Prop:=Same H H'/\∃x6 x7 x8 x9:Option V,σ=f++[x6,x7,x8,x9]
def RkW(f:List (Option V))(H:Hp)(i:Nat)(σ:L2.St)(H':Hp):Prop:=Same H H'/\∃x8:Option V,σ=f++[x8]
variable (DK:wO P w K mg base "_law_shaped" 3 ["_law_pieces","_law_room"] (gZ))
include T AV Av AB Bc Cc DK in
theorem NL(S:Src K mg "_law_right" RC):wO P w K mg base "_law_right" 8 ["_law_keeper","_law_room","_law_held"] (iB (cF Ag Ah Ae Ai Y6 Y4 Aj)):=by
 refine S.okx EO IM λf _ A _ s H vs Q E hr h=>?_;obtain⟨H0,i,n,sh,x,dx,kd,rm,a,q,cs,kvs,rfl,U,qq⟩:=h;refine⟨_,PSs.nox (Ad (o_ 3 EO (Dj Av Bz hr s_)) (Ad (o_ 4 EO (q_ Cc hr (Aa u_ (Aa (Ar AG r_ Ac) Ab)))) (Ad (Ay (PW.pt (Bn (As Ly vw CQ) (Bn (As (ya hr.units) (Dj AV Bz hr s_) vw) (BR (Bo (Cy (q_ DK hr (Aa vw (Aa r_ Ab))))))))) (Af (Ao AR)) Az) (Ad (mH (i:=5) ["_law_piece"] EO.nd rfl (π rfl) rfl (BU vw) (λcl C s₀ H₀ ex=>(AF (i:=0) (show ((["_law_piece"]:List Str)++([]:List Str)).Nodup by decide +kernel) rfl (π rfl))) (λcl C s₀ H₀ ex=>(EG (LQ (K:=K) rfl (Ar (Hg (K:=K) rfl) s_ Ac) (λ_=>rfl)))) (λcl C s₀ H₀ ex=>s_) ) (Ad (Ay (As CU (Bs CW (by rfl) T.n_len bq (Aa vx Ab)) (Bs bG (by rfl) T.n_len bq (Aa t_ Ab))) (Af (Ao AR)) Az) (Ad (Db bj rfl (BU vx) (p_ 6 EO) (Ad (o_ 7 EO (bD (EI hr.units) t_ (Am AL (Ar AG vz Ac) Ac) ⟨rfl,rfl,rfl,rfl⟩)) (Ad (Ay (As Ly vy CQ) (Af (Ao AR)) Az) (Ad (o_ 8 EO (Am AL (Bs CW (by rfl) T.n_len bq (Aa vy Ab)) Ac)) (Ad (Ay (As AN (Ar AG r_ Ac) AM) (Af (o_ 8 EO (q_ Bc hr (Aa (pv 8) Ab)))) Az) (Ad (Ay (PW.pt (Bn (As CU (Ar AG vz Ac) (pv 8)) (BR (As CU (BG AB Bz hr s_ (Aa (Am AL (Ar AG vz Ac) Ac) Ab)) (Am Bk (pv 8) Ac))))) (Af (Ao AR)) Az) (Af (Db bj rfl (So (by rfl) T.n_range (Aa (Bs CW (by rfl) T.n_len bq (Aa vy Ab)) Ab)) (p_ 9 EO) (Af (Ay (PW.pt (Bw (As Ss (Ar AY vy vA) CQ) (BQ (As CU (Ar AY u_ (Am AL (Am AL (Ar AG vz Ac) Ac) vA)) (Ar AY vy vA))))) (Af (Ao AR)) Az)))))))))) (Af (Ao AR)))))))),?_⟩;walk_at "D";obtain rfl:=U.qi;obtain rfl:=U.qn;have S:=U.S;have hx:=S.hx;have hc:=S.ch;have hrm:=U.sm rm _ U.hr;have n4:=U.n4;walk_at "";refine⟨_,x,dx,a,cs,rfl,hx,S.ha,λpc H1 npc s1 hpc=>?_⟩;have hrm1:=s1 rm _ hrm;walk_at "";refine⟨pc,cs,q.ps,by rw[S.hl],hpc,hc,S.mm,S.hz,λpw us H2 npw s2 hpw pa=>?_⟩;have s02:=s1.trans s2;have S2:=S.same s02;have hx2:=S2.hx;walk_at "";refine⟨_,x,dx,a,cs,q.ps,rfl,S2.bs,λpp us3 H3 npp s3 hpp pa3=>?_⟩;walk_at "";refine⟨pp,pw,us3,us,q.ps,rfl,rfl,hpp,s3 pw _ hpw,pa3,pa.same s3,?_⟩;have hrm3:=(s02.trans s3) rm _ hrm;walk_at "";refine⟨pw,rm,us,q,sh,rfl,s3 pw _ hpw,pa.same s3,hrm3,λh=>((sh_s S.ok h).symm.trans (U.qs h)).symm,S.ok,n4,λH4' s4'=>?_⟩;have s34:=s3.trans s4';have s03:=s02.trans s34;have hpw3:=s34 pw _ hpw;have hpc3:=(s2.trans s34) pc _ hpc;have pa':=pa.same s34;have hul:=pa'.1;have hple:=hc.le;have hcl:=S.hl;clear pa3 hpp npp pa hpw npw hpc npc s1 s2 s3 s34 s4' S2 hx2 s02 hrm1 hrm3;walk_at "";refine⟨pw,rfl,⟨_,SqL.of hpw3⟩,Dh (K:=K) (a:=pw) (xs:=us) (HlW H4' q.ps) (λD hD=>⟨Same.new hD,upd_same,hD,AH.nil,ψ _⟩) (λD i ys H2 _ h=>SqL.of (h.1 pw _ hpw3)) ?_ ?_⟩
 . rintro D i y ys H2 hD hi ⟨s2,hD2,_,pr,hyl⟩ τ hτ;have hil:i<us.length:=(γ.mp hi).1;obtain⟨z,hzi⟩:∃z,q.ps[i]?=some z:=⟨_,Ω (by omega)⟩
   obtain⟨t,et,hT⟩:=pa'.2 i z hzi;have ey2:y = .ref t:=χ (hi.symm.trans et);subst ey2;have hT2:=s2 t _ hT;have ef:=rT hzi
   obtain⟨τ0,rfl⟩:=d_ hτ
   walk_at "";refine⟨⟨[_],rfl,rfl⟩,?_⟩;walk_at "";refine CC (λhv=>?_) (λhv=>?_)
   . walk_at "";rw[if_pos hv] at ef;refine⟨hD2,small4000 (by omega),Bp hil ⟨s2.put hD,upd_same,hD,?_,by rw[ι,Θ];omega⟩⟩;rw[ef];exact(pr.mono (DO (.inr ⟨_,hD2⟩))).snoc (look_ne (λw=>by rw[w,hD2] at hT2;cases hT2) hT2)
   . walk_at "";rw[if_neg (by rw[hv];exact ν),ae] at ef;exact Bp hil ⟨s2,hD2,hD,by rw[ef];exact pr,by omega⟩
 rintro dl ys H4 hD ⟨s4,hD4,_,pr,hyl⟩;rw[ar (by omega)] at pr;have hyz:=pr.1;have s04:=s03.trans s4;have U4:=U.same s04;have hkd4:=U4.D.hd;have hpc4:=s4 pc _ hpc3;have hyk:ys.length=kvs.length:=by have:=U.few.1;omega
 have hfw:=U.few.2;walk_at "";refine⟨kd,kvs,rfl,hkd4,?_⟩;walk_at "";refine⟨dl,rfl,⟨_,SqL.of hD4⟩,Ey (K:=K) (a:=dl) (xs:=ys) (RgW [some (.ref x),some (.ref rm),some (.ref kd),some (.ref pc),some (.ref pw),some (.ref dl)] H4) ⟨Same.refl _,_,_,_,_,rfl⟩ (λi σ H2 _ ⟨h,_⟩=>SqL.of (h dl _ hD4)) ?_ ?_⟩
 . rintro i y σ H5 hi ⟨s5,x6,x7,x8,x9,rfl⟩;have hil:i<ys.length:=(γ.mp hi).1;obtain⟨z,hzi⟩:∃z,(q.ps.filter λz=>z.v)[i]?=some z:=⟨_,Ω (by omega)⟩
   obtain⟨t,et,hT⟩:=pr.2 i z hzi;have ey:y = .ref t:=χ (hi.symm.trans et);subst ey;have hT5:=s5 t _ hT;obtain⟨hzm,hzv⟩:=cf.mp (ε hzi);have hzv:z.v=true:=hzv;have U5:=U4.same s5;obtain⟨b,row,hkm,hval,R⟩:=U5.find hzm hzv;obtain⟨_,_,_,hb5,hrl,_,_,hct2⟩:=id R;have hrl2:=KZ hrl;obtain⟨z0,z1,z3,z4⟩:=hc.mem z hzm;have hkd5:=U5.D.hd;have hx5:=U5.S.hx;have hrm5:=U5.sm rm _ U5.hr;have hpc5:=s5 pc _ hpc4;have hlm:(row.map wS).length=row.length:=Ξ _;simp only [dh,bz];walk_at "";refine hU ?_;walk_at "";refine⟨kd,rfl,.inl ⟨kvs,.inl hkd5⟩,?_⟩;walk_at "";refine⟨_,DGet.k (k:=.inl (z.a+1)) hkd5,?_⟩;rw[show (wW kvs (.inl (z.a+1))).getD V.non = .ref b by rw[hval];rfl];walk_at "s";walk_at "1";walk_at "s";refine Cv (M:=λσ' H'=>H5=H'/\σ'=[some (.ref x),some (.ref rm),some (.ref kd),some (.ref pc),some (.ref pw),some (.ref dl),some (.ref t),some (.ref b),some (.int z.l),x9]) ?_ (λnx hM=>?_)
   . rintro σ' H' ⟨rfl,rfl⟩;walk_at "";refine⟨x,dx,a,q,cs,z,rfl,rfl,U5.S,hzm,hzv,λH6 s6=>?_⟩;have hb6:=s6 b _ hb5;have hpc6:=s6 pc _ hpc5;have hT6:=s6 t _ hT5;walk_at "";refine⟨_,rfl,by omega,by omega,Sq (RkW [some (.ref x),some (.ref rm),some (.ref kd),some (.ref pc),some (.ref pw),some (.ref dl),some (.ref t),some (.ref b),some (.int z.l)] H6) ⟨Same.refl _,_,rfl⟩ ?_ ?_⟩
     . rintro j σ H7 hj ⟨s7,x8',rfl⟩;have hb7:=s7 b _ hb6;have hpc7:=s7 pc _ hpc6;have hT7:=s7 t _ hT6;have hjl:j<row.length:=by omega
       rw[show (0:Int)+(j:Int)=j by omega];simp only [dh,bz];have hat:atI (row.map wS) (j:Int)=some (wS row[j]):=Uk (by rw[cr,Ω hjl];rfl);walk_at "";refine DN (SqL.of hb7) hat ?_;cases hr:row[j] with
       | none=>
         walk_at "";exact⟨s7,_,rfl⟩
       | some n'=>
         have hn:=hct2 j n' (by rw[Ω hjl,hr]);have eg:cs.getD (z.a+1+(j:Int)).toNat 0=n':=by
           rw[show (z.a+1+(j:Int)).toNat=(z.a+1).toNat+j by omega,au,hn];rfl
         rw[hr] at hat;walk_at "";rw[eg];refine DN (SqL.of hb7) hat ?_;walk_at "";exact⟨s7,_,rfl⟩
     . rintro σ H7 ⟨s7,x8',rfl⟩;simp only [dh,bz];walk_at "";exact⟨s5.trans (s6.trans s7),_,_,_,_,rfl⟩
   . by_cases hh:q.let3 = .half
     . rw[hh] at hrm5 hrl;have hrm5:H5 rm=some (.tup [.str "halves",.int q.n,.int sh]):=hrm5;obtain⟨B,hB,eB⟩:=hrl;walk_at "";refine⟨_,B,rfl,by rw[hlm];exact hB,?_⟩;walk_at "";exact hM _ _ ⟨rfl,by rw[eB]⟩
     . have el:z.l=row.length+2:=by cases hi:q.let3 <;> rw[hi] at hrl hh <;> first | exact absurd rfl hh | exact hrl
       walk_at "";refine AJ (λh=>absurd (Da (j:=.half) h) hh) (λ_=>?_);walk_at "";exact hM _ _ ⟨rfl,by rw[el,hlm]⟩
 . rintro σ H5 ⟨s5,x6,x7,x8,x9,rfl⟩;simp only [dh,bz];walk_at "";exact qq H5 (s04.trans s5)
theorem HdS.put{H0 H H3:Hp}{a b kd:uH}{kvs:List (Key×V)}{row:List (Option Int)}{j:Nat}{nv:Int}(D:HdS i H0 cs ps a kd kvs H)(hc:Ak 0 ps cs.length)(hkm:(.inl (z.a+1),.ref b)∈kvs)(R:RwA i H0 cs ps a H (.ref b) z b row)(hka:kd≠a)(hkb:kd≠b)(hj:j<row.length)(keep:∀d o,d≠a->d≠b->H d=some o->H3 d=some o)(h3:H3 b=some (.lst ((row.set j (some nv)).map wS))):HdS i H0 (cs.set ((z.a+1).toNat+j) nv) ps a kd kvs H3:=by
 obtain⟨_,hzm,hzv,_,hrl,hba,hb0,hct⟩:=R;have hr2:=KZ hrl;obtain⟨z0,z1,z3,z4⟩:=hc.mem z hzm;have e1:((z.a+1).toNat:Int)=z.a+1:=bg (by omega);refine⟨keep kd _ hka hkb D.hd,D.nd,λkv' hk'=>?_,D.ap⟩;obtain⟨z',b',row',ek',h2',h3',h4',h5',h6',h7',h8',h9'⟩:=D.rw kv' hk';by_cases hb':b'=b
 . have ekk:=D.ap kv' hk' _ hkm (by rw[h2',hb']);refine⟨z,b,row.set j (some nv),by rw[ekk],by rw[ekk],hzm,hzv,h3,by rw[ax];exact hrl,hba,hb0,λj' n' hj'=>?_⟩;by_cases hjj:j'=j
   . subst hjj;rw[aj hj] at hj';have en:nv=n':=χ (χ hj');rw[aj (by omega),en]
   . rw[aa (λe=>hjj e.symm)] at hj';rw[aa (by omega)];exact hct j' n' hj'
 . refine⟨z',b',row',ek',h2',h3',h4',keep b' _ h7' hb' h5',h6',h7',h8',λj' n' hj'=>?_⟩;have hjl:j'<row'.length:=(γ.mp hj').1;have hr3:=KZ h6';obtain⟨y0,y1,_,_⟩:=hc.mem z' h3';have e1':((z'.a+1).toNat:Int)=z'.a+1:=bg (by omega);have hzz:z'≠z:=λe=>hb' (by
     have v1:=Uj D.nd hk';rw[ek',e,Uj D.nd hkm,h2'] at v1;cases v1;rfl)
   have:=apart hc hzm h3' (λe=>hzz e.symm) (i:=z'.a+1+(j':Int)) (by omega) (by omega);rw[aa (by omega)];exact h9' j' n' hj'
theorem Fr7.is{n s:Int}{q:St7}(F:Fr7 n s i q):q.n=n/\q.let3=i/\(i = .shel->q.sh=s)/\∀z∈q.ps,z.v=false:=by
 cases F with
 | st h=>exact⟨rfl,rfl,(λe=>by subst e;exact h.elim),λz hz=>by rw[υ.mp hz]⟩
 | half h e=>exact⟨e.symm,rfl,(λe=>by cases e),λz hz=>by rw[υ.mp hz]⟩
 | shel h1 h2 e=>
   refine⟨by rw[e];show s*((ο _ _).length:Int)=_;rw[ag],rfl,λ_=>rfl,λz hz=>?_⟩;obtain⟨j,f,hj,hm⟩:=yA hz;rw[(la.mp (ε hj)).2,GB h2] at hm;rw[υ.mp hm]
 | row h=>
   refine⟨rfl,rfl,(λe=>by cases e),λz hz=>?_⟩;cases hv:z.v with
   | false=>rfl
   | true=>cases QC hz hv
abbrev wM(C:W7->uH)(H0:Hp)(i:W7)(n sh:Int)(x dx kd rm a:uH)(q:St7)(cs:List Int)(kvs:List (Key×V))(c0:Int)(H:Hp)(Q:VK):Prop:=∀(a':uH)(q':St7)(cs':List Int) (kvs':List (Key×V)) (H':Hp),Us C H0 i n sh x dx kd rm a' q' cs' kvs' H'->Q (.bl true) H'
def iC(C:W7->uH):Sp:=λvs H Q _=>∃(H0:Hp)(i:W7)(n sh:Int)(x dx kd rm a:uH)(q:St7)(cs:List Int) (kvs:List (Key×V)) (c0:Int),vs=[.ref x,.ref rm,.ref kd,.int c0]/\Us C H0 i n sh x dx kd rm a q cs kvs H/\wM C H0 i n sh x dx kd rm a q cs kvs c0 H Q
def PuW(C:W7->uH)(H0:Hp)(i:W7)(n sh:Int)(x dx kd rm a b:uH)(q:St7)(kvs:List (Key×V))(r:Nat)(f:List (Option V))(k:Nat)(σ:L2.St)(H':Hp):Prop:=
 ∃(cs':List Int) (row:List (Option Int)) (x6:Option V),σ=f++[x6]/\Us C H0 i n sh x dx kd rm a q cs' kvs H'/\H' b=some (.lst (row.map wS))/\row.length=r
variable (BC:wO P w K mg base "_law_new" 13 ["_law_keeper","_law_room","_law_held","_law_way","_law_place","_law_c"] (yT (cF Ag Ah Ae Ai Y6 Y4 Aj)))
variable (D_clear:A7 P w K mg base (cF Ag Ah Ae Ai Y6 Y4 Aj) "clear" 8 ["self"] [] (Si (cF Ag Ah Ae Ai Y6 Y4 Aj)))
variable (D_put:A7 P w K mg base (cF Ag Ah Ae Ai Y6 Y4 Aj) "put" 9 ["self","place","k","number"] [] (yR (cF Ag Ah Ae Ai Y6 Y4 Aj)))
variable (D_get:A7 P w K mg base (cF Ag Ah Ae Ai Y6 Y4 Aj) "get" 9 ["self","place","k"] [] (yZ (cF Ag Ah Ae Ai Y6 Y4 Aj)))
include T BC D_clear D_put D_get in
theorem NM(S:Src K mg "_law_step" RD):wO P w K mg base "_law_step" 14 ["_law_keeper","_law_room","_law_held","_law_c"] (iC (cF Ag Ah Ae Ai Y6 Y4 Aj)):=by
 refine S.okx RE IN λf _ A _ s H vs Q E hr h=>?_;obtain⟨H0,i,n,sh,x,dx,kd,rm,a,q,cs,kvs,c0,rfl,U,kk⟩:=h;refine⟨_,PSs.nox (Ad (o_ 4 RE (Am A6 (Am A6 (Am Dc u_ Ac) Ac) Ac)) (Ad (Ay (PW.pt (Bn (As Ct vw Ac) (BR (Bo (nN t_ (λ_=>rfl)))))) (Af (Ao (q_ BC hr (Aa s_ (Aa r_ (Aa t_ (Aa Ac (Aa Ac (Aa u_ Ab))))))))) Az) (Ad (o_ 5 RE (Ar AY (EE (nM rfl) (by rfl) T.n_list cc (Aa t_ Ab)) (Am A6 (Am A6 (Am Dc u_ Ac) Ac) (Bs bG (by rfl) T.n_len bq (Aa t_ Ab))))) (Ad (Ay (As Ct vw Ac) (Af (Ao (q_ BC hr (Aa s_ (Aa r_ (Aa t_ (Aa Ac (Aa vx (Aa u_ Ab))))))))) Az) (Ad (Ay (As Ct vw Ac) (Af (Ao (q_ BC hr (Aa s_ (Aa r_ (Aa t_ (Aa Ac (Aa vx (Aa Ac Ab))))))))) Az) (Ad (Ay (PW.pt (Bw (As AN vw Ac) (BQ (As AN (Am A6 (Am Ez u_ Ac) Ac) Ac)))) (Ad (Bd (Dj D_clear Bz hr s_)) (Ad (Bd (SA jd lr PySem.F.type_dict_clear nK t_)) (Af (Ao AR)))) Az) (Ad (Db bj rfl (So (by rfl) T.n_range (Aa (Bs CW (by rfl) T.n_len bq (Aa (Qn (EI hr.units) t_ vx (λ_ _=>rfl)) Ab)) Ab)) (p_ 6 RE) (Ad (CT (Am Bk (Am A6 (Am Dc u_ (Am AL vz Ac)) (Am AL (Am Dc Ac (Am ZJ Ac Ac)) Ac)) (Am ZJ Ac Ac)) (GZ (Qn (EI hr.units) t_ vx (λ_ _=>rfl)) vz G4)) (Ad (Bd (BG D_put Bz hr s_ (Aa vx (Aa vz (Aa (Ar AY (Qn (EI hr.units) t_ vx (λ_ _=>rfl)) vz) Ab))))) (Af (Ay (As CU (BG D_get Bz hr s_ (Aa vx (Aa vz Ab))) (Ar AY (Qn (EI hr.units) t_ vx (λ_ _=>rfl)) vz)) (Af (Ao AR)) Az))))) (Af (Ao AR))))))))),?_⟩;walk_at "D";have w80:=bi (c0*69621%32749) (show (12:Int)≠0 by decide);have w81:=bb (c0*69621%32749) (show (0:Int)<12 by decide);have hkd:=U.D.hd;obtain⟨qi,qn⟩:q.let3=i/\q.n=n:=⟨U.qi,U.qn⟩
 subst qi qn;walk_at "s";by_cases h4:c0*69621%32749%12<5
 . walk_at "";exact⟨H0,_,_,sh,x,dx,kd,rm,a,q,cs,kvs,⟨0,0,true⟩,0,0,c0,rfl,U,.inl rfl,(λh=>absurd h (by decide)),kk⟩
 walk_at "";refine⟨kd,kvs,rfl,hkd,?_⟩;cases hE:kvs.isEmpty with
 | true=>
   walk_at "";exact⟨H0,_,_,sh,x,dx,kd,rm,a,q,cs,kvs,⟨0,0,true⟩,0,0,c0,rfl,U,.inl rfl,(λh=>absurd h (by decide)),kk⟩
 | false=>
 have hpos:0<kvs.length:=by
   cases kvs with
   | nil=>cases hE
   | cons _ _=>exact sq _
 have i0:=bi (c0*39373%28657) (show (kvs.length:Int)≠0 by omega);have i1:=bb (c0*39373%28657) (show (0:Int)<kvs.length by omega);obtain⟨j0,ej0⟩:∃j:Nat,c0*39373%28657%(kvs.length:Int)=j:=⟨(c0*39373%28657%(kvs.length:Int)).toNat,by omega⟩
 have hj0:j0<kvs.length:=by omega
 obtain⟨kv,hkv⟩:∃kv,kvs[j0]?=some kv:=⟨_,Ω hj0⟩
 obtain⟨z,_,_,ek,_,hzm,hzv,_⟩:=U.D.rw kv (ε hkv);have few:=U.few.2;have hat:atI (kvs.map λkv=>kV kv.1) (j0:Int)=some (.int (z.a+1)):=Uk (by rw[cr,hkv];show some (kV kv.1)=_;rw[ek];rfl);walk_at "";refine⟨kd,kvs,rfl,hkd,λl hl=>?_⟩;have s1:Same H (upd H l (.lst (kvs.map λkv=>kV kv.1))):=Same.new hl;have hl1:upd H l (.lst (kvs.map λkv=>kV kv.1)) l=some (.lst (kvs.map λkv=>kV kv.1)):=upd_same;generalize upd H l (.lst (kvs.map λkv=>kV kv.1))=H1 at s1 hl1 ⊢;have U1:=U.same s1;have hx1:=U1.S.hx;have hkd1:=U1.D.hd;obtain⟨z0,z1,z3,z4⟩:=U1.S.ch.mem z hzm;have z3:=z3 hzv;walk_at "";refine⟨kd,kvs,rfl,hkd1,?_⟩;walk_at "";rw[ej0];refine DN (SqL.of hl1) hat ?_;walk_at "s";by_cases h7:c0*69621%32749%12<8
 . walk_at "";exact⟨H0,_,_,sh,x,dx,kd,rm,a,q,cs,kvs,z,1,z.a+1,c0,rfl,U1,.inr ⟨.inl rfl,hzm,hzv,rfl⟩,(λh=>absurd h (by decide)),kk⟩
 by_cases h9:c0*69621%32749%12<10
 . walk_at "";exact⟨H0,_,_,sh,x,dx,kd,rm,a,q,cs,kvs,z,2,z.a+1,0,rfl,U1,.inr ⟨.inr rfl,hzm,hzv,rfl⟩,λ_=>rfl,kk⟩
 have hkx:kd≠x:=λe=>by rw[e,hx1] at hkd1;cases hkd1
 by_cases hC:c0*69621%32749%12=11/\c0/12%4=0
 . obtain⟨hC1,hC2⟩:=hC;walk_at "";refine⟨x,dx,a,q,cs,rfl,rfl,U1.S,by have:=U1.S.hl;omega,λq0 a' cs' H2 F na2 k2 l2 S2=>?_⟩;obtain⟨f1,f2,f3,f4⟩:=F.is;have hkd2:=k2 kd _ hkx hkd1;walk_at "";refine nL hkd2 ?_;walk_at "";exact kk a' q0 cs' [] _ ⟨S2.updK hkd2,f2,f1,λh=>(f3 h).trans ((sh_s U1.S.ok h).symm.trans (U1.qs h)),(iA U1.sm k2 U1.nx).put U1.nk,U1.nx,U1.sm.free na2,U1.nk,U1.hr,U1.n4,U1.s1,U1.s4,⟨upd_same,ir,(λkv hk=>by cases hk),(λkv hk=>by cases hk)⟩,λw hw hv=>by rw[f4 w hw] at hv;cases hv⟩
 obtain⟨b,row,hkm,hval,R⟩:=U1.find hzm hzv;have hb1:=R.2.2.2.1;have hlm:(row.map wS).length=row.length:=Ξ _;have hrl:=KZ R.2.2.2.2.1;have hba:=R.2.2.2.2.2.1;have hb0:=R.2.2.2.2.2.2.1;have hbx:b≠x:=λe=>by rw[e,hx1] at hb1;cases hb1
 have hbk:b≠kd:=λe=>by rw[e,hkd1] at hb1;cases hb1
 have hka:kd≠a:=λe=>by have:=U1.S.ha;rw[<-e,hkd1] at this;cases this
 have hcl:=U1.S.hl;have hn4:=U1.n4;have dg:∀{H':Hp},H' kd=some (.dK kvs)->DGet H' kd (.int (z.a+1)) (some (.ref b)):=λh=>by
   have:=DGet.k (k:=.inl (z.a+1)) h;rw[hval] at this;exact this
 walk_at "s";walk_at "1";walk_at "1";refine Cv (M:=λσ' H'=>H1=H'/\σ'=[some (.ref x),some (.ref rm),some (.ref kd),some (.int c0),some (.int (c0*69621%32749%12)),some (.int (z.a+1)),none]) ?_ (λnx hM=>?_)
 rotate_left
 . by_cases h11:c0*69621%32749%12=11
   . have h12:c0/12%4≠0:=λh=>hC ⟨h11,h⟩;walk_at "";exact hM _ _ ⟨rfl,rfl⟩
   . walk_at "";exact hM _ _ ⟨rfl,rfl⟩
 rintro σ' H' ⟨rfl,rfl⟩;walk_at "";refine⟨kd,.ref b,rfl,dg hkd1,?_⟩;walk_at "";refine⟨_,rfl,by omega,by omega,Sq (PuW (cF Ag Ah Ae Ai Y6 Y4 Aj) H0 q.let3 q.n sh x dx kd rm a b q kvs row.length [some (.ref x),some (.ref rm),some (.ref kd),some (.int c0),some (.int (c0*69621%32749%12)),some (.int (z.a+1))]) ⟨cs,row,_,rfl,U1,hb1,rfl⟩ ?_ ?_⟩
 . rintro j σ H2 hj ⟨cs',row',x6,rfl,U2,hb2,hr2⟩;rw[show (0:Int)+(j:Int)=j by omega];simp only [dh,bz];obtain⟨b',row2,hkm2,hval2,R2⟩:=U2.find hzm hzv;have ebb:b'=b:=by rw[hval] at hval2;cases hval2;rfl
   rw[ebb] at hkm2 R2;have hb3:=R2.2.2.2.1;have er2:row2.length=row.length:=by
     rw[hb2] at hb3;have:=congrArg jb (HO.lst.inj (χ hb3));rw[Ξ,Ξ] at this;omega
   clear hb2 hr2 ebb hval2;have hkd2:=U2.D.hd;have hx2:=U2.S.hx;have hjl:j<row2.length:=by omega
   have hlm':(row2.map wS).length=row2.length:=Ξ _;have hcl2:=U2.S.hl;walk_at "";generalize c0*((j:Int)+71)%(2*10^(60:Int).toNat+1)-10^(60:Int).toNat=nv;refine⟨kd,.ref b,rfl,dg hkd2,?_⟩;walk_at "";refine⟨b,row2.map wS,(j:Int),j,rfl,rfl,hb3,(by have:=SN (n:=(row2.map wS).length) (k:=(j:Int)) (by omega) (by omega);simpa using this),?_⟩;rw[show (row2.map wS).set j (V.int nv)=(row2.set j (some nv)).map wS from by rw[rz]];have h3:upd H2 b (.lst ((row2.set j (some nv)).map wS)) b=some (.lst ((row2.set j (some nv)).map wS)):=upd_same;have kb:AE b H2 (upd H2 b (.lst ((row2.set j (some nv)).map wS))):=AE.refl.put;generalize upd H2 b (.lst ((row2.set j (some nv)).map wS))=H3 at h3 kb ⊢;have S3:KS (cF Ag Ah Ae Ai Y6 Y4 Aj) x dx a q cs' H3:=⟨kb x _ (dn hbx) hx2,kb a _ (dn hba) U2.S.ha,U2.S.hl,U2.S.hz,U2.S.ok,U2.S.mm⟩
   have hx3:=S3.hx;have hkd3:=kb kd _ (dn hbk) hkd2;have hat2:atI ((row2.set j (some nv)).map wS) (j:Int)=some (.int nv):=Uk (by rw[cr,aj hjl];rfl);walk_at "";refine⟨kd,.ref b,rfl,dg hkd3,?_⟩;walk_at "";refine DN (SqL.of h3) hat2 ?_;walk_at "";refine⟨x,dx,a,q,cs',z,(j:Int),nv,rfl,rfl,S3,hzm,hzv,by omega,by omega,λH4 k4 S4=>?_⟩;have hx4:=S4.hx;have h4b:=k4 b _ hba h3;have hkd4:=k4 kd _ hka hkd3;have e1:((z.a+1).toNat:Int)=z.a+1:=bg (by omega);have ei:(z.a+1+(j:Int)).toNat=(z.a+1).toNat+j:=by omega
   walk_at "";refine⟨x,dx,a,q,_,z,(j:Int),rfl,rfl,S4,hzm,hzv,by omega,by omega,λH5 s5=>?_⟩;have eg:(cs'.set (z.a+1+(j:Int)).toNat nv).getD (z.a+1+(j:Int)).toNat 0=nv:=by
     rw[au,aj (by omega)];rfl
   rw[eg];have hkd5:=s5 kd _ hkd4;have h5b:=s5 b _ h4b;walk_at "";refine⟨kd,.ref b,rfl,dg hkd5,?_⟩;walk_at "";refine DN (SqL.of h5b) hat2 ?_;walk_at "";have keep:∀d o,d≠a->d≠b->H2 d=some o->H5 d=some o:=λd o n1 n2 h=>s5 d o (k4 d o n1 (kb d o n2 h));have D5:=U2.D.put (nv:=nv) U2.S.ch hkm2 R2 hka (dn hbk) hjl keep h5b;rw[ei] at S4;exact⟨_,_,_,rfl,U2.next rfl rfl rfl (S4.same s5) (λd o h=>keep d o (λe=>by rw[e,U2.na] at h;cases h) (λe=>by rw[e,hb0] at h;cases h) (U2.sm d o h)) U2.na D5 U2.sj,h5b,by rw[ax];exact er2⟩
 . rintro σ H2 ⟨cs',row',x6,rfl,U2,_,_⟩;simp only [dh,bz];walk_at "";exact kk a q cs' kvs H2 U2
section
variable {X:Cx}{x:Str}{j k:Nat}{ps:List Str}{sp:Sp}{dvs:List V}{p pos:Pos}{e:uN}{es:List uN}{t:TA}
theorem rV(D:M_ X.prog X.w X.K X.mg X.base x j ps dvs sp)(hr:Room k X.A)(hg:Gl X x)(ha:PA X (e::es) t)(hk:j<=k:=by decide)
   (hdb:(x==("__debug__":Str))=false:=by decide) (he:uR (e::es) X.env=(false,vh e X.env)::uR es X.env:=by rfl) (hpl:(uZ pos (uR es X.env)).any (·.1)=false:=by rfl):PE X (.Call (.Name x p) (e::es) [] pos) (G2 sp dvs E0 t):=by
 obtain⟨f,fd,ds,F,hm,kp,b,v⟩:=D.less;exact Sx F (hr.mono hk) hg hm kp b v Bz ha hdb he hpl
theorem rW{σ:L2.St}{H:Hp}{Q:VK}{E:XK}(h:t σ H λvs H1=>sp (vs++dvs) H1 Q E):G2 sp dvs E t σ H Q:=h
end
theorem K0{H:Hp}{t b:uH}{o:HO}(n:t≠b)(h:H b=none):upd H t o b=none:=by rw[AI (dn n)];exact h
theorem word7{k:Int}(h0:0<=k)(h1:k<7):∃i,atI [V.str "first",V.str "best",V.str "next",V.str "likes",V.str "halves",V.str "shelves",V.str "row"] k=some (.str (Bm i)):=by
 rcases(show k=0\/k=1\/k=2\/k=3\/k=4\/k=5\/k=6 by omega) with rfl | rfl | rfl | rfl | rfl | rfl | rfl
 . exact⟨.first,rfl⟩
 . exact⟨.best,rfl⟩
 . exact⟨.next,rfl⟩
 . exact⟨.likes,rfl⟩
 . exact⟨.half,rfl⟩
 . exact⟨.shel,rfl⟩
 . exact⟨.row,rfl⟩
theorem pow6{k:Int}(h0:0<=k)(h1:k<6):∃n:Int,atI [V.int 4,V.int 8,V.int 16,V.int 32,V.int 64,V.int 128] k=some (.int n)/\D3 n=true/\3<=n/\n<=128:=by
 rcases(show k=0\/k=1\/k=2\/k=3\/k=4\/k=5 by omega) with rfl | rfl | rfl | rfl | rfl | rfl <;> exact⟨_,rfl,by decide,by decide,by decide⟩
def LwW(C:W7->uH)(H0:Hp)(i:W7)(n sh:Int)(x dx kd rm:uH)(f0:Option V)(k:Nat)(σ:L2.St)(H':Hp):Prop:=
 ∃(a:uH)(q:St7)(cs:List Int) (kvs:List (Key×V)) (x1:Option V),σ=[f0,x1,some (.str (Bm i)),some (.int n),some (.int sh),some (.ref x),some (.ref rm),some (.ref kd)]/\Us C H0 i n sh x dx kd rm a q cs kvs H'
def LmW(C:W7->uH)(sc:uH)(c:Int)(i:W7)(n sh:Int)(ns:List Int)(K:δ)(σ:L2.St)(H':Hp):Prop:=
 ∃(x dx a:uH)(q:St7)(cs:List Int),σ=[some (.ref sc),some (.int c),some (.str (Bm i)),some (.int n),some (.int sh),some (.ref x),none,none]/\SqL K H' sc (ns.map V.int)/\Fr7 n sh i q/\KS C x dx a q cs H'
theorem Us.new{C:W7->uH}{n sh:Int}{x dx a rm kd:uH}{q:St7}{H H0:Hp}(F:Fr7 n sh i q)(S:KS C x dx a q cs H)(n4:n<=400)(s1:1<=sh)(s4:sh<=400)(hr:H0 rm=some (.tup [.str (Bm i),.int n,.int sh]))(hk:H kd=some (.dK []))(sm:Same H0 H)(nx:H0 x=none)(na:H0 a=none)(nk:H0 kd=none):Us C H0 i n sh x dx kd rm a q cs [] H:=by
 obtain⟨f1,f2,f3,f4⟩:=F.is;exact⟨S,f2,f1,f3,sm,nx,na,nk,hr,n4,s1,s4,⟨hk,ir,(λkv h=>by cases h),(λkv h=>by cases h)⟩,λz hz hv=>by rw[f4 z hz] at hv;cases hv⟩
variable (Co:wO P w K mg base "_law_cell_at" 1 ["_law_script","_law_k"] (SV K))
variable (CI:M_ P w K mg base "keeper_of" 10 ["word","size","shelf"] [.int 8] (xN (cF Ag Ah Ae Ai Y6 Y4 Aj) Dk A5))
variable (CJ:wO P w K mg base "_law_right" 8 ["_law_keeper","_law_room","_law_held"] (iB (cF Ag Ah Ae Ai Y6 Y4 Aj)))
variable (DL:wO P w K mg base "_law_step" 14 ["_law_keeper","_law_room","_law_held","_law_c"] (iC (cF Ag Ah Ae Ai Y6 Y4 Aj)))
include T Co CI CJ DL in
theorem zu{f:uH}{fd:uJ}(F:Fun K "law" "law" IO f fd):FnOk P w K mg base (CXe P w) 15 f fd ["_law_script"] (Qf K):=by
 refine A3 F DR (λ_ A _ s H vs Q E hr h=>?_);obtain⟨sc,ns,rfl,hS,hlen,kk⟩:=h;refine⟨_,PSs.nox (Ad (o_ 1 DR (q_ Co hr (Aa s_ (Aa Ac Ab)))) (Ad (o_ 2 DR (Ar AY (DU (Aa AM (Aa AM (Aa AM (Aa AM (Aa AM (Aa AM (Aa AM Ab)))))))) (Am A6 (q_ Co hr (Aa s_ (Aa Ac Ab))) Ac))) (Ad (o_ 3 DR (Am AL Ac (Am A6 r_ Ac))) (Ad (o_ 4 DR Ac) (Ad (Ay (As AN t_ AM) (Af (o_ 3 DR (Ar AY (DU (Aa Ac (Aa Ac (Aa Ac (Aa Ac (Aa Ac (Aa Ac Ab))))))) (Am A6 r_ Ac)))) Az) (Ad (Ay (As AN t_ AM) (Ad (o_ 4 DR (Am AL Ac (Am A6 (q_ Co hr (Aa s_ (Aa Ac Ab))) Ac))) (Af (o_ 3 DR (Am Dc vw (Am AL Ac (Am A6 r_ Ac)))))) Az) (Ad (Ay (PW.pt (Bw (As AN vw Ac) (BQ (As AN (Am A6 (Am Ez r_ Ac) Ac) Ac)))) (Af (o_ 5 DR (rV CI hr (by rfl) (Aa t_ (Aa u_ Ab))))) (Af (o_ 5 DR (q_ CI.all hr (Aa t_ (Aa u_ (Aa vw Ab))))))) (Ad (o_ 6 DR (Cg (Aa t_ (Aa u_ (Aa vw Ab))))) (Ad (o_ 7 DR aZ) (Ad (Ay (Bo (Cy (q_ CJ hr (Aa vx (Aa vz (Aa vy Ab)))))) (Af (Ao AR)) Az) (Ad (Db bj rfl (BU (LB LC s_ (G3 Ac) (G3 Ac))) (p_ 1 DR) (Af (Ay (PW.pt (Bn (Bo (Cy (q_ DL hr (Aa vx (Aa vz (Aa vy (Aa r_ Ab))))))) (BR (Bo (Cy (q_ CJ hr (Aa vx (Aa vz (Aa vy Ab))))))))) (Af (Ao AR)) Az))) (Af (Ao AR))))))))))))),?_⟩;walk_at "D";have c0:=bi (ns.getD (0:Int).toNat 0) (show (7:Int)≠0 by decide);have c1:=bb (ns.getD (0:Int).toNat 0) (show (0:Int)<7 by decide);obtain⟨i,ei⟩:=word7 c0 c1;walk_at "";intro w nw;walk_at "";refine DN (SqL.of upd_same) ei ?_;have s1:=Same.new (o:=.lst [V.str "first",V.str "best",V.str "next",V.str "likes",V.str "halves",V.str "shelves",V.str "row"]) nw;generalize upd H w (.lst [V.str "first",V.str "best",V.str "next",V.str "likes",V.str "halves",V.str "shelves",V.str "row"])=H1 at s1 ⊢;have hS1:=s1.seq hS;clear s1 nw ei c0 c1 hS;walk_at "s";generalize ns.getD (1:Int).toNat 0=c;have e0:=bi c (show (90:Int)≠0 by decide);have e1:=bb c (show (0:Int)<90 by decide);have e2:=bi c (show (8:Int)≠0 by decide);have e3:=bb c (show (0:Int)<8 by decide);refine Cv (M:=λσ' H'=>∃n:Int,SqL K H' sc (ns.map V.int)/\3<=n/\n<=400/\(i = .half->D3 n=true)/\σ'=[some (.ref sc),some (.int c),some (.str (Bm i)),some (.int n),some (.int 8),none,none,none]) ?_ (λnx hM=>?_)
 rotate_left
 . by_cases hi:i = .half
   . subst hi;have f0:=bi c (show (6:Int)≠0 by decide);have f1:=bb c (show (0:Int)<6 by decide);obtain⟨n,en,np,n3,n4⟩:=pow6 f0 f1;walk_at "";intro l nl;walk_at "";refine DN (SqL.of upd_same) en ?_;walk_at "";exact hM _ _ ⟨n,(Same.new nl).seq hS1,n3,by omega,λ_=>np,rfl⟩
   . walk_at "";refine AJ (λh=>absurd (Da (j:=.half) h) hi) (λ_=>?_);walk_at "";exact hM _ _ ⟨3+c%90,hS1,by omega,by omega,λh=>absurd h hi,rfl⟩
 rintro σ' H2 ⟨n,hS2,n3,n4,np,rfl⟩;walk_at "s";refine Cv (M:=λσ' H'=>∃n sh:Int,SqL K H' sc (ns.map V.int)/\n<=400/\1<=sh/\sh<=400/\gdF n sh i/\σ'=[some (.ref sc),some (.int c),some (.str (Bm i)),some (.int n),some (.int sh),none,none,none]) ?_ (λnx hM=>?_)
 rotate_left
 . by_cases hi:i = .shel
   . subst hi;have f0:=bi (ns.getD (2:Int).toNat 0) (show (14:Int)≠0 by decide);have f1:=bb (ns.getD (2:Int).toNat 0) (show (0:Int)<14 by decide);walk_at "";generalize ns.getD (2:Int).toNat 0%14=d at f0 f1 ⊢;have h1:=Ψ (show 1<=1+c%8 by omega) (show 0<=3+d by omega);have h2:=Ψ (show 1+c%8<=8 by omega) (show 0<=3+d by omega);exact hM _ _ ⟨(3+d)*(1+c%8),3+d,hS2,by omega,by omega,by omega,⟨by omega,by omega,fv _ _⟩,rfl⟩
   . walk_at "";refine AJ (λh=>absurd (Da (j:=.shel) h) hi) (λ_=>?_);walk_at "";exact hM _ _ ⟨n,8,hS2,n4,by omega,by omega,by cases i <;> first | exact absurd rfl hi | exact np rfl | exact Int.le_trans (by decide) n3,rfl⟩
 rintro σ' H3 ⟨n,sh,hS3,n4,h1,h4,gd,rfl⟩;clear np n3 hS2 hS1 e0 e1 e2 e3;walk_at "s";refine Cv (M:=LmW (cF Ag Ah Ae Ai Y6 Y4 Aj) sc c i n sh ns K) ?_ (λnx hM=>?_)
 rotate_left
 . have kp:∀(Q:VK)(E:XK),(∀(x dx a:uH)(q:St7)(cs:List Int)(H':Hp),SqL K H' sc (ns.map V.int)->Fr7 n sh i q->KS (cF Ag Ah Ae Ai Y6 Y4 Aj) x dx a q cs H'->Q (.ref x) H')->xN (cF Ag Ah Ae Ai Y6 Y4 Aj) Dk A5 [.str (Bm i),.int n,.int sh] H3 Q E:=λQ E h=>⟨Bm i,n,sh,rfl,by omega,by omega,λhn=>absurd rfl (hn i),λj e hg=>absurd (by rw[<-Da e];exact gd) hg,λj e hg x dx a q cs H4 nx na s4 F S=>h x dx a q cs H4 (s4.seq hS3) (by rw[Da e];exact F) S⟩
   walk_at "";refine AJ (λh8=>?_) (λ_=>?_)
   . subst h8;walk_at "";refine AJ (λ_=>?_) (λ_=>?_)
     . walk_at "";refine rW ?_;walk_at "";refine kp _ _ λx dx a q cs H4 hS4 F S=>?_;walk_at "";exact hM _ _ ⟨x,dx,a,q,cs,rfl,hS4,F,S⟩
     . walk_at "";refine kp _ _ λx dx a q cs H4 hS4 F S=>?_;walk_at "";exact hM _ _ ⟨x,dx,a,q,cs,rfl,hS4,F,S⟩
   . walk_at "";refine kp _ _ λx dx a q cs H4 hS4 F S=>?_;walk_at "";exact hM _ _ ⟨x,dx,a,q,cs,rfl,hS4,F,S⟩
 rintro σ' H4 ⟨x,dx,a,q,cs,rfl,hS4,F,S⟩;clear hS3;have hx:=S.hx;walk_at "";intro rm nrm;have s5:=Same.new (o:=.tup [.str (Bm i),.int n,.int sh]) nrm;have hrm5:upd H4 rm (.tup [.str (Bm i),.int n,.int sh]) rm=some (.tup [.str (Bm i),.int n,.int sh]):=upd_same;generalize upd H4 rm (.tup [.str (Bm i),.int n,.int sh])=H5 at s5 hrm5 ⊢;walk_at "";intro kd nkd;have s6:=Same.new (o:=.dK []) nkd;have hkd6:upd H5 kd (.dK []) kd=some (.dK []):=upd_same;generalize upd H5 kd (.dK [])=H6 at s6 hkd6 ⊢;have hxr:x≠rm:=λe=>by rw[e,nrm] at hx;cases hx
 have har:a≠rm:=λe=>by have:=S.ha;rw[e,nrm] at this;cases this
 have hkr:kd≠rm:=λe=>by rw[e,hrm5] at nkd;cases nkd
 have hrm6:=s6 rm _ hrm5;have S6:=(S.same s5).same s6;have hS6:=s6.seq (s5.seq hS4);have U0:Us (cF Ag Ah Ae Ai Y6 Y4 Aj) (upd (λ_=>none) rm (.tup [.str (Bm i),.int n,.int sh])) i n sh x dx kd rm a q cs [] H6:=Us.new F S6 n4 h1 h4 upd_same hkd6 (λb o h=>by
   by_cases e:b=rm
   . rw[e,upd_same] at h;rw[e,hrm6];exact h
   . rw[AI e] at h;cases h) (K0 (dn hxr) rfl) (K0 (dn har) rfl) (K0 (dn hkr) rfl)
 walk_at "";refine⟨_,i,n,sh,x,dx,kd,rm,a,q,cs,[],rfl,U0,λH7 s7=>?_⟩;have hS7:=s7.seq hS6;walk_at "";intro d H8 nd8 s8 hd8;generalize xo ns (some 3) (some 203)=dr at hd8;have s68:=s7.trans s8;have ne:∀{b:uH}{o:HO},H6 b=some o->b≠d:=λh e=>by rw[e] at h;rw[s7 d _ h] at nd8;cases nd8
 have U:Us (cF Ag Ah Ae Ai Y6 Y4 Aj) (upd (upd (λ_=>none) rm (.tup [.str (Bm i),.int n,.int sh])) d (.lst (dr.map V.int))) i n sh x dx kd rm a q cs [] H8:=Us.new F (S6.same s68) n4 h1 h4 (look_ne (ne hrm6) upd_same) (s68 kd _ hkd6) (λb o h=>by
   by_cases e:b=d
   . rw[e,upd_same] at h;rw[e,hd8];exact h
   . rw[AI e] at h;exact s68 b o (U0.sm b o h)) (K0 (dn (ne S6.hx)) U0.nx) (K0 (dn (ne S6.ha)) U0.na) (K0 (dn (ne hkd6)) U0.nk)
 clear ne s68 nd8 s8 hd8 hS7 s7 U0 hS6 S6 hrm6 hkr har hxr hkd6 s6 nkd s5 hrm5 nrm hx S F hS4;refine⟨d,rfl,⟨_,SqL.of (U.sm d _ upd_same)⟩,Ey (K:=K) (a:=d) (xs:=dr.map V.int) (LwW (cF Ag Ah Ae Ai Y6 Y4 Aj) (upd (upd (λ_=>none) rm (.tup [.str (Bm i),.int n,.int sh])) d (.lst (dr.map V.int))) i n sh x dx kd rm (some (.ref sc))) ⟨a,q,cs,[],_,rfl,U⟩ (λi σ H2 _ ⟨_,_,_,_,_,_,U⟩=>SqL.of (U.sm d _ upd_same)) ?_ ?_⟩
 . rintro j y σ H9 hi ⟨a5,q5,cs5,kvs5,x1,rfl,U5⟩;obtain⟨c5,rfl⟩:∃c,y=V.int c:=by
     rw[cr] at hi;obtain⟨c,_,e⟩:=dj.mp hi;exact⟨c,e.symm⟩
   walk_at "";refine⟨_,i,n,sh,x,dx,kd,rm,a5,q5,cs5,kvs5,c5,rfl,U5,λa6 q6 cs6 kvs6 H10 U6=>?_⟩;walk_at "";refine⟨_,i,n,sh,x,dx,kd,rm,a6,q6,cs6,kvs6,rfl,U6,λH11 s11=>?_⟩;walk_at "";exact⟨a6,q6,cs6,kvs6,_,rfl,U6.same s11⟩
 rintro σ H9 ⟨a5,q5,cs5,kvs5,x1,rfl,U5⟩;walk_at "";exact kk _
end
abbrev LkF(K:δ)(x q:Str)(s:uO)(D:uG)(f:uH)(oc:uG)(od:Option uH)(kV dc pm:uG)(an:Option uH)(cd ct:uG)(sl:Array (Option uG)):Prop:=K.lookup f=some ⟨oc,od,.func (fnOf x q (A1 s) (AZ s) (An s) D kV dc pm an cd ct),sl⟩
set_option autoImplicit true in
set_option relaxedAutoImplicit true in
theorem all_mk{l:mi}{w:uL}{K:δ}{h:vq}{mg:Str->Option uG}{fa:uH}(X:K.In h)(G:h.Ns ve mg)(hfa:mg "law"=some (.ref fa))
   {Ee:uH}
   {JQ:Tok}
   {E9:uG}
   {Fa:Option uH}
   {Fb:Nat}
   {Fc:Array (Option uG)}
   {Y0 Dk A5 Y5 Y9 Y3 Y8 C8 Y2 AT Y7 Y6 Aj Y4 Y1 Ag Ah Ae Ai:uH}
   {Ef:uH}
   {JR:Tok}
   {Fd:uG}
   {Fe:Option uH}
   {Ff:Nat}
   {Fg:Array (Option uG)}
   {Eg:uH}
   {JS:Tok}
   {Fh:uG}
   {Fi:Option uH}
   {Fj:Nat}
   {Fk:Array (Option uG)}
   {Eh:uH}
   {JT:Tok}
   {Fl:uG}
   {Fm:Option uH}
   {Fn:Nat}
   {Fo:Array (Option uG)}
   {Ei:uH}
   {JU:Tok}
   {Fp:uG}
   {Fq:Option uH}
   {Fr:Nat}
   {Fs:Array (Option uG)}
   {Ej:uH}
   {JV:Tok}
   {Ft:uG}
   {Fu:Option uH}
   {Fv:Nat}
   {Fw:Array (Option uG)}
   {Ek:uH}
   {JW:Tok}
   {Fx:uG}
   {Fy:Option uH}
   {Fz:Nat}
   {FA:Array (Option uG)}
   {El:uH}
   {JX:Tok}
   {FC:uG}
   {FD:Option uH}
   {FE:Nat}
   {FF:Array (Option uG)}
   (T:Txt K mg Y0 Dk A5 Y5 Y9 Y3 Y8 C8 Y2 AT Y7 Y6 Aj Y4 Y1 Ag Ah Ae Ai j8 j9)
   (Ul:Src K mg "_wall" TW)
   (NO:Src K mg "check_ask" QF)
   (Um:Src K mg "check_plain_ask" EK)
   (NP:Src K mg "mark_of" QG)
   (NQ:Src K mg "long_of" QH)
   (NR:Src K mg "live_of" QI)
   (NS:Src K mg "can_begin" QJ)
   (NT:Src K mg "bad_of_piece" QK)
   (NU:Src K mg "looked" QL)
   (NV:Src K mg "fresh_room" QM)
   (JY:Src K mg "laid" QN)
   (NW:Src K mg "laid_free" QO)
   (NX:Src K mg "piece_at" QP)
   (NY:Src K mg "live_at" QQ)
   (NZ:Src K mg "free_at" QR)
   (N1:Src K mg "begin_around" QS)
   (N2:Src K mg "free_begin" QT)
   (N3:Src K mg "free_end" QU)
   (N4:Src K mg "cut_out" QW)
   (JZ:Src K mg "freed" QX)
   (N5:Src K mg "joined_pieces" QZ)
   (N6:Src K mg "joined" Q0)
   (N7:Src K mg "carried" Q2)
   (N8:Src K mg "is_power" Q3)
   (N9:Src K mg "block_for" Q4)
   (Oa:Src K mg "least_free" Q5)
   (Ob:Src K mg "cut_down" Q7)
   (Uo:Src K mg "grown_together" EL)
   (Oc:Src K mg "all_whole" Q9)
   (Od:Src K mg "begin_of" Ra)
   (Oe:Src K mg "whole_ones" Rb)
   (Of:Src K mg "free_slots" Rc)
   (Og:Src K mg "cut_for" Re)
   (Oh:Src K mg "with_slot" Rg)
   (Oi:Src K mg "has_live" Rh)
   (Oj:Src K mg "first_place" Ri)
   (Ol:Src K mg "spots_for" Rj)
   (Om:Src K mg "least_place" Rl)
   (On:Src K mg "stretches_of" Rm)
   (Oo:Src K mg "_law_cell_at" Rn)
   (Op:Src K mg "_law_whole" Ro)
   (Oq:Src K mg "_law_plain" Rp)
   (Os:Src K mg "_law_walk" Rq)
   (Ot:Src K mg "_law_block" Rr)
   (Ou:Src K mg "_law_halves" Rs)
   (Ov:Src K mg "_law_one_shelf" Rt)
   (Ow:Src K mg "_law_shaped" Rv)
   (Ox:Src K mg "_law_narrow" Rx)
   (Oy:Src K mg "_law_stays" Ry)
   (Oz:Src K mg "_law_done" Rz)
   (OA:Src K mg "_law_tried" RA)
   (J0:Src K mg "_law_new" RB)
   (OB:Src K mg "_law_right" RC)
   (OC:Src K mg "_law_step" RD)
   (OD:nI K "keeper_of" j6)
   (OE:LkF K "keeper_of" "keeper_of" EB (.ref Ee) j6 u6 u7 u8 u9 v2 v3 k8 v4 v5)
   (J1:K.lookup Ee=some ⟨E9,Fa,.seq [.int 8 JQ].toArray Fb,Fc⟩)
   (OF:cI K k8 "keeper_of")
   (OG:kI K j6)
   (a_law:nI K "law" f_law)
   (l_law:LkF K "law" "law" IO .none f_law oc_law od_law kV_law dc_law pm_law an_law cd_law ct_law sl_law)
   (c_law:cI K cd_law "law")
   (k_law:kI K f_law)
   (rX:nI K "Broken" Y5)
   (rY:K.lookup Y5=some (excClassObj zeW zeX Y5 N_Broken zeY zcw zeZ zfa zep zfb zeq zfc zfd zfe zff zfg zfh zcx))
   (rZ:excIn K Y0 [.type "ValueError",.type "Exception",.type "BaseException",.type "object"] "ValueError.__new__"=true)
   (sB:kI K Y5)
   (Up:fI K Y5 "__init__" v6)
   (iD:LkF K "__init__" "Broken.__init__" RF .none v6 zaY zcz zcA zcB zcC zcD zaZ zcE zcF)
   (sC:cI K zaZ "Broken.__init__")
   (sD:kI K v6)
   (sE:zcw = .ref Y0::[.type "ValueError",.type "Exception",.type "BaseException",.type "object"])
   (sF:zcx="ValueError.__new__")
   (sG:zaY = .type "function")
   (Uq:findCls K (.ref Y7) (.type "type") "__init__"=some (.val (.ref j7)))
   (K1:LkF K "__init__" "Keeper.__init__" EQ .none j7 zcJ zcK zcL zcM zcN zcO zba zcP zcQ)
   (K2:cI K zba "Keeper.__init__")
   (GF:kI K j7)
   (sH:specialIn K (.ref Y7) "__getattribute__"=some (some (.builtin "type.__getattribute__")))
   (sI:readsIn K Y7 (.type "type")=true)
   (Ur:fI K Ag "__init__" j7)
   (Sk:iI K j7)
   (sJ:makesIn K Ag=true)
   (sK:kI K Ag)
   (Ut:fI K Ah "__init__" j7)
   (sL:makesIn K Ah=true)
   (sM:kI K Ah)
   (Uu:fI K Ai "__init__" j7)
   (sN:makesIn K Ai=true)
   (sO:kI K Ai)
   (Uv:fI K Aj "__init__" j7)
   (mk_Row:makesIn K Aj=true)
   (kp_Row:kI K Aj)
   (Uw:findCls K (.ref Y1) (.type "type") "__init__"=some (.val (.ref j7)))
   (sP:specialIn K (.ref Y1) "__getattribute__"=some (some (.builtin "type.__getattribute__")))
   (sQ:readsIn K Y1 (.type "type")=true)
   (Ux:fI K Ae "__init__" v7)
   (sR:LkF K "__init__" "Next.__init__" RG .none v7 zdz zdA zdB zdC zdD zdE zbt zdF zdG)
   (sS:cI K zbt "Next.__init__")
   (sT:kI K v7)
   (sU:iI K v7)
   (sV:makesIn K Ae=true)
   (sW:kI K Ae)
   (Uy:fI K Y6 "room_begin" e7)
   (sX:fI K Y4 "room_begin" e7)
   (Uz:fI K Aj "room_begin" e7)
   (UA:LkF K "room_begin" "Keeper.room_begin" ER .none e7 oc_Z5 od_Z5 kV_Z5 dc_Z5 pm_Z5 an_Z5 r6 ct_Z5 sl_Z5)
   (UB:cI K r6 "Keeper.room_begin")
   (FG:kI K e7)
   (Em:iI K e7)
   (sY:fI K Ag "room_begin" f6)
   (sZ:fI K Ah "room_begin" f6)
   (tD:fI K Ai "room_begin" f6)
   (UC:LkF K "room_begin" "Stretches.room_begin" ES .none f6 oc_Z1 od_Z1 kV_Z1 dc_Z1 pm_Z1 an_Z1 r9 ct_Z1 sl_Z1)
   (UD:cI K r9 "Stretches.room_begin")
   (FH:kI K f6)
   (En:iI K f6)
   (UE:fI K Ae "room_begin" k9)
   (UF:LkF K "room_begin" "Next.room_begin" ET .none k9 oc_Z7 od_Z7 kV_Z7 dc_Z7 pm_Z7 an_Z7 t7 ct_Z7 sl_Z7)
   (UG:cI K t7 "Next.room_begin")
   (OH:kI K k9)
   (OI:iI K k9)
   (UH:fI K Ag "lay" a7)
   (UI:fI K Ah "lay" a7)
   (UJ:fI K Ae "lay" a7)
   (UK:fI K Ai "lay" a7)
   (UL:fI K Y6 "lay" a7)
   (UM:fI K Y4 "lay" a7)
   (UN:fI K Aj "lay" a7)
   (OJ:LkF K "lay" "Keeper.lay" RJ .none a7 v8 v9 w6 w9 y6 y7 l7 y8 y9)
   (OK:cI K l7 "Keeper.lay")
   (BI:kI K a7)
   (Be:iI K a7)
   (UO:fI K Ag "pieces" a8)
   (UP:fI K Ah "pieces" a8)
   (UQ:fI K Ae "pieces" a8)
   (UR:fI K Ai "pieces" a8)
   (US:fI K Y6 "pieces" a8)
   (UT:fI K Y4 "pieces" a8)
   (UU:fI K Aj "pieces" a8)
   (OL:LkF K "pieces" "Keeper.pieces" RK .none a8 z5 z6 z7 z8 z9 an_Z14 l8 ct_Z14 sl_Z14)
   (OM:cI K l8 "Keeper.pieces")
   (BJ:kI K a8)
   (Bf:iI K a8)
   (UV:fI K Ag "cells" a9)
   (UW:fI K Ah "cells" a9)
   (UX:fI K Ae "cells" a9)
   (UY:fI K Ai "cells" a9)
   (UZ:fI K Y6 "cells" a9)
   (U8:fI K Y4 "cells" a9)
   (Va:fI K Aj "cells" a9)
   (ON:LkF K "cells" "Keeper.cells" RL .none a9 oc_Z16 od_Z16 kV_Z16 dc_Z16 pm_Z16 an_Z16 l9 ct_Z16 sl_Z16)
   (OO:cI K l9 "Keeper.cells")
   (BK:kI K a9)
   (Bg:iI K a9)
   (Vb:fI K Y6 "__init__" zar)
   (tE:LkF K "__init__" "Halves.__init__" RH .none zar zcT zcU zcV zcW zcX zcY zbb zcZ zda)
   (tF:cI K zbb "Halves.__init__")
   (tG:kI K zar)
   (tH:iI K zar)
   (tJ:makesIn K Y6=true)
   (tK:kI K Y6)
   (OP:fI K Y6 "ask" f7)
   (OQ:LkF K "ask" "Halves.ask" EU (.ref Ef) f7 oc_Z41 od_Z41 kV_Z41 dc_Z41 pm_Z41 an_Z41 m6 ct_Z41 sl_Z41)
   (J3:K.lookup Ef=some ⟨Fd,Fe,.seq [.int 1 JR].toArray Ff,Fg⟩)
   (OR:cI K m6 "Halves.ask")
   (GG:kI K f7)
   (J4:iI K f7)
   (Vc:fI K Y4 "__init__" zap)
   (tL:LkF K "__init__" "Shelves.__init__" RI .none zap zbS zbT zbU zbV zbW zbX zaQ zbY zbZ)
   (tM:cI K zaQ "Shelves.__init__")
   (tN:kI K zap)
   (tO:iI K zap)
   (tP:makesIn K Y4=true)
   (tQ:kI K Y4)
   (OS:fI K Y4 "ask" f8)
   (OT:LkF K "ask" "Shelves.ask" EV (.ref Eg) f8 oc_Z28 od_Z28 kV_Z28 dc_Z28 pm_Z28 an_Z28 m7 ct_Z28 sl_Z28)
   (J5:K.lookup Eg=some ⟨Fh,Fi,.seq [.int 1 JS].toArray Fj,Fk⟩)
   (OU:cI K m7 "Shelves.ask")
   (GH:kI K f8)
   (J6:iI K f8)
   (OV:fI K Aj "ask" f9)
   (OW:LkF K "ask" "Row.ask" EW (.ref Eh) f9 oc_Z76 od_Z76 kV_Z76 dc_Z76 pm_Z76 an_Z76 m8 ct_Z76 sl_Z76)
   (J7:K.lookup Eh=some ⟨Fl,Fm,.seq [.int 1 JT].toArray Fn,Fo⟩)
   (OX:cI K m8 "Row.ask")
   (GI:kI K f9)
   (J8:iI K f9)
   (OY:fI K Ag "chosen" g8)
   (OZ:LkF K "chosen" "First.chosen" RP .none g8 oc_Z20 od_Z20 kV_Z20 dc_Z20 pm_Z20 an_Z20 n5 ct_Z20 sl_Z20)
   (O0:cI K n5 "First.chosen")
   (GJ:kI K g8)
   (J9:iI K g8)
   (O1:fI K Ah "chosen" g9)
   (O2:LkF K "chosen" "Best.chosen" RQ .none g9 oc_Z26 od_Z26 kV_Z26 dc_Z26 pm_Z26 an_Z26 n6 ct_Z26 sl_Z26)
   (O3:cI K n6 "Best.chosen")
   (GK:kI K g9)
   (Ka:iI K g9)
   (O4:fI K Ae "chosen" i3)
   (O5:LkF K "chosen" "Next.chosen" RS .none i3 oc_Z27 od_Z27 kV_Z27 dc_Z27 pm_Z27 an_Z27 n8 ct_Z27 sl_Z27)
   (O6:cI K n8 "Next.chosen")
   (GL:kI K i3)
   (Kb:iI K i3)
   (O7:fI K Ai "chosen" i4)
   (O8:LkF K "chosen" "Likes.chosen" RT .none i4 oc_Z18 od_Z18 kV_Z18 dc_Z18 pm_Z18 an_Z18 n9 ct_Z18 sl_Z18)
   (O9:cI K n9 "Likes.chosen")
   (GM:kI K i4)
   (Kc:iI K i4)
   (tR:fI K Ag "room_granted" i5)
   (tS:fI K Ah "room_granted" i5)
   (tT:fI K Ai "room_granted" i5)
   (Vd:LkF K "room_granted" "Stretches.room_granted" EY .none i5 oc_Z0 od_Z0 kV_Z0 dc_Z0 pm_Z0 an_Z0 t8 ct_Z0 sl_Z0)
   (Ve:cI K t8 "Stretches.room_granted")
   (FI:kI K i5)
   (Eo:iI K i5)
   (Vf:fI K Ae "room_granted" o0)
   (Vg:LkF K "room_granted" "Next.room_granted" EZ .none o0 oc_Z3 od_Z3 kV_Z3 dc_Z3 pm_Z3 an_Z3 t9 ct_Z3 sl_Z3)
   (Vh:cI K t9 "Next.room_granted")
   (Pa:kI K o0)
   (Pb:iI K o0)
   (Vi:fI K Ag "ask" d6)
   (Vj:fI K Ah "ask" d6)
   (Vk:fI K Ae "ask" d6)
   (Vl:fI K Ai "ask" d6)
   (Pd:LkF K "ask" "Stretches.ask" E1 (.ref Ei) d6 oc_Z11 od_Z11 kV_Z11 dc_Z11 pm_Z11 an_Z11 o2 ct_Z11 sl_Z11)
   (Kd:K.lookup Ei=some ⟨Fp,Fq,.seq [.int 1 JU].toArray Fr,Fs⟩)
   (Pe:cI K o2 "Stretches.ask")
   (CK:kI K d6)
   (Cr:iI K d6)
   (Vm:fI K Ag "many" b4)
   (Vn:fI K Ah "many" b4)
   (Vo:fI K Ae "many" b4)
   (Vp:fI K Ai "many" b4)
   (Vq:fI K Y6 "many" b4)
   (Vr:fI K Y4 "many" b4)
   (Vs:fI K Aj "many" b4)
   (Pf:LkF K "many" "Keeper.many" RU .none b4 oc_Z24 od_Z24 kV_Z24 dc_Z24 pm_Z24 an_Z24 o4 ct_Z24 sl_Z24)
   (Pg:cI K o4 "Keeper.many")
   (BL:kI K b4)
   (Bh:iI K b4)
   (Vt:fI K Ag "room_cell_of" d5)
   (Vu:fI K Ah "room_cell_of" d5)
   (Vv:fI K Ae "room_cell_of" d5)
   (tU:fI K Ai "room_cell_of" d5)
   (tV:fI K Y6 "room_cell_of" d5)
   (tW:fI K Y4 "room_cell_of" d5)
   (Vw:fI K Aj "room_cell_of" d5)
   (Vx:LkF K "room_cell_of" "Keeper.room_cell_of" E2 .none d5 oc_Z2 od_Z2 kV_Z2 dc_Z2 pm_Z2 an_Z2 u0 ct_Z2 sl_Z2)
   (Vy:cI K u0 "Keeper.room_cell_of")
   (CL:kI K d5)
   (Cd:iI K d5)
   (Vz:fI K Ag "put" b5)
   (VA:fI K Ah "put" b5)
   (VB:fI K Ae "put" b5)
   (VC:fI K Ai "put" b5)
   (VD:fI K Y6 "put" b5)
   (VE:fI K Y4 "put" b5)
   (VF:fI K Aj "put" b5)
   (Ph:LkF K "put" "Keeper.put" RW .none b5 oc_Z43 od_Z43 kV_Z43 dc_Z43 pm_Z43 an_Z43 o5 ct_Z43 sl_Z43)
   (Pi:cI K o5 "Keeper.put")
   (BM:kI K b5)
   (Bi:iI K b5)
   (VG:fI K Ag "get" c7)
   (VH:fI K Ah "get" c7)
   (VI:fI K Ae "get" c7)
   (VJ:fI K Ai "get" c7)
   (VL:fI K Y6 "get" c7)
   (VM:fI K Y4 "get" c7)
   (VN:fI K Aj "get" c7)
   (Pj:LkF K "get" "Keeper.get" RX .none c7 oc_Z33 od_Z33 kV_Z33 dc_Z33 pm_Z33 an_Z33 o6 ct_Z33 sl_Z33)
   (Pk:cI K o6 "Keeper.get")
   (BN:kI K c7)
   (Bj:iI K c7)
   (VO:fI K Ag "give" e5)
   (VP:fI K Ah "give" e5)
   (VQ:fI K Ae "give" e5)
   (VR:fI K Ai "give" e5)
   (VS:LkF K "give" "Stretches.give" E3 .none e5 oc_Z9 od_Z9 kV_Z9 dc_Z9 pm_Z9 an_Z9 u4 ct_Z9 sl_Z9)
   (VT:cI K u4 "Stretches.give")
   (Ep:kI K e5)
   (DM:iI K e5)
   (Pl:fI K Aj "give" i6)
   (Pm:LkF K "give" "Row.give" RY .none i6 oc_Z59 od_Z59 kV_Z59 dc_Z59 pm_Z59 an_Z59 o7 ct_Z59 sl_Z59)
   (Pn:cI K o7 "Row.give")
   (GN:kI K i6)
   (Ke:iI K i6)
   (Po:fI K Y6 "give" i7)
   (Pp:LkF K "give" "Halves.give" RZ .none i7 oc_Z29 od_Z29 kV_Z29 dc_Z29 pm_Z29 an_Z29 o8 ct_Z29 sl_Z29)
   (Pq:cI K o8 "Halves.give")
   (GO:kI K i7)
   (Kf:iI K i7)
   (Pr:fI K Y4 "give" i8)
   (Ps:LkF K "give" "Shelves.give" R0 .none i8 oc_Z23 od_Z23 kV_Z23 dc_Z23 pm_Z23 an_Z23 o9 ct_Z23 sl_Z23)
   (Pt:cI K o9 "Shelves.give")
   (GP:kI K i8)
   (Kg:iI K i8)
   (VU:fI K Ag "room_moved" d8)
   (VV:fI K Ah "room_moved" d8)
   (VW:fI K Ae "room_moved" d8)
   (VX:fI K Ai "room_moved" d8)
   (VY:fI K Y6 "room_moved" d8)
   (VZ:fI K Y4 "room_moved" d8)
   (V0:fI K Aj "room_moved" d8)
   (V1:LkF K "room_moved" "Keeper.room_moved" E4 .none d8 oc_Z4 od_Z4 kV_Z4 dc_Z4 pm_Z4 an_Z4 u5 ct_Z4 sl_Z4)
   (V2:cI K u5 "Keeper.room_moved")
   (CM:kI K d8)
   (Ce:iI K d8)
   (V3:fI K Y6 "grow" d9)
   (V4:fI K Y4 "grow" d9)
   (Pu:LkF K "grow" "Keeper.grow" E5 (.ref Ej) d9 oc_Z32 od_Z32 kV_Z32 dc_Z32 pm_Z32 an_Z32 p6 ct_Z32 sl_Z32)
   (Kh:K.lookup Ej=some ⟨Ft,Fu,.seq [.int 1 JV].toArray Fv,Fw⟩)
   (Pw:cI K p6 "Keeper.grow")
   (Er:kI K d9)
   (Es:iI K d9)
   (V5:fI K Aj "grow" i9)
   (Px:LkF K "grow" "Row.grow" E6 (.ref Ek) i9 oc_Z60 od_Z60 kV_Z60 dc_Z60 pm_Z60 an_Z60 p7 ct_Z60 sl_Z60)
   (Ki:K.lookup Ek=some ⟨Fx,Fy,.seq [.int 1 JW].toArray Fz,FA⟩)
   (Py:cI K p7 "Row.grow")
   (GQ:kI K i9)
   (Kj:iI K i9)
   (V6:fI K Ag "grow" d7)
   (V7:fI K Ah "grow" d7)
   (V8:fI K Ae "grow" d7)
   (V9:fI K Ai "grow" d7)
   (Pz:LkF K "grow" "Stretches.grow" E7 (.ref El) d7 oc_Z10 od_Z10 kV_Z10 dc_Z10 pm_Z10 an_Z10 p8 ct_Z10 sl_Z10)
   (Kk:K.lookup El=some ⟨FC,FD,.seq [.int 1 JX].toArray FE,FF⟩)
   (PB:cI K p8 "Stretches.grow")
   (CO:kI K d7)
   (Cs:iI K d7)
   (Wa:fI K Ag "clear" d4)
   (Wb:fI K Ah "clear" d4)
   (Wc:fI K Ae "clear" d4)
   (Wd:fI K Ai "clear" d4)
   (We:fI K Y6 "clear" d4)
   (Wf:fI K Aj "clear" d4)
   (PD:LkF K "clear" "Keeper.clear" R3 .none d4 oc_Z22 od_Z22 kV_Z22 dc_Z22 pm_Z22 an_Z22 p9 ct_Z22 sl_Z22)
   (PF:cI K p9 "Keeper.clear")
   (Cf:kI K d4)
   (BD:iI K d4)
   (Wg:fI K Y4 "clear" j4)
   (PJ:LkF K "clear" "Shelves.clear" R4 .none j4 oc_Z13 od_Z13 kV_Z13 dc_Z13 pm_Z13 an_Z13 q8 ct_Z13 sl_Z13)
   (PK:cI K q8 "Shelves.clear")
   (GR:kI K j4)
   (Kl:iI K j4):
   ∃fd:uJ,(∀(s:uI)(v:uG),BindsTo s fd ⟨[v],[]⟩ [("_law_script",v)])/\∀base:vq,K.In base->base.Ns ve mg->FnOk l.prog w K mg base (CXe l.prog w) 15 fa fd ["_law_script"] (Qf K):=by
 have e:=hfa.symm.trans (mg_of X G a_law);cases e;have PL:=pA (st:=EB) X G OD OE OF OG;subst sE sF sG;have XI_Broken:B_ K mg "Broken" Y5 Y0 v6:=⟨mg_of X G rX,⟨_,_,_,_,_,_,_,_,_,_,_,_,_,_,_,rY⟩,rZ,Up,sB,⟨_,_,_,_,iD,rfl⟩⟩
 refine⟨fnOf "law" "law" (A1 IO) (AZ IO) (An IO) .none kV_law dc_law pm_law an_law cd_law ct_law,λs v=>.of_eq rfl,λbase _ _=>?_⟩;have Bq:=My l.prog w base T NP ;have AC:=Mz l.prog w base T NQ ;have AU:=MA l.prog w base T NR ;have Dl:=MB l.prog w base T AC AU NS;have Dm:=MC l.prog w base T AC Dl NT;have D_Broken:=qJ (P:=l.prog) (w:=w) (base:=base) (A2 iD sC sD) XI_Broken T.pZ;have AA:=MD l.prog w base T AC AU Dm D_Broken NU;have AD:=ME l.prog w base T Bq NV;have Aq:=JB l.prog w base T Bq JY;have A4:=MF l.prog w base T Aq NW;have Do:=MG l.prog w base T N5 ;have B4:=MH l.prog w base T Aq AA Do N6;have B1:=MI l.prog w base T AA NX;have A9:=MJ l.prog w base T B1 NY;have Dp:=MK l.prog w base T B1 NZ;have B8:=ML l.prog w base T Aq Dp A4 N4;have Dq:=MM l.prog w base T AC AU N2;have B3:=MN l.prog w base T AC AU N3;have Cq:=JC l.prog w base T A4 A9 Dq B3 JZ;have DC:=MO l.prog w base T N7 ;have Ba:=MP l.prog w base T NO ;have BB:=Ua l.prog w base T Ba Um;have B5:=MQ l.prog w base T AD (A2 K1 K2 GF) ⟨sH,sI,Uq,GF⟩;have D_First:=qL l.prog w base T AD (A2 K1 K2 GF) ⟨sJ,Ur,Sk,sK⟩;have D_Best:=zZ l.prog w base T AD (A2 K1 K2 GF) ⟨sL,Ut,Sk,sM⟩;have D_Likes:=qM l.prog w base T AD (A2 K1 K2 GF) ⟨sN,Uu,Sk,sO⟩;have D_Row:=d_Row l.prog w base T AD (A2 K1 K2 GF) ⟨mk_Row,Uv,Sk,kp_Row⟩;have Dr:=MR l.prog w base T AD (A2 K1 K2 GF) ⟨sP,sQ,Uw,GF⟩;have D_Next:=zY l.prog w base T Dr (A2 sR sS sT) ⟨sV,Ux,sU,sW⟩;have Km:=JD l.prog w base T (A2 UA UB FG) (λi hi=>by cases i <;> first | exact⟨Uy,Em,FG⟩ | exact⟨sX,Em,FG⟩ | exact⟨Uz,Em,FG⟩ | exact absurd rfl hi | cases hi | exact hi.elim) ;have Kn:=JE l.prog w base T B4 (A2 UC UD FH) (λi hi=>by cases i <;> first | exact⟨sY,En,FH⟩ | exact⟨sZ,En,FH⟩ | exact⟨tD,En,FH⟩ | exact absurd rfl hi | cases hi | exact hi.elim);have Ko:=JF l.prog w base T B4 (A2 UF UG OH) (λi hi=>by cases i <;> first | exact⟨UE,OI,OH⟩ | exact absurd rfl hi | cases hi | exact hi.elim);have D_room_begin:A7 l.prog w K mg base (cF Ag Ah Ae Ai Y6 Y4 Aj) "room_begin" 6 ["self","cells"] [] (MS K (cF Ag Ah Ae Ai Y6 Y4 Aj)):=λi=>by cases i <;> first | exact(Kn _ (by first | exact bh | exact rfl | (intro e;cases e <;> fail) | fail)).up (by decide) | exact(Ko _ (by first | exact bh | exact rfl | (intro e;cases e <;> fail) | fail)).up (by decide) | exact(Km _ (by first | exact bh | exact rfl | (intro e;cases e <;> fail) | fail)).up (by decide)
 have D_lay:=d_lay l.prog w base T AA D_room_begin (A2 OJ OK BI) (EJ (Q:=λC=>wT K C "lay" a7) ⟨UH,Be,BI⟩ ⟨UI,Be,BI⟩ ⟨UJ,Be,BI⟩ ⟨UK,Be,BI⟩ ⟨UL,Be,BI⟩ ⟨UM,Be,BI⟩ ⟨UN,Be,BI⟩);have AV:=MT l.prog w base T AA (A2 OL OM BJ) (EJ (Q:=λC=>wT K C "pieces" a8) ⟨UO,Bf,BJ⟩ ⟨UP,Bf,BJ⟩ ⟨UQ,Bf,BJ⟩ ⟨UR,Bf,BJ⟩ ⟨US,Bf,BJ⟩ ⟨UT,Bf,BJ⟩ ⟨UU,Bf,BJ⟩);have Av:=JG l.prog w base T (A2 ON OO BK) (EJ (Q:=λC=>wT K C "cells" a9) ⟨UV,Bg,BK⟩ ⟨UW,Bg,BK⟩ ⟨UX,Bg,BK⟩ ⟨UY,Bg,BK⟩ ⟨UZ,Bg,BK⟩ ⟨U8,Bg,BK⟩ ⟨Va,Bg,BK⟩) ;have Ds:=MU l.prog w base T N8 ;have D_Halves:=qR l.prog w base T Ds B5 (A2 tE tF tG) ⟨tJ,Vb,tH,tK⟩;have Dt:=MV l.prog w base T N9 ;have Du:=MW l.prog w base T Oa ;have Dv:=MX l.prog w base T Aq Ob;have Et:=JI l.prog w base T BB Dt AV Du Av Dv D_lay (Gx OQ OR GG) J3 ⟨OP,J4,GG⟩;have B7:=MZ l.prog w base T AD Oc;have Bb:=M0 l.prog w base T Od ;have Dw:=M3 l.prog w base T AA Oe;have B6:=M4 l.prog w base T AC AA Bb Of;have Dx:=M5 l.prog w base T Aq Og;have Dy:=M6 l.prog w base T B6 Dw Dx Oh;have D_Shelves:=qV l.prog w base T B5 D_lay B7 (A2 tL tM tN) ⟨tP,Vc,tO,tQ⟩;have GS:=M7 l.prog w base T Aq BB Av D_lay B6 Dy (Gx OT OU GH) J5 ⟨OS,J6,GH⟩;have Eu:=JJ l.prog w base T BB AV Av D_lay B8 (Gx OW OX GI) J7 ⟨OV,J8,GI⟩;have Dz:=M9 l.prog w base T Oj ;have AW:=Na l.prog w base T AA Dz Ol;have AX:=Nb l.prog w base T Om ;have DA:=Nc l.prog w base T AA N1;have PM:=Nd l.prog w base T AW AX (A2 OZ O0 GJ) ⟨OY,J9,GJ⟩;have PN:=Nf l.prog w base T AC AW AX (A2 O2 O3 GK) ⟨O1,Ka,GK⟩;have PP:=Ng l.prog w base T AW AX (A2 O5 O6 GL) ⟨O4,Kb,GL⟩;have PQ:=Nh l.prog w base T AC AW AX (A2 O8 O9 GM) ⟨O7,Kc,GM⟩;have D_chosen:Bu l.prog w K mg base (ok4) (cF Ag Ah Ae Ai Y6 Y4 Aj) "chosen" 6 ["self","long","bound"] [] (KW (cF Ag Ah Ae Ai Y6 Y4 Aj)):=λi hi=>by cases i <;> first | exact PM.up (by decide) | exact PN.up (by decide) | exact PP.up (by decide) | exact PQ.up (by decide) | exact hi.elim
 have Kq:=JK l.prog w base T (A2 Vd Ve FI) (λi hi=>by cases i <;> first | exact⟨tR,Eo,FI⟩ | exact⟨tS,Eo,FI⟩ | exact⟨tT,Eo,FI⟩ | exact absurd rfl hi | cases hi | exact hi.elim) ;have Kr:=JL l.prog w base T (A2 Vg Vh Pa) (λi hi=>by cases i <;> first | exact⟨Vf,Pb,Pa⟩ | exact absurd rfl hi | cases hi | exact hi.elim) ;have D_room_granted:Bu l.prog w K mg base (ok4) (cF Ag Ah Ae Ai Y6 Y4 Aj) "room_granted" 1 ["self","behind"] [] (Sg (cF Ag Ah Ae Ai Y6 Y4 Aj)):=λi hi=>by cases i <;> first | exact(Kq _ (by first | exact bh | exact rfl | (intro e;cases e <;> fail) | fail)).up (by decide) | exact(Kr _ (by first | exact bh | exact rfl | (intro e;cases e <;> fail) | fail)).up (by decide) | exact hi.elim
 have Ev:=JM l.prog w base T Ba B8 D_chosen DA D_room_granted (Gx Pd Pe CK) Kd (λi hi=>by cases i <;> first | exact⟨Vi,Cr,CK⟩ | exact⟨Vj,Cr,CK⟩ | exact⟨Vk,Cr,CK⟩ | exact⟨Vl,Cr,CK⟩ | exact absurd rfl hi | cases hi | exact hi.elim);have D_ask:xr l.prog w K mg base (cF Ag Ah Ae Ai Y6 Y4 Aj) "ask" 8 ["self","count","bound"] [.int 1] (JH (cF Ag Ah Ae Ai Y6 Y4 Aj) Y2 AT):=⟨λi=>by cases i <;> first | exact(Ev.all _ (by first | exact bh | exact rfl | (intro e;cases e <;> fail) | fail)).up (by decide) | exact Et.all.up (by decide) | exact GS.all.up (by decide) | exact Eu.all.up (by decide),λi=>by cases i <;> first | exact(Ev.less _ (by first | exact bh | exact rfl | (intro e;cases e <;> fail) | fail)).up (by decide) | exact Et.less.up (by decide) | exact GS.less.up (by decide) | exact Eu.less.up (by decide)⟩
 have AB:=JN l.prog w base T A9 (A2 Pf Pg BL) (EJ (Q:=λC=>wT K C "many" b4) ⟨Vm,Bh,BL⟩ ⟨Vn,Bh,BL⟩ ⟨Vo,Bh,BL⟩ ⟨Vp,Bh,BL⟩ ⟨Vq,Bh,BL⟩ ⟨Vr,Bh,BL⟩ ⟨Vs,Bh,BL⟩);have B9:=Ni l.prog w base T AB (A2 Vx Vy CL) (EJ (Q:=λC=>wT K C "room_cell_of" d5) ⟨Vt,Cd,CL⟩ ⟨Vu,Cd,CL⟩ ⟨Vv,Cd,CL⟩ ⟨tU,Cd,CL⟩ ⟨tV,Cd,CL⟩ ⟨tW,Cd,CL⟩ ⟨Vw,Cd,CL⟩);have D_put:=d_put l.prog w base T B9 (A2 Ph Pi BM) (EJ (Q:=λC=>wT K C "put" b5) ⟨Vz,Bi,BM⟩ ⟨VA,Bi,BM⟩ ⟨VB,Bi,BM⟩ ⟨VC,Bi,BM⟩ ⟨VD,Bi,BM⟩ ⟨VE,Bi,BM⟩ ⟨VF,Bi,BM⟩);have D_get:=d_get l.prog w base T B9 (A2 Pj Pk BN) (EJ (Q:=λC=>wT K C "get" c7) ⟨VG,Bj,BN⟩ ⟨VH,Bj,BN⟩ ⟨VI,Bj,BN⟩ ⟨VJ,Bj,BN⟩ ⟨VL,Bj,BN⟩ ⟨VM,Bj,BN⟩ ⟨VN,Bj,BN⟩);have PR:=Nj l.prog w base T Cq (A2 VS VT Ep) (λi hi=>by cases i <;> first | exact⟨VO,DM,Ep⟩ | exact⟨VP,DM,Ep⟩ | exact⟨VQ,DM,Ep⟩ | exact⟨VR,DM,Ep⟩ | exact absurd rfl hi | cases hi | exact hi.elim);have PU:=Nk l.prog w base T (A2 Pm Pn GN) ⟨Pl,Ke,GN⟩ ;have E8:=Ud l.prog w base T Uo ;have PV:=Nl l.prog w base T Aq AV Av D_lay AB E8 (A2 Pp Pq GO) ⟨Po,Kf,GO⟩;have DB:=Nm l.prog w base T AA Bb Oi;have PY:=Nn l.prog w base T Aq Av D_lay Bb AB DB (A2 Ps Pt GP) ⟨Pr,Kg,GP⟩;have D_give:A7 l.prog w K mg base (cF Ag Ah Ae Ai Y6 Y4 Aj) "give" 8 ["self","place"] [] (JO (cF Ag Ah Ae Ai Y6 Y4 Aj) Y9):=λi=>by cases i <;> first | exact(PR _ (by first | exact bh | exact rfl | (intro e;cases e <;> fail) | fail)).up (by decide) | exact PV.up (by decide) | exact PY.up (by decide) | exact PU.up (by decide)
 have Ca:=No l.prog w base T AB D_ask DC D_give (A2 V1 V2 CM) (λi hi=>by cases i <;> first | exact⟨VU,Ce,CM⟩ | exact⟨VV,Ce,CM⟩ | exact⟨VW,Ce,CM⟩ | exact⟨VX,Ce,CM⟩ | exact⟨VY,Ce,CM⟩ | exact⟨VZ,Ce,CM⟩ | exact⟨V0,Ce,CM⟩ | exact absurd rfl hi | cases hi | exact hi.elim);have GT:=Np l.prog w base T BB AB Ca (Gx Pu Pw Er) Kh (λi hi=>by cases i <;> first | exact⟨V3,Es,Er⟩ | exact⟨V4,Es,Er⟩ | exact absurd rfl hi | cases hi | exact hi.elim);have GU:=Nq l.prog w base T (Gx Px Py GQ) Ki (λi hi=>by cases i <;> first | exact⟨V5,Kj,GQ⟩ | exact absurd rfl hi | cases hi | exact hi.elim) ;have GW:=Nr l.prog w base T Aq A4 A9 B3 Ba Ca (Gx Pz PB CO) Kk (λi hi=>by cases i <;> first | exact⟨V6,Cs,CO⟩ | exact⟨V7,Cs,CO⟩ | exact⟨V8,Cs,CO⟩ | exact⟨V9,Cs,CO⟩ | exact absurd rfl hi | cases hi | exact hi.elim);have D_grow:xr l.prog w K mg base (cF Ag Ah Ae Ai Y6 Y4 Aj) "grow" 10 ["self","place","count","bound"] [.int 1] (KY (cF Ag Ah Ae Ai Y6 Y4 Aj) Y2 AT Y9):=⟨λi=>by cases i <;> first | exact(GT.all _ (by first | exact bh | exact rfl | (intro e;cases e <;> fail) | fail)).up (by decide) | exact(GU.all _ (by first | exact bh | exact rfl | (intro e;cases e <;> fail) | fail)).up (by decide) | exact(GW.all _ (by first | exact bh | exact rfl | (intro e;cases e <;> fail) | fail)).up (by decide),λi=>by cases i <;> first | exact(GT.less _ (by first | exact bh | exact rfl | (intro e;cases e <;> fail) | fail)).up (by decide) | exact(GU.less _ (by first | exact bh | exact rfl | (intro e;cases e <;> fail) | fail)).up (by decide) | exact(GW.less _ (by first | exact bh | exact rfl | (intro e;cases e <;> fail) | fail)).up (by decide)⟩
 have DD:=Nu l.prog w base T D_First D_Best D_Next D_Likes On;have CI:=Nv l.prog w base T D_Halves D_Shelves D_Row DD PL J1;have PZ:=Nw l.prog w base T AD D_room_begin (A2 PD PF Cf) (λi hi=>by cases i <;> first | exact⟨Wa,BD,Cf⟩ | exact⟨Wb,BD,Cf⟩ | exact⟨Wc,BD,Cf⟩ | exact⟨Wd,BD,Cf⟩ | exact⟨We,BD,Cf⟩ | exact⟨Wf,BD,Cf⟩ | exact absurd rfl hi | cases hi | exact hi.elim);have P0:=Ny l.prog w base T Av D_lay B7 (A2 PJ PK GR) (λi hi=>by cases i <;> first | exact⟨Wg,Kl,GR⟩ | exact absurd rfl hi | cases hi | exact hi.elim);have D_clear:A7 l.prog w K mg base (cF Ag Ah Ae Ai Y6 Y4 Aj) "clear" 8 ["self"] [] (Si (cF Ag Ah Ae Ai Y6 Y4 Aj)):=λi=>by cases i <;> first | exact(PZ _ (by first | exact bh | exact rfl | (intro e;cases e <;> fail) | fail)).up (by decide) | exact(P0 _ (by first | exact bh | exact rfl | (intro e;cases e <;> fail) | fail)).up (by decide)
 have Co:=Nz l.prog w base T Oo ;have Cb:=NA l.prog w base T Op ;have Cc:=NB l.prog w base T Cb Os;have Bc:=NC l.prog w base T Ot ;have DF:=ND l.prog w base T Bc Ou;have BH:=NE l.prog w base T Oq ;have DE:=NF l.prog w base T D_ask D_give D_grow Oz;have DH:=NG l.prog w base T DE OA;have DG:=NH l.prog w base T Ov ;have DK:=NI l.prog w base T DF DG Ow;have DI:=NJ l.prog w base T BH Oy;have DJ:=NK l.prog w base T Bc Ox;have BC:=JP l.prog w base T Av Cb BH DH Cc DI DJ J0;have CJ:=NL l.prog w base T AV Av AB Bc Cc DK OB;have DL:=NM l.prog w base T BC D_clear D_put D_get OC;exact zu l.prog w base T Co CI CJ DL (A2 l_law c_law k_law)
theorem walk{l:mi}{q:uK}{loose:List Str}{XP:(Str->Option uG)->vq->Prop}{YP:uL->vq->Prop}{d:DefRec}{K:vp->δ}(hn:l.most=some 63)(hdf:d.params.defaults=[])
   (hY:∀(w:uL)(h:vq),YP w h->(K w.params).In h)
   (F:∀(w:uL)(mg:Str->Option uG)(fa:uH)(h:vq),(K w.params).In h->h.Ns ve mg->mg d.name=some (.ref fa) ->
     ∃fd:uJ,(∀(s:uI)(u:uG),BindsTo s fd ⟨[u],[]⟩ [("_law_script",u)])/\∀base:vq,(K w.params).In base->base.Ns ve mg->FnOk l.prog w (K w.params) mg base (CXe l.prog w) 15 fa fd ["_law_script"] (Qf (K w.params))):
   rb q loose XP YP l.row.toRowW d [] (λf vs=>qv f vs):=
 L2.walk_of (n:=63) (k:=15) (x:="_law_script") (CX:=λw=>(CXe l.prog w)) (sp:=λw=>Qf (K w.params)) hn (by decide) hdf ⟨rfl,by decide,by decide⟩ hY F (λ_ _ a ns hl _ hS=>⟨a,ns,rfl,hS,hl,λ_=>rfl⟩) (λ_ _ _ _ _ ⟨_,_,_,_,_,_,_,_,_,_,_,_,_,_,_,z⟩=>z)
end Stow
open PySem PySem.W PyProof.Rows
set_option maxHeartbeats 0 in
theorem PySem.Challenge.cw_stow_k91_whole_every_keeper_holds : PySem.Challenge.rw_stow_k91_whole_every_keeper.Holds := by
 w_on;refine PySem.W.holds_law Stow.said0 λ_=>?_
 refine holds_open (XP:=λ_ _=>True) (YP:=InK Stow.heap0) Stow.left0 ?y (InK.keeps (K:=Stow.heap0)) (λ_ _=>trivial) (λ_ _ _ h _=>h) rfl rfl rfl (λ_ e=>recFacts_of e) rfl
   (by assumption) Stow.said2 ⟨rfl,rfl,rfl,rfl,rfl,Stow.said1⟩ ?hw ?hc
 case y=>exact InK.of Stow.at0_eq
 case hw=>w_witness2
 k_fill
 refine Stow.walk (l:=PySem.Challenge.rw_stow_k91_whole_every_keeper) rfl rfl (λw h Y=>Y) ?F
 case F=>
   intro w mg fa h KX G hmg
   apply Stow.all_mk KX G hmg
   constructor
   iterate 9 (refine PySem.W.mg_none_of KX G ?_;k_is)
   iterate 21 (refine mg_of KX G ?_;k_is)
   iterate 8 (exact ⟨mg_of KX G (by k_is),_,_,_,_,(by k_exc),fu,fu.hasBase⟩)
   (refine ⟨?_,?_,?_,?_⟩;k_is;k_is;k_is;k_is)
   (change _=_;k_is)
   (refine ⟨?_,?_,?_,?_⟩;k_is;k_is;k_is;k_is)
   (change _=_;k_is)
   (refine ⟨?_,?_,?_,?_⟩;k_is;k_is;k_is;k_is)
   iterate 2 (change _=_;k_is)
   (refine ⟨?_,?_,?_,?_⟩;k_is;k_is;k_is;k_is)
   (change _=_;k_is)
   (refine ⟨?_,?_,?_,?_⟩;k_is;k_is;k_is;k_is)
   (change _=_;k_is)
   (refine ⟨?_,?_,?_,?_⟩;k_is;k_is;k_is;k_is)
   iterate 2 (change _=_;k_is)
   (refine ⟨?_,?_,?_,?_⟩;k_is;k_is;k_is;k_is)
   (change _=_;k_is)
   exact ⟨(by k_is),⟨_,(by k_is),(by decide +kernel),(by rfl)⟩,(by k_is),(by k_is)⟩
   iterate 6 (exact ⟨_,_,⟨_,_,_,_,_,_,_,_,_,_,_,_,_,_,_,_,(by k_is)⟩,⟨_,_,_,_,_,_,_,_,_,_,_,_,_,_,_,_,(by k_is)⟩,(by decide +kernel),(by decide +kernel)⟩)
   iterate 54 (exact Stow.kF KX G (by k_is) (by k_is) (by k_is) (by k_is))
   iterate 11 ((first|unfold Stow.LkF|unfold Stow.nI|unfold Stow.fI|unfold Stow.cI|unfold Stow.kI|unfold Stow.iI|skip);k_is)
   (k_exc)
   iterate 5 ((first|unfold Stow.LkF|unfold Stow.nI|unfold Stow.fI|unfold Stow.cI|unfold Stow.kI|unfold Stow.iI|skip);k_is)
   iterate 3 (rfl)
   iterate 269 ((first|unfold Stow.LkF|unfold Stow.nI|unfold Stow.fI|unfold Stow.cI|unfold Stow.kI|unfold Stow.iI|skip);k_is)
