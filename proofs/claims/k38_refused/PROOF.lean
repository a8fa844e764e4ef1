import PyProof.Rows.All
import Wide.All
import OpenK.AllK
import Wide.FinOn
import Lean
import PyProof.EqAt
import PyProof.EqKinds
import PyProof.TupleCall
import PyProof.NeKinds
import PyProof.StationsW
import PyProof.RulesAs
import PyProof.ExcClass3
import PyProof.ExcInit
import PyProof.ExcArgsOwn
import PyProof.IsiH_set
import PyProof.NsDelKeeps
import PyProof.CompFree
import PySem.Challenge.RW_stow_k38_refused
set_option Elab.async false
set_option compiler.extract_closed false
set_option linter.all false
set_option maxRecDepth 100000
set_option maxHeartbeats 4000000
namespace L2
open PySem PySem.Spec PyProof.Rows
def Xah (s:Stmt)(j:Nat):Stmt:=match s with
 | .ClassDef _ _ _ body _ _ _ _ _ _ _=>body.getD j (.Pass ⟨0,0,0,0⟩)
 | _=>.Pass ⟨0,0,0,0⟩
def Xbf (s:Stmt):Arguments:=match s with
 | .FunctionDef _ a _ _ _ _ _ _ _ _=>a
 | _=>{ posonlyargs:=[],args:=[],vararg:=none,kwonlyargs:=[],kw_defaults:=[],kwarg:=none,defaults:=[] }
def Xaz (s:Stmt):List Stmt:=match s with
 | .FunctionDef _ _ b _ _ _ _ _ _ _=>b
 | _=>[]
def Xad (s:Stmt):Scope:=match s with
 | .FunctionDef _ _ _ _ _ _ sc _ _ _=>sc
 | _=>{ kind:=.function,names:=[],isGenerator:=false,isCoroutine:=false }
end L2
namespace Stow
open PySem L2 PyProof.Rows
abbrev bN (o:Obj)(l r:PySem.W.BT):PySem.W.BT:=.node o l r
abbrev bF (o:Obj):PySem.W.BT:=.node o .nil .nil
noncomputable section
def top (i:Nat):Stmt:=PySem.Challenge.pw_stow_k38_refused.main.body.getD i (.Pass ⟨0,0,0,0⟩)
noncomputable def en (P:Params)(s:Str)(t:Tok)(v:Value):DictEntry:=⟨PyData.keyHash P s,.str s t,v⟩
noncomputable def fo (nm qn:Str)(st:Stmt)(dV kV dc pm:Value)(an:Option Addr)(cd ct:Value)(od:Option Addr):Obj:=⟨.type "function",od,.func (PySem.W.fnOf nm qn (Xbf st) (Xaz st) (Xad st) dV kV dc pm an cd ct),#[]⟩
noncomputable def fq (nm qn:Str)(st:Stmt):Obj:=⟨.none,none,.func { name:=nm,qualname:=qn,params:=Xbf st,body:=.stmts (Xaz st),scope:=Xad st,globals:=0,closure:=[],defaults:=.none,kwdefaults:=.none },#[]⟩
noncomputable def tu (l:List Value):Obj:=⟨(.type "tuple"),none,.seq l.toArray 0,#[]⟩
noncomputable def fl (l:List Value):Obj:=⟨.none,none,.fields l.toArray,#[]⟩
noncomputable def co (l:List Value):Obj:=⟨(.type "code"),none,.fields l.toArray,#[]⟩
noncomputable abbrev vI (n:Int):Value:=.int n 0
noncomputable abbrev vR (n:Addr):Value:=.ref n
noncomputable abbrev cp (a b:Str)(t:Tok)(l:List Value):Obj:=co ((.str a t)::(.str b (t+1))::(.str "/claim/cut.py" (t+2))::l)
noncomputable def xk0 (a b:Str)(t:Tok)(l n x:Int)(r:Addr)(u:Int)(v:Tok):Obj:=cp a b t (vI l::vI n::vI 0::vI 0::vI x::vR r::(.bool false)::vI 181::vR (r+1)::.none::.none::.none::.none::vI u::vI l::(.str "/claim/cut.py" v)::[])
noncomputable def xfm0 (l:List (Option Value)):Obj:=⟨(.type "frame"),none,.plain,l.toArray⟩
noncomputable def xbi0 (l:List Value):Obj:=⟨(.type "builtin_function_or_method"),none,.fields l.toArray,#[]⟩
noncomputable def xsu0 (l:List Value):Obj:=⟨(.type "super"),none,.fields l.toArray,#[]⟩
noncomputable def xk1 (a b:Str)(t:Tok)(l n x:Int)(r:Addr)(u:Int)(v:Tok):Obj:=cp a b t (vI l::vI n::vI 0::vI 0::vI x::vR r::(.bool true)::vI 181::vR (r+1)::.none::vR (r+2)::vR (r+3)::vR (r+4)::vI u::vI l::(.str "/claim/cut.py" v)::[])
noncomputable def ho0:Obj:=⟨(.type "tuple"),none,.seq #[] 0,#[]⟩
noncomputable def ho1:Obj:=⟨.none,none,.fields #[],#[]⟩
def ho2:Obj:=xk0 "<module>" "<module>" 182 1 0 0 11 185 186
def ho3:Obj:=xfm0 ((some (.ref 13))::(some (.ref 3))::(some (.ref 3))::none::(some (.str "__main__" 164))::none::(some (.ref 0))::[])
def ho4 (P:Params):Obj:=⟨(.type "dict"),none,.dict (en P "__name__" 165 (.str "stow.errors" 187)::en P "__doc__" 166 .none::en P "__package__" 167 .none::en P "__loader__" 168 (.builtin "__main__.__loader__#opaque")::en P "__spec__" 169 .none::en P "__annotations__" 170 (.ref 6)::en P "__builtins__" 171 (.ref 4)::en P "__file__" 173 (.str "/claim/cut.py" 172)::en P "__cached__" 174 .none::en P "StowError" 206 (.ref 24)::en P "NoName" 222 (.ref 37)::en P "NoSize" 238 (.ref 49)::en P "Broken" 263 (.ref 68)::en P "NoGive" 279 (.ref 80)::en P "NoHandle" 295 (.ref 92)::en P "NoPiece" 311 (.ref 104)::en P "NoCell" 327 (.ref 116)::[]).toArray 17,#[]⟩
def ho5:Obj:=fl (vI 2::vI 0::vR 20::vI 4::vI 0::vR 33::vI 6::vI 0::vR 45::vI 8::vI 0::vR 57::vI 12::vI 0::vR 76::vI 14::vI 0::vR 88::vI 16::vI 0::vR 100::vI 18::vI 0::vR 112::[])
def ho6:Obj:=tu ((.type "ValueError")::[])
def ho7:Obj:=xbi0 ((.builtin "type.__prepare__")::(.type "type")::[])
def ho8 (P:Params):Obj:=⟨(.type "dict"),none,.dict (en P "__module__" 196 (.str "stow.errors" 187)::en P "__qualname__" 198 (.str "StowError" 197)::en P "__firstlineno__" 200 (.int 2 199)::en P "__static_attributes__" 201 (.ref 22)::[]).toArray 4,#[]⟩
def ho11:Obj:=xk0 "StowError" "StowError" 191 2 0 0 18 194 195
def ho12:Obj:=xfm0 ((some (.ref 20))::(some (.ref 3))::(some (.ref 17))::none::(some (.str "stow.errors" 187))::none::(some (.ref 0))::[])
def ho14 (P:Params):Obj:=⟨(.type "dict"),none,.dict (en P "__module__" 196 (.str "stow.errors" 187)::en P "__firstlineno__" 200 (.int 2 199)::en P "__static_attributes__" 201 (.ref 22)::en P "__weakref__" 203 (.ref 25)::en P "__doc__" 204 .none::[]).toArray 3,#[]⟩
noncomputable def ho15:Obj:=⟨(.type "type"),none,.cls ⟨"StowError",[(.type "ValueError")],[(.ref 24),(.type "ValueError"),(.type "Exception"),(.type "BaseException"),(.type "object")],23,"StowError",true,[],[(.ref 37),(.ref 49),(.ref 68),(.ref 80),(.ref 92),(.ref 104),(.ref 116)],false,none,false⟩,((some (.ref 15))::none::(some (.str "StowError" 189))::(some (.str "StowError" 197))::(some (.builtin "ValueError.__new__"))::(some (.bool true))::[]).toArray⟩
noncomputable def ho16:Obj:=⟨(.type "getset_descriptor"),none,.fields ((.str "__weakref__" 202)::(.ref 24)::(.builtin "ExceptionGroup.__weakref__")::.none::[]).toArray,#[]⟩
def ho17:Obj:=xsu0 ((.ref 24)::(.ref 24)::(.ref 24)::[])
def ho18:Obj:=xbi0 ((.builtin "object.__init_subclass__")::(.ref 24)::[])
def ho19:Obj:=tu (vR 24::[])
def ho21 (P:Params):Obj:=⟨(.type "dict"),none,.dict (en P "__module__" 214 (.str "stow.errors" 187)::en P "__qualname__" 216 (.str "NoName" 215)::en P "__firstlineno__" 218 (.int 4 217)::en P "__static_attributes__" 219 (.ref 35)::[]).toArray 4,#[]⟩
def ho24:Obj:=xk0 "NoName" "NoName" 209 4 0 0 31 212 213
def ho25:Obj:=xfm0 ((some (.ref 33))::(some (.ref 3))::(some (.ref 30))::none::(some (.str "stow.errors" 187))::none::(some (.ref 0))::[])
def ho27 (P:Params):Obj:=⟨(.type "dict"),none,.dict (en P "__module__" 214 (.str "stow.errors" 187)::en P "__firstlineno__" 218 (.int 4 217)::en P "__static_attributes__" 219 (.ref 35)::en P "__doc__" 220 .none::[]).toArray 2,#[]⟩
noncomputable def ho28:Obj:=⟨(.type "type"),none,.cls ⟨"NoName",[(.ref 24)],[(.ref 37),(.ref 24),(.type "ValueError"),(.type "Exception"),(.type "BaseException"),(.type "object")],36,"NoName",true,[],[],false,none,false⟩,((some (.ref 28))::none::(some (.str "NoName" 207))::(some (.str "NoName" 215))::(some (.builtin "ValueError.__new__"))::(some (.bool true))::[]).toArray⟩
def ho29:Obj:=xsu0 ((.ref 37)::(.ref 37)::(.ref 37)::[])
def ho30:Obj:=xbi0 ((.builtin "object.__init_subclass__")::(.ref 37)::[])
def ho33 (P:Params):Obj:=⟨(.type "dict"),none,.dict (en P "__module__" 230 (.str "stow.errors" 187)::en P "__qualname__" 232 (.str "NoSize" 231)::en P "__firstlineno__" 234 (.int 6 233)::en P "__static_attributes__" 235 (.ref 47)::[]).toArray 4,#[]⟩
def ho36:Obj:=xk0 "NoSize" "NoSize" 225 6 0 0 43 228 229
def ho37:Obj:=xfm0 ((some (.ref 45))::(some (.ref 3))::(some (.ref 42))::none::(some (.str "stow.errors" 187))::none::(some (.ref 0))::[])
def ho39 (P:Params):Obj:=⟨(.type "dict"),none,.dict (en P "__module__" 230 (.str "stow.errors" 187)::en P "__firstlineno__" 234 (.int 6 233)::en P "__static_attributes__" 235 (.ref 47)::en P "__doc__" 236 .none::[]).toArray 2,#[]⟩
noncomputable def ho40:Obj:=⟨(.type "type"),none,.cls ⟨"NoSize",[(.ref 24)],[(.ref 49),(.ref 24),(.type "ValueError"),(.type "Exception"),(.type "BaseException"),(.type "object")],48,"NoSize",true,[],[],false,none,false⟩,((some (.ref 40))::none::(some (.str "NoSize" 223))::(some (.str "NoSize" 231))::(some (.builtin "ValueError.__new__"))::(some (.bool true))::[]).toArray⟩
def ho41:Obj:=xsu0 ((.ref 49)::(.ref 49)::(.ref 49)::[])
def ho42:Obj:=xbi0 ((.builtin "object.__init_subclass__")::(.ref 49)::[])
def ho45 (P:Params):Obj:=⟨(.type "dict"),none,.dict (en P "__module__" 246 (.str "stow.errors" 187)::en P "__qualname__" 248 (.str "Broken" 247)::en P "__firstlineno__" 250 (.int 8 249)::en P "__init__" 258 (.ref 65)::en P "__static_attributes__" 260 (.ref 66)::[]).toArray 5,#[]⟩
def ho47:Obj:=fl (vI 10::vI 4::vR 64::[])
def ho48:Obj:=xk0 "Broken" "Broken" 241 8 0 0 55 244 245
def ho49:Obj:=xfm0 ((some (.ref 57))::(some (.ref 3))::(some (.ref 54))::none::(some (.str "stow.errors" 187))::none::(some (.ref 0))::[])
def ho52:Obj:=tu ((.str "self" 254)::(.str "cell" 255)::[])
def ho54:Obj:=fq "__init__" "Broken.__init__" (Xah (top 4) 0)
def ho55:Obj:=xk1 "__init__" "Broken.__init__" 251 10 2 3 59 256 257
def ho56:Obj:=fo "__init__" "Broken.__init__" (Xah (top 4) 0) .none .none .none (.str "stow.errors" 187) none (.ref 64) .none none
def ho57:Obj:=tu ((.str "cell" 259)::[])
def ho58 (P:Params):Obj:=⟨(.type "dict"),none,.dict (en P "__module__" 246 (.str "stow.errors" 187)::en P "__firstlineno__" 250 (.int 8 249)::en P "__init__" 258 (.ref 65)::en P "__static_attributes__" 260 (.ref 66)::en P "__doc__" 261 .none::[]).toArray 2,#[]⟩
noncomputable def ho59:Obj:=⟨(.type "type"),none,.cls ⟨"Broken",[(.ref 24)],[(.ref 68),(.ref 24),(.type "ValueError"),(.type "Exception"),(.type "BaseException"),(.type "object")],67,"Broken",true,[],[],false,none,false⟩,((some (.ref 52))::none::(some (.str "Broken" 239))::(some (.str "Broken" 247))::(some (.builtin "ValueError.__new__"))::(some (.bool true))::[]).toArray⟩
def ho60:Obj:=xsu0 ((.ref 68)::(.ref 68)::(.ref 68)::[])
def ho61:Obj:=xbi0 ((.builtin "object.__init_subclass__")::(.ref 68)::[])
def ho64 (P:Params):Obj:=⟨(.type "dict"),none,.dict (en P "__module__" 271 (.str "stow.errors" 187)::en P "__qualname__" 273 (.str "NoGive" 272)::en P "__firstlineno__" 275 (.int 12 274)::en P "__static_attributes__" 276 (.ref 78)::[]).toArray 4,#[]⟩
def ho67:Obj:=xk0 "NoGive" "NoGive" 266 12 0 0 74 269 270
def ho68:Obj:=xfm0 ((some (.ref 76))::(some (.ref 3))::(some (.ref 73))::none::(some (.str "stow.errors" 187))::none::(some (.ref 0))::[])
def ho70 (P:Params):Obj:=⟨(.type "dict"),none,.dict (en P "__module__" 271 (.str "stow.errors" 187)::en P "__firstlineno__" 275 (.int 12 274)::en P "__static_attributes__" 276 (.ref 78)::en P "__doc__" 277 .none::[]).toArray 2,#[]⟩
noncomputable def ho71:Obj:=⟨(.type "type"),none,.cls ⟨"NoGive",[(.ref 24)],[(.ref 80),(.ref 24),(.type "ValueError"),(.type "Exception"),(.type "BaseException"),(.type "object")],79,"NoGive",true,[],[],false,none,false⟩,((some (.ref 71))::none::(some (.str "NoGive" 264))::(some (.str "NoGive" 272))::(some (.builtin "ValueError.__new__"))::(some (.bool true))::[]).toArray⟩
def ho72:Obj:=xsu0 ((.ref 80)::(.ref 80)::(.ref 80)::[])
def ho73:Obj:=xbi0 ((.builtin "object.__init_subclass__")::(.ref 80)::[])
def ho76 (P:Params):Obj:=⟨(.type "dict"),none,.dict (en P "__module__" 287 (.str "stow.errors" 187)::en P "__qualname__" 289 (.str "NoHandle" 288)::en P "__firstlineno__" 291 (.int 14 290)::en P "__static_attributes__" 292 (.ref 90)::[]).toArray 4,#[]⟩
def ho79:Obj:=xk0 "NoHandle" "NoHandle" 282 14 0 0 86 285 286
def ho80:Obj:=xfm0 ((some (.ref 88))::(some (.ref 3))::(some (.ref 85))::none::(some (.str "stow.errors" 187))::none::(some (.ref 0))::[])
def ho82 (P:Params):Obj:=⟨(.type "dict"),none,.dict (en P "__module__" 287 (.str "stow.errors" 187)::en P "__firstlineno__" 291 (.int 14 290)::en P "__static_attributes__" 292 (.ref 90)::en P "__doc__" 293 .none::[]).toArray 2,#[]⟩
noncomputable def ho83:Obj:=⟨(.type "type"),none,.cls ⟨"NoHandle",[(.ref 24)],[(.ref 92),(.ref 24),(.type "ValueError"),(.type "Exception"),(.type "BaseException"),(.type "object")],91,"NoHandle",true,[],[],false,none,false⟩,((some (.ref 83))::none::(some (.str "NoHandle" 280))::(some (.str "NoHandle" 288))::(some (.builtin "ValueError.__new__"))::(some (.bool true))::[]).toArray⟩
def ho84:Obj:=xsu0 ((.ref 92)::(.ref 92)::(.ref 92)::[])
def ho85:Obj:=xbi0 ((.builtin "object.__init_subclass__")::(.ref 92)::[])
def ho88 (P:Params):Obj:=⟨(.type "dict"),none,.dict (en P "__module__" 303 (.str "stow.errors" 187)::en P "__qualname__" 305 (.str "NoPiece" 304)::en P "__firstlineno__" 307 (.int 16 306)::en P "__static_attributes__" 308 (.ref 102)::[]).toArray 4,#[]⟩
def ho91:Obj:=xk0 "NoPiece" "NoPiece" 298 16 0 0 98 301 302
def ho92:Obj:=xfm0 ((some (.ref 100))::(some (.ref 3))::(some (.ref 97))::none::(some (.str "stow.errors" 187))::none::(some (.ref 0))::[])
def ho94 (P:Params):Obj:=⟨(.type "dict"),none,.dict (en P "__module__" 303 (.str "stow.errors" 187)::en P "__firstlineno__" 307 (.int 16 306)::en P "__static_attributes__" 308 (.ref 102)::en P "__doc__" 309 .none::[]).toArray 2,#[]⟩
noncomputable def ho95:Obj:=⟨(.type "type"),none,.cls ⟨"NoPiece",[(.ref 24)],[(.ref 104),(.ref 24),(.type "ValueError"),(.type "Exception"),(.type "BaseException"),(.type "object")],103,"NoPiece",true,[],[],false,none,false⟩,((some (.ref 95))::none::(some (.str "NoPiece" 296))::(some (.str "NoPiece" 304))::(some (.builtin "ValueError.__new__"))::(some (.bool true))::[]).toArray⟩
def ho96:Obj:=xsu0 ((.ref 104)::(.ref 104)::(.ref 104)::[])
def ho97:Obj:=xbi0 ((.builtin "object.__init_subclass__")::(.ref 104)::[])
def Xrt (P:Params):Obj:=⟨(.type "dict"),none,.dict (en P "__module__" 319 (.str "stow.errors" 187)::en P "__qualname__" 321 (.str "NoCell" 320)::en P "__firstlineno__" 323 (.int 18 322)::en P "__static_attributes__" 324 (.ref 114)::[]).toArray 4,#[]⟩
def Xwn:Obj:=xk0 "NoCell" "NoCell" 314 18 0 0 110 317 318
def Xxn:Obj:=xfm0 ((some (.ref 112))::(some (.ref 3))::(some (.ref 109))::none::(some (.str "stow.errors" 187))::none::(some (.ref 0))::[])
def Xtp (P:Params):Obj:=⟨(.type "dict"),none,.dict (en P "__module__" 319 (.str "stow.errors" 187)::en P "__firstlineno__" 323 (.int 18 322)::en P "__static_attributes__" 324 (.ref 114)::en P "__doc__" 325 .none::[]).toArray 2,#[]⟩
noncomputable def Xts:Obj:=⟨(.type "type"),none,.cls ⟨"NoCell",[(.ref 24)],[(.ref 116),(.ref 24),(.type "ValueError"),(.type "Exception"),(.type "BaseException"),(.type "object")],115,"NoCell",true,[],[],false,none,false⟩,((some (.ref 107))::none::(some (.str "NoCell" 312))::(some (.str "NoCell" 320))::(some (.builtin "ValueError.__new__"))::(some (.bool true))::[]).toArray⟩
def Xvu:Obj:=xsu0 ((.ref 116)::(.ref 116)::(.ref 116)::[])
def Xwp:Obj:=xbi0 ((.builtin "object.__init_subclass__")::(.ref 116)::[])
def XTd (P:Params):Obj:=⟨(.type "dict"),none,.dict (en P "__name__" 165 (.str "stow.pieces" 518)::en P "__doc__" 166 .none::en P "__package__" 167 .none::en P "__loader__" 168 (.builtin "__main__.__loader__#opaque")::en P "__spec__" 169 .none::en P "__annotations__" 170 (.ref 6)::en P "__builtins__" 171 (.ref 4)::en P "__file__" 173 (.str "/claim/cut.py" 172)::en P "__cached__" 174 .none::en P "StowError" 206 (.ref 24)::en P "NoName" 222 (.ref 37)::en P "NoSize" 238 (.ref 49)::en P "Broken" 263 (.ref 68)::en P "NoGive" 279 (.ref 80)::en P "NoHandle" 295 (.ref 92)::en P "NoPiece" 311 (.ref 104)::en P "NoCell" 327 (.ref 116)::en P "NoAsk" 343 (.ref 128)::en P "NoBound" 359 (.ref 140)::en P "NoRoom" 375 (.ref 152)::en P "BadLine" 400 (.ref 171)::en P "NoLine" 416 (.ref 183)::en P "NoTurn" 432 (.ref 195)::en P "MARKS" 436 (.int 2 435)::en P "check_ask" 444 (.ref 204)::en P "check_plain_ask" 452 (.ref 211)::en P "mark_of" 462 (.ref 218)::en P "long_of" 469 (.ref 225)::en P "live_of" 476 (.ref 232)::en P "LEAST_LIVE" 480 (.int 3 479)::en P "can_begin" 489 (.ref 239)::en P "bad_of_piece" 498 (.ref 246)::en P "looked" 509 (.ref 253)::en P "fresh_room" 517 (.ref 260)::en P "laid" 530 (.ref 267)::en P "laid_free" 539 (.ref 274)::[]).toArray 36,#[]⟩
def XUd:Obj:=fl (vI 2::vI 0::vR 20::vI 4::vI 0::vR 33::vI 6::vI 0::vR 45::vI 8::vI 0::vR 57::vI 12::vI 0::vR 76::vI 14::vI 0::vR 88::vI 16::vI 0::vR 100::vI 18::vI 0::vR 112::vI 20::vI 0::vR 124::vI 22::vI 0::vR 136::vI 24::vI 0::vR 148::vI 26::vI 0::vR 160::vI 30::vI 0::vR 179::vI 32::vI 0::vR 191::vI 36::vI 0::vR 203::vI 39::vI 0::vR 210::vI 44::vI 0::vR 217::vI 48::vI 0::vR 224::vI 50::vI 0::vR 231::vI 54::vI 0::vR 238::vI 59::vI 0::vR 245::vI 66::vI 0::vR 252::vI 77::vI 0::vR 259::vI 85::vI 0::vR 266::vI 90::vI 0::vR 273::[])
noncomputable def Xvq:Obj:=⟨(.type "type"),none,.cls ⟨"StowError",[(.type "ValueError")],[(.ref 24),(.type "ValueError"),(.type "Exception"),(.type "BaseException"),(.type "object")],23,"StowError",true,[],[(.ref 37),(.ref 49),(.ref 68),(.ref 80),(.ref 92),(.ref 104),(.ref 116),(.ref 128),(.ref 140),(.ref 152),(.ref 171),(.ref 183),(.ref 195)],false,none,false⟩,((some (.ref 15))::none::(some (.str "StowError" 189))::(some (.str "StowError" 197))::(some (.builtin "ValueError.__new__"))::(some (.bool true))::[]).toArray⟩
def Xvo (P:Params):Obj:=⟨(.type "dict"),none,.dict (en P "__module__" 335 (.str "stow.errors" 187)::en P "__qualname__" 337 (.str "NoAsk" 336)::en P "__firstlineno__" 339 (.int 20 338)::en P "__static_attributes__" 340 (.ref 126)::[]).toArray 4,#[]⟩
def XEh:Obj:=xk0 "NoAsk" "NoAsk" 330 20 0 0 122 333 334
def XBs:Obj:=xfm0 ((some (.ref 124))::(some (.ref 3))::(some (.ref 121))::none::(some (.str "stow.errors" 187))::none::(some (.ref 0))::[])
def Xvn (P:Params):Obj:=⟨(.type "dict"),none,.dict (en P "__module__" 335 (.str "stow.errors" 187)::en P "__firstlineno__" 339 (.int 20 338)::en P "__static_attributes__" 340 (.ref 126)::en P "__doc__" 341 .none::[]).toArray 2,#[]⟩
noncomputable def Xxm:Obj:=⟨(.type "type"),none,.cls ⟨"NoAsk",[(.ref 24)],[(.ref 128),(.ref 24),(.type "ValueError"),(.type "Exception"),(.type "BaseException"),(.type "object")],127,"NoAsk",true,[],[],false,none,false⟩,((some (.ref 119))::none::(some (.str "NoAsk" 328))::(some (.str "NoAsk" 336))::(some (.builtin "ValueError.__new__"))::(some (.bool true))::[]).toArray⟩
def XFp:Obj:=xsu0 ((.ref 128)::(.ref 128)::(.ref 128)::[])
def XFr:Obj:=xbi0 ((.builtin "object.__init_subclass__")::(.ref 128)::[])
def Xxe (P:Params):Obj:=⟨(.type "dict"),none,.dict (en P "__module__" 351 (.str "stow.errors" 187)::en P "__qualname__" 353 (.str "NoBound" 352)::en P "__firstlineno__" 355 (.int 22 354)::en P "__static_attributes__" 356 (.ref 138)::[]).toArray 4,#[]⟩
def XEf:Obj:=xk0 "NoBound" "NoBound" 346 22 0 0 134 349 350
def XFk:Obj:=xfm0 ((some (.ref 136))::(some (.ref 3))::(some (.ref 133))::none::(some (.str "stow.errors" 187))::none::(some (.ref 0))::[])
def Xxt (P:Params):Obj:=⟨(.type "dict"),none,.dict (en P "__module__" 351 (.str "stow.errors" 187)::en P "__firstlineno__" 355 (.int 22 354)::en P "__static_attributes__" 356 (.ref 138)::en P "__doc__" 357 .none::[]).toArray 2,#[]⟩
noncomputable def Xwi:Obj:=⟨(.type "type"),none,.cls ⟨"NoBound",[(.ref 24)],[(.ref 140),(.ref 24),(.type "ValueError"),(.type "Exception"),(.type "BaseException"),(.type "object")],139,"NoBound",true,[],[],false,none,false⟩,((some (.ref 131))::none::(some (.str "NoBound" 344))::(some (.str "NoBound" 352))::(some (.builtin "ValueError.__new__"))::(some (.bool true))::[]).toArray⟩
def XEu:Obj:=xsu0 ((.ref 140)::(.ref 140)::(.ref 140)::[])
def XGx:Obj:=xbi0 ((.builtin "object.__init_subclass__")::(.ref 140)::[])
def Xwr (P:Params):Obj:=⟨(.type "dict"),none,.dict (en P "__module__" 367 (.str "stow.errors" 187)::en P "__qualname__" 369 (.str "NoRoom" 368)::en P "__firstlineno__" 371 (.int 24 370)::en P "__static_attributes__" 372 (.ref 150)::[]).toArray 4,#[]⟩
def XAn:Obj:=xk0 "NoRoom" "NoRoom" 362 24 0 0 146 365 366
def XCu:Obj:=xfm0 ((some (.ref 148))::(some (.ref 3))::(some (.ref 145))::none::(some (.str "stow.errors" 187))::none::(some (.ref 0))::[])
def Xxv (P:Params):Obj:=⟨(.type "dict"),none,.dict (en P "__module__" 367 (.str "stow.errors" 187)::en P "__firstlineno__" 371 (.int 24 370)::en P "__static_attributes__" 372 (.ref 150)::en P "__doc__" 373 .none::[]).toArray 2,#[]⟩
noncomputable def Xww:Obj:=⟨(.type "type"),none,.cls ⟨"NoRoom",[(.ref 24)],[(.ref 152),(.ref 24),(.type "ValueError"),(.type "Exception"),(.type "BaseException"),(.type "object")],151,"NoRoom",true,[],[],false,none,false⟩,((some (.ref 143))::none::(some (.str "NoRoom" 360))::(some (.str "NoRoom" 368))::(some (.builtin "ValueError.__new__"))::(some (.bool true))::[]).toArray⟩
def XFu:Obj:=xsu0 ((.ref 152)::(.ref 152)::(.ref 152)::[])
def XHq:Obj:=xbi0 ((.builtin "object.__init_subclass__")::(.ref 152)::[])
def Xyb (P:Params):Obj:=⟨(.type "dict"),none,.dict (en P "__module__" 383 (.str "stow.errors" 187)::en P "__qualname__" 385 (.str "BadLine" 384)::en P "__firstlineno__" 387 (.int 26 386)::en P "__init__" 395 (.ref 168)::en P "__static_attributes__" 397 (.ref 169)::[]).toArray 5,#[]⟩
def XEw:Obj:=fl (vI 28::vI 4::vR 167::[])
def XBy:Obj:=xk0 "BadLine" "BadLine" 378 26 0 0 158 381 382
def XFi:Obj:=xfm0 ((some (.ref 160))::(some (.ref 3))::(some (.ref 157))::none::(some (.str "stow.errors" 187))::none::(some (.ref 0))::[])
def XBp:Obj:=tu ((.str "self" 391)::(.str "line" 392)::[])
def XDp:Obj:=fq "__init__" "BadLine.__init__" (Xah (top 12) 0)
def XDv:Obj:=xk1 "__init__" "BadLine.__init__" 388 28 2 3 162 393 394
def XCf:Obj:=fo "__init__" "BadLine.__init__" (Xah (top 12) 0) .none .none .none (.str "stow.errors" 187) none (.ref 167) .none none
def XGm:Obj:=tu ((.str "line" 396)::[])
def Xxh (P:Params):Obj:=⟨(.type "dict"),none,.dict (en P "__module__" 383 (.str "stow.errors" 187)::en P "__firstlineno__" 387 (.int 26 386)::en P "__init__" 395 (.ref 168)::en P "__static_attributes__" 397 (.ref 169)::en P "__doc__" 398 .none::[]).toArray 2,#[]⟩
noncomputable def Xvg:Obj:=⟨(.type "type"),none,.cls ⟨"BadLine",[(.ref 24)],[(.ref 171),(.ref 24),(.type "ValueError"),(.type "Exception"),(.type "BaseException"),(.type "object")],170,"BadLine",true,[],[],false,none,false⟩,((some (.ref 155))::none::(some (.str "BadLine" 376))::(some (.str "BadLine" 384))::(some (.builtin "ValueError.__new__"))::(some (.bool true))::[]).toArray⟩
def XCe:Obj:=xsu0 ((.ref 171)::(.ref 171)::(.ref 171)::[])
def XCz:Obj:=xbi0 ((.builtin "object.__init_subclass__")::(.ref 171)::[])
def Xyz (P:Params):Obj:=⟨(.type "dict"),none,.dict (en P "__module__" 408 (.str "stow.errors" 187)::en P "__qualname__" 410 (.str "NoLine" 409)::en P "__firstlineno__" 412 (.int 30 411)::en P "__static_attributes__" 413 (.ref 181)::[]).toArray 4,#[]⟩
def XEm:Obj:=xk0 "NoLine" "NoLine" 403 30 0 0 177 406 407
def XFx:Obj:=xfm0 ((some (.ref 179))::(some (.ref 3))::(some (.ref 176))::none::(some (.str "stow.errors" 187))::none::(some (.ref 0))::[])
def Xxf (P:Params):Obj:=⟨(.type "dict"),none,.dict (en P "__module__" 408 (.str "stow.errors" 187)::en P "__firstlineno__" 412 (.int 30 411)::en P "__static_attributes__" 413 (.ref 181)::en P "__doc__" 414 .none::[]).toArray 2,#[]⟩
noncomputable def Xwg:Obj:=⟨(.type "type"),none,.cls ⟨"NoLine",[(.ref 24)],[(.ref 183),(.ref 24),(.type "ValueError"),(.type "Exception"),(.type "BaseException"),(.type "object")],182,"NoLine",true,[],[],false,none,false⟩,((some (.ref 174))::none::(some (.str "NoLine" 401))::(some (.str "NoLine" 409))::(some (.builtin "ValueError.__new__"))::(some (.bool true))::[]).toArray⟩
def XGk:Obj:=xsu0 ((.ref 183)::(.ref 183)::(.ref 183)::[])
def XFj:Obj:=xbi0 ((.builtin "object.__init_subclass__")::(.ref 183)::[])
def Xym (P:Params):Obj:=⟨(.type "dict"),none,.dict (en P "__module__" 424 (.str "stow.errors" 187)::en P "__qualname__" 426 (.str "NoTurn" 425)::en P "__firstlineno__" 428 (.int 32 427)::en P "__static_attributes__" 429 (.ref 193)::[]).toArray 4,#[]⟩
def XBq:Obj:=xk0 "NoTurn" "NoTurn" 419 32 0 0 189 422 423
def XHn:Obj:=xfm0 ((some (.ref 191))::(some (.ref 3))::(some (.ref 188))::none::(some (.str "stow.errors" 187))::none::(some (.ref 0))::[])
def Xyv (P:Params):Obj:=⟨(.type "dict"),none,.dict (en P "__module__" 424 (.str "stow.errors" 187)::en P "__firstlineno__" 428 (.int 32 427)::en P "__static_attributes__" 429 (.ref 193)::en P "__doc__" 430 .none::[]).toArray 2,#[]⟩
noncomputable def Xys:Obj:=⟨(.type "type"),none,.cls ⟨"NoTurn",[(.ref 24)],[(.ref 195),(.ref 24),(.type "ValueError"),(.type "Exception"),(.type "BaseException"),(.type "object")],194,"NoTurn",true,[],[],false,none,false⟩,((some (.ref 186))::none::(some (.str "NoTurn" 417))::(some (.str "NoTurn" 425))::(some (.builtin "ValueError.__new__"))::(some (.bool true))::[]).toArray⟩
def XHa:Obj:=xsu0 ((.ref 195)::(.ref 195)::(.ref 195)::[])
def XGq:Obj:=xbi0 ((.builtin "object.__init_subclass__")::(.ref 195)::[])
def XGb:Obj:=tu ((.str "count" 440)::(.str "bound" 441)::[])
def XDi:Obj:=fq "check_ask" "check_ask" (top 17)
def Xxg:Obj:=xk1 "check_ask" "check_ask" 437 36 2 3 198 442 443
def Xxw:Obj:=fo "check_ask" "check_ask" (top 17) .none .none .none (.str "stow.asks" 433) none (.ref 203) .none none
def XEt:Obj:=tu ((.str "count" 448)::(.str "bound" 449)::[])
def XEi:Obj:=fq "check_plain_ask" "check_plain_ask" (top 18)
def Xyu:Obj:=xk1 "check_plain_ask" "check_plain_ask" 445 39 2 3 205 450 451
def Xwd:Obj:=fo "check_plain_ask" "check_plain_ask" (top 18) .none .none .none (.str "stow.asks" 433) none (.ref 210) .none none
def XBm:Obj:=tu ((.str "long" 458)::(.str "live" 459)::[])
def XAm:Obj:=fq "mark_of" "mark_of" (top 20)
def Xvh:Obj:=xk1 "mark_of" "mark_of" 455 44 2 3 212 460 461
def Xxy:Obj:=fo "mark_of" "mark_of" (top 20) .none .none .none (.str "stow.marks" 453) none (.ref 217) .none none
def XCk:Obj:=tu ((.str "number" 466)::[])
def XGt:Obj:=fq "long_of" "long_of" (top 21)
def Xvr:Obj:=xk1 "long_of" "long_of" 463 48 1 3 219 467 468
def Xxx:Obj:=fo "long_of" "long_of" (top 21) .none .none .none (.str "stow.marks" 453) none (.ref 224) .none none
def XGo:Obj:=tu ((.str "number" 473)::[])
def XBz:Obj:=fq "live_of" "live_of" (top 22)
def Xxd:Obj:=xk1 "live_of" "live_of" 470 50 1 3 226 474 475
def Xwy:Obj:=fo "live_of" "live_of" (top 22) .none .none .none (.str "stow.marks" 453) none (.ref 231) .none none
def XAr:Obj:=tu ((.str "cells" 484)::(.str "at" 485)::(.str "long" 486)::[])
def XBc:Obj:=fq "can_begin" "can_begin" (top 25)
def Xxu:Obj:=xk1 "can_begin" "can_begin" 481 54 2 3 233 487 488
def Xvf:Obj:=fo "can_begin" "can_begin" (top 25) .none .none .none (.str "stow.looks" 477) none (.ref 238) .none none
def XGn:Obj:=tu ((.str "cells" 493)::(.str "at" 494)::(.str "last" 495)::[])
def XFf:Obj:=fq "bad_of_piece" "bad_of_piece" (top 26)
def Xxc:Obj:=xk1 "bad_of_piece" "bad_of_piece" 490 59 2 3 240 496 497
def Xyi:Obj:=fo "bad_of_piece" "bad_of_piece" (top 26) .none .none .none (.str "stow.looks" 477) none (.ref 245) .none none
def XGi:Obj:=tu ((.str "cells" 502)::(.str "pieces" 503)::(.str "at" 504)::(.str "bad" 505)::(.str "long" 506)::[])
def XBx:Obj:=fq "looked" "looked" (top 27)
def Xwa:Obj:=xk1 "looked" "looked" 499 66 1 3 247 507 508
def Xyc:Obj:=fo "looked" "looked" (top 27) .none .none .none (.str "stow.looks" 477) none (.ref 252) .none none
def XEn:Obj:=tu ((.str "count" 513)::(.str "cells" 514)::[])
def XDe:Obj:=fq "fresh_room" "fresh_room" (top 28)
def Xve:Obj:=xk1 "fresh_room" "fresh_room" 510 77 1 3 254 515 516
def Xxa:Obj:=fo "fresh_room" "fresh_room" (top 28) .none .none .none (.str "stow.looks" 477) none (.ref 259) .none none
def XAq:Obj:=tu ((.str "cells" 523)::(.str "at" 524)::(.str "long" 525)::(.str "live" 526)::(.str "row" 527)::[])
def XEb:Obj:=fq "laid" "laid" (top 30)
def Xyx:Obj:=xk1 "laid" "laid" 520 85 4 3 261 528 529
def Xxo:Obj:=fo "laid" "laid" (top 30) .none .none .none (.str "stow.pieces" 518) none (.ref 266) .none none
def XFv:Obj:=tu ((.str "cells" 534)::(.str "begin" 535)::(.str "end" 536)::[])
def XDa:Obj:=fq "laid_free" "laid_free" (top 31)
def Xxl:Obj:=xk1 "laid_free" "laid_free" 531 90 3 3 268 537 538
def Xyf:Obj:=fo "laid_free" "laid_free" (top 31) .none .none .none (.str "stow.pieces" 518) none (.ref 273) .none none
def ho269 (P:Params):Obj:=⟨(.type "dict"),none,.dict (en P "__name__" 165 (.str "stow.shelves" 885)::en P "__doc__" 166 .none::en P "__package__" 167 .none::en P "__loader__" 168 (.builtin "__main__.__loader__#opaque")::en P "__spec__" 169 .none::en P "__annotations__" 170 (.ref 6)::en P "__builtins__" 171 (.ref 4)::en P "__file__" 173 (.str "/claim/cut.py" 172)::en P "__cached__" 174 .none::en P "StowError" 206 (.ref 24)::en P "NoName" 222 (.ref 37)::en P "NoSize" 238 (.ref 49)::en P "Broken" 263 (.ref 68)::en P "NoGive" 279 (.ref 80)::en P "NoHandle" 295 (.ref 92)::en P "NoPiece" 311 (.ref 104)::en P "NoCell" 327 (.ref 116)::en P "NoAsk" 343 (.ref 128)::en P "NoBound" 359 (.ref 140)::en P "NoRoom" 375 (.ref 152)::en P "BadLine" 400 (.ref 171)::en P "NoLine" 416 (.ref 183)::en P "NoTurn" 432 (.ref 195)::en P "MARKS" 436 (.int 2 435)::en P "check_ask" 444 (.ref 204)::en P "check_plain_ask" 452 (.ref 211)::en P "mark_of" 462 (.ref 218)::en P "long_of" 469 (.ref 225)::en P "live_of" 476 (.ref 232)::en P "LEAST_LIVE" 480 (.int 3 479)::en P "can_begin" 489 (.ref 239)::en P "bad_of_piece" 498 (.ref 246)::en P "looked" 509 (.ref 253)::en P "fresh_room" 517 (.ref 260)::en P "laid" 530 (.ref 267)::en P "laid_free" 539 (.ref 274)::en P "piece_at" 548 (.ref 281)::en P "live_at" 557 (.ref 288)::en P "free_at" 566 (.ref 295)::en P "cut_out" 581 (.ref 302)::en P "carried" 592 (.ref 309)::en P "Keeper" 745 (.ref 419)::en P "is_power" 754 (.ref 430)::en P "block_for" 761 (.ref 437)::en P "least_free" 767 (.ref 442)::en P "cut_down" 778 (.ref 449)::en P "grown_together" 787 (.ref 456)::en P "Halves" 834 (.ref 488)::en P "Row" 884 (.ref 523)::en P "all_whole" 894 (.ref 532)::en P "begin_of" 902 (.ref 539)::en P "whole_ones" 908 (.ref 544)::[]).toArray 52,#[]⟩
def ho270:Obj:=fl (vI 2::vI 0::vR 20::vI 4::vI 0::vR 33::vI 6::vI 0::vR 45::vI 8::vI 0::vR 57::vI 12::vI 0::vR 76::vI 14::vI 0::vR 88::vI 16::vI 0::vR 100::vI 18::vI 0::vR 112::vI 20::vI 0::vR 124::vI 22::vI 0::vR 136::vI 24::vI 0::vR 148::vI 26::vI 0::vR 160::vI 30::vI 0::vR 179::vI 32::vI 0::vR 191::vI 36::vI 0::vR 203::vI 39::vI 0::vR 210::vI 44::vI 0::vR 217::vI 48::vI 0::vR 224::vI 50::vI 0::vR 231::vI 54::vI 0::vR 238::vI 59::vI 0::vR 245::vI 66::vI 0::vR 252::vI 77::vI 0::vR 259::vI 85::vI 0::vR 266::vI 90::vI 0::vR 273::vI 94::vI 0::vR 280::vI 99::vI 0::vR 287::vI 104::vI 0::vR 294::vI 109::vI 0::vR 301::vI 117::vI 0::vR 308::vI 121::vI 0::vR 315::vI 182::vI 0::vR 429::vI 184::vI 0::vR 436::vI 186::vI 0::vR 441::vI 192::vI 0::vR 448::vI 198::vI 0::vR 455::vI 203::vI 0::vR 462::vI 221::vI 0::vR 496::vI 237::vI 0::vR 531::vI 241::vI 0::vR 538::vI 243::vI 0::vR 543::[])
def XIn:Obj:=tu ((.str "cells" 543)::(.str "at" 544)::(.str "piece" 545)::[])
def XIe:Obj:=fq "piece_at" "piece_at" (top 32)
def XCc:Obj:=xk1 "piece_at" "piece_at" 540 94 2 3 275 546 547
def XDm:Obj:=fo "piece_at" "piece_at" (top 32) .none .none .none (.str "stow.pieces" 518) none (.ref 280) .none none
def XHw:Obj:=tu ((.str "cells" 552)::(.str "at" 553)::(.str "piece" 554)::[])
def XPa:Obj:=fq "live_at" "live_at" (top 33)
def XDk:Obj:=xk1 "live_at" "live_at" 549 99 2 3 282 555 556
def XFw:Obj:=fo "live_at" "live_at" (top 33) .none .none .none (.str "stow.pieces" 518) none (.ref 287) .none none
def XLe:Obj:=tu ((.str "cells" 561)::(.str "at" 562)::(.str "piece" 563)::[])
def XQu:Obj:=fq "free_at" "free_at" (top 34)
def XCx:Obj:=xk1 "free_at" "free_at" 558 104 2 3 289 564 565
def XAw:Obj:=fo "free_at" "free_at" (top 34) .none .none .none (.str "stow.pieces" 518) none (.ref 294) .none none
def XPl:Obj:=tu ((.str "cells" 570)::(.str "at" 571)::(.str "place" 572)::(.str "long" 573)::(.str "begin" 574)::(.str "free_long" 575)::(.str "live" 576)::(.str "end" 577)::(.str "row" 578)::[])
def XLt:Obj:=fq "cut_out" "cut_out" (top 35)
def XCo:Obj:=xk1 "cut_out" "cut_out" 567 109 4 3 296 579 580
def XFl:Obj:=fo "cut_out" "cut_out" (top 35) .none .none .none (.str "stow.pieces" 518) none (.ref 301) .none none
def XRi:Obj:=tu ((.str "cells" 585)::(.str "source" 586)::(.str "goal" 587)::(.str "count" 588)::(.str "row" 589)::[])
def XRw:Obj:=fq "carried" "carried" (top 36)
def XBh:Obj:=xk1 "carried" "carried" 582 117 4 3 303 590 591
def XCb:Obj:=fo "carried" "carried" (top 36) .none .none .none (.str "stow.pieces" 518) none (.ref 308) .none none
def XGy (P:Params):Obj:=⟨(.type "dict"),none,.dict (en P "__module__" 602 (.str "stow.keepers" 593)::en P "__qualname__" 604 (.str "Keeper" 603)::en P "__firstlineno__" 606 (.int 121 605)::en P "__init__" 614 (.ref 323)::en P "cells" 621 (.ref 330)::en P "pieces" 628 (.ref 337)::en P "lay" 636 (.ref 344)::en P "clear" 643 (.ref 351)::en P "many" 654 (.ref 358)::en P "get" 663 (.ref 365)::en P "put" 674 (.ref 372)::en P "ask" 684 (.ref 380)::en P "give" 695 (.ref 387)::en P "grow" 707 (.ref 395)::en P "room_begin" 715 (.ref 402)::en P "room_cell_of" 725 (.ref 409)::en P "room_moved" 736 (.ref 416)::en P "__static_attributes__" 738 (.ref 417)::[]).toArray 18,#[]⟩
def XPt:Obj:=fl (vI 123::vI 4::vR 322::vI 126::vI 4::vR 329::vI 129::vI 4::vR 336::vI 132::vI 4::vR 343::vI 138::vI 4::vR 350::vI 141::vI 4::vR 357::vI 145::vI 4::vR 364::vI 148::vI 4::vR 371::vI 152::vI 4::vR 379::vI 156::vI 4::vR 386::vI 160::vI 4::vR 394::vI 167::vI 4::vR 401::vI 170::vI 4::vR 408::vI 176::vI 4::vR 415::[])
def XKi:Obj:=xk0 "Keeper" "Keeper" 597 121 0 0 313 600 601
def XLu:Obj:=xfm0 ((some (.ref 315))::(some (.ref 3))::(some (.ref 312))::none::(some (.str "stow.keepers" 593))::none::(some (.ref 0))::[])
def XRg:Obj:=tu ((.str "self" 610)::(.str "size" 611)::[])
def XIg:Obj:=fq "__init__" "Keeper.__init__" (Xah (top 38) 0)
def XGc:Obj:=xk1 "__init__" "Keeper.__init__" 607 123 2 3 317 612 613
def XBe:Obj:=fo "__init__" "Keeper.__init__" (Xah (top 38) 0) .none .none .none (.str "stow.keepers" 593) none (.ref 322) .none none
def XPg:Obj:=tu ((.str "self" 618)::[])
def XNb:Obj:=fq "cells" "Keeper.cells" (Xah (top 38) 1)
def XHr:Obj:=xk1 "cells" "Keeper.cells" 615 126 1 3 324 619 620
def XFt:Obj:=fo "cells" "Keeper.cells" (Xah (top 38) 1) .none .none .none (.str "stow.keepers" 593) none (.ref 329) .none none
def XPb:Obj:=tu ((.str "self" 625)::[])
def XOe:Obj:=fq "pieces" "Keeper.pieces" (Xah (top 38) 2)
def XGv:Obj:=xk1 "pieces" "Keeper.pieces" 622 129 1 3 331 626 627
def XBj:Obj:=fo "pieces" "Keeper.pieces" (Xah (top 38) 2) .none .none .none (.str "stow.keepers" 593) none (.ref 336) .none none
def XRr:Obj:=tu ((.str "self" 632)::(.str "cells" 633)::[])
def XIa:Obj:=fq "lay" "Keeper.lay" (Xah (top 38) 3)
def XGh:Obj:=xk1 "lay" "Keeper.lay" 629 132 2 3 338 634 635
def XCy:Obj:=fo "lay" "Keeper.lay" (Xah (top 38) 3) .none .none .none (.str "stow.keepers" 593) none (.ref 343) .none none
def XNf:Obj:=tu ((.str "self" 640)::[])
def XLj:Obj:=fq "clear" "Keeper.clear" (Xah (top 38) 4)
def XGl:Obj:=xk1 "clear" "Keeper.clear" 637 138 1 3 345 641 642
def XDr:Obj:=fo "clear" "Keeper.clear" (Xah (top 38) 4) .none .none .none (.str "stow.keepers" 593) none (.ref 350) .none none
def XMw:Obj:=tu ((.str "self" 647)::(.str "place" 648)::(.str "at" 649)::(.str "long" 650)::(.str "live" 651)::[])
def XMu:Obj:=fq "many" "Keeper.many" (Xah (top 38) 5)
def XHi:Obj:=xk1 "many" "Keeper.many" 644 141 2 3 352 652 653
def XCj:Obj:=fo "many" "Keeper.many" (Xah (top 38) 5) .none .none .none (.str "stow.keepers" 593) none (.ref 357) .none none
def XNk:Obj:=tu ((.str "self" 658)::(.str "place" 659)::(.str "k" 660)::[])
def XOr:Obj:=fq "get" "Keeper.get" (Xah (top 38) 6)
def XCa:Obj:=xk1 "get" "Keeper.get" 655 145 3 3 359 661 662
def XFg:Obj:=fo "get" "Keeper.get" (Xah (top 38) 6) .none .none .none (.str "stow.keepers" 593) none (.ref 364) .none none
def XQo:Obj:=tu ((.str "self" 667)::(.str "place" 668)::(.str "k" 669)::(.str "number" 670)::(.str "cell" 671)::[])
def XOf:Obj:=fq "put" "Keeper.put" (Xah (top 38) 7)
def XDq:Obj:=xk1 "put" "Keeper.put" 664 148 4 3 366 672 673
def XCi:Obj:=fo "put" "Keeper.put" (Xah (top 38) 7) .none .none .none (.str "stow.keepers" 593) none (.ref 371) .none none
def XMp:Obj:=tu ((.int 1 675)::[])
def XNl:Obj:=tu ((.str "self" 679)::(.str "count" 680)::(.str "bound" 681)::[])
def XRk:Obj:=fq "ask" "Keeper.ask" (Xah (top 38) 8)
def XQj:Obj:=xk1 "ask" "Keeper.ask" 676 152 3 3 374 682 683
def XMe:Obj:=fo "ask" "Keeper.ask" (Xah (top 38) 8) (.ref 373) .none .none (.str "stow.keepers" 593) none (.ref 379) .none none
def XSf:Obj:=tu ((.str "self" 688)::(.str "place" 689)::(.str "at" 690)::(.str "long" 691)::(.str "live" 692)::[])
def XIu:Obj:=fq "give" "Keeper.give" (Xah (top 38) 9)
def XIf:Obj:=xk1 "give" "Keeper.give" 685 156 2 3 381 693 694
def XIj:Obj:=fo "give" "Keeper.give" (Xah (top 38) 9) .none .none .none (.str "stow.keepers" 593) none (.ref 386) .none none
def XEk:Obj:=tu ((.int 1 696)::[])
def XOk:Obj:=tu ((.str "self" 700)::(.str "place" 701)::(.str "count" 702)::(.str "bound" 703)::(.str "had" 704)::[])
def XRc:Obj:=fq "grow" "Keeper.grow" (Xah (top 38) 10)
def XAx:Obj:=xk1 "grow" "Keeper.grow" 697 160 4 3 389 705 706
def XEj:Obj:=fo "grow" "Keeper.grow" (Xah (top 38) 10) (.ref 388) .none .none (.str "stow.keepers" 593) none (.ref 394) .none none
def XKh:Obj:=tu ((.str "self" 711)::(.str "cells" 712)::[])
def XPy:Obj:=fq "room_begin" "Keeper.room_begin" (Xah (top 38) 11)
def XDg:Obj:=xk1 "room_begin" "Keeper.room_begin" 708 167 2 3 396 713 714
def XEl:Obj:=fo "room_begin" "Keeper.room_begin" (Xah (top 38) 11) .none .none .none (.str "stow.keepers" 593) none (.ref 401) .none none
def XPd:Obj:=tu ((.str "self" 719)::(.str "place" 720)::(.str "k" 721)::(.str "many" 722)::[])
def XOh:Obj:=fq "room_cell_of" "Keeper.room_cell_of" (Xah (top 38) 12)
def XCv:Obj:=xk1 "room_cell_of" "Keeper.room_cell_of" 716 170 3 3 403 723 724
def XHg:Obj:=fo "room_cell_of" "Keeper.room_cell_of" (Xah (top 38) 12) .none .none .none (.str "stow.keepers" 593) none (.ref 408) .none none
def XLf:Obj:=tu ((.str "self" 729)::(.str "place" 730)::(.str "count" 731)::(.str "bound" 732)::(.str "goal" 733)::[])
def XSc:Obj:=fq "room_moved" "Keeper.room_moved" (Xah (top 38) 13)
def XBd:Obj:=xk1 "room_moved" "Keeper.room_moved" 726 176 4 3 410 734 735
def XFy:Obj:=fo "room_moved" "Keeper.room_moved" (Xah (top 38) 13) .none .none .none (.str "stow.keepers" 593) none (.ref 415) .none none
def XKa:Obj:=tu ((.str "room_cells" 737)::[])
def XEc (P:Params):Obj:=⟨(.type "dict"),none,.dict (en P "__module__" 602 (.str "stow.keepers" 593)::en P "__firstlineno__" 606 (.int 121 605)::en P "__init__" 614 (.ref 323)::en P "cells" 621 (.ref 330)::en P "pieces" 628 (.ref 337)::en P "lay" 636 (.ref 344)::en P "clear" 643 (.ref 351)::en P "many" 654 (.ref 358)::en P "get" 663 (.ref 365)::en P "put" 674 (.ref 372)::en P "ask" 684 (.ref 380)::en P "give" 695 (.ref 387)::en P "grow" 707 (.ref 395)::en P "room_begin" 715 (.ref 402)::en P "room_cell_of" 725 (.ref 409)::en P "room_moved" 736 (.ref 416)::en P "__static_attributes__" 738 (.ref 417)::en P "__dict__" 740 (.ref 420)::en P "__weakref__" 742 (.ref 421)::en P "__doc__" 743 .none::[]).toArray 4,#[]⟩
noncomputable def ho415:Obj:=⟨(.type "type"),none,.cls ⟨"Keeper",[(.type "object")],[(.ref 419),(.type "object")],418,"Keeper",true,[],[(.ref 488),(.ref 523)],false,none,false⟩,(none::none::(some (.str "Keeper" 595))::(some (.str "Keeper" 603))::(some (.builtin "object.__new__"))::(some (.bool true))::[]).toArray⟩
noncomputable def XMf:Obj:=⟨(.type "getset_descriptor"),none,.fields ((.str "__dict__" 739)::(.ref 419)::(.builtin "function.__dict__")::(.builtin "function.__dict__#set")::[]).toArray,#[]⟩
noncomputable def XNg:Obj:=⟨(.type "getset_descriptor"),none,.fields ((.str "__weakref__" 741)::(.ref 419)::(.builtin "ExceptionGroup.__weakref__")::.none::[]).toArray,#[]⟩
def XOl:Obj:=xsu0 ((.ref 419)::(.ref 419)::(.ref 419)::[])
def XJw:Obj:=xbi0 ((.builtin "object.__init_subclass__")::(.ref 419)::[])
def XMn:Obj:=tu ((.str "number" 751)::[])
def XNt:Obj:=fq "is_power" "is_power" (top 40)
def XDu:Obj:=xk1 "is_power" "is_power" 748 182 1 3 424 752 753
def XGa:Obj:=fo "is_power" "is_power" (top 40) .none .none .none (.str "stow.halves" 746) none (.ref 429) .none none
def XJx:Obj:=tu ((.str "need" 758)::[])
def XPq:Obj:=fq "block_for" "block_for" (top 41)
def XBa:Obj:=xk1 "block_for" "block_for" 755 184 1 3 431 759 760
def XDt:Obj:=fo "block_for" "block_for" (top 41) .none .none .none (.str "stow.halves" 746) none (.ref 436) .none none
def XPm:Obj:=fq "least_free" "least_free" (top 42)
def XHl:Obj:=cp "least_free" "least_free" 762 (vI 186::vI 2::vI 0::vI 0::vI 3::vR 438::(.bool true)::vI 181::vR 439::.none::.none::.none::vR 440::vI 765::vI 186::(.str "/claim/cut.py" 766)::[])
def XGu:Obj:=fo "least_free" "least_free" (top 42) .none .none .none (.str "stow.halves" 746) none (.ref 441) .none none
def XKz:Obj:=tu ((.str "cells" 771)::(.str "at" 772)::(.str "long" 773)::(.str "block" 774)::(.str "row" 775)::[])
def XMc:Obj:=fq "cut_down" "cut_down" (top 43)
def XGz:Obj:=xk1 "cut_down" "cut_down" 768 192 4 3 443 776 777
def XCl:Obj:=fo "cut_down" "cut_down" (top 43) .none .none .none (.str "stow.halves" 746) none (.ref 448) .none none
def XLz:Obj:=tu ((.str "pieces" 782)::(.str "at" 783)::(.str "long" 784)::[])
def XOu:Obj:=fq "grown_together" "grown_together" (top 44)
def XCw:Obj:=xk1 "grown_together" "grown_together" 779 198 3 3 450 785 786
def XHf:Obj:=fo "grown_together" "grown_together" (top 44) .none .none .none (.str "stow.halves" 746) none (.ref 455) .none none
def Xqc:Obj:=tu (vR 419::[])
def XDd (P:Params):Obj:=⟨(.type "dict"),none,.dict (en P "__module__" 795 (.str "stow.halves" 746)::en P "__qualname__" 797 (.str "Halves" 796)::en P "__firstlineno__" 799 (.int 203 798)::en P "__init__" 807 (.ref 470)::en P "ask" 820 (.ref 478)::en P "give" 830 (.ref 485)::en P "__static_attributes__" 831 (.ref 486)::[]).toArray 7,#[]⟩
def XRj:Obj:=fl (vI 205::vI 4::vR 469::vI 210::vI 4::vR 477::vI 217::vI 4::vR 484::[])
def XSd:Obj:=xk0 "Halves" "Halves" 790 203 0 0 460 793 794
def XLx:Obj:=xfm0 ((some (.ref 462))::(some (.ref 3))::(some (.ref 459))::none::(some (.str "stow.halves" 746))::none::(some (.ref 0))::[])
def XSe:Obj:=tu ((.str "self" 803)::(.str "size" 804)::[])
def XJt:Obj:=fq "__init__" "Halves.__init__" (Xah (top 45) 0)
def XEr:Obj:=xk1 "__init__" "Halves.__init__" 800 205 2 3 464 805 806
def XBk:Obj:=fo "__init__" "Halves.__init__" (Xah (top 45) 0) .none .none .none (.str "stow.halves" 746) none (.ref 469) .none none
def XBi:Obj:=tu ((.int 1 808)::[])
def XNp:Obj:=tu ((.str "self" 812)::(.str "count" 813)::(.str "bound" 814)::(.str "block" 815)::(.str "at" 816)::(.str "long" 817)::[])
def XQv:Obj:=fq "ask" "Halves.ask" (Xah (top 45) 1)
def XFa:Obj:=xk1 "ask" "Halves.ask" 809 210 3 3 472 818 819
def XHp:Obj:=fo "ask" "Halves.ask" (Xah (top 45) 1) (.ref 471) .none .none (.str "stow.halves" 746) none (.ref 477) .none none
def XLg:Obj:=tu ((.str "self" 824)::(.str "place" 825)::(.str "at" 826)::(.str "long" 827)::[])
def XNy:Obj:=fq "give" "Halves.give" (Xah (top 45) 2)
def XFe:Obj:=xk1 "give" "Halves.give" 821 217 2 3 479 828 829
def XEx:Obj:=fo "give" "Halves.give" (Xah (top 45) 2) .none .none .none (.str "stow.halves" 746) none (.ref 484) .none none
def XDx (P:Params):Obj:=⟨(.type "dict"),none,.dict (en P "__module__" 795 (.str "stow.halves" 746)::en P "__firstlineno__" 799 (.int 203 798)::en P "__init__" 807 (.ref 470)::en P "ask" 820 (.ref 478)::en P "give" 830 (.ref 485)::en P "__static_attributes__" 831 (.ref 486)::en P "__doc__" 832 .none::[]).toArray 2,#[]⟩
noncomputable def XEs:Obj:=⟨(.type "type"),none,.cls ⟨"Halves",[(.ref 419)],[(.ref 488),(.ref 419),(.type "object")],487,"Halves",true,[],[],false,none,false⟩,((some (.ref 457))::none::(some (.str "Halves" 788))::(some (.str "Halves" 796))::(some (.builtin "object.__new__"))::(some (.bool true))::[]).toArray⟩
def XIq:Obj:=xsu0 ((.ref 488)::(.ref 488)::(.ref 488)::[])
def XLd:Obj:=xbi0 ((.builtin "object.__init_subclass__")::(.ref 488)::[])
def XFd (P:Params):Obj:=⟨(.type "dict"),none,.dict (en P "__module__" 844 (.str "stow.rows" 835)::en P "__qualname__" 846 (.str "Row" 845)::en P "__firstlineno__" 848 (.int 221 847)::en P "ask" 861 (.ref 505)::en P "give" 869 (.ref 512)::en P "grow" 880 (.ref 520)::en P "__static_attributes__" 881 (.ref 521)::[]).toArray 7,#[]⟩
def XIo:Obj:=fl (vI 223::vI 4::vR 504::vI 231::vI 4::vR 511::vI 234::vI 4::vR 519::[])
def XNq:Obj:=xk0 "Row" "Row" 839 221 0 0 494 842 843
def XNi:Obj:=xfm0 ((some (.ref 496))::(some (.ref 3))::(some (.ref 493))::none::(some (.str "stow.rows" 835))::none::(some (.ref 0))::[])
def XEg:Obj:=tu ((.int 1 849)::[])
def XJk:Obj:=tu ((.str "self" 853)::(.str "count" 854)::(.str "bound" 855)::(.str "at" 856)::(.str "long" 857)::(.str "live" 858)::[])
def XQn:Obj:=fq "ask" "Row.ask" (Xah (top 47) 0)
def XCr:Obj:=xk1 "ask" "Row.ask" 850 223 3 3 499 859 860
def XDw:Obj:=fo "ask" "Row.ask" (Xah (top 47) 0) (.ref 498) .none .none (.str "stow.rows" 835) none (.ref 504) .none none
def XRu:Obj:=tu ((.str "self" 865)::(.str "place" 866)::[])
def XPx:Obj:=fq "give" "Row.give" (Xah (top 47) 1)
def XAu:Obj:=xk1 "give" "Row.give" 862 231 2 3 506 867 868
def XHk:Obj:=fo "give" "Row.give" (Xah (top 47) 1) .none .none .none (.str "stow.rows" 835) none (.ref 511) .none none
def XBb:Obj:=tu ((.int 1 870)::[])
def XRe:Obj:=tu ((.str "self" 874)::(.str "place" 875)::(.str "count" 876)::(.str "bound" 877)::[])
def XHz:Obj:=fq "grow" "Row.grow" (Xah (top 47) 2)
def XAz:Obj:=xk1 "grow" "Row.grow" 871 234 4 3 514 878 879
def XCp:Obj:=fo "grow" "Row.grow" (Xah (top 47) 2) (.ref 513) .none .none (.str "stow.rows" 835) none (.ref 519) .none none
def XGs (P:Params):Obj:=⟨(.type "dict"),none,.dict (en P "__module__" 844 (.str "stow.rows" 835)::en P "__firstlineno__" 848 (.int 221 847)::en P "ask" 861 (.ref 505)::en P "give" 869 (.ref 512)::en P "grow" 880 (.ref 520)::en P "__static_attributes__" 881 (.ref 521)::en P "__doc__" 882 .none::[]).toArray 2,#[]⟩
noncomputable def XDj:Obj:=⟨(.type "type"),none,.cls ⟨"Row",[(.ref 419)],[(.ref 523),(.ref 419),(.type "object")],522,"Row",true,[],[],false,none,false⟩,((some (.ref 491))::none::(some (.str "Row" 837))::(some (.str "Row" 845))::(some (.builtin "object.__new__"))::(some (.bool true))::[]).toArray⟩
def XNr:Obj:=xsu0 ((.ref 523)::(.ref 523)::(.ref 523)::[])
def XRb:Obj:=xbi0 ((.builtin "object.__init_subclass__")::(.ref 523)::[])
def XQl:Obj:=tu ((.str "size" 890)::(.str "shelf" 891)::[])
def XLm:Obj:=fq "all_whole" "all_whole" (top 49)
def XBw:Obj:=xk1 "all_whole" "all_whole" 887 237 2 3 526 892 893
def XDo:Obj:=fo "all_whole" "all_whole" (top 49) .none .none .none (.str "stow.shelves" 885) none (.ref 531) .none none
def XQf:Obj:=tu ((.str "at" 898)::(.str "shelf" 899)::[])
def XOp:Obj:=fq "begin_of" "begin_of" (top 50)
def XGp:Obj:=xk1 "begin_of" "begin_of" 895 241 2 3 533 900 901
def XEv:Obj:=fo "begin_of" "begin_of" (top 50) .none .none .none (.str "stow.shelves" 885) none (.ref 538) .none none
def XQm:Obj:=fq "whole_ones" "whole_ones" (top 51)
def XBn:Obj:=cp "whole_ones" "whole_ones" 903 (vI 243::vI 2::vI 0::vI 0::vI 3::vR 540::(.bool true)::vI 181::vR 541::.none::.none::.none::vR 542::vI 906::vI 243::(.str "/claim/cut.py" 907)::[])
def XAp:Obj:=fo "whole_ones" "whole_ones" (top 51) .none .none .none (.str "stow.shelves" 885) none (.ref 543) .none none
def XQs (P:Params):Obj:=⟨(.type "dict"),none,.dict (en P "__name__" 165 (.str "law_stow_k38_refused" 1001)::en P "__doc__" 166 .none::en P "__package__" 167 .none::en P "__loader__" 168 (.builtin "__main__.__loader__#opaque")::en P "__spec__" 169 .none::en P "__annotations__" 170 (.ref 6)::en P "__builtins__" 171 (.ref 4)::en P "__file__" 173 (.str "/claim/cut.py" 172)::en P "__cached__" 174 .none::en P "StowError" 206 (.ref 24)::en P "NoName" 222 (.ref 37)::en P "NoSize" 238 (.ref 49)::en P "Broken" 263 (.ref 68)::en P "NoGive" 279 (.ref 80)::en P "NoHandle" 295 (.ref 92)::en P "NoPiece" 311 (.ref 104)::en P "NoCell" 327 (.ref 116)::en P "NoAsk" 343 (.ref 128)::en P "NoBound" 359 (.ref 140)::en P "NoRoom" 375 (.ref 152)::en P "BadLine" 400 (.ref 171)::en P "NoLine" 416 (.ref 183)::en P "NoTurn" 432 (.ref 195)::en P "MARKS" 436 (.int 2 435)::en P "check_ask" 444 (.ref 204)::en P "check_plain_ask" 452 (.ref 211)::en P "mark_of" 462 (.ref 218)::en P "long_of" 469 (.ref 225)::en P "live_of" 476 (.ref 232)::en P "LEAST_LIVE" 480 (.int 3 479)::en P "can_begin" 489 (.ref 239)::en P "bad_of_piece" 498 (.ref 246)::en P "looked" 509 (.ref 253)::en P "fresh_room" 517 (.ref 260)::en P "laid" 530 (.ref 267)::en P "laid_free" 539 (.ref 274)::en P "piece_at" 548 (.ref 281)::en P "live_at" 557 (.ref 288)::en P "free_at" 566 (.ref 295)::en P "cut_out" 581 (.ref 302)::en P "carried" 592 (.ref 309)::en P "Keeper" 745 (.ref 419)::en P "is_power" 754 (.ref 430)::en P "block_for" 761 (.ref 437)::en P "least_free" 767 (.ref 442)::en P "cut_down" 778 (.ref 449)::en P "grown_together" 787 (.ref 456)::en P "Halves" 834 (.ref 488)::en P "Row" 884 (.ref 523)::en P "all_whole" 894 (.ref 532)::en P "begin_of" 902 (.ref 539)::en P "whole_ones" 908 (.ref 544)::en P "free_slots" 914 (.ref 549)::en P "cut_for" 927 (.ref 556)::en P "with_slot" 937 (.ref 563)::en P "has_live" 943 (.ref 568)::en P "Shelves" 1000 (.ref 607)::en P "_law_cell_at" 1010 (.ref 616)::en P "_law_whole" 1017 (.ref 623)::en P "_law_walk" 1028 (.ref 630)::en P "_law_words" 1034 (.ref 635)::en P "_law_done" 1046 (.ref 642)::en P "_law_call" 1061 (.ref 649)::en P "_law_ask_due" 1069 (.ref 656)::en P "_law_due" 1083 (.ref 663)::en P "_law_place_by" 1089 (.ref 668)::en P "_law_step" 1095 (.ref 673)::en P "_law_last" 1101 (.ref 678)::en P "law" 1113 (.ref 685)::[]).toArray 69,#[]⟩
def ho542:Obj:=fl (vI 2::vI 0::vR 20::vI 4::vI 0::vR 33::vI 6::vI 0::vR 45::vI 8::vI 0::vR 57::vI 12::vI 0::vR 76::vI 14::vI 0::vR 88::vI 16::vI 0::vR 100::vI 18::vI 0::vR 112::vI 20::vI 0::vR 124::vI 22::vI 0::vR 136::vI 24::vI 0::vR 148::vI 26::vI 0::vR 160::vI 30::vI 0::vR 179::vI 32::vI 0::vR 191::vI 36::vI 0::vR 203::vI 39::vI 0::vR 210::vI 44::vI 0::vR 217::vI 48::vI 0::vR 224::vI 50::vI 0::vR 231::vI 54::vI 0::vR 238::vI 59::vI 0::vR 245::vI 66::vI 0::vR 252::vI 77::vI 0::vR 259::vI 85::vI 0::vR 266::vI 90::vI 0::vR 273::vI 94::vI 0::vR 280::vI 99::vI 0::vR 287::vI 104::vI 0::vR 294::vI 109::vI 0::vR 301::vI 117::vI 0::vR 308::vI 121::vI 0::vR 315::vI 182::vI 0::vR 429::vI 184::vI 0::vR 436::vI 186::vI 0::vR 441::vI 192::vI 0::vR 448::vI 198::vI 0::vR 455::vI 203::vI 0::vR 462::vI 221::vI 0::vR 496::vI 237::vI 0::vR 531::vI 241::vI 0::vR 538::vI 243::vI 0::vR 543::vI 245::vI 0::vR 548::vI 248::vI 0::vR 555::vI 254::vI 0::vR 562::vI 261::vI 0::vR 567::vI 263::vI 0::vR 574::vI 289::vI 0::vR 615::vI 293::vI 0::vR 622::vI 295::vI 0::vR 629::vI 312::vI 0::vR 634::vI 316::vI 0::vR 641::vI 328::vI 0::vR 648::vI 340::vI 0::vR 655::vI 346::vI 0::vR 662::vI 362::vI 0::vR 667::vI 368::vI 0::vR 672::vI 392::vI 0::vR 677::vI 412::vI 0::vR 684::[])
noncomputable def XOm:Obj:=⟨(.type "type"),none,.cls ⟨"Keeper",[(.type "object")],[(.ref 419),(.type "object")],418,"Keeper",true,[],[(.ref 488),(.ref 523),(.ref 607)],false,none,false⟩,(none::none::(some (.str "Keeper" 595))::(some (.str "Keeper" 603))::(some (.builtin "object.__new__"))::(some (.bool true))::[]).toArray⟩
def XTh:Obj:=fq "free_slots" "free_slots" (top 52)
def XNc:Obj:=cp "free_slots" "free_slots" 909 (vI 245::vI 3::vI 0::vI 0::vI 3::vR 545::(.bool true)::vI 181::vR 546::.none::.none::.none::vR 547::vI 912::vI 245::(.str "/claim/cut.py" 913)::[])
def XKv:Obj:=fo "free_slots" "free_slots" (top 52) .none .none .none (.str "stow.shelves" 885) none (.ref 548) .none none
def ho551:Obj:=tu ((.str "cells" 918)::(.str "begin" 919)::(.str "shelf" 920)::(.str "size" 921)::(.str "row" 922)::(.str "end" 923)::(.str "at" 924)::[])
def ho553:Obj:=fq "cut_for" "cut_for" (top 53)
def XIl:Obj:=xk1 "cut_for" "cut_for" 915 248 4 3 550 925 926
def XOd:Obj:=fo "cut_for" "cut_for" (top 53) .none .none .none (.str "stow.shelves" 885) none (.ref 555) .none none
def XSr:Obj:=tu ((.str "cells" 931)::(.str "shelf" 932)::(.str "size" 933)::(.str "begins" 934)::[])
def ho560:Obj:=fq "with_slot" "with_slot" (top 54)
def XPj:Obj:=xk1 "with_slot" "with_slot" 928 254 3 3 557 935 936
def XId:Obj:=fo "with_slot" "with_slot" (top 54) .none .none .none (.str "stow.shelves" 885) none (.ref 562) .none none
def XTw:Obj:=fq "has_live" "has_live" (top 55)
def XPv:Obj:=cp "has_live" "has_live" 938 (vI 261::vI 3::vI 0::vI 0::vI 3::vR 564::(.bool true)::vI 181::vR 565::.none::.none::.none::vR 566::vI 941::vI 261::(.str "/claim/cut.py" 942)::[])
def XOc:Obj:=fo "has_live" "has_live" (top 55) .none .none .none (.str "stow.shelves" 885) none (.ref 567) .none none
def XPu (P:Params):Obj:=⟨(.type "dict"),none,.dict (en P "__module__" 951 (.str "stow.shelves" 885)::en P "__qualname__" 953 (.str "Shelves" 952)::en P "__firstlineno__" 955 (.int 263 954)::en P "__init__" 965 (.ref 582)::en P "clear" 972 (.ref 589)::en P "ask" 985 (.ref 597)::en P "give" 995 (.ref 604)::en P "__static_attributes__" 997 (.ref 605)::[]).toArray 8,#[]⟩
def ho572:Obj:=fl (vI 265::vI 4::vR 581::vI 271::vI 4::vR 588::vI 274::vI 4::vR 596::vI 282::vI 4::vR 603::[])
def ho573:Obj:=xk0 "Shelves" "Shelves" 946 263 0 0 572 949 950
def ho574:Obj:=xfm0 ((some (.ref 574))::(some (.ref 3))::(some (.ref 571))::none::(some (.str "stow.shelves" 885))::none::(some (.ref 0))::[])
def XSz:Obj:=tu ((.str "self" 959)::(.str "size" 960)::(.str "shelf" 961)::(.str "cells" 962)::[])
def ho579:Obj:=fq "__init__" "Shelves.__init__" (Xah (top 56) 0)
def XQp:Obj:=xk1 "__init__" "Shelves.__init__" 956 265 3 3 576 963 964
def XJu:Obj:=fo "__init__" "Shelves.__init__" (Xah (top 56) 0) .none .none .none (.str "stow.shelves" 885) none (.ref 581) .none none
def ho584:Obj:=tu ((.str "self" 969)::[])
def ho586:Obj:=fq "clear" "Shelves.clear" (Xah (top 56) 1)
def XQi:Obj:=xk1 "clear" "Shelves.clear" 966 271 1 3 583 970 971
def XNj:Obj:=fo "clear" "Shelves.clear" (Xah (top 56) 1) .none .none .none (.str "stow.shelves" 885) none (.ref 588) .none none
def XQq:Obj:=tu ((.int 1 973)::[])
def XTt:Obj:=tu ((.str "self" 977)::(.str "count" 978)::(.str "bound" 979)::(.str "size" 980)::(.str "cells" 981)::(.str "at" 982)::[])
def XTk:Obj:=fq "ask" "Shelves.ask" (Xah (top 56) 2)
def XRh:Obj:=xk1 "ask" "Shelves.ask" 974 274 3 3 591 983 984
def XRp:Obj:=fo "ask" "Shelves.ask" (Xah (top 56) 2) (.ref 590) .none .none (.str "stow.shelves" 885) none (.ref 596) .none none
def ho599:Obj:=tu ((.str "self" 989)::(.str "place" 990)::(.str "cells" 991)::(.str "begin" 992)::[])
def ho601:Obj:=fq "give" "Shelves.give" (Xah (top 56) 3)
def XJh:Obj:=xk1 "give" "Shelves.give" 986 282 2 3 598 993 994
def XOw:Obj:=fo "give" "Shelves.give" (Xah (top 56) 3) .none .none .none (.str "stow.shelves" 885) none (.ref 603) .none none
def ho604:Obj:=tu ((.str "shelf" 996)::[])
def XKf (P:Params):Obj:=⟨(.type "dict"),none,.dict (en P "__module__" 951 (.str "stow.shelves" 885)::en P "__firstlineno__" 955 (.int 263 954)::en P "__init__" 965 (.ref 582)::en P "clear" 972 (.ref 589)::en P "ask" 985 (.ref 597)::en P "give" 995 (.ref 604)::en P "__static_attributes__" 997 (.ref 605)::en P "__doc__" 998 .none::[]).toArray 2,#[]⟩
noncomputable def XIi:Obj:=⟨(.type "type"),none,.cls ⟨"Shelves",[(.ref 419)],[(.ref 607),(.ref 419),(.type "object")],606,"Shelves",true,[],[],false,none,false⟩,((some (.ref 569))::none::(some (.str "Shelves" 944))::(some (.str "Shelves" 952))::(some (.builtin "object.__new__"))::(some (.bool true))::[]).toArray⟩
def ho607:Obj:=xsu0 ((.ref 607)::(.ref 607)::(.ref 607)::[])
def XSm:Obj:=xbi0 ((.builtin "object.__init_subclass__")::(.ref 607)::[])
def ho611:Obj:=tu ((.str "_law_script" 1006)::(.str "_law_k" 1007)::[])
def ho613:Obj:=fq "_law_cell_at" "_law_cell_at" (top 58)
def XSa:Obj:=xk1 "_law_cell_at" "_law_cell_at" 1003 289 2 3 610 1008 1009
def XLb:Obj:=fo "_law_cell_at" "_law_cell_at" (top 58) .none .none .none (.str "law_stow_k38_refused" 1001) none (.ref 615) .none none
def ho618:Obj:=tu ((.str "_law_found" 1014)::[])
def XSp:Obj:=fq "_law_whole" "_law_whole" (top 59)
def XLp:Obj:=xk1 "_law_whole" "_law_whole" 1011 293 1 3 617 1015 1016
def XLi:Obj:=fo "_law_whole" "_law_whole" (top 59) .none .none .none (.str "law_stow_k38_refused" 1001) none (.ref 622) .none none
def ho625:Obj:=tu ((.str "_law_cells" 1021)::(.str "_law_told" 1022)::(.str "_law_at" 1023)::(.str "_law_long" 1024)::(.str "_law_live" 1025)::[])
def XSt:Obj:=fq "_law_walk" "_law_walk" (top 60)
def XJf:Obj:=xk1 "_law_walk" "_law_walk" 1018 295 1 3 624 1026 1027
def XOx:Obj:=fo "_law_walk" "_law_walk" (top 60) .none .none .none (.str "law_stow_k38_refused" 1001) none (.ref 629) .none none
def XTj:Obj:=fq "_law_words" "_law_words" (top 61)
def XNh:Obj:=cp "_law_words" "_law_words" 1029 (vI 312::vI 1::vI 0::vI 0::vI 3::vR 631::(.bool true)::vI 181::vR 632::.none::.none::.none::vR 633::vI 1032::vI 312::(.str "/claim/cut.py" 1033)::[])
def XQy:Obj:=fo "_law_words" "_law_words" (top 61) .none .none .none (.str "law_stow_k38_refused" 1001) none (.ref 634) .none none
def XSv:Obj:=tu ((.str "_law_keeper" 1038)::(.str "_law_which" 1039)::(.str "_law_place" 1040)::(.str "_law_count" 1041)::(.str "_law_bound" 1042)::(.str "_law_k" 1043)::[])
def ho639:Obj:=fq "_law_done" "_law_done" (top 62)
def XJi:Obj:=xk1 "_law_done" "_law_done" 1035 316 6 3 636 1044 1045
def XNv:Obj:=fo "_law_done" "_law_done" (top 62) .none .none .none (.str "law_stow_k38_refused" 1001) none (.ref 641) .none none
def ho644:Obj:=tu ((.str "_law_keeper" 1050)::(.str "_law_which" 1051)::(.str "_law_place" 1052)::(.str "_law_count" 1053)::(.str "_law_bound" 1054)::(.str "_law_k" 1055)::(.str "_law_flags" 1056)::(.str "_law_told" 1057)::(.str "e" 1058)::[])
def XUe:Obj:=fq "_law_call" "_law_call" (top 63)
def XIs:Obj:=xk1 "_law_call" "_law_call" 1047 328 6 3 643 1059 1060
def XJe:Obj:=fo "_law_call" "_law_call" (top 63) .none .none .none (.str "law_stow_k38_refused" 1001) none (.ref 648) .none none
def XSk:Obj:=tu ((.str "_law_count" 1065)::(.str "_law_bound" 1066)::[])
def XSi:Obj:=fq "_law_ask_due" "_law_ask_due" (top 64)
def XHx:Obj:=xk1 "_law_ask_due" "_law_ask_due" 1062 340 2 3 650 1067 1068
def XJy:Obj:=fo "_law_ask_due" "_law_ask_due" (top 64) .none .none .none (.str "law_stow_k38_refused" 1001) none (.ref 655) .none none
def XTc:Obj:=tu ((.str "_law_kind" 1073)::(.str "_law_which" 1074)::(.str "_law_lives" 1075)::(.str "_law_place" 1076)::(.str "_law_count" 1077)::(.str "_law_bound" 1078)::(.str "_law_k" 1079)::(.str "_law_most" 1080)::[])
def ho660:Obj:=fq "_law_due" "_law_due" (top 65)
def XJn:Obj:=xk1 "_law_due" "_law_due" 1070 346 8 3 657 1081 1082
def XHt:Obj:=fo "_law_due" "_law_due" (top 65) .none .none .none (.str "law_stow_k38_refused" 1001) none (.ref 662) .none none
def ho665:Obj:=fq "_law_place_by" "_law_place_by" (top 66)
def XPf:Obj:=cp "_law_place_by" "_law_place_by" 1084 (vI 362::vI 3::vI 0::vI 0::vI 3::vR 664::(.bool true)::vI 181::vR 665::.none::.none::.none::vR 666::vI 1087::vI 362::(.str "/claim/cut.py" 1088)::[])
def XIh:Obj:=fo "_law_place_by" "_law_place_by" (top 66) .none .none .none (.str "law_stow_k38_refused" 1001) none (.ref 667) .none none
def XTo:Obj:=fq "_law_step" "_law_step" (top 67)
def XOt:Obj:=cp "_law_step" "_law_step" 1090 (vI 368::vI 4::vI 0::vI 0::vI 3::vR 669::(.bool true)::vI 181::vR 670::.none::.none::.none::vR 671::vI 1093::vI 368::(.str "/claim/cut.py" 1094)::[])
def XRd:Obj:=fo "_law_step" "_law_step" (top 67) .none .none .none (.str "law_stow_k38_refused" 1001) none (.ref 672) .none none
def ho675:Obj:=fq "_law_last" "_law_last" (top 68)
def XMj:Obj:=cp "_law_last" "_law_last" 1096 (vI 392::vI 4::vI 0::vI 0::vI 3::vR 674::(.bool true)::vI 181::vR 675::.none::.none::.none::vR 676::vI 1099::vI 392::(.str "/claim/cut.py" 1100)::[])
def XLc:Obj:=fo "_law_last" "_law_last" (top 68) .none .none .none (.str "law_stow_k38_refused" 1001) none (.ref 677) .none none
def ho680:Obj:=tu ((.str "_law_script" 1105)::(.str "_law_kind" 1106)::(.str "_law_size" 1107)::(.str "_law_keeper" 1108)::(.str "_law_most" 1109)::(.str "_law_cell" 1110)::[])
def XSw:Obj:=fq "law" "law" (top 69)
def XKu:Obj:=xk1 "law" "law" 1102 412 1 3 679 1111 1112
def XRl:Obj:=fo "law" "law" (top 69) .none .none .none (.str "law_stow_k38_refused" 1001) none (.ref 684) .none none
noncomputable def XNs:Params→Heap:=fun P=>⟨Array.mk (PySem.W.boot_o_0 P::PySem.W.boot_o_1 P::PySem.W.boot_o_2 P::PySem.W.boot_o_3 P::PySem.W.boot_o_4 P::PySem.W.boot_o_5 P::PySem.W.boot_o_6 P::PySem.W.boot_o_7 P::PySem.W.boot_o_8 P::PySem.W.boot_o_9 P::PySem.W.boot_o_10 P::ho0::ho1::ho2::ho3::[]),⟨[],[],[],0,[],[],false,#[],[],0,false,false,false,0,[2000,10,10],false,0,true,[],[],0,false⟩⟩
def Xyh:List Stmt:=PySem.W.behindTheImports PySem.Challenge.pw_stow_k38_refused
def sts0:List Stmt:=(Xyh.drop 0).take 9
def sts1:List Stmt:=(Xyh.drop 9).take 23
def sts2:List Stmt:=(Xyh.drop 32).take 20
def sts3:List Stmt:=(Xyh.drop 52).take 18
def all0:List Stmt:=sts0++(sts1++(sts2++(sts3++[])))
def env0:Env:={ scope:=(PySem.Challenge.pw_stow_k38_refused).main.scope,locals:=mainNs,globals:=mainNs,cells:=[],code:=(.ref 13),frame:=some 14 }
def Xgr:Code:=.body all0 env0
theorem pre0 (w:World)(os:OsState):PySem.W.topGo treeTable PySem.Challenge.pw_stow_k38_refused w 11 (some (.ref 6)) 12 ⟨PySem.W.boot_heap w.params,Array.mk [],PySem.W.boot_drawn,PySem.W.boot_toks,os⟩ (PySem.W.topStub PySem.Challenge.pw_stow_k38_refused)=some (⟨XNs w.params,#[],⟨0,0,0,0⟩,187,os⟩,⟨denote treeTable (.body all0 env0),Xgr,⟨0,0,0,0⟩,[PySem.W.topFrame ⟨0,0,0,0⟩]⟩):=by kernel_rfl
noncomputable def XPp:Params→PySem.W.BT:=fun P=>(bN (PySem.W.boot_o_0 P) (bN (PySem.W.boot_o_1 P) (bN (PySem.W.boot_o_3 P) (bF (PySem.W.boot_o_7 P)) (bF ho0)) (bN (PySem.W.boot_o_5 P) (bF (PySem.W.boot_o_9 P)) (bF ho2))) (bN (PySem.W.boot_o_2 P) (bN (PySem.W.boot_o_4 P) (bF (PySem.W.boot_o_8 P)) (bF ho1)) (bN (PySem.W.boot_o_6 P) (bF (PySem.W.boot_o_10 P)) (bF ho3))))
theorem blk0 (w:World)(os:OsState):PySem.W.segRun treeTable PySem.Challenge.pw_stow_k38_refused w 11 (some (.ref 6)) 1 1 ⟨XNs w.params,#[],⟨0,0,0,0⟩,187,os⟩ (PySem.W.blockOf all0 env0 Xgr ⟨0,0,0,0⟩ [PySem.W.topFrame ⟨0,0,0,0⟩])=some (.next,(PySem.W.SharedT.mk (XPp w.params) 15 ⟨[],[],[],0,[],[],false,#[],[],0,false,false,false,0,[2000,10,10],false,0,true,[],[],0,false⟩ #[] ⟨0,0,0,0⟩ 187 os).abs,Xgr,⟨0,0,0,0⟩):=by kernel_rfl
noncomputable def Xzw:Params→PySem.W.BT:=fun P=>(bN (PySem.W.boot_o_0 P) (bN (PySem.W.boot_o_1 P) (bN (ho4 P) (bN (PySem.W.boot_o_7 P) (bN ho6 (bN ho0 (bF ho54) (bF ho19)) (bN ho0 (bF (ho70 P)) (bF ho1))) (bN (ho14 P) (bN ho30 (bF ho19) (bF (ho94 P))) (bN ho0 (bF ho1) .nil))) (bN ho0 (bN ho1 (bN ho0 (bF (ho58 P)) (bF ho1)) (bN ho42 (bF ho19) (bF (Xtp P)))) (bN ho18 (bN ho0 (bF ho1) (bF ho19)) (bN ho0 (bF (ho82 P)) .nil)))) (bN (PySem.W.boot_o_5 P) (bN (PySem.W.boot_o_9 P) (bN (ho8 P) (bN ho24 (bF ho56) (bF (ho88 P))) (bN ho40 (bF ho72) (bF Xxn))) (bN ho16 (bN ho7 (bF (ho64 P)) (bF ho96)) (bN ho48 (bF ho80) .nil))) (bN ho2 (bN ho12 (bN ho28 (bF ho60) (bF ho92)) (bN ho7 (bF (ho76 P)) (bF Xvu))) (bN ho7 (bN ho36 (bF ho68) (bF (Xrt P))) (bN ho52 (bF ho84) .nil))))) (bN (PySem.W.boot_o_2 P) (bN (PySem.W.boot_o_4 P) (bN (PySem.W.boot_o_8 P) (bN ho7 (bN ho1 (bF ho55) (bF ho7)) (bN (ho39 P) (bF ho71) (bF Xwn))) (bN ho15 (bN ho19 (bF ho7) (bF ho95)) (bN ho47 (bF ho79) .nil))) (bN ho5 (bN ho11 (bN (ho27 P) (bF ho59) (bF ho91)) (bN ho19 (bF ho7) (bF Xts))) (bN ho19 (bN ho1 (bF ho67) (bF ho7)) (bN ho1 (bF ho83) .nil)))) (bN (PySem.W.boot_o_6 P) (bN (PySem.W.boot_o_10 P) (bN ho0 (bN ho25 (bF ho57) (bF ho0)) (bN ho41 (bF ho73) (bF ho0))) (bN ho17 (bN (ho33 P) (bF ho0) (bF ho97)) (bN ho49 (bF ho0) .nil))) (bN ho3 (bN ho0 (bN ho29 (bF ho61) (bF ho0)) (bN (ho45 P) (bF ho0) (bF Xwp))) (bN (ho21 P) (bN ho37 (bF ho0) (bF ho0)) (bN ho0 (bF ho85) .nil))))))
theorem grp0 (w:World)(os:OsState):PySem.W.segRunT treeTable PySem.Challenge.pw_stow_k38_refused w 11 (some (.ref 6)) 1 1719 (PySem.W.SharedT.mk (XPp w.params) 15 ⟨[],[],[],0,[],[],false,#[],[],0,false,false,false,0,[2000,10,10],false,0,true,[],[],0,false⟩ #[] ⟨0,0,0,0⟩ 187 os) (PySem.W.piecesOf sts0 env0 Xgr ⟨0,0,0,0⟩ [PySem.W.topFrame ⟨0,0,0,0⟩])=some (.next,(PySem.W.SharedT.mk (Xzw w.params) 119 ⟨[],[],[],0,[],[],false,#[],[],0,false,false,false,0,[2000,10,10],false,0,true,[],[],0,false⟩ #[] ⟨0,0,0,0⟩ 328 os),Xgr,⟨18,0,19,8⟩):=by kernel_rfl
noncomputable def Xqs:Params→PySem.W.BT:=fun P=>(bN (PySem.W.boot_o_0 P) (bN (PySem.W.boot_o_1 P) (bN (XTd P) (bN (PySem.W.boot_o_7 P) (bN ho6 (bN ho0 (bN ho54 (bN (Xvn P) (bF ho1) .nil) (bF XBq)) (bN ho19 (bF XEw) (bF XGt))) (bN ho0 (bN (ho70 P) (bN ho19 (bF ho0) .nil) (bF XEt)) (bN ho1 (bF ho7) (bF Xvf)))) (bN (ho14 P) (bN ho30 (bN ho19 (bN ho1 (bF XAq) .nil) (bF ho1)) (bN (ho94 P) (bF XDv) (bF Xxd))) (bN ho0 (bN ho1 (bF (Xxv P)) (bF ho0)) (bN ho19 (bF Xwg) (bF ho0))))) (bN ho0 (bN ho1 (bN ho0 (bN (ho58 P) (bN ho19 (bF Xve) .nil) (bF Xys)) (bN ho1 (bF ho1) (bF ho1))) (bN ho42 (bN ho19 (bF ho1) (bF Xwd)) (bN (Xtp P) (bF XEm) (bF ho0)))) (bN ho18 (bN ho0 (bN ho1 (bN (Xxt P) (bF Xxo) .nil) (bF Xxg)) (bN ho19 (bF Xvg) (bF XAr))) (bN ho0 (bN (ho82 P) (bF ho19) (bF ho0)) (bN ho1 (bF ho7) (bF XBx)))))) (bN (PySem.W.boot_o_5 P) (bN (PySem.W.boot_o_9 P) (bN (ho8 P) (bN ho24 (bN ho56 (bN XFp (bF ho0) .nil) (bF ho0)) (bN (ho88 P) (bF XFi) (bF Xxx))) (bN ho40 (bN ho72 (bN (Xwr P) (bF Xxl) .nil) (bF XEi)) (bN Xxn (bF ho0) (bF ho1)))) (bN ho16 (bN ho7 (bN (ho64 P) (bN XFk (bF XEb) .nil) (bF ho0)) (bN ho96 (bF XGm) (bF ho0))) (bN ho48 (bN ho80 (bF XFu) (bF Xvh)) (bN (Xvo P) (bF XFj) (bF XGi))))) (bN ho2 (bN ho12 (bN ho28 (bN ho60 (bN (Xxe P) (bF ho0) .nil) (bF XGq)) (bN ho92 (bF ho0) (bF ho0))) (bN ho7 (bN (ho76 P) (bF XCu) (bF ho1)) (bN Xvu (bF ho0) (bF Xxc)))) (bN ho7 (bN ho36 (bN ho68 (bN XEu (bF ho1) .nil) (bF ho0)) (bN (Xrt P) (bF XCz) (bF XBc))) (bN ho52 (bN ho84 (bF (Xyb P)) (bF XCk)) (bN XBs (bF ho0) (bF Xyc))))))) (bN (PySem.W.boot_o_2 P) (bN (PySem.W.boot_o_4 P) (bN (PySem.W.boot_o_8 P) (bN ho7 (bN ho1 (bN ho55 (bN Xxm (bF XEn) .nil) (bF XHn)) (bN ho7 (bF XBy) (bF Xvr))) (bN (ho39 P) (bN ho71 (bN ho7 (bF XDa) .nil) (bF ho0)) (bN Xwn (bF (Xyz P)) (bF ho0)))) (bN Xvq (bN ho19 (bN ho7 (bN XEf (bF ho0) .nil) (bF XGb)) (bN ho95 (bF XCf) (bF Xwy))) (bN ho47 (bN ho79 (bF Xww) (bF XAm)) (bN ho7 (bF XGk) (bF ho1))))) (bN XUd (bN ho11 (bN (ho27 P) (bN ho59 (bN ho7 (bF Xxa) .nil) (bF XHa)) (bN ho91 (bF XBp) (bF XGo))) (bN ho19 (bN ho7 (bF XAn) (bF ho0)) (bN Xts (bF XFx) (bF XFf)))) (bN ho19 (bN ho1 (bN ho67 (bN Xwi (bF ho0) .nil) (bF Xxw)) (bN ho7 (bF XCe) (bF ho0))) (bN ho1 (bN ho83 (bF ho7) (bF ho1)) (bN XEh (bF (Xym P)) (bF Xwa)))))) (bN (PySem.W.boot_o_6 P) (bN (PySem.W.boot_o_10 P) (bN ho0 (bN ho25 (bN ho57 (bN XFr (bF XDe) .nil) (bF (Xyv P))) (bN ho0 (bF ho0) (bF ho0))) (bN ho41 (bN ho73 (bN ho0 (bF Xyf) .nil) (bF Xyu)) (bN ho0 (bF ho1) (bF XGn)))) (bN ho17 (bN (ho33 P) (bN ho0 (bN ho0 (bF Xyx) .nil) (bF XDi)) (bN ho97 (bF (Xxh P)) (bF ho1))) (bN ho49 (bN ho0 (bF XHq) (bF Xxy)) (bN ho0 (bF ho19) (bF ho0))))) (bN ho3 (bN ho0 (bN ho29 (bN ho61 (bN ho0 (bF ho1) .nil) (bF ho0)) (bN ho0 (bF XDp) (bF XBz))) (bN (ho45 P) (bN ho0 (bF ho0) (bF XBm)) (bN Xwp (bF (Xxf P)) (bF Xyi)))) (bN (ho21 P) (bN ho37 (bN ho0 (bN XGx (bF XFv) .nil) (bF ho1)) (bN ho0 (bF ho19) (bF Xxu))) (bN ho0 (bN ho85 (bF ho0) (bF ho0)) (bN ho0 (bF ho1) (bF ho0))))))))
theorem grp1 (w:World)(os:OsState):PySem.W.segRunT treeTable PySem.Challenge.pw_stow_k38_refused w 11 (some (.ref 6)) 1 1702 (PySem.W.SharedT.mk (Xzw w.params) 119 ⟨[],[],[],0,[],[],false,#[],[],0,false,false,false,0,[2000,10,10],false,0,true,[],[],0,false⟩ #[] ⟨0,0,0,0⟩ 328 os) (PySem.W.piecesOf sts1 env0 Xgr ⟨18,0,19,8⟩ [PySem.W.topFrame ⟨0,0,0,0⟩])=some (.next,(PySem.W.SharedT.mk (Xqs w.params) 275 ⟨[],[],[],0,[],[],false,#[],[],0,false,false,false,0,[2000,10,10],false,0,true,[],[],0,false⟩ #[] ⟨0,0,0,0⟩ 540 os),Xgr,⟨90,0,93,49⟩):=by kernel_rfl
noncomputable def Xuz:Params→PySem.W.BT:=fun P=>(bN (PySem.W.boot_o_0 P) (bN (PySem.W.boot_o_1 P) (bN (ho269 P) (bN (PySem.W.boot_o_7 P) (bN ho6 (bN ho0 (bN ho54 (bN (Xvn P) (bN ho1 (bF XAu) .nil) (bF XSf)) (bN XBq (bF XRg) (bF XMc))) (bN ho19 (bN XEw (bN XDk (bF XBn) .nil) (bF XBd)) (bN XGt (bF XDr) (bF ho0)))) (bN ho0 (bN (ho70 P) (bN ho19 (bN ho0 (bF ho1) .nil) (bF ho0)) (bN XEt (bF XOe) (bF XLx))) (bN ho1 (bN ho7 (bF ho0) (bF ho0)) (bN Xvf (bF ho1) (bF XIo))))) (bN (ho14 P) (bN ho30 (bN ho19 (bN ho1 (bN XAq (bF XAz) .nil) (bF XOk)) (bN ho1 (bF ho0) (bF XCw))) (bN (ho94 P) (bN XDv (bF XAw) (bF XJw)) (bN Xxd (bF ho0) (bF (XDx P))))) (bN ho0 (bN ho1 (bN (Xxv P) (bN XIe (bF XQf) .nil) (bF XOh)) (bN ho0 (bF XGh) (bF XBi))) (bN ho19 (bN Xwg (bF ho7) (bF ho1)) (bN ho0 (bF ho1) (bF XQn)))))) (bN ho0 (bN ho1 (bN ho0 (bN (ho58 P) (bN ho19 (bN Xve (bF ho1) .nil) (bF XIj)) (bN Xys (bF XBe) (bF ho1))) (bN ho1 (bN ho1 (bF XLe) (bF ho415)) (bN ho1 (bF ho0) (bF XNy)))) (bN ho42 (bN ho19 (bN ho1 (bN ho0 (bF XBw) .nil) (bF ho0)) (bN Xwd (bF ho1) (bF ho0))) (bN (Xtp P) (bN XEm (bF XRw) (bF XPq)) (bN ho0 (bF XDq) (bF ho0))))) (bN ho18 (bN ho0 (bN ho1 (bN (Xxt P) (bN Xxo (bF XDj) .nil) (bF XEj)) (bN Xxg (bF ho0) (bF (XDd P)))) (bN ho19 (bN Xvg (bF ho0) (bF ho0)) (bN XAr (bF XOr) (bF Xqc)))) (bN ho0 (bN (ho82 P) (bN ho19 (bN ho1 (bF XEv) .nil) (bF ho1)) (bN ho0 (bF XNf) (bF ho0))) (bN ho1 (bN ho7 (bF XKi) (bF ho0)) (bN XBx (bF XQj) (bF ho1))))))) (bN (PySem.W.boot_o_5 P) (bN (PySem.W.boot_o_9 P) (bN (ho8 P) (bN ho24 (bN ho56 (bN XFp (bN ho0 (bF XBb) .nil) (bF XIu)) (bN ho0 (bF XIg) (bF XCl))) (bN (ho88 P) (bN XFi (bF ho0) (bF XKa)) (bN Xxx (bF ho1) (bF XLg)))) (bN ho40 (bN ho72 (bN (Xwr P) (bN Xxl (bF ho0) .nil) (bF XDg)) (bN XEi (bF XBj) (bF ho1))) (bN Xxn (bN ho0 (bF XRi) (bF XJx)) (bN ho1 (bF ho0) (bF XNi))))) (bN ho16 (bN ho7 (bN (ho64 P) (bN XFk (bN XEb (bF ho0) .nil) (bF XRc)) (bN ho0 (bF XHr) (bF Xqc))) (bN ho96 (bN XGm (bF ho1) (bF ho1)) (bN ho0 (bF XNk) (bF XIq)))) (bN ho48 (bN ho80 (bN XFu (bN XDm (bF XOp) .nil) (bF XHg)) (bN Xvh (bF ho0) (bF ho1))) (bN (Xvo P) (bN XFj (bF ho0) (bF XHl)) (bN XGi (bF ho0) (bF XDw)))))) (bN ho2 (bN ho12 (bN ho28 (bN ho60 (bN (Xxe P) (bN ho0 (bF ho0) .nil) (bF ho0)) (bN XGq (bF ho1) (bF ho0))) (bN ho92 (bN ho0 (bF XQu) (bF XNg)) (bN ho0 (bF XHi) (bF XEx)))) (bN ho7 (bN (ho76 P) (bN XCu (bN XIn (bF ho0) .nil) (bF XPd)) (bN ho1 (bF ho0) (bF XEr))) (bN Xvu (bN ho0 (bF XCb) (bF XDt)) (bN Xxc (bF XMp) (bF XJk))))) (bN ho7 (bN ho36 (bN ho68 (bN XEu (bN ho1 (bF XRb) .nil) (bF ho1)) (bN ho0 (bF XPb) (bF XRj))) (bN (Xrt P) (bN XCz (bF XCo) (bF XDu)) (bN XBc (bF XFg) (bF (XFd P))))) (bN ho52 (bN ho84 (bN (Xyb P) (bN ho0 (bF ho1) .nil) (bF ho0)) (bN XCk (bF XLj) (bF XFa))) (bN XBs (bN ho0 (bF ho0) (bF XKz)) (bN Xyc (bF ho0) (bF ho0)))))))) (bN (PySem.W.boot_o_2 P) (bN (PySem.W.boot_o_4 P) (bN (PySem.W.boot_o_8 P) (bN ho7 (bN ho1 (bN ho55 (bN Xxm (bN XEn (bF XHk) .nil) (bF ho0)) (bN XHn (bF ho0) (bF XGz))) (bN ho7 (bN XBy (bN XFw (bF XAp) .nil) (bF XFy)) (bN Xvr (bF ho0) (bF ho1)))) (bN (ho39 P) (bN ho71 (bN ho7 (bN XDa (bF XQl) .nil) (bF XPy)) (bN ho0 (bF XGv) (bF ho0))) (bN Xwn (bN (Xyz P) (bF ho1) (bF ho1)) (bN ho0 (bF XQo) (bF XNq))))) (bN Xvq (bN ho19 (bN ho7 (bN XEf (bN ho0 (bF XCp) .nil) (bF ho0)) (bN XGb (bF XNb) (bF XHf))) (bN ho95 (bN XCf (bF ho0) (bF ho0)) (bN Xwy (bF ho1) (bF XEs)))) (bN ho47 (bN ho79 (bN Xww (bN XCc (bF ho0) .nil) (bF XCv)) (bN XAm (bF XCy) (bF ho0))) (bN ho7 (bN XGk (bF (XGy P)) (bF XPm)) (bN ho1 (bF XNl) (bF XCr)))))) (bN ho270 (bN ho11 (bN (ho27 P) (bN ho59 (bN ho7 (bN Xxa (bF XRe) .nil) (bF XEk)) (bN XHa (bF ho0) (bF XLz))) (bN ho91 (bN XBp (bF ho0) (bF XMf)) (bN XGo (bF XMu) (bF XFe)))) (bN ho19 (bN ho7 (bN XAn (bN ho1 (bF XDo) .nil) (bF ho1)) (bN ho0 (bF XRr) (bF XJt))) (bN Xts (bN XFx (bF XBh) (bF XBa)) (bN XFf (bF XCi) (bF ho1))))) (bN ho19 (bN ho1 (bN ho67 (bN Xwi (bN ho0 (bF XNr) .nil) (bF ho0)) (bN Xxw (bF ho1) (bF ho0))) (bN ho7 (bN XCe (bF XLt) (bF XNt)) (bN ho0 (bF XCa) (bF ho7)))) (bN ho1 (bN ho83 (bN ho7 (bN XHw (bF ho0) .nil) (bF XLf)) (bN ho1 (bF ho0) (bF XQv))) (bN XEh (bN (Xym P) (bF XLu) (bF ho1)) (bN Xwa (bF XMe) (bF XRu))))))) (bN (PySem.W.boot_o_6 P) (bN (PySem.W.boot_o_10 P) (bN ho0 (bN ho25 (bN ho57 (bN XFr (bN XDe (bF ho0) .nil) (bF XIf)) (bN (Xyv P) (bF XGc) (bF ho0))) (bN ho0 (bN ho0 (bF ho1) (bF (XEc P))) (bN ho0 (bF XMw) (bF ho0)))) (bN ho41 (bN ho73 (bN ho0 (bN Xyf (bF XLm) .nil) (bF XEl)) (bN Xyu (bF ho0) (bF XSe))) (bN ho0 (bN ho1 (bF ho0) (bF ho0)) (bN XGn (bF XOf) (bF XEg))))) (bN ho17 (bN (ho33 P) (bN ho0 (bN ho0 (bN Xyx (bF (XGs P)) .nil) (bF XAx)) (bN XDi (bF XFt) (bF ho7))) (bN ho97 (bN (Xxh P) (bF XPl) (bF XMn)) (bN ho1 (bF ho0) (bF XLd)))) (bN ho49 (bN ho0 (bN XHq (bN ho0 (bF XGp) .nil) (bF ho0)) (bN Xxy (bF ho1) (bF XNp))) (bN ho0 (bN ho19 (bF XPt) (bF XGu)) (bN ho0 (bF XRk) (bF ho0)))))) (bN ho3 (bN ho0 (bN ho29 (bN ho61 (bN ho0 (bN ho1 (bF XHz) .nil) (bF ho1)) (bN ho0 (bF XPg) (bF XOu))) (bN ho0 (bN XDp (bF XCx) (bF XOl)) (bN XBz (bF XCj) (bF ho0)))) (bN (ho45 P) (bN ho0 (bN ho0 (bN ho0 (bF ho1) .nil) (bF ho0)) (bN XBm (bF XIa) (bF XBk))) (bN Xwp (bN (Xxf P) (bF ho0) (bF ho0)) (bN Xyi (bF ho0) (bF ho0))))) (bN (ho21 P) (bN ho37 (bN ho0 (bN XGx (bN XFv (bF ho0) .nil) (bF XKh)) (bN ho1 (bF ho0) (bF XSd))) (bN ho0 (bN ho19 (bF XFl) (bF XGa)) (bN Xxu (bF ho0) (bF ho0)))) (bN ho0 (bN ho85 (bN ho0 (bN XPa (bF XQm) .nil) (bF XSc)) (bN ho0 (bF XGl) (bF XHp))) (bN ho0 (bN ho1 (bF ho1) (bF ho0)) (bN ho0 (bF ho1) (bF XPx)))))))))
theorem grp2 (w:World)(os:OsState):PySem.W.segRunT treeTable PySem.Challenge.pw_stow_k38_refused w 11 (some (.ref 6)) 1 1726 (PySem.W.SharedT.mk (Xqs w.params) 275 ⟨[],[],[],0,[],[],false,#[],[],0,false,false,false,0,[2000,10,10],false,0,true,[],[],0,false⟩ #[] ⟨0,0,0,0⟩ 540 os) (PySem.W.piecesOf sts2 env0 Xgr ⟨90,0,93,49⟩ [PySem.W.topFrame ⟨0,0,0,0⟩])=some (.next,(PySem.W.SharedT.mk (Xuz w.params) 545 ⟨[],[],[],0,[],[],false,#[],[],0,false,false,false,0,[2000,10,10],false,0,true,[],[],0,false⟩ #[] ⟨0,0,0,0⟩ 909 os),Xgr,⟨243,0,244,81⟩):=by kernel_rfl
noncomputable def Xif:Params→PySem.W.BT:=fun P=>(bN (PySem.W.boot_o_0 P) (bN (PySem.W.boot_o_1 P) (bN (XQs P) (bN (PySem.W.boot_o_7 P) (bN ho6 (bN ho0 (bN ho54 (bN (Xvn P) (bN ho1 (bF XAu) .nil) (bN XSf (bF ho0) .nil)) (bN XBq (bN XRg (bF ho574) .nil) (bF XMc))) (bN ho19 (bN XEw (bN XDk (bF XBn) .nil) (bN XBd (bF XTo) .nil)) (bN XGt (bN XDr (bF XIi) .nil) (bF ho0)))) (bN ho0 (bN (ho70 P) (bN ho19 (bN ho0 (bF ho1) .nil) (bN ho0 (bF XHx) .nil)) (bN XEt (bN XOe (bF ho0) .nil) (bF XLx))) (bN ho1 (bN ho7 (bN ho0 (bF XSr) .nil) (bF ho0)) (bN Xvf (bN ho1 (bF XLi) .nil) (bF XIo))))) (bN (ho14 P) (bN ho30 (bN ho19 (bN ho1 (bN XAq (bF XAz) .nil) (bN XOk (bF XUe) .nil)) (bN ho1 (bN ho0 (bF ho0) .nil) (bF XCw))) (bN (ho94 P) (bN XDv (bN XAw (bF ho1) .nil) (bN XJw (bF ho0) .nil)) (bN Xxd (bN ho0 (bF XSa) .nil) (bF (XDx P))))) (bN ho0 (bN ho1 (bN (Xxv P) (bN XIe (bF XQf) .nil) (bN XOh (bF XHt) .nil)) (bN ho0 (bN XGh (bF ho1) .nil) (bF XBi))) (bN ho19 (bN Xwg (bN ho7 (bF XPv) .nil) (bF ho1)) (bN ho0 (bN ho1 (bF ho0) .nil) (bF XQn)))))) (bN ho0 (bN ho1 (bN ho0 (bN (ho58 P) (bN ho19 (bN Xve (bF ho1) .nil) (bN XIj (bF ho0) .nil)) (bN Xys (bN XBe (bF ho0) .nil) (bF ho1))) (bN ho1 (bN ho1 (bN XLe (bF XTh) .nil) (bN XOm (bF ho1) .nil)) (bN ho1 (bN ho0 (bF ho1) .nil) (bF XNy)))) (bN ho42 (bN ho19 (bN ho1 (bN ho0 (bF XBw) .nil) (bN ho0 (bF XTc) .nil)) (bN Xwd (bN ho1 (bF XTk) .nil) (bF ho0))) (bN (Xtp P) (bN XEm (bN XRw (bF XId) .nil) (bF XPq)) (bN ho0 (bN XDq (bF ho0) .nil) (bF ho0))))) (bN ho18 (bN ho0 (bN ho1 (bN (Xxt P) (bN Xxo (bF XDj) .nil) (bN XEj (bF ho1) .nil)) (bN Xxg (bN ho0 (bF ho586) .nil) (bF (XDd P)))) (bN ho19 (bN Xvg (bN ho0 (bF XIl) .nil) (bN ho0 (bF XSw) .nil)) (bN XAr (bN XOr (bF ho618) .nil) (bF Xqc)))) (bN ho0 (bN (ho82 P) (bN ho19 (bN ho1 (bF XEv) .nil) (bN ho1 (bF XPf) .nil)) (bN ho0 (bN XNf (bF XJh) .nil) (bF ho0))) (bN ho1 (bN ho7 (bN XKi (bF (XPu P)) .nil) (bF ho0)) (bN XBx (bN XQj (bF XQy) .nil) (bF ho1))))))) (bN (PySem.W.boot_o_5 P) (bN (PySem.W.boot_o_9 P) (bN (ho8 P) (bN ho24 (bN ho56 (bN XFp (bN ho0 (bF XBb) .nil) (bN XIu (bF XJi) .nil)) (bN ho0 (bN XIg (bF ho1) .nil) (bF XCl))) (bN (ho88 P) (bN XFi (bN ho0 (bF ho0) .nil) (bN XKa (bF XRd) .nil)) (bN Xxx (bN ho1 (bF XSm) .nil) (bF XLg)))) (bN ho40 (bN ho72 (bN (Xwr P) (bN Xxl (bF ho0) .nil) (bN XDg (bF ho0) .nil)) (bN XEi (bN XBj (bF XTt) .nil) (bF ho1))) (bN Xxn (bN ho0 (bN XRi (bF ho560) .nil) (bF XJx)) (bN ho1 (bN ho0 (bF ho1) .nil) (bF XNi))))) (bN ho16 (bN ho7 (bN (ho64 P) (bN XFk (bN XEb (bF ho0) .nil) (bN XRc (bF XJe) .nil)) (bN ho0 (bN XHr (bF ho584) .nil) (bF Xqc))) (bN ho96 (bN XGm (bN ho1 (bF ho0) .nil) (bN ho1 (bF ho680) .nil)) (bN ho0 (bN XNk (bF ho0) .nil) (bF XIq)))) (bN ho48 (bN ho80 (bN XFu (bN XDm (bF XOp) .nil) (bN XHg (bF ho1) .nil)) (bN Xvh (bN ho0 (bF ho0) .nil) (bF ho1))) (bN (Xvo P) (bN XFj (bN ho0 (bF Xqc) .nil) (bF XHl)) (bN XGi (bN ho0 (bF XTj) .nil) (bF XDw)))))) (bN ho2 (bN ho12 (bN ho28 (bN ho60 (bN (Xxe P) (bN ho0 (bF ho0) .nil) (bN ho0 (bF ho644) .nil)) (bN XGq (bN ho1 (bF XQp) .nil) (bF ho0))) (bN ho92 (bN ho0 (bN XQu (bF XKv) .nil) (bN XNg (bF XMj) .nil)) (bN ho0 (bN XHi (bF ho0) .nil) (bF XEx)))) (bN ho7 (bN (ho76 P) (bN XCu (bN XIn (bF ho0) .nil) (bN XPd (bF ho660) .nil)) (bN ho1 (bN ho0 (bF XRp) .nil) (bF XEr))) (bN Xvu (bN ho0 (bN XCb (bF ho1) .nil) (bF XDt)) (bN Xxc (bN XMp (bF XJf) .nil) (bF XJk))))) (bN ho7 (bN ho36 (bN ho68 (bN XEu (bN ho1 (bF XRb) .nil) (bN ho1 (bF ho0) .nil)) (bN ho0 (bN XPb (bF XNj) .nil) (bF XRj))) (bN (Xrt P) (bN XCz (bN XCo (bF ho0) .nil) (bN XDu (bF XRl) .nil)) (bN XBc (bN XFg (bF XSp) .nil) (bF (XFd P))))) (bN ho52 (bN ho84 (bN (Xyb P) (bN ho0 (bF ho1) .nil) (bN ho0 (bF ho0) .nil)) (bN XCk (bN XLj (bF ho604) .nil) (bF XFa))) (bN XBs (bN ho0 (bN ho0 (bF ho572) .nil) (bF XKz)) (bN Xyc (bN ho0 (bF ho1) .nil) (bF ho0)))))))) (bN (PySem.W.boot_o_2 P) (bN (PySem.W.boot_o_4 P) (bN (PySem.W.boot_o_8 P) (bN ho7 (bN ho1 (bN ho55 (bN Xxm (bN XEn (bF XHk) .nil) (bN ho0 (bF ho639) .nil)) (bN XHn (bN ho0 (bF ho0) .nil) (bF XGz))) (bN ho7 (bN XBy (bN XFw (bF XAp) .nil) (bN XFy (bF XOt) .nil)) (bN Xvr (bN ho0 (bF ho607) .nil) (bF ho1)))) (bN (ho39 P) (bN ho71 (bN ho7 (bN XDa (bF XQl) .nil) (bN XPy (bF XJy) .nil)) (bN ho0 (bN XGv (bF ho1) .nil) (bF ho0))) (bN Xwn (bN (Xyz P) (bN ho1 (bF ho0) .nil) (bF ho1)) (bN ho0 (bN XQo (bF ho0) .nil) (bF XNq))))) (bN Xvq (bN ho19 (bN ho7 (bN XEf (bN ho0 (bF XCp) .nil) (bN ho0 (bF XIs) .nil)) (bN XGb (bN XNb (bF ho1) .nil) (bF XHf))) (bN ho95 (bN XCf (bN ho0 (bF ho551) .nil) (bN ho0 (bF ho1) .nil)) (bN Xwy (bN ho1 (bF XLb) .nil) (bF XEs)))) (bN ho47 (bN ho79 (bN Xww (bN XCc (bF ho0) .nil) (bN XCv (bF ho0) .nil)) (bN XAm (bN XCy (bF ho599) .nil) (bF ho0))) (bN ho7 (bN XGk (bN (XGy P) (bF XOc) .nil) (bF XPm)) (bN ho1 (bN XNl (bF ho1) .nil) (bF XCr)))))) (bN ho542 (bN ho11 (bN (ho27 P) (bN ho59 (bN ho7 (bN Xxa (bF XRe) .nil) (bN XEk (bF ho1) .nil)) (bN XHa (bN ho0 (bF ho579) .nil) (bF XLz))) (bN ho91 (bN XBp (bN ho0 (bF XNc) .nil) (bN XMf (bF ho675) .nil)) (bN XGo (bN XMu (bF ho611) .nil) (bF XFe)))) (bN ho19 (bN ho7 (bN XAn (bN ho1 (bF XDo) .nil) (bN ho1 (bF ho0) .nil)) (bN ho0 (bN XRr (bF XRh) .nil) (bF XJt))) (bN Xts (bN XFx (bN XBh (bF ho0) .nil) (bF XBa)) (bN XFf (bN XCi (bF XSt) .nil) (bF ho1))))) (bN ho19 (bN ho1 (bN ho67 (bN Xwi (bN ho0 (bF XNr) .nil) (bN ho0 (bF XSk) .nil)) (bN Xxw (bN ho1 (bF XQi) .nil) (bF ho0))) (bN ho7 (bN XCe (bN XLt (bF XOd) .nil) (bN XNt (bF XKu) .nil)) (bN ho0 (bN XCa (bF ho0) .nil) (bF ho7)))) (bN ho1 (bN ho83 (bN ho7 (bN XHw (bF ho0) .nil) (bN XLf (bF XIh) .nil)) (bN ho1 (bN ho0 (bF XOw) .nil) (bF XQv))) (bN XEh (bN (Xym P) (bN XLu (bF ho0) .nil) (bF ho1)) (bN Xwa (bN XMe (bF ho0) .nil) (bF XRu))))))) (bN (PySem.W.boot_o_6 P) (bN (PySem.W.boot_o_10 P) (bN ho0 (bN ho25 (bN ho57 (bN XFr (bN XDe (bF ho0) .nil) (bN XIf (bF XNv) .nil)) (bN (Xyv P) (bN XGc (bF XSz) .nil) (bF ho0))) (bN ho0 (bN ho0 (bN ho1 (bF ho1) .nil) (bN (XEc P) (bF ho0) .nil)) (bN ho0 (bN XMw (bF ho0) .nil) (bF ho0)))) (bN ho41 (bN ho73 (bN ho0 (bN Xyf (bF XLm) .nil) (bN XEl (bF ho1) .nil)) (bN Xyu (bN ho0 (bF ho0) .nil) (bF XSe))) (bN ho0 (bN ho1 (bN ho0 (bF XPj) .nil) (bF ho0)) (bN XGn (bN XOf (bF ho625) .nil) (bF XEg))))) (bN ho17 (bN (ho33 P) (bN ho0 (bN ho0 (bN Xyx (bF (XGs P)) .nil) (bN XAx (bF ho0) .nil)) (bN XDi (bN XFt (bF ho0) .nil) (bF ho7))) (bN ho97 (bN (Xxh P) (bN XPl (bF ho553) .nil) (bN XMn (bF ho0) .nil)) (bN ho1 (bN ho0 (bF ho1) .nil) (bF XLd)))) (bN ho49 (bN ho0 (bN XHq (bN ho0 (bF XGp) .nil) (bN ho0 (bF ho665) .nil)) (bN Xxy (bN ho1 (bF ho601) .nil) (bF XNp))) (bN ho0 (bN ho19 (bN XPt (bF ho7) .nil) (bF XGu)) (bN ho0 (bN XRk (bF XNh) .nil) (bF ho0)))))) (bN ho3 (bN ho0 (bN ho29 (bN ho61 (bN ho0 (bN ho1 (bF XHz) .nil) (bN ho1 (bF ho0) .nil)) (bN ho0 (bN XPg (bF XJu) .nil) (bF XOu))) (bN ho0 (bN XDp (bN XCx (bF ho0) .nil) (bN XOl (bF XLc) .nil)) (bN XBz (bN XCj (bF ho613) .nil) (bF ho0)))) (bN (ho45 P) (bN ho0 (bN ho0 (bN ho0 (bF ho1) .nil) (bN ho0 (bF XJn) .nil)) (bN XBm (bN XIa (bF ho0) .nil) (bF XBk))) (bN Xwp (bN (Xxf P) (bN ho0 (bF XTw) .nil) (bF ho0)) (bN Xyi (bN ho0 (bF XOx) .nil) (bF ho0))))) (bN (ho21 P) (bN ho37 (bN ho0 (bN XGx (bN XFv (bF ho0) .nil) (bN XKh (bF XSi) .nil)) (bN ho1 (bN ho0 (bF XQq) .nil) (bF XSd))) (bN ho0 (bN ho19 (bN XFl (bF ho1) .nil) (bF XGa)) (bN Xxu (bN ho0 (bF XLp) .nil) (bF ho0)))) (bN ho0 (bN ho85 (bN ho0 (bN XPa (bF XQm) .nil) (bN XSc (bF ho1) .nil)) (bN ho0 (bN XGl (bF (XKf P)) .nil) (bF XHp))) (bN ho0 (bN ho1 (bN ho1 (bF ho573) .nil) (bF ho0)) (bN ho0 (bN ho1 (bF XSv) .nil) (bF XPx)))))))))
theorem grp3 (w:World)(os:OsState):PySem.W.segRunT treeTable PySem.Challenge.pw_stow_k38_refused w 11 (some (.ref 6)) 1 846 (PySem.W.SharedT.mk (Xuz w.params) 545 ⟨[],[],[],0,[],[],false,#[],[],0,false,false,false,0,[2000,10,10],false,0,true,[],[],0,false⟩ #[] ⟨0,0,0,0⟩ 909 os) (PySem.W.piecesOf sts3 env0 Xgr ⟨243,0,244,81⟩ [PySem.W.topFrame ⟨0,0,0,0⟩])=some (.next,(PySem.W.SharedT.mk (Xif w.params) 686 ⟨[],[],[],0,[],[],false,#[],[],0,false,false,false,0,[2000,10,10],false,0,true,[],[],0,false⟩ #[] ⟨0,0,0,0⟩ 1114 os),Xgr,⟨412,0,431,85⟩):=by kernel_rfl
theorem fin0 (w:World)(os:OsState):PySem.W.topRun treeTable PySem.Challenge.pw_stow_k38_refused w 11 (some (.ref 6)) 2 ⟨PySem.W.absHeap (Xif w.params) 686 ⟨[],[],[],0,[],[],false,#[],[],0,false,false,false,0,[2000,10,10],false,0,true,[],[],0,false⟩,#[],⟨0,0,0,0⟩,1114,os⟩ (PySem.W.restOf [] env0 Xgr ⟨412,0,431,85⟩ [PySem.W.topFrame ⟨0,0,0,0⟩])=some ⟨PySem.W.absHeap (Xif w.params) 686 ⟨[],[],[],0,[],[],false,#[],[],0,false,false,false,0,[2000,10,10],false,0,true,[],[],0,false⟩,#[],⟨0,0,0,0⟩,1114,os⟩:=by kernel_rfl
theorem run0 (w:World)(os:OsState):PySem.W.topRun treeTable PySem.Challenge.pw_stow_k38_refused w 11 (some (.ref 6)) (12+(1+(1719+(1702+(1726+(846+2)))))) ⟨PySem.W.boot_heap w.params,Array.mk [],PySem.W.boot_drawn,PySem.W.boot_toks,os⟩ (PySem.W.topStub PySem.Challenge.pw_stow_k38_refused)=some ⟨PySem.W.absHeap (Xif w.params) 686 ⟨[],[],[],0,[],[],false,#[],[],0,false,false,false,0,[2000,10,10],false,0,true,[],[],0,false⟩,#[],⟨0,0,0,0⟩,1114,os⟩:=PySem.W.go_top (pre0 w os) (PySem.W.piece_block (blk0 w os) (PySem.W.piece_app (PySem.W.segRun_of (grp0 w os)) (PySem.W.piece_app (PySem.W.segRun_of (grp1 w os)) (PySem.W.piece_app (PySem.W.segRun_of (grp2 w os)) (PySem.W.piece_app (PySem.W.segRun_of (grp3 w os)) (fin0 w os))))))
theorem open0 (w:World):(PySem.W.fencedOpening treeTable PySem.Challenge.pw_stow_k38_refused w 6708).map (fun s=>(s.heap,s.gens,s.drawn,s.toks))=some (PySem.W.boot_heap w.params,Array.mk [],PySem.W.boot_drawn,PySem.W.boot_toks):=PySem.W.boot_open (by kernel_rfl) rfl (fun s=>by kernel_rfl) w
noncomputable def heap0:Params→PySem.W.Frag:=fun P =>
 (nat_lit 2,PySem.W.boot_o_2 P) ::
 (nat_lit 3,XQs P) ::
 (nat_lit 17,ho8 P) ::
 (nat_lit 23,ho14 P) ::
 (nat_lit 24,Xvq) ::
 (nat_lit 30,ho21 P) ::
 (nat_lit 36,ho27 P) ::
 (nat_lit 37,ho28) ::
 (nat_lit 42,ho33 P) ::
 (nat_lit 48,ho39 P) ::
 (nat_lit 49,ho40) ::
 (nat_lit 54,ho45 P) ::
 (nat_lit 64,ho55) ::
 (nat_lit 65,ho56) ::
 (nat_lit 67,ho58 P) ::
 (nat_lit 68,ho59) ::
 (nat_lit 73,ho64 P) ::
 (nat_lit 79,ho70 P) ::
 (nat_lit 80,ho71) ::
 (nat_lit 85,ho76 P) ::
 (nat_lit 91,ho82 P) ::
 (nat_lit 92,ho83) ::
 (nat_lit 97,ho88 P) ::
 (nat_lit 103,ho94 P) ::
 (nat_lit 104,ho95) ::
 (nat_lit 109,Xrt P) ::
 (nat_lit 115,Xtp P) ::
 (nat_lit 116,Xts) ::
 (nat_lit 121,Xvo P) ::
 (nat_lit 127,Xvn P) ::
 (nat_lit 128,Xxm) ::
 (nat_lit 133,Xxe P) ::
 (nat_lit 139,Xxt P) ::
 (nat_lit 140,Xwi) ::
 (nat_lit 145,Xwr P) ::
 (nat_lit 151,Xxv P) ::
 (nat_lit 152,Xww) ::
 (nat_lit 157,Xyb P) ::
 (nat_lit 170,Xxh P) ::
 (nat_lit 171,Xvg) ::
 (nat_lit 176,Xyz P) ::
 (nat_lit 182,Xxf P) ::
 (nat_lit 183,Xwg) ::
 (nat_lit 188,Xym P) ::
 (nat_lit 194,Xyv P) ::
 (nat_lit 195,Xys) ::
 (nat_lit 203,Xxg) ::
 (nat_lit 204,Xxw) ::
 (nat_lit 210,Xyu) ::
 (nat_lit 211,Xwd) ::
 (nat_lit 217,Xvh) ::
 (nat_lit 218,Xxy) ::
 (nat_lit 224,Xvr) ::
 (nat_lit 225,Xxx) ::
 (nat_lit 231,Xxd) ::
 (nat_lit 232,Xwy) ::
 (nat_lit 238,Xxu) ::
 (nat_lit 239,Xvf) ::
 (nat_lit 245,Xxc) ::
 (nat_lit 246,Xyi) ::
 (nat_lit 252,Xwa) ::
 (nat_lit 253,Xyc) ::
 (nat_lit 259,Xve) ::
 (nat_lit 260,Xxa) ::
 (nat_lit 266,Xyx) ::
 (nat_lit 267,Xxo) ::
 (nat_lit 273,Xxl) ::
 (nat_lit 274,Xyf) ::
 (nat_lit 280,XCc) ::
 (nat_lit 281,XDm) ::
 (nat_lit 287,XDk) ::
 (nat_lit 288,XFw) ::
 (nat_lit 294,XCx) ::
 (nat_lit 295,XAw) ::
 (nat_lit 301,XCo) ::
 (nat_lit 302,XFl) ::
 (nat_lit 308,XBh) ::
 (nat_lit 309,XCb) ::
 (nat_lit 312,XGy P) ::
 (nat_lit 322,XGc) ::
 (nat_lit 323,XBe) ::
 (nat_lit 329,XHr) ::
 (nat_lit 330,XFt) ::
 (nat_lit 336,XGv) ::
 (nat_lit 337,XBj) ::
 (nat_lit 343,XGh) ::
 (nat_lit 344,XCy) ::
 (nat_lit 350,XGl) ::
 (nat_lit 351,XDr) ::
 (nat_lit 357,XHi) ::
 (nat_lit 358,XCj) ::
 (nat_lit 364,XCa) ::
 (nat_lit 365,XFg) ::
 (nat_lit 371,XDq) ::
 (nat_lit 372,XCi) ::
 (nat_lit 388,XEk) ::
 (nat_lit 394,XAx) ::
 (nat_lit 395,XEj) ::
 (nat_lit 401,XDg) ::
 (nat_lit 402,XEl) ::
 (nat_lit 408,XCv) ::
 (nat_lit 409,XHg) ::
 (nat_lit 415,XBd) ::
 (nat_lit 416,XFy) ::
 (nat_lit 418,XEc P) ::
 (nat_lit 419,XOm) ::
 (nat_lit 429,XDu) ::
 (nat_lit 430,XGa) ::
 (nat_lit 436,XBa) ::
 (nat_lit 437,XDt) ::
 (nat_lit 441,XHl) ::
 (nat_lit 442,XGu) ::
 (nat_lit 448,XGz) ::
 (nat_lit 449,XCl) ::
 (nat_lit 455,XCw) ::
 (nat_lit 456,XHf) ::
 (nat_lit 459,XDd P) ::
 (nat_lit 469,XEr) ::
 (nat_lit 470,XBk) ::
 (nat_lit 471,XBi) ::
 (nat_lit 477,XFa) ::
 (nat_lit 478,XHp) ::
 (nat_lit 484,XFe) ::
 (nat_lit 485,XEx) ::
 (nat_lit 487,XDx P) ::
 (nat_lit 488,XEs) ::
 (nat_lit 493,XFd P) ::
 (nat_lit 498,XEg) ::
 (nat_lit 504,XCr) ::
 (nat_lit 505,XDw) ::
 (nat_lit 511,XAu) ::
 (nat_lit 512,XHk) ::
 (nat_lit 513,XBb) ::
 (nat_lit 519,XAz) ::
 (nat_lit 520,XCp) ::
 (nat_lit 522,XGs P) ::
 (nat_lit 523,XDj) ::
 (nat_lit 531,XBw) ::
 (nat_lit 532,XDo) ::
 (nat_lit 538,XGp) ::
 (nat_lit 539,XEv) ::
 (nat_lit 543,XBn) ::
 (nat_lit 544,XAp) ::
 (nat_lit 548,XNc) ::
 (nat_lit 549,XKv) ::
 (nat_lit 555,XIl) ::
 (nat_lit 556,XOd) ::
 (nat_lit 562,XPj) ::
 (nat_lit 563,XId) ::
 (nat_lit 567,XPv) ::
 (nat_lit 568,XOc) ::
 (nat_lit 571,XPu P) ::
 (nat_lit 581,XQp) ::
 (nat_lit 582,XJu) ::
 (nat_lit 588,XQi) ::
 (nat_lit 589,XNj) ::
 (nat_lit 590,XQq) ::
 (nat_lit 596,XRh) ::
 (nat_lit 597,XRp) ::
 (nat_lit 603,XJh) ::
 (nat_lit 604,XOw) ::
 (nat_lit 606,XKf P) ::
 (nat_lit 607,XIi) ::
 (nat_lit 615,XSa) ::
 (nat_lit 616,XLb) ::
 (nat_lit 622,XLp) ::
 (nat_lit 623,XLi) ::
 (nat_lit 629,XJf) ::
 (nat_lit 630,XOx) ::
 (nat_lit 634,XNh) ::
 (nat_lit 635,XQy) ::
 (nat_lit 641,XJi) ::
 (nat_lit 642,XNv) ::
 (nat_lit 648,XIs) ::
 (nat_lit 649,XJe) ::
 (nat_lit 655,XHx) ::
 (nat_lit 656,XJy) ::
 (nat_lit 662,XJn) ::
 (nat_lit 663,XHt) ::
 (nat_lit 667,XPf) ::
 (nat_lit 668,XIh) ::
 (nat_lit 672,XOt) ::
 (nat_lit 673,XRd) ::
 (nat_lit 677,XMj) ::
 (nat_lit 678,XLc) ::
 (nat_lit 684,XKu) ::
 (nat_lit 685,XRl) ::
 []
noncomputable def at0:List Addr:=2::3::17::23::24::30::36::37::42::48::49::54::64::65::67::68::73::79::80::85::91::92::97::103::104::109::115::116::121::127::128::133::139::140::145::151::152::157::170::171::176::182::183::188::194::195::203::204::210::211::217::218::224::225::231::232::238::239::245::246::252::253::259::260::266::267::273::274::280::281::287::288::294::295::301::302::308::309::312::322::323::329::330::336::337::343::344::350::351::357::358::364::365::371::372::388::394::395::401::402::408::409::415::416::418::419::429::430::436::437::441::442::448::449::455::456::459::469::470::471::477::478::484::485::487::488::493::498::504::505::511::512::513::519::520::522::523::531::532::538::539::543::544::548::549::555::556::562::563::567::568::571::581::582::588::589::590::596::597::603::604::606::607::615::616::622::623::629::630::634::635::641::642::648::649::655::656::662::663::667::668::672::673::677::678::684::685::[]
noncomputable def XNm:List Str:="StowError"::"NoName"::"NoSize"::"Broken"::"NoGive"::"NoHandle"::"NoPiece"::"NoCell"::"NoAsk"::"NoBound"::"NoRoom"::"BadLine"::"NoLine"::"NoTurn"::"MARKS"::"check_ask"::"check_plain_ask"::"mark_of"::"long_of"::"live_of"::"LEAST_LIVE"::"can_begin"::"bad_of_piece"::"looked"::"fresh_room"::"laid"::"laid_free"::"piece_at"::"live_at"::"free_at"::"cut_out"::"carried"::"Keeper"::"is_power"::"block_for"::"least_free"::"cut_down"::"grown_together"::"Halves"::"Row"::"all_whole"::"begin_of"::"whole_ones"::"free_slots"::"cut_for"::"with_slot"::"has_live"::"Shelves"::"_law_cell_at"::"_law_whole"::"_law_walk"::"_law_words"::"_law_done"::"_law_call"::"_law_ask_due"::"_law_due"::"_law_place_by"::"_law_step"::"_law_last"::[]
theorem at0_eq (P:Params):at0=(heap0 P).map (·.1):=by kernel_rfl
abbrev seen0 (s:Shared):Bool:=PySem.W.recOk (PySem.W.RowW.records (PySem.W.OpenRow.toRowW (PySem.Challenge.rw_stow_k38_refused).row)) s
theorem left0:PySem.W.LeftO PySem.Challenge.pw_stow_k38_refused (PySem.W.view PySem.Challenge.pw_stow_k38_refused [69]) XNm seen0 (fun s=>at0.map s.heap.get?) (fun w=>(heap0 w.params).map fun p=>some p.2) 6708 :=
 PySem.W.LeftO.of_pieces (H₁:=fun P=>PySem.W.absHeap (Xif P) 686 ⟨[],[],[],0,[],[],false,#[],[],0,false,false,false,0,[2000,10,10],false,0,true,[],[],0,false⟩) (gs₁:=#[]) (d₁:=⟨0,0,0,0⟩) (k₁:=1114) (m₀:=11) (ann:=(some (.ref 6))) open0 (fun w=>by kernel_rfl) run0 rfl (fun w=>funext fun os=>by kernel_rfl)
end
end Stow
set_option Elab.async false
set_option linter.all false
set_option maxRecDepth 100000
namespace L2
open PySem PySem.Spec PyProof.Rows
abbrev Key:=Sum Int Str
def Xmy:Key→Value→Bool
 | .inl k,v=>Value.isInt k v
 | .inr x,v=>Value.isStrOf x v
def keyH (w:World):Key→Int
 | .inl k=>hashInt k
 | .inr x=>hashStr w x
theorem Xbr:∀{k:Key} {v:Value},Xmy k v=true→(∃i t,k=Sum.inl i∧v=Value.int i t)∨(∃x t,k=Sum.inr x∧v=Value.str x t)
 | .inl i,v,h=>by
   obtain⟨t,e⟩:=Value.isInt_shape (k:=i) (v:=v) h
   exact .inl ⟨i,t,rfl,e⟩
 | .inr x,v,h=>by
   obtain⟨t,e⟩:=Value.isStrOf_shape (x:=x) (v:=v) h
   exact .inr ⟨x,t,rfl,e⟩
theorem Xud (i:Int)(t:Tok):Xmy (.inl i) (.int i t)=true:=by simp [Xmy,Value.isInt]
theorem Xpx (x:Str)(t:Tok):Xmy (.inr x) (.str x t)=true:=by simp [Xmy,Value.isStrOf]
theorem XOq (a b:Int):decide ((Sum.inl a:Key)=Sum.inl b)=(a==b):=by
 by_cases e:a=b
 · subst e;simp
 · have h:¬(Sum.inl a:Key)=Sum.inl b:=fun q=>e (Sum.inl.inj q)
   rw[decide_eq_false h]
   exact(beq_eq_false_iff_ne.mpr e).symm
theorem XKb (a b:Str):decide ((Sum.inr a:Key)=Sum.inr b)=decide (a=b):=by
 by_cases e:a=b
 · subst e;simp
 · have h:¬(Sum.inr a:Key)=Sum.inr b:=fun q=>e (Sum.inr.inj q)
   rw[decide_eq_false h,decide_eq_false e]
theorem XJr (a:Int)(b:Str):decide ((Sum.inl a:Key)=Sum.inr b)=false:=decide_eq_false (fun q=>nomatch q)
theorem XRt (a:Str)(b:Int):decide ((Sum.inr a:Key)=Sum.inl b)=false:=decide_eq_false (fun q=>nomatch q)
def Xbk (prog:Program)(w:World):PySem.KeyKind prog w Key where
 is:=Xmy
 hash:=keyH w
 inj:=fun v a b ha hb=>by
   rcases Xbr ha with ⟨i,t,rfl,rfl⟩ | ⟨x,t,rfl,rfl⟩
   · rcases Xbr hb with ⟨j,u,rfl,e⟩ | ⟨y,u,rfl,e⟩
     · injection e with e1 _;rw[e1]
     · exact nomatch e
   · rcases Xbr hb with ⟨j,u,rfl,e⟩ | ⟨y,u,rfl,e⟩
     · exact nomatch e
     · injection e with e1 _;rw[e1]
 byValue:=fun k v h=>by
   rcases Xbr h with ⟨i,t,rfl,rfl⟩ | ⟨x,t,rfl,rfl⟩ <;> rfl
 pyHash:=fun hv h=>by
   rcases Xbr hv with ⟨i,t,rfl,rfl⟩ | ⟨x,t,rfl,rfl⟩
   · exact wpAny_pyHash_int h
   · exact wpAny_pyHash_str h
 eqBool:=fun hu hv h=>by
   rcases Xbr hu with ⟨i,t,rfl,rfl⟩ | ⟨x,t,rfl,rfl⟩
   · rcases Xbr hv with ⟨j,u,rfl,rfl⟩ | ⟨y,u,rfl,rfl⟩
     · rw[XOq] at h;exact wpAny_eqBool_int h
     · rw[XJr] at h;exact SeqAt.EqAt.int_str i t y u _ _ _ _ h
   · rcases Xbr hv with ⟨j,u,rfl,rfl⟩ | ⟨y,u,rfl,rfl⟩
     · rw[XRt] at h;exact SeqAt.EqAt.str_int x t j u _ _ _ _ h
     · rw[XKb] at h;exact wpAny_eqBool_str h
 «strs»:=fun k x t v h=>by
   rcases Xbr h with ⟨i,u,rfl,e⟩ | ⟨y,u,rfl,e⟩
   · exact nomatch e
   · injection e with e1 _
     subst e1
     cases v <;> rfl
theorem Xmw (prog:Program)(w:World)(i:Int)(t:Tok):(Xbk prog w).is (.inl i) (.int i t)=true:=Xud i t
theorem Xms (prog:Program)(w:World)(x:Str)(t:Tok):(Xbk prog w).is (.inr x) (.str x t)=true:=Xpx x t
end L2
namespace L2
open PySem PySem.Spec PyProof.Rows
inductive V where
 | non | bl (b:Bool) | int (i:Int) | str (x:Str) | byt (b:Array UInt8) | flt (b:UInt64) | ref (a:Addr) | ty (n:String)
 deriving DecidableEq
def RelV:V→Value→Prop
 | .non,u=>u=Value.none
 | .bl b,u=>u=Value.bool b
 | .int i,u=>∃t,u=Value.int i t
 | .str x,u=>∃t,u=Value.str x t
 | .byt b,u=>∃t,u=Value.bytes b t
 | .flt b,u=>∃t,u=Value.float b t
 | .ref a,u=>u=Value.ref a
 | .ty n,u=>u=Value.type n
abbrev Vals:List V→List Value→Prop:=Paired RelV
theorem Vals.length {xs:List V}{us:List Value}(r:Vals xs us):xs.length=us.length:=Paired.length r
theorem Vals.get:∀{xs:List V} {us:List Value} {i:Nat} {x:V},Vals xs us→xs[i]?=some x→∃u,us[i]?=some u∧RelV x u
 | _,_,_,_,.nil,e=>by simp at e
 | _,_,0,_,.cons r _,e=>by simp at e;subst e;exact⟨_,rfl,r⟩
 | _,_,i+1,x,.cons _ t,e=>by
   obtain⟨u,h1,h2⟩:=Vals.get (i:=i) (x:=x) t (by simpa using e)
   exact⟨u,by simpa using h1,h2⟩
theorem Vals.set {x:V}{u:Value}(r:RelV x u):∀{xs:List V} {us:List Value} (i:Nat),Vals xs us→Vals (xs.set i x) (us.set i u)
 | _,_,_,.nil=>.nil
 | _,_,0,.cons _ t=>.cons r t
 | _,_,i+1,.cons q t=>.cons q (Vals.set r i t)
theorem Vals.append:∀{xs ys:List V} {us ws:List Value},Vals xs us→Vals ys ws→Vals (xs++ys) (us++ws)
 | _,_,_,_,.nil,s=>s
 | _,_,_,_,.cons r t,s=>.cons r (Vals.append t s)
theorem Vals.take:∀{xs:List V} {us:List Value} (n:Nat),Vals xs us→Vals (xs.take n) (us.take n)
 | _,_,0,_=>.nil
 | _,_,_+1,.nil=>.nil
 | _,_,n+1,.cons r t=>.cons r (Vals.take n t)
theorem Vals.drop:∀{xs:List V} {us:List Value} (n:Nat),Vals xs us→Vals (xs.drop n) (us.drop n)
 | _,_,0,r=>r
 | _,_,_+1,.nil=>.nil
 | _,_,n+1,.cons _ t=>Vals.drop n t
theorem Vals.none_of:∀{xs:List V} {us:List Value} {i:Nat},Vals xs us→xs[i]?=none→us[i]?=none:=fun {xs us i} r e=>by
 have h1:=r.length
 have h2:xs.length≤i:=List.getElem?_eq_none_iff.mp e
 exact List.getElem?_eq_none_iff.mpr (by omega)
def RelO:Option V→Option Value→Prop
 | some v,some u=>RelV v u
 | none,none=>True
 | _,_=>False
def KV {κ:Type}:List (κ×V)→List (κ×Value)→Prop:=Paired fun (p:κ×V) (q:κ×Value)=>p.1=q.1∧RelV p.2 q.2
def kV:Key→V
 | .inl i=>.int i
 | .inr x=>.str x
inductive HO where
 /-- a list -/
 | lst (xs:List V)
 /-- a tuple (never changes) -/
 | tup (xs:List V)
 /-- a dict whose keys are ints and texts;one whose keys are tuples of ints and texts (the empty one is both) -/
 | dK (kvs:List (Key×V)) | dT (kvs:List (List Key×V))
 /-- a set of ints: its members,its size -/
 | set (S:Int→Bool) (n:Nat)
 /-- an instance of the class at C,its dict at dx,its attributes -/
 | ins (C dx:Addr) (fs:List (Str×V))
 /-- the dict of the instance at x -/
 | own (x:Addr)
 /-- the dict of an exception -/
 | xd (fs:List (Str×V))
 /-- a bound method,f of x -/
 | met (f x:Addr)
 /-- a range object lo,lo+1,.. below hi -/
 | rng (lo hi:Int)
 /-- a thing that is known to the object (the script;a dict while a loop walks it): read,never written while it is so -/
 | frz (o:Obj) (u:HO)
 /-- a code object's table -/
 | tbl (ps:Array Value)
 /-- any other thing,by what is true of its one object (a def of one's own: SetO a S n:=HO.ext fun h=>..) -/
 | ext (φ:Heap→Prop)
abbrev Hp:=Addr→Option HO
def upd (H:Hp)(a:Addr)(o:HO):Hp:=fun b=>if b=a then some o else H b
theorem upd_same {H:Hp}{a:Addr}{o:HO}:upd H a o a=some o:=by unfold upd;rw[if_pos rfl]
theorem Xaq {H:Hp}{a b:Addr}{o:HO}(h:b≠a):upd H a o b=H b:=by unfold upd;rw[if_neg h]
theorem Xap {H:Hp}{a b:Addr}{o:HO}(h:H a=some o)(h':H b=none):a≠b:=by
 intro e;subst e;rw[h] at h';cases h'
section
variable (P:Program)(w:World)
def Xct (H:Hp)(h:Heap)(a:Addr):HO→Prop
 | .lst xs=>xs.length≤sizeLine∧∃(its:List Value) (n:Nat),Vals xs its∧h.get? a=some { cls:=.type "list",data:=.seq its.toArray n }
 | .tup xs=>xs.length≤sizeLine∧∃its:List Value,Vals xs its∧IsTup h a its.toArray
 | .dK kvs=>kvs.length≤sizeLine∧(a==sysModules)=false∧∃vs,KV kvs vs∧h.DictOf (Xbk P w) a vs
 | .dT kvs=>kvs.length≤sizeLine∧(a==sysModules)=false∧∃xs:List (List Key×Addr×Value),
     Paired (fun (p:List Key×V) (q:List Key×Addr×Value)=>p.1=q.1∧H q.2.1=some (.tup (p.1.map kV))∧RelV p.2 q.2.2) kvs xs ∧
     ∃o es ep,h.get? a=some o∧o.ExactDict∧o.data = .dict es ep∧es.toList=xs.map (entryOfKey (tupleKind (Xbk P w)))∧(xs.map (·.1)).Nodup
 | .set S n=>h.SetOf (intKind P w) a S n
 | .ins C dx fs=>H dx=some (.own a)∧fs.length≤1000∧dx≠a∧h.get? a=some (PySem.W.instObj C dx) ∧
     ∃mA,h.Ns1 dx mA∧(∀f,RelO (fs.lookup f) (mA f))∧PySem.Within mA (fs.map (·.1))
 | .own _=>∃o,h.get? a=some o
 | .xd fs=>∃mA,h.Ns1 a mA∧∀f,RelO (fs.lookup f) (mA f)
 | .rng lo hi=>∃t u v,h.get? a=some { cls:=.type "range",data:=.fields #[.int lo t,.int hi u,.int 1 v] }
 | .frz o u=>h.get? a=some o∧Xct H h a u
 | .tbl ps=>h.get? a=some { cls:=.none,data:=.fields ps }
 | .met f x=>h.get? a=some (PySem.W.methodObj (.ref f) (.ref x))
 | .ext φ=>φ h∧(∃o,h.get? a=some o)∧∀h1 h2:Heap,φ h1→(∀o,h1.get? a=some o→h2.get? a=some o)→φ h2
def HOk (H:Hp)(h:Heap):Prop:=∀a o,H a=some o→Xct P w H h a o
end
section
variable {P:Program}{w:World}{H H':Hp}{h h':Heap}{a:Addr}{o:HO}
theorem Xct.lt (x:Xct P w H h a o):a<h.objs.size:=by
 cases o with
 | lst xs=>obtain⟨_,_,_,_,e⟩:=x;exact Heap.lt_size e
 | tup xs=>obtain⟨_,_,_,p⟩:=x;exact p.lt
 | dK kvs=>obtain⟨_,_,_,_,o,_,_,e,_⟩:=x;exact Heap.lt_size e
 | dT kvs=>obtain⟨_,_,_,_,o,_,_,e,_⟩:=x;exact Heap.lt_size e
 | set S n=>obtain⟨o,_,_,_,e,_⟩:=x;exact Heap.lt_size e
 | ins C dx fs=>obtain⟨_,_,_,e,_⟩:=x;exact Heap.lt_size e
 | own y=>obtain⟨_,e⟩:=x;exact Heap.lt_size e
 | xd fs=>obtain⟨_,⟨_,_,_,e,_⟩,_⟩:=x;exact Heap.lt_size e
 | rng lo hi=>obtain⟨_,_,_,e⟩:=x;exact Heap.lt_size e
 | frz ob u=>obtain⟨e,_⟩:=x;exact Heap.lt_size e
 | tbl ps=>exact Heap.lt_size (show h.get? a=some _ from x)
 | met f y=>exact Heap.lt_size (show h.get? a=some _ from x)
 | ext φ=>obtain⟨_,⟨_,e⟩,_⟩:=x;exact Heap.lt_size e
theorem Paired.mapP {α β:Type}{F G:α→β→Prop}:∀{l₁:List α} {l₂:List β},Paired F l₁ l₂→(∀a b,F a b→G a b)→Paired G l₁ l₂
 | _,_,.nil,_=>.nil
 | _,_,.cons r t,f=>.cons (f _ _ r) (Paired.mapP t f)
theorem Xct.stay (x:Xct P w H h a o)(k:∀b u,(b=a∨H b=some (.own a))→h.get? b=some u→h'.get? b=some u)
   (ho:∀b,H b=some (.own a)→H' b=some (.own a)) (ht:∀b xs,H b=some (.tup xs)→H' b=some (.tup xs)):Xct P w H' h' a o:=by
 induction o with
 | lst xs=>obtain⟨z,its,n,r,e⟩:=x;exact⟨z,its,n,r,k _ _ (.inl rfl) e⟩
 | tup xs=>obtain⟨z,its,r,ob,e,c⟩:=x;exact⟨z,its,r,ob,k _ _ (.inl rfl) e,c⟩
 | dK kvs=>obtain⟨z,y,vs,r,ob,es,ep,e,c⟩:=x;exact⟨z,y,vs,r,ob,es,ep,k _ _ (.inl rfl) e,c⟩
 | dT kvs =>
   obtain⟨z,y,xs,r,ob,es,ep,e,c⟩:=x
   exact⟨z,y,xs,Paired.mapP r fun p q z=>⟨z.1,ht _ _ z.2.1,z.2.2⟩,ob,es,ep,k _ _ (.inl rfl) e,c⟩
 | set S n=>obtain⟨ob,es,ep,t,e,c⟩:=x;exact⟨ob,es,ep,t,k _ _ (.inl rfl) e,c⟩
 | ins C dx fs =>
   obtain⟨d,z,ne,e,mA,⟨od,es,ep,e2,c⟩,r⟩:=x
   exact⟨ho _ d,z,ne,k _ _ (.inl rfl) e,mA,⟨od,es,ep,k _ _ (.inr d) e2,c⟩,r⟩
 | own y=>obtain⟨ob,e⟩:=x;exact⟨ob,k _ _ (.inl rfl) e⟩
 | xd fs=>obtain⟨mA,⟨od,es,ep,e,c⟩,r⟩:=x;exact⟨mA,⟨od,es,ep,k _ _ (.inl rfl) e,c⟩,r⟩
 | rng lo hi=>obtain⟨t,u,v,e⟩:=x;exact⟨t,u,v,k _ _ (.inl rfl) e⟩
 | frz ob u ih=>obtain⟨e,q⟩:=x;exact⟨k _ _ (.inl rfl) e,ih q⟩
 | tbl ps =>
   have e:h.get? a=some { cls:=.none,data:=.fields ps }:=x
   show h'.get? a=some { cls:=.none,data:=.fields ps }
   exact k a _ (.inl rfl) e
 | met f y =>
   have e:h.get? a=some (PySem.W.methodObj (.ref f) (.ref y)):=x
   show h'.get? a=some (PySem.W.methodObj (.ref f) (.ref y))
   exact k a _ (.inl rfl) e
 | ext φ=>obtain⟨p,⟨o,e⟩,st⟩:=x;exact⟨st _ _ p fun o q=>k _ _ (.inl rfl) q,⟨o,k _ _ (.inl rfl) e⟩,st⟩
theorem HOk.lt (x:HOk P w H h)(e:H a=some o):a<h.objs.size:=(x a o e).lt
theorem HOk.fresh (x:HOk P w H h)(e:h.objs.size≤a):H a=none:=by
 cases q:H a with
 | none=>rfl
 | some u=>exact absurd (Nat.lt_of_lt_of_le (x.lt q) e) (Nat.lt_irrefl _)
theorem HOk.kept (x:HOk P w H h)(k:∀b u,h.get? b=some u→h'.get? b=some u):HOk P w H h':=fun a o e =>
 (x a o e).stay (fun b u _ q=>k b u q) (fun _ q=>q) fun _ _ q=>q
theorem HOk.laid (x:HOk P w H h)(k:∀b u,h.get? b=some u→h'.get? b=some u)(hp:h.objs.size≤a)(new:Xct P w (upd H a o) h' a o):HOk P w (upd H a o) h':=fun b u e=>by
 have hn:=x.fresh hp
 by_cases hb:b=a
 · subst hb;rw[upd_same] at e;cases e;exact new
 · rw[Xaq hb] at e
   exact(x b u e).stay (fun c v _ q=>k c v q) (fun c q=>by rw[Xaq (Xap q hn)];exact q) fun c xs q=>by rw[Xaq (Xap q hn)];exact q
end
def Rd (H:Hp)(a:Addr)(u:HO):Prop:=H a=some u∨∃o,H a=some (.frz o u)
theorem Rd.of {H:Hp}{a:Addr}{u:HO}(h:H a=some u):Rd H a u:=.inl h
theorem Rd.ok {P:Program}{w:World}{H:Hp}{h:Heap}{a:Addr}{u:HO}(r:Rd H a u)(x:HOk P w H h):Xct P w H h a u:=by
 rcases r with r | ⟨o,r⟩
 · exact x a u r
 · obtain⟨_,q⟩:=x a _ r
   exact q
def Mut:Option HO→Prop
 | some (.lst _)=>True
 | some (.dK _)=>True
 | some (.dT _)=>True
 | some (.set _ _)=>True
 | some (.ins _ _ _)=>True
 | some (.ext _)=>True
 | _=>False
section
variable {P:Program}{w:World}{H:Hp}{h h':Heap}{x e:Addr}{o':HO}
theorem HOk.write (ok:HOk P w H h)(mu:Mut (H x))(he:e=x∨H e=some (.own x))(k:∀b u,b≠e→h.get? b=some u→h'.get? b=some u)(heo:∃u,h'.get? e=some u)
   (new:Xct P w (upd H x o') h' x o'):HOk P w (upd H x o') h':=fun b u q=>by
 have nown:∀c y,H c=some (.own y)→c≠x:=fun c y r z=>by subst z;rw[r] at mu;exact mu
 have ntup:∀c xs,H c=some (.tup xs)→c≠x:=fun c xs r z=>by subst z;rw[r] at mu;exact mu
 by_cases hb:b=x
 · subst hb;rw[upd_same] at q;cases q;exact new
 · rw[Xaq hb] at q
   by_cases hbe:b=e
   · have q':H b=some (.own x):=by
       rcases he with z | z
       · exact absurd (hbe.trans z) hb
       · rw[hbe];exact z
     rw[q] at q';cases q'
     obtain⟨v,hv⟩:=heo
     exact⟨v,by rw[hbe];exact hv⟩
   · refine(ok b u q).stay (fun c v hc r=>k c v ?_ r) (fun c r=>by rw[Xaq (nown c b r)];exact r) fun c xs r=>by rw[Xaq (ntup c xs r)];exact r
     rcases hc with rfl | hc
     · exact hbe
     · rintro rfl
       rcases he with z | z
       · exact nown c b hc z
       · rw[hc] at z;cases z;exact hb rfl
end
structure Un (fs ex:List Addr)(H H':Hp)(h h':Heap):Prop where
 keep:∀b o,h.get? b=some o→H b=none→b ∉ fs→b ∉ ex→h'.get? b=some o
 slot:∀b o,h.get? b=some o→H b=none→b∈fs→b ∉ ex→∃sl,h'.get? b=some { o with slots:=sl }
 free:∀b o,h.get? b=some o→H b=none→b ∉ ex→H' b=none
 there:∀b o,h.get? b=some o→b ∉ ex→∃o',h'.get? b=some o'
 tups:∀b xs,H b=some (.tup xs)→H' b=some (.tup xs)
 frzs:∀b o u,H b=some (.frz o u)→H' b=some (.frz o u)
 tbls:∀b ps,H b=some (.tbl ps)→∃more,H' b=some (.tbl (ps++more))
section
variable {fs fs' ex ex':List Addr}{H H1 H2:Hp}{h h1 h2 h':Heap}{a x e:Addr}{o:HO}
theorem Un.any (u:Un fs ex H H1 h h1){b:Addr}{ob:Obj}(q:h.get? b=some ob)(n:H b=none)(hx:b ∉ ex):∃sl,h1.get? b=some { ob with slots:=sl }:=by
 by_cases hb:b∈fs
 · exact u.slot b ob q n hb hx
 · exact⟨ob.slots,u.keep b ob q n hb hx⟩
theorem Un.trans (a:Un fs ex H H1 h h1)(b:Un fs ex H1 H2 h1 h2):Un fs ex H H2 h h2 where
 keep:=fun c ob q n hc hx=>b.keep c ob (a.keep c ob q n hc hx) (a.free c ob q n hx) hc hx
 slot:=fun c ob q n hc hx=>by
   obtain⟨sl,e1⟩:=a.slot c ob q n hc hx
   obtain⟨sl',e2⟩:=b.slot c _ e1 (a.free c ob q n hx) hc hx
   exact⟨sl',e2⟩
 free:=fun c ob q n hx=>by
   obtain⟨o',e1⟩:=a.there c ob q hx
   exact b.free c o' e1 (a.free c ob q n hx) hx
 there:=fun c ob q hx=>by
   obtain⟨o',e1⟩:=a.there c ob q hx
   exact b.there c o' e1 hx
 tups:=fun c xs q=>b.tups c xs (a.tups c xs q)
 frzs:=fun c ob xs q=>b.frzs c ob xs (a.frzs c ob xs q)
 tbls:=fun c ps q=>by
   obtain⟨m1,e1⟩:=a.tbls c ps q
   obtain⟨m2,e2⟩:=b.tbls c _ e1
   exact⟨m1++m2,by rw[e2,Array.append_assoc]⟩
theorem Un.kept (k:∀b u,h.get? b=some u→h'.get? b=some u):Un fs ex H H h h' :=
 ⟨fun b ob q _ _ _=>k b ob q,fun b ob q _ _ _=>⟨ob.slots,k b ob q⟩,fun _ _ _ n _=>n,fun b ob q _=>⟨ob,k b ob q⟩,fun _ _ q=>q,fun _ _ _ q=>q,fun _ ps q=>⟨#[],by rw[q];simp⟩⟩
theorem Un.refl:Un fs ex H H h h:=Un.kept fun _ _ q=>q
theorem Un.laid (k:∀b u,h.get? b=some u→h'.get? b=some u)(hp:h.objs.size≤a)(hn:H a=none):Un fs ex H (upd H a o) h h' where
 keep:=fun b u q _ _ _=>k b u q
 slot:=fun b u q _ _ _=>⟨u.slots,k b u q⟩
 free:=fun b u q n _=>by rw[Xaq (Nat.ne_of_lt (Nat.lt_of_lt_of_le (Heap.lt_size q) hp))];exact n
 there:=fun b u q _=>⟨u,k b u q⟩
 tups:=fun b xs q=>by rw[Xaq (Xap q hn)];exact q
 frzs:=fun b u xs q=>by rw[Xaq (Xap q hn)];exact q
 tbls:=fun b ps q=>⟨#[],by rw[Xaq (Xap q hn),q];simp⟩
theorem Un.write (mu:Mut (H x))(he:e=x∨H e=some (.own x))(k:∀b u,b≠e→h.get? b=some u→h'.get? b=some u)(heo:∃u,h'.get? e=some u):Un fs ex H (upd H x o) h h':=by
 have hx:∀b,H b=none→b≠x:=fun b n z=>by subst z;rw[n] at mu;exact mu
 have hb:∀b,H b=none→b≠e:=fun b n z=>by
   subst z
   rcases he with r | r
   · exact hx b n r
   · rw[n] at r;cases r
 have hm:∀b u,H b=some u→¬Mut (some u)→b≠x:=fun b u q nm z=>by subst z;rw[q] at mu;exact nm mu
 refine⟨fun b u q n _ _=>k b u (hb b n) q,fun b u q n _ _=>⟨u.slots,k b u (hb b n) q⟩,fun b u q n _=>by rw[Xaq (hx b n)];exact n,fun b u q _=>?_,
   fun b xs q=>by rw[Xaq (hm b _ q fun z=>z)];exact q,fun b u xs q=>by rw[Xaq (hm b _ q fun z=>z)];exact q,fun b ps q=>⟨#[],by rw[Xaq (hm b _ q fun z=>z),q];simp⟩⟩
 by_cases hbe:b=e
 · subst hbe;exact heo
 · exact⟨u,k b u hbe q⟩
theorem Un.mono (u:Un fs ex H H1 h h1)(hs:∀b∈fs,b∈fs')(hx:∀b∈ex,b∈ex'):Un fs' ex' H H1 h h1 :=
 ⟨fun b ob q n hb he=>u.keep b ob q n (fun z=>hb (hs b z)) fun z=>he (hx b z),fun _ _ q n _ he=>u.any q n fun z=>he (hx _ z),fun b ob q n he=>u.free b ob q n fun z=>he (hx b z),fun b ob q he=>u.there b ob q fun z=>he (hx b z),u.tups,u.frzs,u.tbls⟩
end
def trk (h:Heap)(H:Hp):List Addr:=(List.range h.objs.size).filter fun a=>(H a).isSome
def hidT (h:Heap)(H:Hp):Heap:=PySem.W.hideAll h (trk h H)
theorem Xqh (h:Heap)(H:Hp):(hidT h H).objs.size=h.objs.size:=PySem.W.hideAll_size _ _
theorem Xwh {h:Heap}{H:Hp}{b:Addr}{o:Obj}(e:h.get? b=some o)(n:H b=none):(hidT h H).get? b=some o :=
 PySem.W.hideAll_get _ e fun hm=>by
   have q:(H b).isSome=true:=(List.mem_filter.mp hm).2
   rw[n] at q;simp at q
theorem XHo {h:Heap}{H:Hp}{b:Addr}{o:Obj}(e:(hidT h H).get? b=some o):h.get? b=some o∧H b=none:=by
 have e':h.get? b=some o:=PySem.W.of_hideAll (trk h H) e
 refine⟨e',?_⟩
 cases q:H b with
 | none=>rfl
 | some x =>
   have hm:b∈trk h H:=List.mem_filter.mpr ⟨List.mem_range.mpr (Heap.lt_size e'),by simp [q]⟩
   have z:(hidT h H).get? b=none:=PySem.W.hideAll_none (trk h H) hm
   rw[z] at e;cases e
def XCq (g h:Heap)(L:Addr):List (Addr×Obj):=(List.range h.objs.size).filterMap fun a=>if a=L∨(g.get? a).isSome=true then none else (h.get? a).map fun o=>(a,o)
def rest (g h:Heap)(L d:Addr):List (Addr×Obj):=(XCq g h L).filter fun p=>decide (p.1≠d)
end L2
namespace L2
open PySem PySem.Spec PyProof.Rows
structure Mod (K:PySem.W.Frag)(mg:Str→Option Value)(base:Heap):Prop where
 kin:K.In base
 glob:base.Ns mainGlobals mg
 blt:∃mb,base.Ns builtinsNs mb∧∀x:Str,x≠"__name__"→mb x=bootBuiltins x
 nolimit:base.NoLimit
structure Cx where
 prog:Program
 w:World
 K:PySem.W.Frag
 mg:Str→Option Value
 base:Heap
 A:Around
 N:List Str
 s₀:Shared
 H₀:Hp
 env:Env
 outer:List Env
 stack:List Env
 ex:List Addr
 fn:Str→Bool
 calm:Bool
 pn:List (Addr×Obj)
 xe:Value→Shared→Prop
def frs (l:List Env):List Addr:=l.filterMap (·.frame)
abbrev Cx.fs (X:Cx):List Addr:=frs X.outer
def Vis (sc:Scope)(x:Str):Prop:=sc.names.lookup x=some .local∨sc.names.lookup x=some .cell∨sc.names.lookup x=some .free
def Loc (sc:Scope)(x:Str):Prop:=sc.names.lookup x=some .local∨sc.names.lookup x=some .cell
def Look (env:Env)(h:Heap)(m:Str→Option Value)(x:Str)(u:Value):Prop :=
 (env.kindOf x=some .local∧m x=some u)∨((env.kindOf x=some .cell∨env.kindOf x=some .free)∧∃c,env.cells.lookup x=some c∧h.IsCell c (some u))
structure Cx.Ok (X:Cx):Prop where
 mod:Mod X.K X.mg X.base
 kind:X.env.scope.kind = .function
 glob:X.env.globals=mainGlobals
 blt:X.env.builtins=builtinsNs
 above:X.s₀.heap.objs.size≤X.env.locals
 inj:∀x y c,X.env.cells.lookup x=some c→X.env.cells.lookup y=some c→x=y
 has:∀x,(X.env.kindOf x=some .cell∨X.env.kindOf x=some .free)→∃c,X.env.cells.lookup x=some c
 cab:∀x c,X.fn x=true→X.env.cells.lookup x=some c→X.s₀.heap.objs.size≤c
 hd:X.calm=true→X.A.handled=none
 frames:X.A.frames=some X.stack
 stk:X.stack=X.outer∨(X.stack=X.env::X.outer∧X.env.frame=some X.env.locals)
 exf:∀b∈X.ex,b≠X.env.locals∧∀x c,X.env.cells.lookup x=some c→c≠b
 bs:∀b o,X.base.get? b=some o→X.s₀.heap.get? b=some o∧X.H₀ b=none
 bsz:X.base.objs.size≤X.s₀.heap.objs.size
 noex:∀b o,X.base.get? b=some o→b ∉ X.ex
 exfs:∀b∈X.ex,b ∉ X.fs
 funs:X.s₀.heap.FunFrames X.base X.outer
 frf:∀b∈X.fs,X.H₀ b=none
structure Inv (X:Cx)(pins:List (Addr×Obj))(σ:List (Option V))(H:Hp)(s:Shared):Prop where
 ok:X.Ok
 os:s.os=X.s₀.os
 bare:AllBare s.gens
 base:Un X.fs X.ex X.H₀ H X.s₀.heap s.heap
 loc:∃m,s.heap.Ns X.env.locals m∧∀(i:Nat) (x:Str) (v:V),X.N[i]?=some x→σ[i]?=some (some v)→Vis X.env.scope x→∃u,RelV v u∧Look X.env s.heap m x u
 cell:∀x c,X.env.cells.lookup x=some c→∃v,s.heap.IsCell c v
 free:H X.env.locals=none
 freeC:∀x c,X.env.cells.lookup x=some c→H c=none
 pin:∀p∈X.pn++pins,s.heap.get? p.1=some p.2∧H p.1=none∧p.1≠X.env.locals∧p.1 ∉ X.fs∧∀v,p.2.data≠.cell v
 hok:HOk X.prog X.w H s.heap
 len:σ.length=X.N.length
section
variable {X:Cx}{pins:List (Addr×Obj)}{σ:List (Option V)}{H H':Hp}{s:Shared}{h':Heap}
theorem Cx.Ok.nofr (ok:X.Ok){b:Addr}{o:Obj}(e:X.base.get? b=some o):b ∉ X.fs:=fun hb=>by
 have:=(ok.funs.mem hb).1
 rw[e] at this;cases this
theorem Inv.bs (I:Inv X pins σ H s):∀b o,X.base.get? b=some o→s.heap.get? b=some o∧H b=none:=fun b o e =>
 ⟨I.base.keep b o (I.ok.bs b o e).1 (I.ok.bs b o e).2 (I.ok.nofr e) (I.ok.noex b o e),I.base.free b o (I.ok.bs b o e).1 (I.ok.bs b o e).2 (I.ok.noex b o e)⟩
theorem Inv.bk (I:Inv X pins σ H s):∀b o,X.base.get? b=some o→s.heap.get? b=some o:=fun b o e=>(I.bs b o e).1
theorem Inv.mod (I:Inv X pins σ H s):Mod X.K X.mg X.base:=I.ok.mod
theorem Inv.kIn (I:Inv X pins σ H s):X.K.In s.heap:=I.ok.mod.kin.keeps I.bk
theorem Inv.nolimit (I:Inv X pins σ H s):s.heap.NoLimit:=I.ok.mod.nolimit.keeps I.bk
theorem Inv.fr (I:Inv X pins σ H s):∃m,Fr X.base X.env.locals s.heap m :=
 let ⟨m,hn,_⟩:=I.loc
 ⟨m,hn,I.bk,Nat.le_trans I.ok.bsz I.ok.above⟩
theorem Inv.lt (I:Inv X pins σ H s):X.env.locals<s.heap.objs.size:=let ⟨_,hn,_⟩:=I.loc;hn.lt
theorem Inv.sz (I:Inv X pins σ H s):X.s₀.heap.objs.size≤s.heap.objs.size:=Nat.le_trans I.ok.above (Nat.le_of_lt I.lt)
theorem Inv.nofs (I:Inv X pins σ H s){a:Addr}(h:s.heap.objs.size≤a):a ∉ X.fs:=fun hb=>by
 obtain⟨_,o,ho,_⟩:=I.ok.funs.mem hb
 exact absurd (Nat.lt_of_lt_of_le (Heap.lt_size ho) (Nat.le_trans I.sz h)) (Nat.lt_irrefl _)
theorem Inv.cne (I:Inv X pins σ H s):∀x c,X.env.cells.lookup x=some c→c≠X.env.locals:=fun x c e z=>by
 obtain⟨v,o,ho,hd⟩:=I.cell x c e
 obtain⟨m,⟨o',es,ep,ho',hd',_⟩,_⟩:=I.loc
 rw[z,ho'] at ho;cases ho;rw[hd'] at hd;cases hd
theorem Inv.funs (I:Inv X pins σ H s):s.heap.FunFrames X.base X.outer:=by
 have all:∀(l:List Env),(∀b∈frs l,b∈X.fs)→X.s₀.heap.FunFrames X.base l→s.heap.FunFrames X.base l:=by
   intro l
   induction l with
   | nil=>intro _ _;trivial
   | cons env r ih =>
     intro hs hl
     obtain⟨hk,⟨L,o,hf,hn,ho,hd⟩,hr⟩:=hl
     have hL:L∈X.fs:=hs L (by unfold frs;rw[List.filterMap_cons,hf];exact List.mem_cons_self)
     obtain⟨sl,e⟩:=I.base.slot L o ho (I.ok.frf L hL) hL fun z=>I.ok.exfs L z hL
     exact⟨hk,⟨L,_,hf,hn,e,hd⟩,ih (fun b hb=>hs b (by unfold frs;rw[List.filterMap_cons,hf];exact List.mem_cons_of_mem _ hb)) hr⟩
 exact all X.outer (fun _ hb=>hb) I.ok.funs
theorem Inv.stack (I:Inv X pins σ H s):s.heap.FunFrames X.base X.stack:=by
 rcases I.ok.stk with e | ⟨e,hf⟩
 · rw[e];exact I.funs
 · rw[e]
   obtain⟨m,hn,_⟩:=I.loc
   refine .cons (by rw[I.ok.kind];decide) hf hn ?_ I.funs
   exact Heap.get?_none_of_le (Nat.le_trans I.ok.bsz I.ok.above)
theorem Inv.stkSub (I:Inv X pins σ H s):∀b∈frs X.stack,b∈X.env.locals::X.fs:=fun b hb=>by
 rcases I.ok.stk with e | ⟨e,hf⟩
 · rw[e] at hb;exact List.mem_cons_of_mem _ hb
 · rw[e] at hb
   unfold frs at hb
   rw[List.filterMap_cons,hf] at hb
   exact hb
theorem Inv.stkFree (I:Inv X pins σ H s):∀b∈frs X.stack,H b=none:=fun b hb=>by
 rcases List.mem_cons.mp (I.stkSub b hb) with e | hb
 · rw[e];exact I.free
 · obtain⟨_,o,ho,_⟩:=I.ok.funs.mem hb
   exact I.base.free b o ho (I.ok.frf b hb) fun z=>I.ok.exfs b z hb
theorem Inv.step {g':Array GenState}{t':Nat}{d':Drawn}{ch:List Addr}(I:Inv X pins σ H s)
   (hch:∀b∈ch,(b∈X.ex∨X.s₀.heap.objs.size≤b)∧b≠X.env.locals∧(∀x c,X.env.cells.lookup x=some c→c≠b)∧∀p∈X.pn++pins,p.1≠b)
   (keep:∀b o,b≠X.env.locals→b ∉ X.fs→b ∉ ch→s.heap.get? b=some o→H b=none→h'.get? b=some o)
   (slot:∀b o,b≠X.env.locals→b∈X.fs→b ∉ ch→s.heap.get? b=some o→H b=none→∃sl,h'.get? b=some { o with slots:=sl }) (free:∀b o,b ∉ ch→s.heap.get? b=some o→H b=none→H' b=none)
   (there:∀b o,b ∉ ch→s.heap.get? b=some o→∃o',h'.get? b=some o')
   (tups:∀b xs,H b=some (.tup xs)→H' b=some (.tup xs)) (frzs:∀b o u,H b=some (.frz o u)→H' b=some (.frz o u)) (tbls:∀b ps,H b=some (.tbl ps)→∃more,H' b=some (.tbl (ps++more)))
   (ns:∀m,s.heap.Ns X.env.locals m→h'.Ns X.env.locals m) (hok:HOk X.prog X.w H' h') (hg:AllBare g') :
   Inv X pins σ H' { s with heap:=h',gens:=g',drawn:=d',toks:=t' }:=by
 have neL:∀b o,X.s₀.heap.get? b=some o→b≠X.env.locals:=fun b o e=>Nat.ne_of_lt (Nat.lt_of_lt_of_le (Heap.lt_size e) I.ok.above)
 have neC:∀b o,X.s₀.heap.get? b=some o→b ∉ X.ex→b ∉ ch:=fun b o e hx hb=>by
   rcases(hch b hb).1 with z | z
   · exact hx z
   · exact absurd (Nat.lt_of_lt_of_le (Heap.lt_size e) z) (Nat.lt_irrefl _)
 have cellK:∀x c,X.env.cells.lookup x=some c→∀v,s.heap.IsCell c v→h'.IsCell c v:=fun x c e v ⟨o,ho,hd⟩=>by
   have nch:c ∉ ch:=fun z=>(hch c z).2.2.1 x c e rfl
   by_cases hc:c∈X.fs
   · obtain⟨sl,q⟩:=slot c o (I.cne x c e) hc nch ho (I.freeC x c e)
     exact⟨_,q,hd⟩
   · exact⟨o,keep c o (I.cne x c e) hc nch ho (I.freeC x c e),hd⟩
 refine⟨I.ok,I.os,hg,⟨fun b o e n hb hx=>?_,fun b o e n hb hx=>?_,fun b o e n hx=>?_,fun b o e hx=>?_,fun b xs e=>tups b xs (I.base.tups b xs e),fun b o xs e=>frzs b o xs (I.base.frzs b o xs e),fun b ps e=>?_⟩,?_,fun x c e=>?_,?_,fun x c e=>?_,fun p hp=>?_,hok,I.len⟩
 · exact keep b o (neL b o e) hb (neC b o e hx) (I.base.keep b o e n hb hx) (I.base.free b o e n hx)
 · obtain⟨sl,e1⟩:=I.base.slot b o e n hb hx
   obtain⟨sl',e2⟩:=slot b _ (neL b o e) hb (neC b o e hx) e1 (I.base.free b o e n hx)
   exact⟨sl',e2⟩
 · obtain⟨o',e1⟩:=I.base.there b o e hx
   exact free b o' (neC b o e hx) e1 (I.base.free b o e n hx)
 · obtain⟨o',e1⟩:=I.base.there b o e hx
   exact there b o' (neC b o e hx) e1
 · obtain⟨m1,e1⟩:=I.base.tbls b ps e
   obtain⟨m2,e2⟩:=tbls b _ e1
   exact⟨m1++m2,by rw[e2,Array.append_assoc]⟩
 · obtain⟨m,hn,hl⟩:=I.loc
   refine⟨m,ns m hn,fun i x v e1 e2 e3=>?_⟩
   obtain⟨u,r,l⟩:=hl i x v e1 e2 e3
   refine⟨u,r,?_⟩
   rcases l with l | ⟨k,c,e,z⟩
   · exact .inl l
   · exact .inr ⟨k,c,e,cellK x c e _ z⟩
 · obtain⟨v,z⟩:=I.cell x c e
   exact⟨v,cellK x c e v z⟩
 · obtain⟨m,⟨o,_,_,ho,_⟩,_⟩:=I.loc
   exact free _ o (fun z=>(hch _ z).2.1 rfl) ho I.free
 · obtain⟨v,o,ho,hd⟩:=I.cell x c e
   exact free c o (fun z=>(hch c z).2.2.1 x c e rfl) ho (I.freeC x c e)
 · obtain⟨e,n,ne,nf,d⟩:=I.pin p hp
   have nch:p.1 ∉ ch:=fun z=>(hch p.1 z).2.2.2 p hp rfl
   exact⟨keep p.1 p.2 ne nf nch e n,free p.1 p.2 nch e n,ne,nf,d⟩
theorem Inv.un {t':Nat}(I:Inv X pins σ H s)(u:Un X.fs [] H H' s.heap h')(hok:HOk X.prog X.w H' h'):Inv X pins σ H' { s with heap:=h',toks:=t' }:=by
 obtain⟨m,⟨o,es,ep,ho,r⟩,_⟩:=id I.loc
 obtain⟨sl,hL⟩:=u.any ho I.free (by simp)
 exact I.step (g':=s.gens) (d':=s.drawn) (ch:=[]) (fun _ z=>nomatch z) (fun b o _ hb _ e n=>u.keep b o e n hb (by simp)) (fun b o _ hb _ e n=>u.slot b o e n hb (by simp)) (fun b o _ e n=>u.free b o e n (by simp)) (fun b o _ e=>u.there b o e (by simp)) u.tups u.frzs u.tbls (fun m' hm=>by
   obtain⟨o',es',ep',ho',r'⟩:=hm
   rw[ho] at ho';cases ho'
   exact⟨_,es',ep',hL,r'⟩) hok I.bare
theorem Inv.call {g':Array GenState}{t':Nat}{d':Drawn}{ch:List Addr}(I:Inv X pins σ H s)(u:Un (frs X.stack) ch H H' s.heap h')(hok:HOk X.prog X.w H' h')(hg:AllBare g')
   (hch:∀b∈ch,(b∈X.ex∨X.s₀.heap.objs.size≤b)∧b≠X.env.locals∧(∀x c,X.env.cells.lookup x=some c→c≠b)∧∀p∈X.pn++pins,p.1≠b) :
   Inv X pins σ H' { s with heap:=h',gens:=g',drawn:=d',toks:=t' }:=by
 obtain⟨m,⟨o,es,ep,ho,r⟩,_⟩:=id I.loc
 obtain⟨sl,hL⟩:=u.any ho I.free fun z=>(hch _ z).2.1 rfl
 exact I.step (ch:=ch) hch (fun b o hL hb hc e n=>u.keep b o e n (fun z=>(List.mem_cons.mp (I.stkSub b z)).elim hL hb) hc) (fun b o _ _ hc e n=>u.any e n hc) (fun b o hc e n=>u.free b o e n hc) (fun b o hc e=>u.there b o e hc) u.tups u.frzs u.tbls (fun m' hm=>by
   obtain⟨o',es',ep',ho',r'⟩:=hm
   rw[ho] at ho';cases ho'
   exact⟨_,es',ep',hL,r'⟩) hok hg
theorem Inv.turned {t':Nat}{it:Addr}(I:Inv X pins σ H s)(k:∀b o,b≠it→s.heap.get? b=some o→h'.get? b=some o)(hn:H it=none)(hL:it≠X.env.locals)
   (h1:it∈X.ex∨X.s₀.heap.objs.size≤it) (h2:∀x c,X.env.cells.lookup x=some c→c≠it) (h3:∀p∈X.pn++pins,p.1≠it):Inv X pins σ H { s with heap:=h',toks:=t' }:=by
 have nit:∀b u,H b=some u→b≠it:=fun b u e z=>by rw[z,hn] at e;cases e
 refine I.step (g':=s.gens) (d':=s.drawn) (ch:=[it]) (fun b hb=>?_) (fun b o _ _ hc e _=>k b o (fun z=>hc (by simp [z])) e) (fun b o _ _ hc e _=>⟨o.slots,k b o (fun z=>hc (by simp [z])) e⟩) (fun _ _ _ _ n=>n)
   (fun b o hc e=>⟨o,k b o (fun z=>hc (by simp [z])) e⟩) (fun _ _ e=>e) (fun _ _ _ e=>e) (fun b ps e=>⟨#[],by rw[e];simp⟩) (fun m hm=>?_) (fun b u e=>?_) I.bare
 · have e:b=it:=by simpa using hb
   subst e
   exact⟨h1,hL,h2,h3⟩
 · obtain⟨o,es,ep,ho,r⟩:=hm
   exact⟨o,es,ep,k _ o (Ne.symm hL) ho,r⟩
 · refine(I.hok b u e).stay (fun c v hc q=>k c v ?_ q) (fun _ q=>q) fun _ _ q=>q
   rcases hc with z | z
   · rw[z];exact nit b u e
   · exact nit c _ z
theorem Inv.tok (I:Inv X pins σ H s)(t:Nat):Inv X pins σ H { s with toks:=t }:=I.un (h':=s.heap) (t':=t) Un.refl I.hok
theorem Inv.kept {t':Nat}(I:Inv X pins σ H s)(k:∀b u,s.heap.get? b=some u→h'.get? b=some u):Inv X pins σ H { s with heap:=h',toks:=t' }:=I.un (Un.kept k) (I.hok.kept k)
theorem Inv.laid {a:Addr}{o:HO}{t':Nat}(I:Inv X pins σ H s)(k:∀b u,s.heap.get? b=some u→h'.get? b=some u)(hp:s.heap.objs.size≤a)(new:Xct X.prog X.w (upd H a o) h' a o) :
   Inv X pins σ (upd H a o) { s with heap:=h',toks:=t' }:=I.un (Un.laid k hp (I.hok.fresh hp)) (I.hok.laid k hp new)
theorem Inv.write {x e:Addr}{o:HO}{t':Nat}(I:Inv X pins σ H s)(mu:Mut (H x))(he:e=x∨H e=some (.own x))(k:∀b u,b≠e→s.heap.get? b=some u→h'.get? b=some u)(heo:∃u,h'.get? e=some u)
   (new:Xct X.prog X.w (upd H x o) h' x o):Inv X pins σ (upd H x o) { s with heap:=h',toks:=t' }:=I.un (Un.write mu he k heo) (I.hok.write mu he k heo new)
theorem Inv.pins_of {pins':List (Addr×Obj)}(I:Inv X pins σ H s)(h:∀p∈pins',s.heap.get? p.1=some p.2∧H p.1=none∧p.1≠X.env.locals∧p.1 ∉ X.fs∧∀v,p.2.data≠.cell v):Inv X pins' σ H s :=
 ⟨I.ok,I.os,I.bare,I.base,I.loc,I.cell,I.free,I.freeC,fun p hp=>(List.mem_append.mp hp).elim (fun z=>I.pin p (List.mem_append_left _ z)) (h p),I.hok,I.len⟩
theorem Xjv {N:List Str}(hN:N.Nodup){i j:Nat}{x:Str}(a:N[i]?=some x)(b:N[j]?=some x):i=j:=by
 obtain⟨h1,e1⟩:=List.getElem?_eq_some_iff.mp a
 obtain⟨h2,e2⟩:=List.getElem?_eq_some_iff.mp b
 exact(List.getElem_inj hN).mp (e1.trans e2.symm)
theorem Xle {M:Model}{A:Around}{E:Value→Shared→Prop}{i:Nat}{x:Str}{v:V}{u:Value}{Q:Unit→Shared→Prop}(I:Inv X pins σ H s)(hN:X.N.Nodup)(hi:X.N[i]?=some x)(hx:Loc X.env.scope x)(r:RelV v u)
   (h:∀s',Inv X pins (σ.set i (some v)) H s'→(∃a,Heap.SameBut a s.heap s'.heap∧(a=X.env.locals∨X.env.cells.lookup x=some a))→Q () s') (hf:X.fn x=true∨X.env.scope.names.lookup x=some .local:=by first | exact .inl rfl | exact .inr rfl | assumption):wpAny M A (storeName X.env x u) Q E s:=by
 obtain⟨m,hn,hl⟩:=id I.loc
 have hcls:(X.env.scope.kind==.class||(X.env.scope.kind==.module&&X.env.locals != X.env.globals))=false:=by rw[I.ok.kind];rfl
 have hiσ:i<σ.length:=by rw[I.len];exact(List.getElem?_eq_some_iff.mp hi).1
 have cne:=I.cne
 have tracked:∀{a:Addr} {h':Heap},(∃o,s.heap.get? a=some o∧H a=none)→Heap.SameBut a s.heap h'→HOk X.prog X.w H h':=fun {a h'} ha hs b ob e=>by
   obtain⟨_,_,hfree⟩:=ha
   refine(I.hok b ob e).stay (fun c w' hc q=>(hs.2 c ?_).trans q) (fun _ q=>q) fun _ _ q=>q
   rintro rfl
   rcases hc with rfl | hc
   · rw[hfree] at e;cases e
   · rw[hfree] at hc;cases hc
 rcases hx with hk | hk
 · refine wpAny_storeName_local hk hn (fun h' hn' hs=>?_) hcls
   obtain⟨oL,_,_,hoL,_⟩:=id hn
   refine h _ ⟨I.ok,I.os,I.bare,⟨fun b o e n hb hx=>?_,fun b o e n hb hx=>?_,I.base.free,fun b o e hx=>?_,I.base.tups,I.base.frzs,I.base.tbls⟩,⟨_,hn',fun j y v' e1 e2 e3=>?_⟩,fun y c e=>?_,I.free,I.freeC,fun p hp=>?_,tracked ⟨oL,hoL,I.free⟩ hs,by simpa using I.len⟩ ⟨_,hs,.inl rfl⟩
   · exact(hs.2 b (Nat.ne_of_lt (Nat.lt_of_lt_of_le (Heap.lt_size e) I.ok.above))).trans (I.base.keep b o e n hb hx)
   · obtain⟨sl,e1⟩:=I.base.slot b o e n hb hx
     exact⟨sl,(hs.2 b (Nat.ne_of_lt (Nat.lt_of_lt_of_le (Heap.lt_size e) I.ok.above))).trans e1⟩
   · obtain⟨o',e1⟩:=I.base.there b o e hx
     exact⟨o',(hs.2 b (Nat.ne_of_lt (Nat.lt_of_lt_of_le (Heap.lt_size e) I.ok.above))).trans e1⟩
   · by_cases hj:j=i
     · subst hj
       rw[hi] at e1;cases e1
       rw[List.getElem?_set_self hiσ] at e2
       cases e2
       exact⟨u,r,.inl ⟨hk,by simp⟩⟩
     · rw[List.getElem?_set_ne (Ne.symm hj)] at e2
       obtain⟨u',r',q⟩:=hl j y v' e1 e2 e3
       refine⟨u',r',?_⟩
       rcases q with ⟨k,e⟩ | ⟨k,c,e,z⟩
       · refine .inl ⟨k,?_⟩
         have:y≠x:=fun e=>hj (Xjv hN e1 (e▸hi))
         simp [this,e]
       · exact .inr ⟨k,c,e,z.sameBut hs (cne y c e)⟩
   · obtain⟨w',z⟩:=I.cell y c e
     exact⟨w',z.sameBut hs (cne y c e)⟩
   · obtain⟨e,n,ne,nf,d⟩:=I.pin p hp
     exact⟨(hs.2 p.1 ne).trans e,n,ne,nf,d⟩
 · have hfn:X.fn x=true:=by
     rcases hf with z | z
     · exact z
     · rw[z] at hk;cases hk
   obtain⟨c,hc⟩:=I.ok.has x (.inl hk)
   obtain⟨w',z⟩:=I.cell x c hc
   refine wpAny_storeName_cell I.ok.kind hk hc z (fun h' hc' hs=>?_)
   obtain⟨oc,hoc,hocd⟩:=id z
   refine h { s with heap:=h' } ⟨I.ok,I.os,I.bare,⟨fun b o e n hb hx=>?_,fun b o e n hb hx=>?_,I.base.free,fun b o e hx=>?_,I.base.tups,I.base.frzs,I.base.tbls⟩,⟨m,hn.sameBut hs (Ne.symm (cne x c hc)),fun j y v' e1 e2 e3=>?_⟩,fun y c' e=>?_,I.free,I.freeC,fun p hp=>?_,tracked ⟨oc,hoc,I.freeC x c hc⟩ hs,by simpa using I.len⟩ ⟨c,hs,.inr hc⟩
   · exact(hs.2 b (Nat.ne_of_lt (Nat.lt_of_lt_of_le (Heap.lt_size e) (I.ok.cab x c hfn hc)))).trans (I.base.keep b o e n hb hx)
   · obtain⟨sl,e1⟩:=I.base.slot b o e n hb hx
     exact⟨sl,(hs.2 b (Nat.ne_of_lt (Nat.lt_of_lt_of_le (Heap.lt_size e) (I.ok.cab x c hfn hc)))).trans e1⟩
   · obtain⟨o',e1⟩:=I.base.there b o e hx
     exact⟨o',(hs.2 b (Nat.ne_of_lt (Nat.lt_of_lt_of_le (Heap.lt_size e) (I.ok.cab x c hfn hc)))).trans e1⟩
   · by_cases hj:j=i
     · subst hj
       rw[hi] at e1;cases e1
       rw[List.getElem?_set_self hiσ] at e2
       cases e2
       exact⟨u,r,.inr ⟨.inl hk,c,hc,hc'⟩⟩
     · rw[List.getElem?_set_ne (Ne.symm hj)] at e2
       obtain⟨u',r',q⟩:=hl j y v' e1 e2 e3
       refine⟨u',r',?_⟩
       rcases q with q | ⟨k,c',e,z'⟩
       · exact .inl q
       · refine .inr ⟨k,c',e,z'.sameBut hs ?_⟩
         rintro rfl
         exact hj (Xjv hN e1 (I.ok.inj _ _ _ e hc▸hi))
   · by_cases hcc:c'=c
     · subst hcc;exact⟨_,hc'⟩
     · obtain⟨w2,z2⟩:=I.cell y c' e
       exact⟨w2,z2.sameBut hs hcc⟩
   · obtain⟨e,n,ne,nf,d⟩:=I.pin p hp
     refine⟨(hs.2 p.1 ?_).trans e,n,ne,nf,d⟩
     intro q
     rw[q,hoc] at e
     have q':oc=p.2:=Option.some.inj e
     exact d w' (by rw[←q'];exact hocd)
theorem Xgv {M:Model}{A:Around}{E:Value→Shared→Prop}{i:Nat}{x:Str}{v:V}{u:Value}{Q:Unit→Shared→Prop}(I:Inv X pins σ H s)(hN:X.N.Nodup)(hi:X.N[i]?=some x)(hx:Loc X.env.scope x)(r:RelV v u)
   (h:∀s',Inv X pins (σ.set i (some v)) H s'→Q () s') (hf:X.fn x=true∨X.env.scope.names.lookup x=some .local:=by first | exact .inl rfl | exact .inr rfl | assumption):wpAny M A (storeName X.env x u) Q E s :=
 Xle I hN hi hx r (fun s' I' _=>h s' I') hf
theorem Inv.call' {s':Shared}{ch:List Addr}(I:Inv X pins σ H s)(ho:s'.os=s.os)(u:Un (frs X.stack) ch H H' s.heap s'.heap)(hok:HOk X.prog X.w H' s'.heap)(hg:AllBare s'.gens)
   (hch:∀b∈ch,(b∈X.ex∨X.s₀.heap.objs.size≤b)∧b≠X.env.locals∧(∀x c,X.env.cells.lookup x=some c→c≠b)∧∀p∈X.pn++pins,p.1≠b):Inv X pins σ H' s':=by
 obtain⟨h',g',d',t',o'⟩:=s'
 have e:o'=s.os:=ho
 subst e
 exact I.call (g':=g') (t':=t') (d':=d') u hok hg hch
end
abbrev XK:=Value→Option Addr→Hp→Prop
abbrev St:=List (Option V)
abbrev VK:=V→Hp→Prop
abbrev TE:=St→Hp→VK→Prop
abbrev TT:=St→Hp→(Bool→Hp→Prop)→Prop
abbrev TA:=St→Hp→(List V→Hp→Prop)→Prop
structure Ends where
 nx:St→Hp→Prop
 rt:VK
 bk:St→Hp→Prop:=fun _ _=>False
 ct:St→Hp→Prop:=fun _ _=>False
abbrev TS:=Ends→St→Hp→Prop
def EP (X:Cx)(pins:List (Addr×Obj))(σ:St)(Q:VK)(u:Value)(s':Shared):Prop:=∃v H',Inv X pins σ H' s'∧RelV v u∧Q v H'
def TP (X:Cx)(pins:List (Addr×Obj))(σ:St)(Q:Bool→Hp→Prop)(b:Bool)(s':Shared):Prop:=∃H',Inv X pins σ H' s'∧Q b H'
def AP (X:Cx)(pins:List (Addr×Obj))(σ:St)(Q:List V→Hp→Prop)(us:List Value)(s':Shared):Prop:=∃vs H',Inv X pins σ H' s'∧Vals vs us∧Q vs H'
def SP (X:Cx)(pins:List (Addr×Obj))(D:Ends)(f:Flow)(s':Shared):Prop :=
 match f with
 | .next=>∃σ' H',Inv X pins σ' H' s'∧D.nx σ' H'
 | .brk=>∃σ' H',Inv X pins σ' H' s'∧D.bk σ' H'
 | .cont=>∃σ' H',Inv X pins σ' H' s'∧D.ct σ' H'
 | .ret u=>∃v σ' H',Inv X pins σ' H' s'∧RelV v u∧D.rt v H'
def PE (X:Cx)(e:Expr)(t:TE):Prop :=
 ∀(pins:List (Addr×Obj)) (s:Shared) (σ:St) (H:Hp) (Q:VK),Inv X pins σ H s→t σ H Q→wpAny (model X.prog X.w) X.A (eval e X.env) (EP X pins σ Q) X.xe s
def PT (X:Cx)(e:Expr)(t:TT):Prop :=
 ∀(pins:List (Addr×Obj)) (s:Shared) (σ:St) (H:Hp) (Q:Bool→Hp→Prop),Inv X pins σ H s→t σ H Q→wpAny (model X.prog X.w) X.A (isTrue e X.env (eval e X.env)) (TP X pins σ Q) X.xe s
def PW (X:Cx)(e:Expr)(t:TT):Prop :=
 ∀(whole:Sem Value) (pins:List (Addr×Obj)) (s:Shared) (σ:St) (H:Hp) (Q:Bool→Hp→Prop),Inv X pins σ H s→t σ H Q→wpAny (model X.prog X.w) X.A (isTrue e X.env whole) (TP X pins σ Q) X.xe s
theorem PW.pt {X:Cx}{e:Expr}{t:TT}(h:PW X e t):PT X e t:=h _
def PA (X:Cx)(es:List Expr)(t:TA):Prop :=
 ∀(pos:Pos) (pins:List (Addr×Obj)) (s:Shared) (σ:St) (H:Hp) (Q:List V→Hp→Prop),Inv X pins σ H s→t σ H Q→wpAny (model X.prog X.w) X.A (spliced (backTo pos (starEach es X.env))) (AP X pins σ Q) X.xe s
def PS (X:Cx)(st:Stmt)(t:TS):Prop :=
 ∀(pins:List (Addr×Obj)) (s:Shared) (σ:St) (H:Hp) (D:Ends),Inv X pins σ H s→t D σ H→wpAny (model X.prog X.w) X.A (exec st X.env) (SP X pins D) X.xe s
def PSs (X:Cx)(st:List Stmt)(t:TS):Prop :=
 ∀(pins:List (Addr×Obj)) (s:Shared) (σ:St) (H:Hp) (D:Ends),Inv X pins σ H s→t D σ H→wpAny (model X.prog X.w) X.A (execs st X.env) (SP X pins D) X.xe s
theorem thn {α:Type}{t:Sem α}{Q Q':α→Shared→Prop}{M:Model}{A:Around}{E:Value→Shared→Prop}{s:Shared}(h:wpAny M A t Q E s)(hQ:∀a s,Q a s→Q' a s):wpAny M A t Q' E s:=wpAny_mono h hQ fun _ _ x=>x
end L2
namespace L2
open PySem PySem.Spec PyProof.Rows
section
variable {X:Cx}
theorem bin {a b:Expr}{ta tb:TE}(ha:PE X a ta)(hb:PE X b tb){pins:List (Addr×Obj)}{s:Shared}{σ:St}{H:Hp}{R:V→V→Hp→Prop}(I:Inv X pins σ H s)(h:ta σ H fun x H1=>tb σ H1 fun y H2=>R x y H2)
   {α:Type} {Q:α→Shared→Prop} {f:Value→Value→Sem α}
   (hf:∀v u s2 x y H2,Inv X pins σ H2 s2→RelV x v→RelV y u→R x y H2→wpAny (model X.prog X.w) X.A (f v u) Q X.xe s2) :
   wpAny (model X.prog X.w) X.A (eval a X.env) (fun v s₁=>wpAny (model X.prog X.w) X.A (eval b X.env) (fun u s₂=>wpAny (model X.prog X.w) X.A (f v u) Q X.xe s₂) X.xe s₁) X.xe s:=by
 refine thn (ha pins s σ H _ I h) fun v s1 ⟨x,H1,I1,r1,q1⟩=>?_
 refine thn (hb pins s1 σ H1 _ I1 q1) fun u s2 ⟨y,H2,I2,r2,q2⟩=>?_
 exact hf v u s2 x y H2 I2 r1 r2 q2
def tVar (i:Nat):TE:=fun σ H Q=>∃v,σ[i]?=some (some v)∧Q v H
def tC (v:V):TE:=fun _ H Q=>Q v H
theorem XNu {i:Nat}{x:Str}{pos:Pos}(hN:X.N[i]?=some x)(hv:Vis X.env.scope x)(hd:(x==("__debug__":Str))=false:=by decide)(hcd:(x==("__classdict__":Str))=false:=by decide):PE X (.Name x pos) (tVar i):=by
 intro pins s σ H Q I h
 obtain⟨v,e,h⟩:=h
 obtain⟨m,hn,hl⟩:=I.loc
 obtain⟨u,r,l⟩:=hl i x v hN e hv
 have fin:EP X pins σ Q u s:=⟨v,H,I,r,h⟩
 rcases l with ⟨hk,hm⟩ | ⟨hk,c,hc,hcell⟩
 · exact wpAny_Name (wpAny_loadName_local I.ok.kind hk hn hm fin) hd
 · rcases hk with hk | hk
   · exact wpAny_Name (wpAny_loadName_cell I.ok.kind hk hc hcell fin) hd
   · exact wpAny_Name (wpAny_loadName_free I.ok.kind hk hc hcell fin hcd) hd
theorem Xaf {i j pos}:PE X (.Constant (.int i) j pos) (tC (.int i)):=fun _ _ _ H _ I h=>wpAny_Constant_int ⟨.int i,H,I.tok _,⟨_,rfl⟩,h⟩
theorem Xdc {b j pos}:PE X (.Constant (.bool b) j pos) (tC (.bl b)):=fun _ _ _ H _ I h=>Constant_bool ⟨.bl b,H,I,rfl,h⟩
theorem Xdu {j pos}:PE X (.Constant .none j pos) (tC .non):=fun _ _ _ H _ I h=>Constant_none ⟨.non,H,I,rfl,h⟩
theorem Xan {x j pos}:PE X (.Constant (.str x) j pos) (tC (.str x)):=fun _ _ _ H _ I h=>Calls.Constant_str ⟨.str x,H,I.tok _,⟨_,rfl⟩,h⟩
def Gl (X:Cx)(x:Str):Prop:=X.env.kindOf x=some .globalImplicit
theorem Xdv {E:Value→Shared→Prop}{pins:List (Addr×Obj)}{s:Shared}{σ:St}{H:Hp}{x:Str}{u:Value}{pos:Pos}{Q:Value→Shared→Prop}(I:Inv X pins σ H s)(hg:Gl X x)(hm:X.mg x=some u)(h:Q u s)
   (hd:(x==("__debug__":Str))=false:=by decide):wpAny (model X.prog X.w) X.A (eval (.Name x pos) X.env) Q E s :=
 Calls.Name_function_global I.ok.kind hg (Calls.loadGlobal_global (by rw[I.ok.glob];exact I.mod.glob.keeps I.bk) hm h) hd
theorem Xml {E:Value→Shared→Prop}{pins:List (Addr×Obj)}{s:Shared}{σ:St}{H:Hp}{x:Str}{u:Value}{pos:Pos}{Q:Value→Shared→Prop}(I:Inv X pins σ H s)(hg:Gl X x)(hm:X.mg x=none)(hv:bootBuiltins x=some u)(h:Q u s)
   (hn:x≠"__name__":=by decide) (hd:(x==("__debug__":Str))=false:=by decide):wpAny (model X.prog X.w) X.A (eval (.Name x pos) X.env) Q E s:=by
 obtain⟨mb,h1,h2⟩:=I.mod.blt
 exact Calls.Name_function_global I.ok.kind hg (Calls.loadGlobal_builtin (by rw[I.ok.glob];exact I.mod.glob.keeps I.bk) hm (by rw[I.ok.blt];exact h1.keeps I.bk) ((h2 x hn).trans hv) h) hd
theorem Xbt {x:Str}{v:V}{u:Value}{pos:Pos}(hg:Gl X x)(hm:X.mg x=some u)(r:RelV v u)(hd:(x==("__debug__":Str))=false:=by decide):PE X (.Name x pos) (tC v) :=
 fun _ _ _ H _ I h=>Xdv I hg hm ⟨v,H,I,r,h⟩ hd
theorem Xkg {x:Str}{v:V}{u:Value}{pos:Pos}(hg:Gl X x)(hm:X.mg x=none)(hv:bootBuiltins x=some u)(r:RelV v u)(hn:x≠"__name__":=by decide)(hd:(x==("__debug__":Str))=false:=by decide):PE X (.Name x pos) (tC v) :=
 fun _ _ _ H _ I h=>Xml I hg hm hv ⟨v,H,I,r,h⟩ hn hd
variable {a b:Expr}{ta tb:TE}{pos:Pos}
def PC (X:Cx)(op:CmpOp)(a b:Expr)(t:TE):Prop :=
 ∀(pins:List (Addr×Obj)) (s:Shared) (σ:St) (H:Hp) (Q:VK),Inv X pins σ H s→t σ H Q →
   wpAny (model X.prog X.w) X.A (eval a X.env) (fun v s₁=>wpAny (model X.prog X.w) X.A (eval b X.env) (fun u s₂=>wpAny (model X.prog X.w) X.A (compareOp op v u) (EP X pins σ Q) X.xe s₂) X.xe s₁) X.xe s
theorem Xyj (b:Expr){op:CmpOp}(h:op≠.In)(h2:op≠.NotIn):behindInMarks op b=false:=by
 have e1:(op==CmpOp.In)=false:=by cases op <;> first | rfl | exact absurd rfl h
 have e2:(op==CmpOp.NotIn)=false:=by cases op <;> first | rfl | exact absurd rfl h2
 cases b <;> simp [behindInMarks,e1,e2]
def tB (t:TE):TT:=fun σ H Q=>t σ H fun x H1=>∃c,x = .bl c∧Q c H1
theorem XJb {op:CmpOp}{t:TE}(h:PC X op a b t)(h1:behindInMarks op b=false:=by first | exact Xyj _ (by decide) (by decide) | rfl):PT X (.Compare a [op] [b] pos) (tB t):=by
 intro pins s σ H Q I hw
 refine wpAny_isTrue_Compare1 (thn (h pins s σ H _ I hw) fun v s1 h1=>thn h1 fun u s2 h2=>thn h2 fun c s3 ⟨x,H1,I1,r1,q1⟩=>?_) h1
 obtain⟨d,rfl,q⟩:=q1
 cases r1
 exact wpAny_truthy_bool ⟨H1,I1,q⟩
theorem Xhz {e:Expr}{t:TE}(h:PE X e t)(he:∀whole,isTrue e X.env whole=(do let v ←whole;standAt e.pos;holding [v] (truthy v)):=by intro _;rfl):PT X e (tB t):=by
 intro pins s σ H Q I hw
 refine isTrue_plain (thn (h pins s σ H _ I hw) fun v s1 ⟨x,H1,I1,r1,q1⟩=>?_) (he _)
 obtain⟨d,rfl,q⟩:=q1
 cases r1
 exact wpAny_truthy_bool ⟨H1,I1,q⟩
variable {tA tB':TT}{rest:List Expr}
def tAnd (t u:TT):TT:=fun σ H Q=>t σ H fun c H1=>if c=true then u σ H1 Q else Q false H1
def tOr (t u:TT):TT:=fun σ H Q=>t σ H fun c H1=>if c=true then Q true H1 else u σ H1 Q
def tNot (t:TT):TT:=fun σ H Q=>t σ H fun c H1=>Q (!c) H1
theorem Xda (ha:PT X a tA):PW X (.BoolOp .And [a] pos) tA:=by
 intro wh pins s σ H Q I h
 refine isTrue_and (thn (ha pins s σ H Q I h) fun c s1 e=>?_)
 cases c with
 | true=>exact isTrue_and_nil e
 | false=>exact e
theorem Xek (ha:PT X a tA):PW X (.BoolOp .Or [a] pos) tA:=by
 intro wh pins s σ H Q I h
 refine isTrue_or (thn (ha pins s σ H Q I h) fun c s1 e=>?_)
 cases c with
 | false=>exact isTrue_or_nil e
 | true=>exact e
theorem Xdi (ha:PT X a tA)(hb:PW X (.BoolOp .And (b::rest) pos) tB'):PW X (.BoolOp .And (a::b::rest) pos) (tAnd tA tB'):=by
 intro wh pins s σ H Q I h
 refine isTrue_and (thn (ha pins s σ H _ I h) fun c s1 ⟨H1,I1,q1⟩=>?_)
 cases c with
 | true=>exact hb wh pins s1 σ H1 Q I1 q1
 | false=>exact⟨H1,I1,q1⟩
theorem Xge (ha:PT X a tA)(hb:PW X (.BoolOp .Or (b::rest) pos) tB'):PW X (.BoolOp .Or (a::b::rest) pos) (tOr tA tB'):=by
 intro wh pins s σ H Q I h
 refine isTrue_or (thn (ha pins s σ H _ I h) fun c s1 ⟨H1,I1,q1⟩=>?_)
 cases c with
 | true=>exact⟨H1,I1,q1⟩
 | false=>exact hb wh pins s1 σ H1 Q I1 q1
theorem Xdb (ha:PT X a tA):PT X (.UnaryOp .Not a pos) (tNot tA):=by
 intro pins s σ H Q I h
 exact isTrue_not (ha pins s σ H (fun c H1=>Q (!c) H1) I h)
def Xye (ta tb:TE):TE:=fun σ H Q=>ta σ H fun x H1=>∃c,x = .bl c∧if c=true then tb σ H1 Q else Q (.bl false) H1
def tOrV (ta tb:TE):TE:=fun σ H Q=>ta σ H fun x H1=>∃c,x = .bl c∧if c=true then Q (.bl true) H1 else tb σ H1 Q
def XPo (ta:TE):TE:=fun σ H Q=>ta σ H fun x H1=>∃c,x = .bl c∧Q (.bl (!c)) H1
theorem Xgm {op}{t:TE}(h:PE X a t):PE X (.BoolOp op [a] pos) t:=fun pins s σ H Q I hw=>BoolOp_one (h pins s σ H Q I hw)
theorem Xfq (ha:PE X a ta)(hb:PE X (.BoolOp .And (b::rest) pos) tb):PE X (.BoolOp .And (a::b::rest) pos) (Xye ta tb):=by
 intro pins s σ H Q I h
 refine BoolOp_and (thn (ha pins s σ H _ I h) fun v s1 ⟨x,H1,I1,r1,q1⟩=>?_)
 obtain⟨c,rfl,q1⟩:=q1
 cases r1
 refine wpAny_truthy_bool ?_
 cases c with
 | true=>exact hb pins s1 σ H1 Q I1 q1
 | false=>exact⟨.bl false,H1,I1,rfl,q1⟩
theorem pe_or (ha:PE X a ta)(hb:PE X (.BoolOp .Or (b::rest) pos) tb):PE X (.BoolOp .Or (a::b::rest) pos) (tOrV ta tb):=by
 intro pins s σ H Q I h
 refine BoolOp_or (thn (ha pins s σ H _ I h) fun v s1 ⟨x,H1,I1,r1,q1⟩=>?_)
 obtain⟨c,rfl,q1⟩:=q1
 cases r1
 refine wpAny_truthy_bool ?_
 cases c with
 | false=>exact hb pins s1 σ H1 Q I1 q1
 | true=>exact⟨.bl true,H1,I1,rfl,q1⟩
theorem XAa (ha:PE X a ta):PE X (.UnaryOp .Not a pos) (XPo ta):=by
 intro pins s σ H Q I h
 refine UnaryOp_ (thn (ha pins s σ H _ I h) fun v s1 ⟨x,H1,I1,r1,q1⟩=>?_)
 obtain⟨c,rfl,q1⟩:=q1
 cases r1
 exact not_of (wpAny_truthy_bool ⟨.bl (!c),H1,I1,rfl,q1⟩)
end
end L2
namespace L2
open PySem PySem.Spec PyProof.Rows
def SqL (K:PySem.W.Frag)(H:Hp)(a:Addr)(xs:List V):Prop :=
 Rd H a (.lst xs) ∨
   ∃(o:Obj) (its:Array Value) (n:Nat),K.lookup a=some o∧o.cls = .type "list"∧o.dict=none∧o.data = .seq its n∧its.size≤sizeLine∧Vals xs its.toList
def SqT (K:PySem.W.Frag)(H:Hp)(a:Addr)(xs:List V):Prop :=
 Rd H a (.tup xs) ∨
   ∃(o:Obj) (its:Array Value) (n:Nat),K.lookup a=some o∧o.cls = .type "tuple"∧o.data = .seq its n∧its.size≤sizeLine∧Vals xs its.toList
def absV:Value→Option V
 | .none=>some .non
 | .bool b=>some (.bl b)
 | .int i _=>some (.int i)
 | .str x _=>some (.str x)
 | .bytes b _=>some (.byt b)
 | .float b _=>some (.flt b)
 | .ref a=>some (.ref a)
 | .type n=>some (.ty n)
 | _=>none
theorem RelV.abs {x:V}{u:Value}(r:RelV x u):absV u=some x:=by
 cases x with
 | non=>cases r;rfl
 | bl _=>cases r;rfl
 | int _=>obtain⟨t,rfl⟩:=r;rfl
 | str _=>obtain⟨t,rfl⟩:=r;rfl
 | byt _=>obtain⟨t,rfl⟩:=r;rfl
 | flt _=>obtain⟨t,rfl⟩:=r;rfl
 | ref _=>cases r;rfl
 | ty _=>cases r;rfl
theorem RelV.inj {x y:V}{u:Value}(r:RelV x u)(q:RelV y u):x=y:=Option.some.inj (r.abs.symm.trans q.abs)
theorem Vals.inj:∀{xs ys:List V} {us:List Value},Vals xs us→Vals ys us→xs=ys
 | _,_,_,.nil,.nil=>rfl
 | _,_,_,.cons r t,.cons r' t'=>by rw[r.inj r',Vals.inj t t']
section
variable {X:Cx}{pins:List (Addr×Obj)}{σ:St}{H:Hp}{s:Shared}{a:Addr}{xs ys:List V}
theorem SqL.of {K:PySem.W.Frag}(h:H a=some (.lst xs)):SqL K H a xs:=.inl (.inl h)
theorem SqT.of {K:PySem.W.Frag}(h:H a=some (.tup xs)):SqT K H a xs:=.inl (.inl h)
theorem Inv.list (I:Inv X pins σ H s)(h:SqL X.K H a xs):∃its:List Value,Vals xs its∧PlainL s.heap a its.toArray∧xs.length≤sizeLine:=by
 rcases h with h | ⟨o,its,n,hk,hc,hd,hs,hz,r⟩
 · obtain⟨z,its,n,r,e⟩:=h.ok I.hok
   exact⟨its,r,⟨_,n,e,rfl,rfl,rfl⟩,z⟩
 · refine⟨its.toList,r,⟨o,n,I.kIn a o hk,hc,hd,by simpa using hs⟩,?_⟩
   have e:=r.length
   simp only [Array.length_toList] at e
   omega
theorem Inv.tuple (I:Inv X pins σ H s)(h:SqT X.K H a xs):∃its:List Value,Vals xs its∧IsTup s.heap a its.toArray∧xs.length≤sizeLine:=by
 rcases h with h | ⟨o,its,n,hk,hc,hs,hz,r⟩
 · obtain⟨z,its,r,p⟩:=h.ok I.hok
   exact⟨its,r,p,z⟩
 · refine⟨its.toList,r,⟨o,I.kIn a o hk,hc,n,by simpa using hs⟩,?_⟩
   have e:=r.length
   simp only [Array.length_toList] at e
   omega
theorem Inv.list_inj (I:Inv X pins σ H s)(h:SqL X.K H a xs)(h':SqL X.K H a ys):xs=ys:=by
 obtain⟨its,r,⟨o,n,e,_,_,d⟩,_⟩:=I.list h
 obtain⟨its',r',⟨o',n',e',_,_,d'⟩,_⟩:=I.list h'
 rw[e] at e';cases e'
 rw[d] at d'
 injection d' with d1 _
 have:its=its':=by simpa using congrArg Array.toList d1
 subst this
 exact r.inj r'
end
abbrev Cx.wish (X:Cx)(E:Value→Shared→Prop):Cx:={ X with xe:=E }
abbrev Cx.nox (X:Cx):Cx:=X.wish fun _ _=>False
theorem Cx.Ok.wish {X:Cx}(ok:X.Ok)(E:Value→Shared→Prop):(X.wish E).Ok :=
 ⟨ok.mod,ok.kind,ok.glob,ok.blt,ok.above,ok.inj,ok.has,ok.cab,ok.hd,ok.frames,ok.stk,ok.exf,ok.bs,ok.bsz,ok.noex,ok.exfs,ok.funs,ok.frf⟩
theorem Cx.Ok.unwish {X:Cx}{E:Value→Shared→Prop}(ok:(X.wish E).Ok):X.Ok :=
 ⟨ok.mod,ok.kind,ok.glob,ok.blt,ok.above,ok.inj,ok.has,ok.cab,ok.hd,ok.frames,ok.stk,ok.exf,ok.bs,ok.bsz,ok.noex,ok.exfs,ok.funs,ok.frf⟩
section
variable {X:Cx}{pins:List (Addr×Obj)}{σ:St}{H:Hp}{s:Shared}{E:Value→Shared→Prop}
theorem Inv.wish (I:Inv X pins σ H s)(E:Value→Shared→Prop):Inv (X.wish E) pins σ H s:=⟨I.ok.wish E,I.os,I.bare,I.base,I.loc,I.cell,I.free,I.freeC,I.pin,I.hok,I.len⟩
theorem Inv.unwish (I:Inv (X.wish E) pins σ H s):Inv X pins σ H s:=⟨I.ok.unwish,I.os,I.bare,I.base,I.loc,I.cell,I.free,I.freeC,I.pin,I.hok,I.len⟩
theorem SP.unwish {D:Ends}{f:Flow}{s':Shared}(h:SP (X.wish E) pins D f s'):SP X pins D f s':=by
 cases f with
 | next=>obtain⟨σ',H',I,q⟩:=h;exact⟨σ',H',I.unwish,q⟩
 | brk=>obtain⟨σ',H',I,q⟩:=h;exact⟨σ',H',I.unwish,q⟩
 | cont=>obtain⟨σ',H',I,q⟩:=h;exact⟨σ',H',I.unwish,q⟩
 | ret u=>obtain⟨v,σ',H',I,r,q⟩:=h;exact⟨v,σ',H',I.unwish,r,q⟩
theorem PE.nox {e:Expr}{t:TE}(h:PE X.nox e t):PE X e t:=fun pins s σ H Q I hw =>
 wpAny_mono (h pins s σ H Q (I.wish _) hw) (fun _ _ ⟨v,H',I',r,q⟩=>⟨v,H',I'.unwish,r,q⟩) fun _ _ z=>False.elim z
theorem PT.nox {e:Expr}{t:TT}(h:PT X.nox e t):PT X e t:=fun pins s σ H Q I hw =>
 wpAny_mono (h pins s σ H Q (I.wish _) hw) (fun _ _ ⟨H',I',q⟩=>⟨H',I'.unwish,q⟩) fun _ _ z=>False.elim z
theorem PSs.nox {st:List Stmt}{t:TS}(h:PSs X.nox st t):PSs X st t:=fun pins s σ H D I hw =>
 wpAny_mono (h pins s σ H D (I.wish _) hw) (fun _ _ q=>q.unwish) fun _ _ z=>False.elim z
end
section
variable {X:Cx}{st:Stmt}{rest:List Stmt}{t u:TS}{e:Expr}{te:TE}{pos:Pos}
def XSb:TS:=fun D σ H=>D.nx σ H
def tSeq (t u:TS):TS:=fun D σ H=>t { D with nx:=u D } σ H
theorem Xam:PSs X [] XSb:=fun _ _ σ H _ I h=>wpAny_execs_nil ⟨σ,H,I,h⟩
theorem Xab (h1:PS X st t)(h2:PSs X rest u):PSs X (st::rest) (tSeq t u):=by
 intro pins s σ H D I h
 refine wpAny_execs_cons (thn (h1 pins s σ H { D with nx:=u D } I h) fun f s1 q=>?_)
 cases f with
 | next =>
   obtain⟨σ',H',I',q⟩:=q
   exact h2 pins s1 σ' H' D I' q
 | ret v=>exact q
 | brk=>exact q
 | cont=>exact q
theorem Xae (h1:PS X st t):PSs X [st] t:=by
 intro pins s σ H D I h
 refine wpAny_execs_cons (thn (h1 pins s σ H D I h) fun f s1 q=>?_)
 cases f with
 | next=>exact wpAny_execs_nil q
 | ret v=>exact q
 | brk=>exact q
 | cont=>exact q
theorem Inv.quiet {pins:List (Addr×Obj)}{σ:St}{H:Hp}{s:Shared}(I:Inv X pins σ H s):interactive X.env=false:=by simp [interactive,I.ok.kind]
def XKo (te:TE):TS:=fun D σ H=>te σ H fun _ H1=>D.nx σ H1
theorem Xbx (he:PE X e te)(hs:swapsWith e none pos.line X.env=pure false:=by rfl):PS X (.Expr e pos) (XKo te):=by
 intro pins s σ H D I h
 exact wpAny_Expr_any (thn (he pins s σ H _ I h) fun v s1 ⟨x,H1,I1,r1,q1⟩=>⟨σ,H1,I1,q1⟩) I.quiet hs
def tRet (te:TE):TS:=fun D σ H=>te σ H D.rt
theorem Xal (he:PE X e te):PS X (.Return (some e) pos) (tRet te):=by
 intro pins s σ H D I h
 exact wpAny_Return_some (thn (he pins s σ H _ I h) fun v s1 ⟨x,H1,I1,r1,q1⟩=>⟨x,σ,H1,I1,r1,q1⟩)
def tIfS (c:TT)(t u:TS):TS:=fun D σ H=>c σ H fun b H1=>if b=true then t D σ H1 else u D σ H1
theorem Xbd {c:Expr}{a b:List Stmt}{tc:TT}(hc:PT X c tc)(ha:PSs X a t)(hb:PSs X b u):PS X (.If c a b pos) (tIfS tc t u):=by
 intro pins s σ H D I h
 refine wpAny_If (thn (hc pins s σ H _ I h) fun d s1 ⟨H1,I1,q1⟩=>?_)
 cases d with
 | true=>exact ha pins s1 σ H1 D I1 q1
 | false=>exact hb pins s1 σ H1 D I1 q1
def XMr:TS:=fun _ _ _=>False
theorem Xfv:PS X st XMr:=fun _ _ _ _ _ _ h=>h.elim
end
abbrev TG:=V→St→Hp→(St→Hp→Prop)→Prop
abbrev TGs:=List V→St→Hp→(St→Hp→Prop)→Prop
def PG (X:Cx)(target:Expr)(t:TG):Prop :=
 ∀(pins:List (Addr×Obj)) (s:Shared) (σ:St) (H:Hp) (v:V) (u:Value) (Q:St→Hp→Prop),Inv X pins σ H s→RelV v u→t v σ H Q →
   wpAny (model X.prog X.w) X.A (assign target X.env u) (fun _ s'=>∃σ' H',Inv X pins σ' H' s'∧Q σ' H') X.xe s
def PGs (X:Cx)(ts:List Expr)(t:TGs):Prop :=
 ∀(pins:List (Addr×Obj)) (s:Shared) (σ:St) (H:Hp) (vs:List V) (us:List Value) (Q:St→Hp→Prop),Inv X pins σ H s→Vals vs us→t vs σ H Q →
   wpAny (model X.prog X.w) X.A (assignInOrder ((assignEach ts X.env).map (·.2)) us) (fun _ s'=>∃σ' H',Inv X pins σ' H' s'∧Q σ' H') X.xe s
abbrev TSet:=V→V→V→Hp→(Hp→Prop)→Prop
def PSet (X:Cx)(t:TSet):Prop :=
 ∀(pins:List (Addr×Obj)) (s:Shared) (σ:St) (H:Hp) (o i v:V) (ov iv u:Value) (Q:Hp→Prop),Inv X pins σ H s→RelV o ov→RelV i iv→RelV v u→t o i v H Q →
   wpAny (model X.prog X.w) X.A (setItem ov iv u) (fun _ s'=>∃H',Inv X pins σ H' s'∧Q H') X.xe s
section
variable {X:Cx}{pos:Pos}
def Xpt (i:Nat):TG:=fun v σ H Q=>Q (σ.set i (some v)) H
theorem Xau {i:Nat}{x:Str}(hN:X.N.Nodup)(hi:X.N[i]?=some x)(hx:Loc X.env.scope x)(hf:X.fn x=true∨X.env.scope.names.lookup x=some .local:=by first | exact .inl rfl | exact .inr rfl | assumption):PG X (.Name x pos) (Xpt i):=by
 intro pins s σ H v u Q I r h
 exact wpAny_assign_Name (Xgv I hN hi hx r (fun s' I'=>⟨_,H,I',h⟩) hf)
def gNil:TGs:=fun vs σ H Q=>vs=[]∧Q σ H
def XRo (t:TG)(u:TGs):TGs:=fun vs σ H Q=>∃v r,vs=v::r∧t v σ H fun σ' H'=>u r σ' H' Q
theorem Xdh:PGs X [] gNil:=by
 intro pins s σ H vs us Q I r h
 obtain⟨e,h⟩:=h
 subst e
 cases r
 exact assignInOrder_nil ⟨σ,H,I,h⟩
theorem Xax {e:Expr}{es:List Expr}{t:TG}{u:TGs}(h1:PG X e t)(h2:PGs X es u)
   (hs:(assignEach (e::es) X.env).map (·.2)=assign e X.env::(assignEach es X.env).map (·.2):=by rfl):PGs X (e::es) (XRo t u):=by
 intro pins s σ H vs us Q I r h
 obtain⟨v,vr,e1,h⟩:=h
 subst e1
 cases r with
 | cons r rr =>
   rw[hs]
   refine assignInOrder_cons (thn (h1 pins s σ H _ _ _ I r h) fun _ s1 ⟨σ1,H1,I1,q1⟩=>?_)
   exact h2 pins s1 σ1 H1 _ _ Q I1 rr q1
def gTup (K:PySem.W.Frag)(n:Nat)(t:TGs):TG:=fun v σ H Q=>∃a xs,v = .ref a∧SqT K H a xs∧xs.length=n∧t xs σ H Q
theorem Xgp {es:List Expr}{k:Nat}{t:TGs}{n:Nat}(hc:X.calm=true)(h:PGs X es t)
   (hn:(assignEach es X.env).length=n:=by rfl) (hst:(assignEach es X.env).findIdx? (·.1)=none:=by rfl):PG X (.Tuple es k pos) (gTup X.K n t):=by
 intro pins s σ H v u Q I r hw
 obtain⟨a,xs,e1,hq,hl,hw⟩:=hw
 subst e1
 cases r
 obtain⟨its,rv,ht,hz⟩:=I.tuple hq
 refine assign_Tuple_tuple (I.ok.hd hc) ht (by simp [hn,←hl,rv.length]) hst fun h' hx=>?_
 have I1:Inv X pins σ H { s with heap:=h' }:=I.kept (t':=s.toks) fun b o e=>hx b o (Nat.ne_of_lt (Heap.lt_size e)) e
 exact h pins _ σ H xs _ Q I1 (by simpa using rv) hw
def gSub (to ti:TE)(t:TSet):TG:=fun v σ H Q=>to σ H fun o H1=>ti σ H1 fun i H2=>t o i v H2 fun H3=>Q σ H3
theorem Xlv {o i:Expr}{to ti:TE}{t:TSet}(ho:PE X o to)(hi:PE X i ti)(hs:PSet X t)
   (ha:∀v,assign (.Subscript o i pos) X.env v=(do
     let ov ←holding [v] (eval o X.env)
     let iv ←holding [v,ov] (eval i X.env)
     standAt pos
     holding [v,ov,iv] (setItem ov iv v)
     release [v,ov,iv] []):=by intro _;rfl):PG X (.Subscript o i pos) (gSub to ti t):=by
 intro pins s σ H v u Q I r h
 rw[ha]
 refine wpAny_bind (wpAny_holding (thn (ho pins s σ H _ I h) fun ov s1 ⟨x,H1,I1,r1,q1⟩=>?_))
 refine wpAny_bind (wpAny_holding (thn (hi pins s1 σ H1 _ I1 q1) fun iv s2 ⟨y,H2,I2,r2,q2⟩=>?_))
 refine wpAny_bind (wpAny_standAt (wpAny_bind (wpAny_holding (thn (hs pins s2 σ H2 x y v ov iv u _ I2 r1 r2 r q2) fun _ s3 ⟨H3,I3,q3⟩=>?_))))
 exact wpAny_release ⟨σ,H3,I3,q3⟩
def tAsg (te:TE)(g:TG):TS:=fun D σ H=>te σ H fun x H1=>g x σ H1 D.nx
theorem Xea {tg e:Expr}{te:TE}{g:TG}(he:PE X e te)(hg:PG X tg g)(hs:swapsWithSole [tg] e pos.line X.env=pure false:=by rfl)(hw:swappedStores [tg] e X.env=pure none:=by rfl)
   (h1:(assignEach [tg] X.env).map (·.2)=[assign tg X.env]:=by rfl):PS X (.Assign [tg] e pos) (tAsg te g):=by
 intro pins s σ H D I h
 refine wpAny_Assign_stores (thn (he pins s σ H _ I h) fun v s1 ⟨x,H1,I1,r1,q1⟩=>?_) hs hw
 rw[h1]
 exact thn (hg pins s1 σ H1 x v _ I1 r1 q1) fun _ s2 q=>q
theorem Xao {i:Nat}{x:Str}{e:Expr}{te:TE}{pos':Pos}(hN:X.N.Nodup)(hi:X.N[i]?=some x)(hx:Loc X.env.scope x)(he:PE X e te)(hs:swapsWith e (some (.Name x pos')) pos.line X.env=pure false:=by rfl)(hf:X.fn x=true∨X.env.scope.names.lookup x=some .local:=by first | exact .inl rfl | exact .inr rfl | assumption) :
   PS X (.Assign [.Name x pos'] e pos) (tAsg te (Xpt i)):=by
 intro pins s σ H D I h
 refine wpAny_Assign_Name (thn (he pins s σ H _ I h) fun v s1 ⟨y,H1,I1,r1,q1⟩=>?_) hs
 exact Xgv I1 hN hi hx r1 (fun s2 I2=>⟨_,H1,I2,q1⟩) hf
end
section
variable {X:Cx}{pos:Pos}
def XKq (c:TT)(tb:TS):TS:=fun D σ H=>∃W:Nat→St→Hp→Prop,(∃m,W m σ H)∧∀m σ H,W m σ H →
 c σ H fun b H1=>if b=true then ∃N:St→Hp→Prop,(∀σ' H',N σ' H'→∃m',m'<m∧W m' σ' H')∧tb { D with nx:=N,ct:=N,bk:=D.nx } σ H1 else D.nx σ H1
theorem Xfy {c:Expr}{body:List Stmt}{tc:TT}{tb:TS}(hp:PassesOwn (model X.prog X.w) X.A X.env X.xe)(hc:PT X c tc)(hb:PSs X body tb):PS X (.While c body [] pos) (XKq tc tb):=by
 intro pins s σ H D I h
 obtain⟨W,⟨m0,w0⟩,turn⟩:=h
 refine wpAny_While (codeAny_whileLoop (fun n s'=>∃σ' H',Inv X pins σ' H' s'∧W n σ' H') ?_ m0 ⟨σ,H,I,w0⟩)
 rintro n s1 ⟨σ1,H1,I1,w1⟩
 refine wpAny_passesOwn hp (thn (hc pins s1 σ1 H1 _ I1 (turn n σ1 H1 w1)) fun b s2 ⟨H2,I2,q2⟩=>?_)
 cases b with
 | true =>
   obtain⟨N,hN,q2⟩:=q2
   rw[if_pos rfl]
   refine wpAny_passesOwn hp (thn (hb pins s2 σ1 H2 _ I2 q2) fun f s3 q3=>?_)
   cases f with
   | next =>
     obtain⟨σ3,H3,I3,n3⟩:=q3
     obtain⟨m',hm,w3⟩:=hN σ3 H3 n3
     exact⟨m',hm,σ3,H3,I3,w3⟩
   | cont =>
     obtain⟨σ3,H3,I3,n3⟩:=q3
     obtain⟨m',hm,w3⟩:=hN σ3 H3 n3
     exact⟨m',hm,σ3,H3,I3,w3⟩
   | brk=>exact q3
   | ret v=>exact q3
 | false =>
   rw[if_neg Bool.false_ne_true]
   exact wpAny_execs_nil ⟨σ1,H2,I2,q2⟩
end
structure It where
 go:Nat→Hp→Prop
 yld:Nat→Hp→V→Hp→Prop
 stop:Nat→Hp→Prop
def FpOk (X:Cx)(pins:List (Addr×Obj))(H:Hp)(b:Addr):Prop :=
 H b=none∧b≠X.env.locals∧b ∉ X.fs∧(b∈X.ex∨X.s₀.heap.objs.size≤b)∧(∀x c,X.env.cells.lookup x=some c→c≠b)∧∀p∈X.pn++pins,p.1≠b
theorem Inv.fpOk {X:Cx}{pins:List (Addr×Obj)}{σ:St}{H H':Hp}{s:Shared}{b:Addr}(I:Inv X pins σ H s)(hb:s.heap.objs.size≤b)(hn:H' b=none):FpOk X pins H' b:=by
 refine⟨hn,Nat.ne_of_gt (Nat.lt_of_lt_of_le I.lt hb),I.nofs hb,.inr (Nat.le_trans I.sz hb),fun x c e z=>?_,fun p hp z=>?_⟩
 · obtain⟨v,q⟩:=I.cell x c e
   exact absurd (Nat.lt_of_lt_of_le q.lt (by rw[z];exact hb)) (Nat.lt_irrefl _)
 · exact absurd (Nat.lt_of_lt_of_le (Heap.lt_size (I.pin p hp).1) (by rw[z];exact hb)) (Nat.lt_irrefl _)
structure Turn (P:Program)(w:World)(K:PySem.W.Frag)(tg:Expr)(J:It)(fp:List Addr)(it:Addr)(tn:Nat→Heap→Prop):Prop where
 mem:it∈fp
 obj:∀i h,tn i h→∀b∈fp,∃o,h.get? b=some o∧∀v,o.data≠.cell v
 keep:∀i h h',tn i h→(∀b∈fp,∀o,h.get? b=some o→h'.get? b=some o)→tn i h'
 item:∀(X:Cx),X.prog=P→X.w=w→X.K=K→X.calm=true→∀(i:Nat) (pins:List (Addr×Obj)) (s:Shared) (σ:St) (H:Hp) (E:Value→Shared→Prop),Inv X pins σ H s→(∀b∈fp,FpOk X pins H b)→tn i s.heap→J.go i H →
   wpAny (model P w) X.A (pyNext (.ref it)) (fun r s1=>∃u,r=some u ∧
     wpAny (model P w) X.A (letOwnedTupleGo tg (.ref it) u) (fun _ s2=>∃x H',Inv X pins σ H' s2∧RelV x u∧J.yld i H x H'∧tn (i+1) s2.heap∧∀b∈fp,H' b=none) E s1) E s
 done:∀(X:Cx),X.prog=P→X.w=w→X.K=K→X.calm=true→∀(i:Nat) (pins:List (Addr×Obj)) (s:Shared) (σ:St) (H:Hp) (E:Value→Shared→Prop),Inv X pins σ H s→(∀b∈fp,FpOk X pins H b)→tn i s.heap→J.stop i H →
   wpAny (model P w) X.A (pyNext (.ref it)) (fun r s1=>r=none∧Inv X pins σ H s1) E s
 self:∀(A:Around) (i:Nat) (s:Shared) (Q:Value→Shared→Prop) (E:Value→Shared→Prop),tn i s.heap→Q (.ref it) s→wpAny (model P w) A (pyIter (.ref it)) Q E s
abbrev TI:=St→Hp→(It→Hp→Prop)→Prop
def PIE (X:Cx)(pins:List (Addr×Obj))(σ:St)(tg:Expr)(R:It→Hp→Prop)(itv:Value)(s2:Shared):Prop :=
 ∃(it:Addr) (fp:List Addr) (tn:Nat→Heap→Prop) (J:It) (H':Hp),itv = .ref it∧Inv X pins σ H' s2∧Turn X.prog X.w X.K tg J fp it tn∧tn 0 s2.heap∧(∀b∈fp,FpOk X pins H' b)∧R J H'
def PI (X:Cx)(tg iter:Expr)(wi:TI):Prop :=
 ∀(pins:List (Addr×Obj)) (s:Shared) (σ:St) (H:Hp) (R:It→Hp→Prop),Inv X pins σ H s→wi σ H R →
   wpAny (model X.prog X.w) X.A (eval iter X.env) (fun v s1=>wpAny (model X.prog X.w) X.A (pyIter v) (PIE X pins σ tg R) X.xe s1) X.xe s
theorem XDc {M:Model}{A:Around}{E:Value→Shared→Prop}{s:Shared}{tg:Expr}{it:Addr}{u:Value}{o:Obj}{n:String}{vs:Array Value}{Q:Unit→Shared→Prop}(ho:s.heap.get? it=some o)(hc:o.cls = .type n)(hd:o.data = .fields vs)
   (hn:["enumerate","zip","dict_itemiterator","dict_reverseitemiterator","odict_iterator","itertools.zip_longest","itertools.pairwise"].contains n=false) (hQ:Q () s):wpAny M A (letOwnedTupleGo tg (.ref it) u) Q E s:=by
 unfold letOwnedTupleGo
 cases tg <;> first
   | exact wpAny_pure hQ
   | (cases u <;> first
       | exact wpAny_pure hQ
       | (refine wpAny_bind (wpAny_load ho ?_)
          rw[hc,hd]
          show wpAny M A (if (["enumerate","zip","dict_itemiterator","dict_reverseitemiterator","odict_iterator","itertools.zip_longest","itertools.pairwise"].contains n&&vs[0]?==some (rawInt _))=true then _ else _) Q E s
          rw[if_neg (by intro h;rw[hn,Bool.false_and] at h;cases h)]
          exact wpAny_pure hQ))
def Itl (K:PySem.W.Frag)(a:Addr):It :=
 ⟨fun i H=>∃xs x,SqL K H a xs∧xs[i]?=some x,fun i H x H'=>H'=H∧∀xs,SqL K H a xs→xs[i]?=some x,fun i H=>∃xs,SqL K H a xs∧xs.length≤i⟩
def Itr (lo:Int)(n:Nat):It:=⟨fun i _=>i<n,fun i H x H'=>H'=H∧x = .int (lo+i),fun i _=>n≤i⟩
theorem Xqi {P:Program}{w:World}{K:PySem.W.Frag}{tg:Expr}(a it:Addr):Turn P w K tg (Itl K a) [it] it (fun i h=>h.IsListIter it a i) where
 mem:=by simp
 obj:=fun i h st b hb=>by
   have e:b=it:=by simpa using hb
   subst e
   obtain⟨o,e,c,d⟩:=st
   exact⟨o,e,fun v z=>by rw[d] at z;cases z⟩
 keep:=fun i h h' st k=>st.at fun o e=>k it (by simp) o e
 item:=by
   intro X hP hw hK hc i pins s σ H E I hf st hg
   subst hP hw hK
   obtain⟨xs,x,hq,hx⟩:=hg
   obtain⟨its,rv,p,hz⟩:=I.list hq
   obtain⟨u,hu,ru⟩:=rv.get hx
   obtain⟨f0,f1,f2,f3,f4,f5⟩:=hf it (by simp)
   refine wpAny_pyNext_list_item st p.isList (x:=u) (by simpa using hu) fun h' st' sb=>?_
   have I1:Inv X pins σ H { s with heap:=h' }:=I.turned (t':=s.toks) (fun b o hb e=>(sb.2 b hb).trans e) f0 f1 f3 f4 f5
   obtain⟨o,e,c,d⟩:=id st'
   exact⟨u,rfl,XDc (s:={ s with heap:=h' }) e c d (by decide) ⟨x,H,I1,ru,⟨rfl,fun ys hy=>by rw[I.list_inj hy hq];exact hx⟩,st',fun b hb=>(hf b hb).1⟩⟩
 done:=by
   intro X hP hw hK hc i pins s σ H E I hf st hg
   subst hP hw hK
   obtain⟨xs,hq,hx⟩:=hg
   obtain⟨its,rv,p,hz⟩:=I.list hq
   obtain⟨f0,f1,f2,f3,f4,f5⟩:=hf it (by simp)
   have hl:=rv.length
   exact wpAny_pyNext_list_end (I.ok.hd hc) st p.isList (by simp;omega) fun h' eb=>⟨rfl,I.turned (t':=s.toks) (fun b o hb e=>eb b o hb e) f0 f1 f3 f4 f5⟩
 self:=fun _ _ _ _ _ st h=>wpAny_pyIter_listiter st h
theorem Xpr {P:Program}{w:World}{K:PySem.W.Frag}{tg:Expr}(it:Addr)(lo:Int)(n:Nat):Turn P w K tg (Itr lo n) [it] it (fun i h=>IsRangeIter h it (lo+(i:Nat)*1) ((n:Int)-(i:Nat)) 1) where
 mem:=by simp
 obj:=fun i h st b hb=>by
   have e:b=it:=by simpa using hb
   subst e
   exact⟨_,st,fun v z=>by
     have z':Data.fields _=Data.cell v:=z
     cases z'⟩
 keep:=fun i h h' st k=>k it (by simp) _ st
 item:=by
   intro X hP hw hK hc i pins s σ H E I hf st hg
   subst hP hw hK
   obtain⟨f0,f1,f2,f3,f4,f5⟩:=hf it (by simp)
   have W:=Walks.range (prog:=X.prog) (w:=X.w) (I.ok.hd hc) it lo 1 n
   refine W.item i s _ _ hg st fun v h' tk hv st' kk=>?_
   obtain⟨t,rfl⟩:=hv
   have I1:Inv X pins σ H { s with heap:=h',toks:=tk }:=I.turned (fun b o hb e=>kk b o (by simpa using hb) e) f0 f1 f3 f4 f5
   refine⟨_,rfl,XDc (s:={ s with heap:=h',toks:=tk }) (n:="range_iterator") st' rfl rfl (by decide) ⟨.int (lo+i),H,I1,⟨t,?_⟩,⟨rfl,rfl⟩,st',fun b hb=>(hf b hb).1⟩⟩
   rw[Int.mul_one]
 done:=by
   intro X hP hw hK hc i pins s σ H E I hf st hg
   subst hP hw hK
   obtain⟨f0,f1,f2,f3,f4,f5⟩:=hf it (by simp)
   exact wpAny_pyNext_range_end (I.ok.hd hc) st (by have:n≤i:=hg;omega) fun h' eb=>⟨rfl,I.turned (t':=s.toks) (fun b o hb e=>eb b o hb e) f0 f1 f3 f4 f5⟩
 self:=fun _ _ _ _ _ st h=>wpAny_pyIter_rangeiter st h
end L2
namespace L2
open PySem PySem.Spec PyProof.Rows
section
variable {X:Cx}{tg:Expr}
def XLs (K:PySem.W.Frag)(tl:TE):TI:=fun σ H R=>tl σ H fun x H1=>∃a,x = .ref a∧(∃xs,SqL K H1 a xs)∧R (Itl K a) H1
theorem Xcz {l:Expr}{tl:TE}(hl:PE X l tl):PI X tg l (XLs X.K tl):=by
 intro pins s σ H R I h
 refine thn (hl pins s σ H _ I h) fun v s1 ⟨x,H1,I1,r1,q1⟩=>?_
 obtain⟨a,e,⟨xs,hq⟩,q⟩:=q1
 subst e
 cases r1
 obtain⟨its,rv,p,hz⟩:=I1.list hq
 refine wpAny_pyIter_list p.isList ?_
 refine⟨s1.heap.objs.size,[s1.heap.objs.size],_,_,H1,rfl,I1.kept (t':=s1.toks) fun b o e=>Heap.get?_push_of_some _ e,Xqi a _,⟨_,Heap.get?_push_size _ rfl,rfl,rfl⟩,fun b hb=>?_,q⟩
 have e:b=s1.heap.objs.size:=by simpa using hb
 subst e
 exact I1.fpOk (Nat.le_refl _) (I1.hok.fresh (Nat.le_refl _))
theorem Xwv {pins:List (Addr×Obj)}{σ:St}{H:Hp}{s:Shared}{R:It→Hp→Prop}{E:Value→Shared→Prop}{lo hi:Int}{t u v:Tok}{tk:Nat}(I:Inv X pins σ H s)(h1 : -(2^62)≤lo)(h2:lo<2^62)(h3 : -(2^62)≤hi)(h4:hi<2^62)
   (q:R (Itr lo (hi-lo).toNat) H):wpAny (model X.prog X.w) X.A (pyIter (.ref s.heap.objs.size)) (PIE X pins σ tg R) E { s with heap:=s.heap.push { cls:=.type "range",data:=.fields #[.int lo t,.int hi u,.int 1 v] },toks:=tk }:=by
 refine wpAny_pyIter_range (IsRange.new ..) (small_one h1 h2 h3 h4) ?_
 have I1:Inv X pins σ H { s with heap:=s.heap.push { cls:=.type "range",data:=.fields #[.int lo t,.int hi u,.int 1 v] },toks:=tk }:=I.kept fun b o e=>Heap.get?_push_of_some _ e
 refine⟨(s.heap.push { cls:=.type "range",data:=.fields #[.int lo t,.int hi u,.int 1 v] }).objs.size,[(s.heap.push { cls:=.type "range",data:=.fields #[.int lo t,.int hi u,.int 1 v] }).objs.size],_,_,H,rfl,
   I1.kept (t':=tk) fun b o e=>Heap.get?_push_of_some _ e,Xpr _ lo (hi-lo).toNat,?_,fun b hb=>?_,q⟩
 · have e1:lo+((0:Nat):Int)*1=lo:=by simp
   have e2:(((hi-lo).toNat:Nat):Int)-((0:Nat):Int)=Builtin.Range.rangeSize lo hi 1:=by rw[rangeSize_one];split <;> omega
   show IsRangeIter _ _ (lo+((0:Nat):Int)*1) ((((hi-lo).toNat:Nat):Int)-((0:Nat):Int)) 1
   rw[e1,e2]
   exact Heap.get?_push_size _ rfl
 · have e:b=(s.heap.push { cls:=.type "range",data:=.fields #[.int lo t,.int hi u,.int 1 v] }).objs.size:=by simpa using hb
   subst e
   exact I1.fpOk (Nat.le_refl _) (I1.hok.fresh (Nat.le_refl _))
def XOy (ta:TA):TI:=fun σ H R=>ta σ H fun vs H1=>∃j:Int,vs=[.int j]∧-(2^62)≤j∧j<2^62∧R (Itr 0 j.toNat) H1
theorem Xrq {a:Expr}{ta:TA}{p pos:Pos}(hg:Gl X "range")(hm:X.mg "range"=none)(ha:PA X [a] ta)(hs:starEach [a] X.env=[(false,eval a X.env)]:=by rfl):PI X tg (.Call (.Name "range" p) [a] [] pos) (XOy ta):=by
 intro pins s σ H R I h
 refine Call_ (Xml I hg hm boot_range (PyProof.Rows.callWith_type1 (thn (ha pos pins s σ H _ I h) fun us s1 ⟨vs,H1,I1,r1,q1⟩=>?_) hs rfl))
 obtain⟨j,e,q1,q2,q⟩:=q1
 subst e
 cases r1 with
 | cons r rr =>
   cases rr
   obtain⟨t,rfl⟩:=r
   exact call_range_1 (Xwv I1 (by omega) (by omega) q1 q2 (by simpa using q))
def tFor (wi:TI)(g:TG)(tb:TS):TS:=fun D σ H=>wi σ H fun J H1=>∃W:Nat→Nat→St→Hp→Prop,(∃m,W 0 m σ H1)∧∀i m σ H,W i m σ H →
 (J.stop i H∧D.nx σ H)∨(J.go i H∧∃N:St→Hp→Prop,(∀σ' H',N σ' H'→∃m',m'<m∧W (i+1) m' σ' H')∧∀x H',J.yld i H x H'→g x σ H' fun σ2 H2=>tb { D with nx:=N,ct:=N,bk:=D.nx } σ2 H2)
def Xlf (fp:List Addr)(h:Heap):List (Addr×Obj):=fp.filterMap fun b=>(h.get? b).map fun o=>(b,o)
theorem Xeu {fp:List Addr}{h:Heap}{b:Addr}{o:Obj}(hb:b∈fp)(e:h.get? b=some o):(b,o)∈Xlf fp h:=List.mem_filterMap.mpr ⟨b,hb,by rw[e];rfl⟩
theorem Xsu {fp:List Addr}{h:Heap}{p:Addr×Obj}(hp:p∈Xlf fp h):p.1∈fp∧h.get? p.1=some p.2:=by
 obtain⟨b,hb,e⟩:=List.mem_filterMap.mp hp
 cases q:h.get? b with
 | none=>rw[q] at e;cases e
 | some o =>
   rw[q] at e
   have e':(b,o)=p:=Option.some.inj e
   subst e'
   exact⟨hb,q⟩
theorem Inv.pinned {pins:List (Addr×Obj)}{σ:St}{H:Hp}{s:Shared}{fp:List Addr}(I:Inv X pins σ H s)(hf:∀b∈fp,FpOk X pins H b)(ho:∀b∈fp,∃o,s.heap.get? b=some o∧∀v,o.data≠.cell v):Inv X (pins++Xlf fp s.heap) σ H s :=
 I.pins_of fun p hp=>(List.mem_append.mp hp).elim (fun z=>I.pin p (List.mem_append_right _ z)) fun z=>by
   obtain⟨hb,e⟩:=Xsu z
   obtain⟨f0,f1,f2,_⟩:=hf p.1 hb
   obtain⟨o,e',d⟩:=ho p.1 hb
   rw[e] at e';cases e'
   exact⟨e,f0,f1,f2,d⟩
theorem Inv.unpinned {pins pl:List (Addr×Obj)}{σ:St}{H:Hp}{s:Shared}(I:Inv X (pins++pl) σ H s):Inv X pins σ H s:=I.pins_of fun p hp=>I.pin p (List.mem_append_right _ (List.mem_append_left _ hp))
theorem Xlh {iter:Expr}{body:List Stmt}{wi:TI}{g:TG}{tb:TS}{pos:Pos}(hp:PassesOwn (model X.prog X.w) X.A X.env X.xe)(hc:X.calm=true)(hi:PI X tg iter wi)(hg:PG X tg g)(hb:PSs X body tb)
   (hs:∀x,foldedSetIterable iter X.env x=pure x:=by intro _;rfl):PS X (.For tg iter body [] pos) (tFor wi g tb):=by
 intro pins s σ H D I h
 refine wpAny_For (thn (hi pins s σ H _ I h) fun v s1 h1=>thn h1 fun itv s2 h2=>?_) hs
 obtain⟨it,fp,tn,J,H2,e,I2,T,st2,f2,W,⟨m0,w0⟩,turn⟩:=h2
 subst e
 -- what stays true of the iterator's objects through the loop
 have stat:∀{H':Hp},(∀b∈fp,H' b=none)→∀b∈fp,FpOk X pins H' b:=fun hn b hb=>⟨hn b hb,(f2 b hb).2⟩
 refine codeAny_forLoop_any (fun n s'=>∃i σ' H',Inv X pins σ' H' s'∧tn i s'.heap∧(∀b∈fp,H' b=none)∧W i n σ' H') ?_ m0 ⟨0,σ,H2,I2,st2,fun b hb=>(f2 b hb).1,w0⟩
 rintro n s3 ⟨i,σ3,H3,I3,st3,fr3,w3⟩
 rcases turn i n σ3 H3 w3 with ⟨stop,qn⟩ | ⟨go,N,hN,step⟩
 · refine wpAny_passesOwn hp (thn (T.done X rfl rfl rfl hc i pins s3 σ3 H3 X.xe I3 (stat fr3) st3 stop) fun r s4 ⟨hr,I4⟩=>?_)
   subst hr
   exact wpAny_execs_nil ⟨σ3,H3,I4,qn⟩
 · refine wpAny_passesOwn hp (thn (T.item X rfl rfl rfl hc i pins s3 σ3 H3 X.xe I3 (stat fr3) st3 go) fun r s4 ⟨u,hr,h4⟩=>?_)
   subst hr
   refine wpAny_passesOwn hp (thn h4 fun _ s5 ⟨x,H5,I5,r5,y5,st5,fr5⟩=>?_)
   have I5':=I5.pinned (stat fr5) (T.obj _ _ st5)
   refine wpAny_passesOwn hp (thn (hg _ s5 σ3 H5 x u _ I5' r5 (step x H5 y5)) fun _ s6 ⟨σ6,H6,I6,q6⟩=>?_)
   refine wpAny_passesOwn hp (thn (hb _ s6 σ6 H6 _ I6 q6) fun f s7 q7=>?_)
   have again:∀{σ7:St} {H7:Hp},Inv X (pins++Xlf fp s5.heap) σ7 H7 s7→N σ7 H7→∃m,m<n∧∃i σ' H',Inv X pins σ' H' s7∧tn i s7.heap∧(∀b∈fp,H' b=none)∧W i m σ' H':=fun {σ7 H7} I7 n7=>by
     obtain⟨m',hm,w7⟩:=hN σ7 H7 n7
     refine⟨m',hm,i+1,σ7,H7,I7.unpinned,T.keep _ _ _ st5 fun b hb o e=>(I7.pin (b,o) (List.mem_append_right _ (List.mem_append_right _ (Xeu hb e)))).1,fun b hb=>?_,w7⟩
     obtain⟨o,e,d⟩:=T.obj _ _ st5 b hb
     exact(I7.pin (b,o) (List.mem_append_right _ (List.mem_append_right _ (Xeu hb e)))).2.1
   cases f with
   | next=>obtain⟨σ7,H7,I7,n7⟩:=q7;exact again I7 n7
   | cont=>obtain⟨σ7,H7,I7,n7⟩:=q7;exact again I7 n7
   | brk=>obtain⟨σ7,H7,I7,q7⟩:=q7;exact⟨σ7,H7,I7.unpinned,q7⟩
   | ret v=>obtain⟨x7,σ7,H7,I7,r7,q7⟩:=q7;exact⟨x7,σ7,H7,I7.unpinned,r7,q7⟩
end
theorem Xgx {K:PySem.W.Frag}{a:Addr}{xs:List V}{g:TG}{tb:TS}{D:Ends}{σ:St}{H:Hp}(Pv:Nat→St→Hp→Prop)(h0:Pv 0 σ H)(hl:∀i σ H,i≤xs.length→Pv i σ H→SqL K H a xs)
   (hs:∀i x σ H,xs[i]?=some x→Pv i σ H→g x σ H fun σ2 H2=>tb { D with nx:=Pv (i+1),ct:=Pv (i+1),bk:=D.nx } σ2 H2) (hd:∀σ H,Pv xs.length σ H→D.nx σ H) :
   ∃W:Nat→Nat→St→Hp→Prop,(∃m,W 0 m σ H)∧∀i m σ H,W i m σ H →
     ((Itl K a).stop i H∧D.nx σ H)∨((Itl K a).go i H∧∃N:St→Hp→Prop,(∀σ' H',N σ' H'→∃m',m'<m∧W (i+1) m' σ' H')∧∀x H',(Itl K a).yld i H x H'→g x σ H' fun σ2 H2=>tb { D with nx:=N,ct:=N,bk:=D.nx } σ2 H2):=by
 refine⟨fun i m σ H=>m=xs.length-i∧i≤xs.length∧Pv i σ H,⟨xs.length,by simp,Nat.zero_le _,h0⟩,?_⟩
 rintro i m σ H ⟨rfl,hi,p⟩
 have q:=hl i σ H hi p
 by_cases hlt:i<xs.length
 · refine .inr ⟨⟨xs,xs[i],q,by simp [hlt]⟩,Pv (i+1),fun σ' H' p'=>⟨xs.length-(i+1),by omega,rfl,hlt,p'⟩,fun x H' y=>?_⟩
   obtain⟨e,y⟩:=y
   subst e
   exact hs i x σ _ (y xs q) p
 · have e:i=xs.length:=by omega
   subst e
   exact .inl ⟨⟨xs,q,Nat.le_refl _⟩,hd σ H p⟩
end L2
namespace L2
open PySem PySem.Spec PyProof.Rows
abbrev R2:=V→V→Hp→VK→Prop
def OpR (X:Cx)(f:Value→Value→Sem Value)(r:R2):Prop :=
 ∀(pins:List (Addr×Obj)) (s:Shared) (σ:St) (H:Hp) (x y:V) (v u:Value) (Q:VK),Inv X pins σ H s→RelV x v→RelV y u→r x y H Q →
   wpAny (model X.prog X.w) X.A (f v u) (EP X pins σ Q) X.xe s
def UnR (X:Cx)(f:Value→Sem Value)(r:V→Hp→VK→Prop):Prop :=
 ∀(pins:List (Addr×Obj)) (s:Shared) (σ:St) (H:Hp) (x:V) (v:Value) (Q:VK),Inv X pins σ H s→RelV x v→r x H Q →
   wpAny (model X.prog X.w) X.A (f v) (EP X pins σ Q) X.xe s
def Xgq (X:Cx)(f:Value)(r:List V→Hp→VK→Prop):Prop :=
 ∀(pins:List (Addr×Obj)) (s:Shared) (σ:St) (H:Hp) (xs:List V) (us:List Value) (Q:VK),Inv X pins σ H s→Vals xs us→r xs H Q →
   wpAny (model X.prog X.w) X.A (call f us) (EP X pins σ Q) X.xe s
def TruR (X:Cx)(r:V→Hp→(Bool→Hp→Prop)→Prop):Prop :=
 ∀(pins:List (Addr×Obj)) (s:Shared) (σ:St) (H:Hp) (x:V) (v:Value) (Q:Bool→Hp→Prop),Inv X pins σ H s→RelV x v→r x H Q →
   wpAny (model X.prog X.w) X.A (truthy v) (TP X pins σ Q) X.xe s
def tOp (r:R2)(ta tb:TE):TE:=fun σ H Q=>ta σ H fun x H1=>tb σ H1 fun y H2=>r x y H2 Q
def tUn (r:V→Hp→VK→Prop)(ta:TE):TE:=fun σ H Q=>ta σ H fun x H1=>r x H1 Q
def rI (C:Int→Int→Prop)(g:Int→Int→V):R2:=fun x y H Q=>∃i j,x = .int i∧y = .int j∧C i j∧Q (g i j) H
def rI0 (g:Int→Int→V):R2:=fun x y H Q=>∃i j,x = .int i∧y = .int j∧Q (g i j) H
def rU (g:Int→V):V→Hp→VK→Prop:=fun x H Q=>∃i,x = .int i∧Q (g i) H
section
variable {X:Cx}{a b c:Expr}{ta tb tc:TE}{pos:Pos}
theorem binT (ha:PE X a ta)(hb:PE X b tb){pins:List (Addr×Obj)}{s:Shared}{σ:St}{H:Hp}{R:V→V→Hp→Prop}(I:Inv X pins σ H s)
   (h:ta σ H fun x H1=>tb σ H1 fun y H2=>R x y H2) {Q:Value→Shared→Prop} {f:Value→Value→Sem Value}
   (hf:∀v u s2 x y H2,Inv X pins σ H2 s2→RelV x v→RelV y u→R x y H2→wpAny (model X.prog X.w) X.A (f v u) Q X.xe s2) :
   wpAny (model X.prog X.w) X.A (eval a X.env) (fun v s₁=>wpAny (model X.prog X.w) X.A (eval b X.env) (fun u s₂=>wpAny (model X.prog X.w) X.A (f v u) Q X.xe s₂) X.xe s₁) X.xe s:=by
 refine thn (ha pins s σ H _ I h) fun v s1 ⟨x,H1,I1,r1,q1⟩=>?_
 refine thn (hb pins s1 σ H1 _ I1 q1) fun u s2 ⟨y,H2,I2,r2,q2⟩=>?_
 exact hf v u s2 x y H2 I2 r1 r2 q2
theorem Xak {op:Operator}{r:R2}(ho:OpR X (binaryOp op) r)(ha:PE X a ta)(hb:PE X b tb):PE X (.BinOp a op b pos) (tOp r ta tb):=by
 intro pins s σ H Q I h
 exact wpAny_BinOp (binT ha hb I h fun v u s2 x y H2 I2 rx ry q=>ho pins s2 σ H2 x y v u Q I2 rx ry q)
theorem XTi {op:UnaryOp}{r:V→Hp→VK→Prop}(ho:UnR X (unaryOp op) r)(ha:PE X a ta):PE X (.UnaryOp op a pos) (tUn r ta):=by
 intro pins s σ H Q I h
 exact UnaryOp_ (thn (ha pins s σ H _ I h) fun v s1 ⟨x,H1,I1,r1,q1⟩=>ho pins s1 σ H1 x v Q I1 r1 q1)
theorem opI {f:Value→Value→Sem Value}{C:Int→Int→Prop}{g:Int→Int→Int}
   (rule:∀(i j:Int) (t u:Tok) (s:Shared) (Q:Value→Shared→Prop) (E:Value→Shared→Prop),C i j→Q (.int (g i j) s.toks) { s with toks:=s.toks+1 }→wpAny (model X.prog X.w) X.A (f (.int i t) (.int j u)) Q E s) :
   OpR X f (rI C fun i j=>.int (g i j)):=by
 intro pins s σ H x y v u Q I rx ry h
 obtain⟨i,j,rfl,rfl,hc,q⟩:=h
 obtain⟨t,rfl⟩:=rx
 obtain⟨t',rfl⟩:=ry
 exact rule i j t t' s _ _ hc ⟨.int (g i j),H,I.tok _,⟨_,rfl⟩,q⟩
theorem opI0 {f:Value→Value→Sem Value}{g:Int→Int→Int}
   (rule:∀(i j:Int) (t u:Tok) (s:Shared) (Q:Value→Shared→Prop) (E:Value→Shared→Prop),Q (.int (g i j) s.toks) { s with toks:=s.toks+1 }→wpAny (model X.prog X.w) X.A (f (.int i t) (.int j u)) Q E s) :
   OpR X f (rI0 fun i j=>.int (g i j)):=by
 intro pins s σ H x y v u Q I rx ry h
 obtain⟨i,j,rfl,rfl,q⟩:=h
 obtain⟨t,rfl⟩:=rx
 obtain⟨t',rfl⟩:=ry
 exact rule i j t t' s _ _ ⟨.int (g i j),H,I.tok _,⟨_,rfl⟩,q⟩
theorem opB0 {f:Value→Value→Sem Value}{g:Int→Int→Bool}
   (rule:∀(i j:Int) (t u:Tok) (s:Shared) (Q:Value→Shared→Prop) (E:Value→Shared→Prop),Q (.bool (g i j)) s→wpAny (model X.prog X.w) X.A (f (.int i t) (.int j u)) Q E s) :
   OpR X f (rI0 fun i j=>.bl (g i j)):=by
 intro pins s σ H x y v u Q I rx ry h
 obtain⟨i,j,rfl,rfl,q⟩:=h
 obtain⟨t,rfl⟩:=rx
 obtain⟨t',rfl⟩:=ry
 exact rule i j t t' s _ _ ⟨.bl (g i j),H,I,rfl,q⟩
def CDiv (i j:Int):Prop:=0<j∧j<1073741824
def CPow (i j:Int):Prop:=0≤j∧j≤1000000∧i.natAbs<2^64
def CMul (i j:Int):Prop:=(-(2^64)<i∧i<2^64)∨(-(2^64)<j∧j<2^64)
theorem CMul.ok {i j:Int}(h:CMul i j):IntMulOk i j:=by
 rcases h with ⟨h1,h2⟩ | ⟨h1,h2⟩
 · exact .of_left (intBits_le_64 h1 h2)
 · exact .of_right (intBits_le_64 h1 h2)
theorem Xpp (k:Nat):(0:Int)≤2^k:=by
 rw[two_pow_cast]
 exact Int.natCast_nonneg _
theorem Xbg:OpR X (binaryOp .Add) (rI0 fun i j=>.int (i+j)):=opI0 fun _ _ _ _ _ _ _ q=>add_int q
theorem Xbo:OpR X (binaryOp .Sub) (rI0 fun i j=>.int (i-j)):=opI0 fun _ _ _ _ _ _ _ q=>sub_int q
theorem Xex:OpR X (binaryOp .Mult) (rI CMul fun i j=>.int (i*j)):=opI fun _ _ _ _ _ _ _ hc q=>mul_int q hc.ok
theorem Xii:OpR X (binaryOp .FloorDiv) (rI CDiv fun i j=>.int (i/j)):=opI fun i j _ _ _ _ _ hc q=>by
 have h1:(0:Int)<j:=hc.1
 have h2:j<1073741824:=hc.2
 exact floordiv_int (by omega) (by rw[Int.fdiv_eq_ediv_of_nonneg i (by omega)];exact q) (.inl (PyProof.noPylong_small (by omega)))
theorem Xca:OpR X (binaryOp .Mod) (rI (fun _ j=>0<j) fun i j=>.int (i%j)):=opI fun i j _ _ _ _ _ hc q=>by
 have h1:(0:Int)<j:=hc
 exact mod_int' (by omega) (by rw[Int.fmod_eq_emod_of_nonneg i (by omega)];exact q)
theorem Xgl:OpR X (binaryOp .Pow) (rI CPow fun i j=>.int (i^j.toNat)):=opI fun _ _ _ _ _ _ _ hc q=>pow_int_small hc.1 hc.2.1 hc.2.2 q
theorem XKy:OpR X (binaryOp .LShift) (rI CPow fun i j=>.int (i*2^j.toNat)):=opI fun _ _ _ _ _ _ _ hc q=>lshift_int_small hc.1 hc.2.1 hc.2.2 q
theorem XIr:OpR X (binaryOp .RShift) (rI (fun _ j=>0≤j) fun i j=>.int (i/2^j.toNat)):=opI fun i j _ _ _ _ _ hc q =>
 rshift_int hc (by rw[Int.fdiv_eq_ediv_of_nonneg i (Xpp _)];exact q)
theorem Xzy:OpR X (binaryOp .BitAnd) (rI0 fun i j=>.int (Builtin.bitAnd i j)):=opI0 fun _ _ _ _ _ _ _ q=>and_int q
theorem XSo:OpR X (binaryOp .BitOr) (rI0 fun i j=>.int (Builtin.bitOr i j)):=opI0 fun _ _ _ _ _ _ _ q=>or_int q
theorem Xzf:OpR X (binaryOp .BitXor) (rI0 fun i j=>.int (Builtin.bitXor i j)):=opI0 fun _ _ _ _ _ _ _ q=>xor_int q
theorem unI {f:Value→Sem Value}{g:Int→Int}
   (rule:∀(i:Int) (t:Tok) (s:Shared) (Q:Value→Shared→Prop) (E:Value→Shared→Prop),Q (.int (g i) s.toks) { s with toks:=s.toks+1 }→wpAny (model X.prog X.w) X.A (f (.int i t)) Q E s) :
   UnR X f (rU fun i=>.int (g i)):=by
 intro pins s σ H x v Q I rx h
 obtain⟨i,rfl,q⟩:=h
 obtain⟨t,rfl⟩:=rx
 exact rule i t s _ _ ⟨.int (g i),H,I.tok _,⟨_,rfl⟩,q⟩
theorem XRq:UnR X (unaryOp .USub) (rU fun i=>.int (-i)):=unI fun _ _ _ _ _ q=>neg_int q
end
def scal:V→V→Bool
 | .non,.non=>true | .non,.int _=>true | .int _,.non=>true | .non,.bl _=>true | .bl _,.non=>true | .non,.str _=>true | .str _,.non=>true
 | .int _,.int _=>true | .bl _,.bl _=>true | .str _,.str _=>true | .byt _,.byt _=>true
 | .int _,.str _=>true | .str _,.int _=>true | .bl _,.str _=>true | .str _,.bl _=>true
 | _,_=>false
def rEq:R2:=fun x y H Q=>scal x y=true∧Q (.bl (decide (x=y))) H
def rNe:R2:=fun x y H Q=>scal x y=true∧Q (.bl (!decide (x=y))) H
theorem Xkr {i j:Int}:decide (V.int i=V.int j)=(i==j):=by
 rw[Bool.eq_iff_iff]
 simp
theorem Xzo {i j:Bool}:decide (V.bl i=V.bl j)=(i==j):=by
 rw[Bool.eq_iff_iff]
 simp
theorem Xnc {i j:Str}:decide (V.str i=V.str j)=(i==j):=by
 rw[Bool.eq_iff_iff]
 simp
theorem Xuy {i j:Array UInt8}:decide (V.byt i=V.byt j)=(i.toList==j.toList):=by
 rw[Bool.eq_iff_iff]
 cases i
 cases j
 simp
section
variable {X:Cx}{a b c:Expr}{ta tb tc:TE}{pos:Pos}
theorem Xbl {pins:List (Addr×Obj)}{σ:St}{H:Hp}{s:Shared}{Q:VK}{k k':Bool}(I:Inv X pins σ H s)(q:Q (.bl k) H)(e:k=k'):EP X pins σ Q (.bool k') s:=by
 subst e
 exact⟨.bl k,H,I,rfl,q⟩
theorem Xcd:OpR X (compareOp .Eq) rEq:=by
 intro pins s σ H x y v u Q I rx ry h
 obtain⟨hs,q⟩:=h
 cases x with
 | non =>
   cases rx
   cases y with
   | non=>cases ry;exact PySem.EqNone.eq_none_none (Xbl I q (by simp))
   | bl j=>cases ry;exact PySem.EqNone.eq_none_bool (Xbl I q (by simp))
   | int j=>obtain⟨t',rfl⟩:=ry;exact PySem.EqNone.eq_none_int (Xbl I q (by simp))
   | str j=>obtain⟨t',rfl⟩:=ry;exact PySem.EqNone.eq_none_str (Xbl I q (by simp))
   | _=>exact absurd (show false=true from hs) Bool.false_ne_true
 | bl i =>
   cases rx
   cases y with
   | non=>cases ry;exact PySem.EqNone.eq_bool_none (Xbl I q (by simp))
   | bl j=>cases ry;exact eq_bool (Xbl I q Xzo)
   | str j=>obtain⟨t',rfl⟩:=ry;exact PySem.EqMixed.eq_bool_str (Xbl I q (by simp))
   | _=>exact absurd (show false=true from hs) Bool.false_ne_true
 | int i =>
   obtain⟨t,rfl⟩:=rx
   cases y with
   | non=>cases ry;exact PySem.EqNone.eq_int_none (Xbl I q (by simp))
   | int j=>obtain⟨t',rfl⟩:=ry;exact eq_int (Xbl I q Xkr)
   | str j=>obtain⟨t',rfl⟩:=ry;exact PySem.EqMixed.eq_int_str (Xbl I q (by simp))
   | _=>exact absurd (show false=true from hs) Bool.false_ne_true
 | str i =>
   obtain⟨t,rfl⟩:=rx
   cases y with
   | non=>cases ry;exact PySem.EqNone.eq_str_none (Xbl I q (by simp))
   | bl j=>cases ry;exact PySem.EqMixed.eq_str_bool (Xbl I q (by simp))
   | int j=>obtain⟨t',rfl⟩:=ry;exact PySem.EqMixed.eq_str_int (Xbl I q (by simp))
   | str j=>obtain⟨t',rfl⟩:=ry;exact eq_str (Xbl I q Xnc)
   | _=>exact absurd (show false=true from hs) Bool.false_ne_true
 | byt i =>
   obtain⟨t,rfl⟩:=rx
   cases y with
   | byt j=>obtain⟨t',rfl⟩:=ry;exact PySem.W.eq_bytes (Xbl I q Xuy)
   | _=>exact absurd (show false=true from hs) Bool.false_ne_true
 | _=>cases y <;> exact absurd (show false=true from hs) Bool.false_ne_true
theorem Xkp:OpR X (compareOp .NotEq) rNe:=by
 intro pins s σ H x y v u Q I rx ry h
 obtain⟨hs,q⟩:=h
 cases x with
 | non =>
   cases rx
   cases y with
   | non=>cases ry;exact PySem.EqNone.ne_none_none (Xbl I q (by simp))
   | bl j=>cases ry;exact PySem.EqNone.ne_none_bool (Xbl I q (by simp))
   | int j=>obtain⟨t',rfl⟩:=ry;exact PySem.EqNone.ne_none_int (Xbl I q (by simp))
   | str j=>obtain⟨t',rfl⟩:=ry;exact PySem.EqNone.ne_none_str (Xbl I q (by simp))
   | _=>exact absurd (show false=true from hs) Bool.false_ne_true
 | bl i =>
   cases rx
   cases y with
   | non=>cases ry;exact PySem.EqNone.ne_bool_none (Xbl I q (by simp))
   | bl j=>cases ry;exact ne_bool (Xbl I q (congrArg not Xzo))
   | str j=>obtain⟨t',rfl⟩:=ry;exact PySem.EqMixed.ne_bool_str (Xbl I q (by simp))
   | _=>exact absurd (show false=true from hs) Bool.false_ne_true
 | int i =>
   obtain⟨t,rfl⟩:=rx
   cases y with
   | non=>cases ry;exact PySem.EqNone.ne_int_none (Xbl I q (by simp))
   | int j=>obtain⟨t',rfl⟩:=ry;exact ne_int (Xbl I q (congrArg not Xkr))
   | str j=>obtain⟨t',rfl⟩:=ry;exact PySem.EqMixed.ne_int_str (Xbl I q (by simp))
   | _=>exact absurd (show false=true from hs) Bool.false_ne_true
 | str i =>
   obtain⟨t,rfl⟩:=rx
   cases y with
   | non=>cases ry;exact PySem.EqNone.ne_str_none (Xbl I q (by simp))
   | bl j=>cases ry;exact PySem.EqMixed.ne_str_bool (Xbl I q (by simp))
   | int j=>obtain⟨t',rfl⟩:=ry;exact PySem.EqMixed.ne_str_int (Xbl I q (by simp))
   | str j=>obtain⟨t',rfl⟩:=ry;exact ne_str (Xbl I q (congrArg not Xnc))
   | _=>exact absurd (show false=true from hs) Bool.false_ne_true
 | byt i =>
   obtain⟨t,rfl⟩:=rx
   cases y with
   | byt j=>obtain⟨t',rfl⟩:=ry;exact PySem.W.ne_bytes (Xbl I q (congrArg not Xuy))
   | _=>exact absurd (show false=true from hs) Bool.false_ne_true
 | _=>cases y <;> exact absurd (show false=true from hs) Bool.false_ne_true
theorem Xee:OpR X (compareOp .Lt) (rI0 fun i j=>.bl (decide (i<j))):=opB0 fun _ _ _ _ _ _ _ q=>lt_int q
theorem XTg:OpR X (compareOp .LtE) (rI0 fun i j=>.bl (decide (i≤j))):=opB0 fun _ _ _ _ _ _ _ q=>le_int q
theorem Xke:OpR X (compareOp .Gt) (rI0 fun i j=>.bl (decide (j<i))):=opB0 fun _ _ _ _ _ _ _ q=>gt_int q
theorem Xst:OpR X (compareOp .GtE) (rI0 fun i j=>.bl (decide (j≤i))):=opB0 fun _ _ _ _ _ _ _ q=>ge_int q
theorem Xlx:OpR X (compareOp .Is) (fun x y H Q=>y = .non∧Q (.bl (decide (x = .non))) H):=by
 intro pins s σ H x y v u Q I rx ry h
 obtain⟨rfl,q⟩:=h
 cases ry
 refine is_none_gen (Xbl I q ?_)
 cases x <;> first
   | (cases rx;rfl)
   | (obtain⟨t,rfl⟩:=rx;rfl)
theorem Xqw:OpR X (compareOp .IsNot) (fun x y H Q=>y = .non∧Q (.bl (!decide (x = .non))) H):=by
 intro pins s σ H x y v u Q I rx ry h
 obtain⟨rfl,q⟩:=h
 cases ry
 refine isnot_none_gen (Xbl I q ?_)
 cases x <;> first
   | (cases rx;rfl)
   | (obtain⟨t,rfl⟩:=rx;rfl)
theorem Xaj (b:Expr){op:CmpOp}(h:op≠.In:=by decide)(h2:op≠.NotIn:=by decide):behindInMarks op b=false:=by
 have e1:(op==CmpOp.In)=false:=by cases op <;> first | rfl | exact absurd rfl h
 have e2:(op==CmpOp.NotIn)=false:=by cases op <;> first | rfl | exact absurd rfl h2
 cases b <;> simp [behindInMarks,e1,e2]
theorem Xch {op:CmpOp}{r:R2}(ho:OpR X (compareOp op) r)(ha:PE X a ta)(hb:PE X b tb)(hm:behindInMarks op b=false):PE X (.Compare a [op] [b] pos) (tOp r ta tb):=by
 intro pins s σ H Q I h
 exact wpAny_Compare1 (binT ha hb I h fun v u s2 x y H2 I2 rx ry q=>ho pins s2 σ H2 x y v u Q I2 rx ry q) hm
def XBu (t:TE):TT:=fun σ H Q=>t σ H fun x H'=>∃k,x = .bl k∧Q k H'
theorem Xag {op:CmpOp}{r:R2}(ho:OpR X (compareOp op) r)(ha:PE X a ta)(hb:PE X b tb)(hm:behindInMarks op b=false):PT X (.Compare a [op] [b] pos) (XBu (tOp r ta tb)):=by
 intro pins s σ H Q I h
 refine wpAny_isTrue_Compare1 (thn (ha pins s σ H _ I h) fun v s1 ⟨x,H1,I1,r1,q1⟩=>thn (hb pins s1 σ H1 _ I1 q1) fun u s2 ⟨y,H2,I2,r2,q2⟩ =>
   thn (ho pins s2 σ H2 x y v u _ I2 r1 r2 q2) fun c s3 ⟨z,H3,I3,r3,k,e,q3⟩=>?_) hm
 subst e
 cases r3
 exact wpAny_truthy_bool ⟨H3,I3,q3⟩
def Xze (r r':R2)(ta tb tc:TE):TE:=fun σ H Q=>ta σ H fun x H1=>tb σ H1 fun y H2=>r x y H2 fun z H3=>∃k,z = .bl k ∧
 (if k=true then tc σ H3 fun w' H4=>r' y w' H4 Q else Q (.bl false) H3)
theorem Xvs {op op':CmpOp}{r r':R2}(ho:OpR X (compareOp op) r)(ho':OpR X (compareOp op') r')(ha:PE X a ta)(hb:PE X b tb)(hc:PE X c tc)
   (hm:lastMarks [op,op'] [b,c]=false:=by with_unfolding_all rfl):PT X (.Compare a [op,op'] [b,c] pos) (XBu (Xze r r' ta tb tc)):=by
 intro pins s σ H Q I h
 refine isTrue_chain (thn (ha pins s σ H _ I h) fun v s1 ⟨x,H1,I1,r1,q1⟩=>test_link (thn (hb pins s1 σ H1 _ I1 q1) fun u s2 ⟨y,H2,I2,r2,q2⟩ =>
   thn (ho pins s2 σ H2 x y v u _ I2 r1 r2 q2) fun d s3 ⟨z,H3,I3,r3,k,e,q3⟩=>?_)) hm
 subst e
 cases r3
 refine wpAny_truthy_bool ?_
 cases k with
 | false =>
   obtain⟨k',e',q'⟩:=q3
   cases e'
   exact ite_ff ⟨H3,I3,q'⟩
 | true =>
   refine ite_tt (test_last (thn (hc pins s3 σ H3 _ I3 q3) fun w' s4 ⟨z',H4,I4,r4,q4⟩=>thn (ho' pins s4 σ H4 y z' u w' _ I4 r2 r4 q4) fun d' s5 ⟨z2,H5,I5,r5,k2,e2,q5⟩=>?_))
   subst e2
   cases r5
   exact wpAny_truthy_bool ⟨H5,I5,q5⟩
def TruV (K:PySem.W.Frag)(x:V)(H:Hp)(k:Bool):Prop :=
 match x with
 | .non=>k=false
 | .bl b=>k=b
 | .int i=>k=(i != 0)
 | .str y=>y.length≤sizeLine∧k=((y.length:Int) != 0)
 | .byt y=>y.size≤sizeLine∧k=((y.size:Int) != 0)
 | .ref p=>(∃xs,SqL K H p xs∧k = !xs.isEmpty)∨(∃xs,SqT K H p xs∧k = !xs.isEmpty)∨∃kvs,H p=some (.dK kvs)∧k = !kvs.isEmpty
 | _=>False
theorem Xpc {κ:Type}{kvs:List (κ×V)}{vs:List (κ×Value)}(r:KV kvs vs):(!vs.isEmpty) = !kvs.isEmpty:=by
 cases r <;> rfl
theorem Xjo {xs:List V}{its:List Value}(r:Vals xs its):(!its.toArray.isEmpty) = !xs.isEmpty:=by
 cases r <;> simp
theorem Xly:(sizeLine:Nat)<2^63:=by rw[sizeLine_eq];decide
theorem XNz:TruR X (fun x H Q=>∃k,TruV X.K x H k∧Q k H):=by
 intro pins s σ H x v Q I rx h
 obtain⟨k,e,q⟩:=h
 have hl:=Xly
 have hs:sizeLine=16777216:=sizeLine_eq
 cases x with
 | non =>
   cases rx
   have e':k=false:=e
   subst e'
   exact truthy_none ⟨H,I,q⟩
 | bl b =>
   cases rx
   have e':k=b:=e
   subst e'
   exact wpAny_truthy_bool ⟨H,I,q⟩
 | int i =>
   obtain⟨t,rfl⟩:=rx
   have e':k=(i != 0):=e
   subst e'
   exact PySem.P.truthy_int ⟨H,I,q⟩
 | str y =>
   obtain⟨t,rfl⟩:=rx
   obtain⟨hy,e'⟩:y.length≤sizeLine∧k=((y.length:Int) != 0):=e
   subst e'
   exact PySem.P.truthy_str (by omega) ⟨H,I.tok _,q⟩
 | byt y =>
   obtain⟨t,rfl⟩:=rx
   obtain⟨hy,e'⟩:y.size≤sizeLine∧k=((y.size:Int) != 0):=e
   subst e'
   exact PySem.W.truthy_bytes (by omega) ⟨H,I.tok _,q⟩
 | ref p =>
   cases rx
   have e':(∃xs,SqL X.K H p xs∧k = !xs.isEmpty)∨(∃xs,SqT X.K H p xs∧k = !xs.isEmpty)∨∃kvs,H p=some (.dK kvs)∧k = !kvs.isEmpty:=e
   rcases e' with ⟨xs,hx,e'⟩ | ⟨xs,hx,e'⟩ | ⟨kvs,hx,e'⟩
   · subst e'
     obtain⟨its,r,pl,hz⟩:=I.list hx
     have hlen:=r.length
     exact wpAny_truthy_list pl.isList (by simp only [List.size_toArray];omega) ⟨H,I.tok _,by rw[Xjo r];exact q⟩
   · subst e'
     obtain⟨its,r,pl,hz⟩:=I.tuple hx
     have hlen:=r.length
     exact truthy_tuple pl (by simp only [List.size_toArray];omega) ⟨H,I.tok _,by rw[Xjo r];exact q⟩
   · subst e'
     obtain⟨hz,hS,vs,r,m⟩:kvs.length≤sizeLine∧(p==sysModules)=false∧∃vs,KV kvs vs∧s.heap.DictOf (Xbk X.prog X.w) p vs:=I.hok p _ hx
     have hlen:kvs.length=vs.length:=Paired.length r
     exact wpAny_truthy_dict hS m (by omega) ⟨H,I.tok _,by rw[Xpc r];exact q⟩
 | _=>exact(show False from e).elim
theorem Xdf (ha:PE X a ta)(he:∀whole,isTrue a X.env whole=(do let v ←whole;standAt a.pos;holding [v] (truthy v))) :
   PT X a (fun σ H Q=>ta σ H fun x H'=>∃k,TruV X.K x H' k∧Q k H'):=by
 intro pins s σ H Q I h
 exact isTrue_plain (thn (ha pins s σ H _ I h) fun v s1 ⟨x,H1,I1,r1,q1⟩=>XNz pins s1 σ H1 x v Q I1 r1 q1) (he _)
theorem Xpd {x:V}{us:List Value}(r:Vals [x] us):∃u,us=[u]∧RelV x u:=by
 cases r with
 | cons r1 r2=>cases r2;exact⟨_,rfl,r1⟩
theorem Xtt {x y:V}{us:List Value}(r:Vals [x,y] us):∃u w',us=[u,w']∧RelV x u∧RelV y w':=by
 cases r with
 | cons r1 r2 =>
   cases r2 with
   | cons r3 r4=>cases r4;exact⟨_,_,rfl,r1,r3⟩
theorem Xmh (hc:X.calm=true):Xgq X (.builtin "min") (fun xs H Q=>∃i j,xs=[.int i,.int j]∧Q (.int (if j<i then j else i)) H):=by
 intro pins s σ H xs us Q I r h
 obtain⟨i,j,rfl,q⟩:=h
 obtain⟨u,w',rfl,⟨t,rfl⟩,⟨t',rfl⟩⟩:=Xtt r
 refine min_two_ints (I.ok.hd hc) fun h' tk k=>⟨_,H,I.kept k,?_,q⟩
 by_cases hj:j<i
 · rw[if_pos hj,if_pos hj];exact⟨_,rfl⟩
 · rw[if_neg hj,if_neg hj];exact⟨_,rfl⟩
theorem Xrr:Xgq X (.type "int") (fun xs H Q=>(∃i,xs=[.int i]∧Q (.int i) H)∨∃k,xs=[.bl k]∧Q (.int (if k then 1 else 0)) H):=by
 intro pins s σ H xs us Q I r h
 rcases h with ⟨i,rfl,q⟩ | ⟨k,rfl,q⟩
 · obtain⟨u,rfl,t,rfl⟩:=Xpd r
   exact call_int_int ⟨.int i,H,I,⟨_,rfl⟩,q⟩
 · obtain⟨u,rfl,r1⟩:=Xpd r
   cases r1
   exact call_int_bool ⟨.int (if k then 1 else 0),H,I.tok _,⟨_,rfl⟩,q⟩
end
end L2
namespace L2
open PySem PySem.Spec PyProof.Rows
structure ObjM (h:Heap)(x dx C:Addr)(mA:Str→Option Value):Prop where
 obj:h.get? x=some (PySem.W.instObj C dx)
 ns:h.Ns1 dx mA
 ne:dx≠x
theorem Xqp {h:Heap}{dx:Addr}{mA:Str→Option Value}(n:h.Ns1 dx mA):∃od,h.get? dx=some od∧∀name,PySem.W.lookIn name od=some (mA name):=by
 obtain⟨o,es,ep,ho,hd,hk,_,hm⟩:=n
 refine⟨o,ho,fun name=>?_⟩
 have e:=hm name
 unfold nsFind findBy at e
 rw[←Array.find?_toList] at e
 unfold PySem.W.lookIn
 rw[hd]
 dsimp only
 split
 · rename_i y q
   rw[q] at e
   exact congrArg some e
 · rename_i q
   rw[q] at e
   have a:es.toList.any (·.refKey)=false:=by
     rw[List.any_eq_false]
     intro y hy
     obtain⟨z,t,hkey⟩:=hk y (Array.mem_toList_iff.mp hy)
     simp [DictEntry.refKey,hkey]
   have a':¬es.toList.any (·.refKey)=true:=by rw[a];exact Bool.false_ne_true
   rw[if_neg a']
   exact congrArg some e
theorem ObjM.look {h:Heap}{x dx C:Addr}{mA:Str→Option Value}(I:ObjM h x dx C mA):∃od,PySem.W.InstAt h x (PySem.W.instObj C dx) C (some od)∧∀name,PySem.W.lookIn name od=some (mA name) :=
 let ⟨od,ho,hl⟩:=Xqp I.ns
 ⟨od,⟨I.obj,rfl,rfl,ho⟩,hl⟩
section
variable {prog:Program}{w:World}{A:Around}{E:Value→Shared→Prop}{s:Shared}{K:PySem.W.Frag}{x dx C f:Addr}{mA:Str→Option Value}{name:Str}{v:Value}
theorem XEz {expr:Bool}{Q:Value→Shared→Prop}(X:K.In s.heap)(I:ObjM s.heap x dx C mA)(hg:PySem.W.plainGet K C name=true)(hh:PySem.W.hasDictIn K C=true)
   (ha:PySem.W.findIn K (.ref C) name=some none) (hv:mA name=some v) (hv':PySem.W.handedIn v=true) (h:Q v { s with toks:=s.toks+1 }) :
   wpAny (model prog w) A (getAttr (.ref x) name expr) Q E s:=by
 obtain⟨od,J,hl⟩:=I.look
 exact PySem.W.get_value X J (PySem.W.plainGet_of hg).1 (PySem.W.findObj_own hh ha rfl (by rw[hl,hv])) hv' h
theorem Xvy {pl:Sem Bool}{Q:Value×List Value→Shared→Prop}(X:K.In s.heap)(I:ObjM s.heap x dx C mA)(hg:PySem.W.plainGet K C name=true)
   (hf:PySem.W.findIn K (.ref C) name=some (some (.ref f))) (ht:PySem.W.isFn K (.ref f)=true) (hv:mA name=none) (h:Q (.ref f,[.ref x]) s) :
   wpAny (model prog w) A (getMethod (.ref x) name pl) Q E s:=by
 obtain⟨od,J,hl⟩:=I.look
 exact PySem.W.method_fn X J (PySem.W.plainGet_of hg).1 (PySem.W.plainGet_of hg).2 hf (beq_iff_eq.mp ht) (by show (PySem.W.lookIn name od).map (·.isSome)=some false;rw[hl,hv];rfl) h
theorem XAt {ns:List Str}{Q:Unit→Shared→Prop}(X:K.In s.heap)(I:ObjM s.heap x dx C mA)
   (hs:PySem.W.findIn K (.ref C) "__setattr__"=some (some (.builtin "object.__setattr__"))) (hp:PySem.W.plainOver K C=true) (ht:PySem.W.takerIn K C name=some none) (hh:PySem.W.hasDictIn K C=true)
   (hw:PySem.Within mA ns) (hsz:ns.length≤sizeLine)
   (h:∀h',ObjM h' x dx C (fun y=>if y=name then some v else mA y)→Heap.SameBut dx s.heap h'→Q () { s with heap:=h',toks:=s.toks+2 }) :
   wpAny (model prog w) A (setAttr (.ref x) name v) Q E s:=by
 obtain⟨od,J,hl⟩:=I.look
 refine PySem.W.set_plain X J hs (PySem.W.osa_open (s:={ s with toks:=s.toks+1 }) (r:=none) X J hp ht fun b=>?_)
 obtain⟨cd,hc,hd'⟩:=PySem.W.any_some hh
 have hx:s.heap.get? x=some ⟨.ref C,some dx,.plain,#[]⟩:=I.obj
 refine wpAny_bind (wpAny_pure (wpAny_bind (wpAny_bind (wpAny_loadPart hx (wpAny_bind (PySem.W.Looks.here (s:={ s with toks:=s.toks+1 }) (PySem.W.looks_clsIn X hc) ?_))))))
 rw[hd']
 refine wpAny_pure (a:=some dx) (wpAny_bind (wpAny_pure (wpAny_bind ?_)))
 refine wpAny_nsSet1 (s:={ s with toks:=s.toks+1 }) I.ns fun h' hn2 hs2=>?_
 obtain⟨oD,esD,epD,hoD,hdD,hcD⟩:=hn2.count (PySem.Within.cons name v hw)
 refine wpAny_bind (wpAny_lookBehind hoD (by rw[hdD];exact pastItsLine_dict (Nat.le_trans hcD (by rw[List.length_cons];omega))) ?_)
 exact wpAny_pure (h _ ⟨(hs2.2 _ (Ne.symm I.ne)).trans I.obj,hn2,I.ne⟩ hs2)
theorem Xwf {R:Result→Shared→Prop}{vs:List Value}{kw:List (Str×Value)}(X:K.In s.heap)(hm:PySem.W.makesIn K C=true)
   (hi:PySem.W.findIn K (.ref C) "__init__"=some (some (.ref f))) (hf:PySem.W.typeIn K (.ref f)=some (.type "function"))
   (h:codeAny (model prog w) (A.under (.builtin "type.__call__" ⟨.ref C::vs,kw⟩)) (.call (.ref f) ⟨.ref (s.heap.objs.size+1)::vs,kw⟩) (PySem.W.InitBack (s.heap.objs.size+1) R)
     { s with heap:=(s.heap.push PySem.W.emptyDict).push (PySem.W.instObj C s.heap.objs.size) }) :
   codeAny (model prog w) A (.call (.ref C) ⟨vs,kw⟩) R s:=by
 obtain⟨hh,g,d,t,os⟩:=s
 exact PySem.W.make_core (PySem.W.makes_of X hm) (PySem.W.looks_findIn X hi) (fun self=>PySem.W.bind_fn X self hf) (.inl rfl) h
end
def putF (f:Str)(v:V):List (Str×V)→List (Str×V)
 | []=>[(f,v)]
 | (g,x)::r=>if g=f then (g,v)::r else (g,x)::putF f v r
theorem Xib (f g:Str)(v:V):∀fs:List (Str×V),(putF f v fs).lookup g=if g=f then some v else fs.lookup g
 | []=>by
   show List.lookup g [(f,v)]=_
   by_cases h:g=f
   · have hb:(g==f)=true:=beq_iff_eq.mpr h
     simp only [List.lookup,hb,if_pos h]
   · have hb:(g==f)=false:=beq_eq_false_iff_ne.mpr h
     simp only [List.lookup,hb,if_neg h]
 | (k,x)::r=>by
   have ih:=Xib f g v r
   rw[show putF f v ((k,x)::r)=(if k=f then (k,v)::r else (k,x)::putF f v r) from rfl]
   by_cases hk:k=f
   · rw[if_pos hk]
     by_cases h:g=k
     · have hb:(g==k)=true:=beq_iff_eq.mpr h
       simp only [List.lookup,hb,if_pos (h.trans hk)]
     · have hb:(g==k)=false:=beq_eq_false_iff_ne.mpr h
       simp only [List.lookup,hb,if_neg (fun e:g=f=>h (e.trans hk.symm))]
   · rw[if_neg hk]
     by_cases h:g=k
     · have hb:(g==k)=true:=beq_iff_eq.mpr h
       simp only [List.lookup,hb,if_neg (fun e:g=f=>hk (h.symm.trans e))]
     · have hb:(g==k)=false:=beq_eq_false_iff_ne.mpr h
       simp only [List.lookup,hb]
       exact ih
theorem Xiq (f:Str)(v:V):∀fs:List (Str×V),f∈(putF f v fs).map (·.1)∧∀g,g∈fs.map (·.1)→g∈(putF f v fs).map (·.1)
 | []=>⟨by simp [putF],fun g h=>by simp at h⟩
 | (k,x)::r=>by
   obtain⟨i1,i2⟩:=Xiq f v r
   rw[show putF f v ((k,x)::r)=(if k=f then (k,v)::r else (k,x)::putF f v r) from rfl]
   by_cases hk:k=f
   · rw[if_pos hk]
     subst hk
     exact⟨by simp,fun g h=>by simpa using h⟩
   · rw[if_neg hk]
     refine⟨?_,fun g h=>?_⟩
     · rw[List.map_cons]
       exact List.mem_cons_of_mem _ i1
     · rw[List.map_cons] at h ⊢
       rcases List.mem_cons.mp h with e | e
       · exact List.mem_cons.mpr (.inl e)
       · exact List.mem_cons_of_mem _ (i2 g e)
theorem Xih (f:Str)(v:V):∀fs:List (Str×V),(putF f v fs).length≤fs.length+1
 | []=>by simp [putF]
 | (k,x)::r=>by
   have ih:=Xih f v r
   rw[show putF f v ((k,x)::r)=(if k=f then (k,v)::r else (k,x)::putF f v r) from rfl]
   by_cases hk:k=f
   · rw[if_pos hk,List.length_cons,List.length_cons];omega
   · rw[if_neg hk,List.length_cons,List.length_cons];omega
theorem RelO.some_of {v:V}{o:Option Value}(r:RelO (some v) o):∃u,o=some u∧RelV v u:=by
 cases o with
 | none=>exact(show False from r).elim
 | some u=>exact⟨u,rfl,r⟩
theorem RelO.none_of {o:Option Value}(r:RelO none o):o=none:=by
 cases o with
 | none=>rfl
 | some u=>exact(show False from r).elim
theorem Xsa {v:V}{u:Value}(r:RelV v u):PySem.W.handedIn u=true:=by
 cases v with
 | non=>cases (show u=Value.none from r);rfl
 | bl b=>cases (show u=Value.bool b from r);rfl
 | int i=>obtain⟨t,e⟩:=(show ∃t,u=Value.int i t from r);cases e;rfl
 | str x=>obtain⟨t,e⟩:=(show ∃t,u=Value.str x t from r);cases e;rfl
 | byt b=>obtain⟨t,e⟩:=(show ∃t,u=Value.bytes b t from r);cases e;rfl
 | flt b=>obtain⟨t,e⟩:=(show ∃t,u=Value.float b t from r);cases e;rfl
 | ref a=>cases (show u=Value.ref a from r);rfl
 | ty n=>cases (show u=Value.type n from r);rfl
section
variable {P:Program}{w:World}{H H':Hp}{h h':Heap}{a C dx:Addr}{fs fs':List (Str×V)}
theorem Xkf (hok:HOk P w H h)(e:H a=some (.ins C dx fs)):∃mA,ObjM h a dx C mA∧(∀f,RelO (fs.lookup f) (mA f))∧PySem.Within mA (fs.map (·.1))∧fs.length≤1000∧H dx=some (.own a):=by
 obtain⟨d,z,ne,ob,mA,n,r,q⟩:=(show Xct P w H h a (.ins C dx fs) from hok a _ e)
 exact⟨mA,⟨ob,n,ne⟩,r,q,z,d⟩
end
structure Cls (K:PySem.W.Frag)(C:Addr):Prop where
 pg:PySem.W.plainGet K C Str.empty=true
 hd:PySem.W.hasDictIn K C=true
 po:PySem.W.plainOver K C=true
 sa:PySem.W.findIn K (.ref C) "__setattr__"=some (some (.builtin "object.__setattr__"))
theorem Cls.get {K:PySem.W.Frag}{C:Addr}(c:Cls K C)(f:Str):PySem.W.plainGet K C f=true:=c.pg
def Xcr (K:PySem.W.Frag)(C:Addr)(f:Str):Prop:=PySem.W.findIn K (.ref C) f=some none
theorem Xcr.taker {K:PySem.W.Frag}{C:Addr}{f:Str}(n:Xcr K C f):PySem.W.takerIn K C f=some none:=by
 unfold PySem.W.takerIn
 rw[show PySem.W.findIn K (.ref C) f=some none from n]
 rfl
structure Con (K:PySem.W.Frag)(C:Addr)(f:Str)(v:V)(u:Value):Prop where
 at_:PySem.W.findIn K (.ref C) f=some (some u)
 rel:RelV v u
 get:PySem.W.specialIn K u "__get__"=some none
 cp:PySem.W.copiedNames.contains f=false
structure Meth (K:PySem.W.Frag)(C:Addr)(m:Str)(f:Addr):Prop where
 at_:PySem.W.findIn K (.ref C) m=some (some (.ref f))
 fn:PySem.W.isFn K (.ref f)=true
 kp:PySem.W.keepIn K (.ref f)=true
section
variable {X:Cx}{pins:List (Addr×Obj)}{σ:St}{H:Hp}{s:Shared}{a C dx:Addr}{fs:List (Str×V)}{f:Str}{v:V}{A:Around}{E:Value→Shared→Prop}
theorem Xpb {b:Bool}{Q:Value→Shared→Prop}(I:Inv X pins σ H s)(e:H a=some (.ins C dx fs))(c:Cls X.K C)(n:Xcr X.K C f)(l:fs.lookup f=some v)
   (h:∀u s',Inv X pins σ H s'→RelV v u→Q u s'):wpAny (model X.prog X.w) A (getAttr (.ref a) f b) Q E s:=by
 obtain⟨mA,O,r,_,_,_⟩:=Xkf I.hok e
 obtain⟨u,hu,ru⟩:=RelO.some_of (v:=v) (o:=mA f) (by rw[←l];exact r f)
 exact XEz I.kIn O (c.get f) c.hd n hu (Xsa ru) (h u _ (I.tok _) ru)
theorem Xgj {m:Str}{g:Addr}{pl:Sem Bool}{Q:Value×List Value→Shared→Prop}(I:Inv X pins σ H s)(e:H a=some (.ins C dx fs))(c:Cls X.K C)(k:Meth X.K C m g)(l:fs.lookup m=none)
   (h:Q (.ref g,[.ref a]) s):wpAny (model X.prog X.w) A (getMethod (.ref a) m pl) Q E s:=by
 obtain⟨mA,O,r,_,_,_⟩:=Xkf I.hok e
 have hn:mA m=none:=RelO.none_of (by rw[←l];exact r m)
 exact Xvy I.kIn O (c.get m) k.at_ k.fn hn h
theorem Xpi {y:V}{u:Value}{Q:Unit→Shared→Prop}(I:Inv X pins σ H s)(e:H a=some (.ins C dx fs))(c:Cls X.K C)(n:Xcr X.K C f)(hl:fs.length<1000)(ry:RelV y u)
   (h:∀s',Inv X pins σ (upd H a (.ins C dx (putF f y fs))) s'→Q () s'):wpAny (model X.prog X.w) A (setAttr (.ref a) f u) Q E s:=by
 obtain⟨mA,O,r,wi,_,ho⟩:=Xkf I.hok e
 have hz:(fs.map (·.1)).length≤sizeLine:=by rw[List.length_map,sizeLine_eq];omega
 refine XAt I.kIn O c.sa c.po n.taker c.hd wi hz fun h' O' sb=>h _ ?_
 have hd:∃o,h'.get? dx=some o:=let ⟨o,_,_,e',_⟩:=O'.ns;⟨o,e'⟩
 refine I.write (x:=a) (e:=dx) (by rw[e];exact True.intro) (.inr ho) (fun b q hb z=>(sb.2 b hb).trans z) hd ?_
 refine⟨by rw[Xaq O.ne];exact ho,?_,O.ne,O'.obj,_,O'.ns,fun g=>?_,fun g hg=>?_⟩
 · have:=Xih f y fs;omega
 · show RelO ((putF f y fs).lookup g) (if g=f then some u else mA g)
   rw[Xib]
   by_cases q:g=f
   · rw[if_pos q,if_pos q];exact ry
   · rw[if_neg q,if_neg q];exact r g
 · by_cases q:g=f
   · rw[q];exact(Xiq f y fs).1
   · refine(Xiq f y fs).2 g (wi g fun z=>hg ?_)
     show (if g=f then some u else mA g)=none
     rw[if_neg q];exact z
theorem Inv.made (I:Inv X pins σ H s):Inv X pins σ (upd (upd H s.heap.objs.size (.own (s.heap.objs.size+1))) (s.heap.objs.size+1) (.ins C s.heap.objs.size []))
   { s with heap:=(s.heap.push PySem.W.emptyDict).push (PySem.W.instObj C s.heap.objs.size) }:=by
 have e1:(s.heap.push PySem.W.emptyDict).get? s.heap.objs.size=some PySem.W.emptyDict:=Heap.get?_push_size s.heap rfl
 have e2:((s.heap.push PySem.W.emptyDict).push (PySem.W.instObj C s.heap.objs.size)).get? (s.heap.objs.size+1)=some (PySem.W.instObj C s.heap.objs.size):=by
   have:=Heap.get?_push_size (s.heap.push PySem.W.emptyDict) (o:=PySem.W.instObj C s.heap.objs.size) rfl
   rwa [Heap.size_push] at this
 have e3:(s.heap.push PySem.W.emptyDict).Ns s.heap.objs.size (fun _=>none):=⟨PySem.W.emptyDict,#[],_,e1,rfl,(fun e he=>absurd he (by simp)),fun _=>rfl⟩
 have I1:=I.laid (a:=s.heap.objs.size) (o:=.own (s.heap.objs.size+1)) (h':=s.heap.push PySem.W.emptyDict) (t':=s.toks) (fun b u q=>Heap.get?_push_of_some _ q) (Nat.le_refl _) ⟨_,e1⟩
 refine I1.laid (a:=s.heap.objs.size+1) (o:=.ins C s.heap.objs.size []) (t':=s.toks) (fun b u q=>Heap.get?_push_of_some _ q) (Nat.le_of_eq (Heap.size_push _ _)) ?_
 have ne:s.heap.objs.size≠s.heap.objs.size+1:=Nat.ne_of_lt (Nat.lt_succ_self _)
 refine⟨by rw[Xaq ne,upd_same],Nat.zero_le _,ne,e2,fun _=>none,(Heap.Ns1.of_empty e3).at fun o q=>Heap.get?_push_of_some _ q,fun _=>True.intro,fun y hy=>absurd rfl hy⟩
theorem XAk {prog:Program}{w:World}{env:Env}{e:Expr}{f:Str}{pos:Pos}{s:Shared}{Q:Value→Shared→Prop}(hb:attributeBase e f env (eval e env)=eval e env)
   (h:wpAny (model prog w) A (eval e env) (fun o s₁=>wpAny (model prog w) A (getAttr o f true) Q E s₁) E s):wpAny (model prog w) A (eval (.Attribute e f pos) env) Q E s :=
 Attribute_any_ h (by rw[arm_eval_Attribute,hb])
end
def tFld (K:PySem.W.Frag)(ta:TE)(f:Str):TE:=fun σ H Q=>ta σ H fun x H1=>∃a C dx fs v,x = .ref a∧H1 a=some (.ins C dx fs)∧Cls K C∧Xcr K C f∧fs.lookup f=some v∧Q v H1
def sFld (K:PySem.W.Frag)(ta tv:TE)(f:Str):TS:=fun D σ H=>tv σ H fun y H1=>ta σ H1 fun x H2=>∃a C dx fs,x = .ref a∧H2 a=some (.ins C dx fs)∧Cls K C∧Xcr K C f∧fs.length<1000 ∧
 D.nx σ (upd H2 a (.ins C dx (putF f y fs)))
section
variable {X:Cx}{o e value:Expr}{f:Str}{pos pos' tpos:Pos}{ta tv:TE}
theorem Xdp (he:PE X e ta)(hb:attributeBase e f X.env (eval e X.env)=eval e X.env):PE X (.Attribute e f pos) (tFld X.K ta f):=by
 intro pins s σ H Q I h
 refine XAk hb (thn (he pins s σ H _ I h) fun u s1 ⟨x,H1,I1,rx,a,C,dx,fs,v,ex,ea,c,n,l,q⟩=>?_)
 subst ex
 obtain rfl:u=Value.ref a:=rx
 exact Xpb I1 ea c n l fun u' s2 I2 ru=>⟨v,H1,I2,ru,q⟩
theorem Xnr (ha:PE X o ta)(hv:PE X value tv)(hs:swapsWith value (some (.Attribute o f pos')) pos.line X.env=pure false):PS X (.Assign [.Attribute o f pos'] value pos) (sFld X.K ta tv f):=by
 intro pins s σ H D I h
 refine plainObj_wpAny_Assign_Attribute (thn (hv pins s σ H _ I h) fun u s1 ⟨y,H1,I1,ry,q⟩=>thn (ha pins s1 σ H1 _ I1 q) fun ov s2 ⟨x,H2,I2,rx,a,C,dx,fs,ex,ea,c,n,l,q2⟩=>?_) hs
 subst ex
 obtain rfl:ov=Value.ref a:=rx
 exact Xpi I2 ea c n l ry fun s3 I3=>⟨σ,_,I3,q2⟩
end
section
variable {X:Cx}{pins:List (Addr×Obj)}{σ:St}{H:Hp}{s:Shared}{A:Around}{E:Value→Shared→Prop}{Q:Value→Shared→Prop}{c:Value}{b:Bool}
inductive TyOf (K:PySem.W.Frag)(H:Hp):V→Value→Prop where
 | non:TyOf K H .non (.type "NoneType")
 | bl (x:Bool):TyOf K H (.bl x) (.type "bool")
 | int (i:Int):TyOf K H (.int i) (.type "int")
 | str (x:Str):TyOf K H (.str x) (.type "str")
 | flt (x:UInt64):TyOf K H (.flt x) (.type "float")
 | lst {a:Addr} {xs:List V} (e:H a=some (.lst xs)):TyOf K H (.ref a) (.type "list")
 | frz {a:Addr} {o:Obj} {xs:List V} (e:H a=some (.frz o (.lst xs))):TyOf K H (.ref a) (.type "list")
 | tup {a:Addr} {xs:List V} (e:H a=some (.tup xs)):TyOf K H (.ref a) (.type "tuple")
 | dK {a:Addr} {kvs:List (Key×V)} (e:H a=some (.dK kvs)):TyOf K H (.ref a) (.type "dict")
 | dT {a:Addr} {kvs:List (List Key×V)} (e:H a=some (.dT kvs)):TyOf K H (.ref a) (.type "dict")
 | ins {a C dx:Addr} {fs:List (Str×V)} (e:H a=some (.ins C dx fs)) (cl:Cls K C) (ha:PySem.W.findIn K (.ref C) "__class__"=some (some (.builtin "object.__class__")))
     (hn:PySem.W.specialIn K (.builtin "object.__class__") "__get__"=some (some (.builtin "getset_descriptor.__get__"))) (htk:PySem.W.takesIn K (.builtin "object.__class__")=some true)
     (hm:PySem.W.mroIn K C (.type "object")=some true):TyOf K H (.ref a) (.ref C)
theorem Xqj {x:V}{u t:Value}(I:Inv X pins σ H s)(rx:RelV x u)(ty:TyOf X.K H x t)(e:PySem.W.kitOne X.K t c=some b)(h:∀tk,Q (.bool b) { s with toks:=tk }) :
   wpAny (model X.prog X.w) A (call (.builtin "isinstance") [u,c]) Q E s:=by
 cases ty with
 | non=>cases (show u=Value.none from rx);exact PySem.W.kia_one PySem.W.kitx_none I.kIn True.intro e (fun z=>nomatch z) h
 | bl y=>cases (show u=Value.bool y from rx);exact PySem.W.kia_one PySem.W.kitx_bool I.kIn True.intro e (fun z=>nomatch z) h
 | int i=>obtain⟨t,q⟩:=(show ∃t,u=Value.int i t from rx);cases q;exact PySem.W.kia_one PySem.W.kitx_int I.kIn True.intro e (fun z=>nomatch z) h
 | str y=>obtain⟨t,q⟩:=(show ∃t,u=Value.str y t from rx);cases q;exact PySem.W.kia_one PySem.W.kitx_str I.kIn True.intro e (fun z=>nomatch z) h
 | flt y=>obtain⟨t,q⟩:=(show ∃t,u=Value.float y t from rx);cases q;exact PySem.W.kia_one PySem.W.kitx_float I.kIn True.intro e (fun z=>nomatch z) h
 | @lst a xs ea =>
   cases (show u=Value.ref a from rx)
   obtain⟨_,_,n,_,h1⟩:=(show Xct X.prog X.w H s.heap a (.lst xs) from I.hok a _ ea)
   exact PySem.W.kia_one PySem.W.kitx_list I.kIn ⟨_,h1,rfl⟩ e (fun z=>nomatch z) h
 | @frz a ob xs ea =>
   cases (show u=Value.ref a from rx)
   obtain⟨_,_,_,n,_,h1⟩:=(show Xct X.prog X.w H s.heap a (.frz ob (.lst xs)) from I.hok a _ ea)
   exact PySem.W.kia_one PySem.W.kitx_list I.kIn ⟨_,h1,rfl⟩ e (fun z=>nomatch z) h
 | @tup a xs ea =>
   cases (show u=Value.ref a from rx)
   obtain⟨_,_,_,p⟩:=(show Xct X.prog X.w H s.heap a (.tup xs) from I.hok a _ ea)
   obtain⟨o,h1,h2,_⟩:=p
   exact PySem.W.kia_one PySem.W.kitx_tuple I.kIn ⟨o,h1,h2⟩ e (fun z=>nomatch z) h
 | @dK a kvs ea =>
   cases (show u=Value.ref a from rx)
   obtain⟨_,_,vs,_,p⟩:=(show Xct X.prog X.w H s.heap a (.dK kvs) from I.hok a _ ea)
   obtain⟨o,es,ep,h1,h2,_⟩:=p
   exact PySem.W.kia_one PySem.W.kitx_dict I.kIn ⟨o,h1,h2.1⟩ e (fun z=>nomatch z) h
 | @dT a kvs ea =>
   cases (show u=Value.ref a from rx)
   obtain⟨_,_,xs,_,o,es,ep,h1,h2,_⟩:=(show Xct X.prog X.w H s.heap a (.dT kvs) from I.hok a _ ea)
   exact PySem.W.kia_one PySem.W.kitx_dict I.kIn ⟨o,h1,h2.1⟩ e (fun z=>nomatch z) h
 | @ins a C dx fs ea cl ha hn htk hm =>
   cases (show u=Value.ref a from rx)
   obtain⟨mA,O,_⟩:=Xkf I.hok ea
   obtain⟨od,J,_⟩:=O.look
   exact PySem.W.kia_one (PySem.W.kitx_own (cl.get _) cl.hd ha hn htk hm) I.kIn J e (fun z=>nomatch z) h
end
end L2
namespace L2
open PySem PySem.Spec PyProof.Rows
structure Room (k:Nat)(A:Around):Prop where
 hd:A.handled=none
 dp:A.depth+3*k+5<recursionLimit
 un:A.units+16*k+200<cLine
theorem Room.mono {j k:Nat}{A:Around}(r:Room k A)(h:j≤k):Room j A:=⟨r.hd,by have:=r.dp;omega,by have:=r.un;omega⟩
theorem Room.deeper {k:Nat}{A:Around}(r:Room (k+1) A)(env:Env):Room k (A.deeper env) :=
 ⟨r.hd,by have:=r.dp;show A.depth+1+3*k+5<_;omega,by have:=r.un;show A.units+3+16*k+200<_;omega⟩
theorem Room.in1 {k:Nat}{A:Around}(r:Room (k+1) A):Room k A.in1 :=
 ⟨r.hd,by have:=r.dp;show A.depth+3*k+5<_;omega,by have:=r.un;show A.units+1+16*k+200<_;omega⟩
theorem Xpa {A:Around}{C:Addr}{us:List Value}{kw:List (Str×Value)}:(A.under (.builtin "type.__call__" ⟨.ref C::us,kw⟩)).depth=A.depth+1:=by
 first | rfl | simp [Around.under,Code.weight,Code.isCreation,Code.isGuard,Code.isCaller,Code.frames,Code.isFrame,guardIds]
theorem Xoz {A:Around}{C:Addr}{us:List Value}{kw:List (Str×Value)}:(A.under (.builtin "type.__call__" ⟨.ref C::us,kw⟩)).units=A.units+1:=by
 first | rfl | simp [Around.under,Code.cUnits,Code.frames,Code.isFrame]
theorem Room.make {k:Nat}{A:Around}(r:Room (k+1) A)(C:Addr)(us:List Value)(kw:List (Str×Value)):Room k (A.under (.builtin "type.__call__" ⟨.ref C::us,kw⟩)) :=
 ⟨r.hd,by have:=r.dp;rw[Xpa];omega,by have:=r.un;rw[Xoz];omega⟩
theorem Room.depth {k:Nat}{A:Around}(r:Room k A):A.depth<recursionLimit:=by have:=r.dp;omega
theorem Room.units {k:Nat}{A:Around}(r:Room k A):A.units+64<cLine:=by have:=r.un;omega
def tNil:TA:=fun _ H Q=>Q [] H
def XKd (ta:TE)(tr:TA):TA:=fun σ H Q=>ta σ H fun x H1=>tr σ H1 fun xs H2=>Q (x::xs) H2
section
variable {X:Cx}{e:Expr}{es:List Expr}{te:TE}{t:TA}{pos:Pos}
theorem Xac:PA X [] tNil:=fun _ _ _ _ H Q I h=>Calls.spliced_nil ⟨[],H,I,.nil,h⟩
theorem Xaa (ha:PE X e te)(hr:PA X es t)(hs:starEach (e::es) X.env=(false,eval e X.env)::starEach es X.env:=by rfl):PA X (e::es) (XKd te t):=by
 intro pos pins s σ H Q I h
 rw[hs]
 show wpAny _ _ (spliced ((false,eval e X.env)::backTo pos (starEach es X.env))) _ _ s
 refine Calls.spliced_cons (thn (ha pins s σ H _ I h) fun u s1 ⟨x,H1,I1,r1,q1⟩=>?_)
 exact thn (hr pos pins s1 σ H1 _ I1 q1) fun us s2 ⟨xs,H2,I2,r2,q2⟩=>⟨x::xs,H2,I2,.cons r1 r2,q2⟩
def tTup (t:TA):TE:=fun σ H Q=>t σ H fun xs H1=>xs.length≤sizeLine∧∀p,H1 p=none→Q (.ref p) (upd H1 p (.tup xs))
def tLst (t:TA):TE:=fun σ H Q=>t σ H fun xs H1=>xs.length≤sizeLine∧∀p,H1 p=none→Q (.ref p) (upd H1 p (.lst xs))
theorem Xeb {x1}(h:PA X es t):PE X (.Tuple es x1 pos) (tTup t):=by
 intro pins s σ H Q I hq
 refine wpAny_Tuple_spliced (thn (h pos pins s σ H _ I hq) fun us s1 ⟨xs,H1,I1,r,z,q⟩=>⟨by rw[←r.length];exact z,?_⟩)
 have hf:H1 s1.heap.objs.size=none:=I1.hok.fresh (Nat.le_refl _)
 refine⟨.ref s1.heap.objs.size,upd H1 s1.heap.objs.size (.tup xs),I1.laid (t':=s1.toks) (fun b u e=>Heap.get?_push_of_some _ e) (Nat.le_refl _) ?_,rfl,q _ hf⟩
 exact⟨z,us,r,⟨_,Heap.get?_push_size _ rfl,rfl,_,rfl⟩⟩
theorem Xbu (h:PA X es t):PE X (.List es pos) (tLst t):=by
 intro pins s σ H Q I hq
 refine wpAny_List_spliced (thn (h pos pins s σ H _ I hq) fun us s1 ⟨xs,H1,I1,r,z,q⟩=>⟨by rw[←r.length];exact z,?_⟩)
 have hf:H1 s1.heap.objs.size=none:=I1.hok.fresh (Nat.le_refl _)
 refine⟨.ref s1.heap.objs.size,upd H1 s1.heap.objs.size (.lst xs),I1.laid (t':=s1.toks) (fun b u e=>Heap.get?_push_of_some _ e) (Nat.le_refl _) ?_,rfl,q _ hf⟩
 exact⟨z,us,0,r,Heap.get?_push_size _ rfl⟩
end
abbrev Sp:=List V→Hp→VK→XK→Prop
abbrev CXT:=List Env→Hp→Shared→XK→Value→Shared→Prop
structure Env0 (P:Program)(w:World)(K:PySem.W.Frag)(mg:Str→Option Value)(base:Heap)(A:Around)(outer:List Env)(s:Shared)(H:Hp):Prop where
 frames:A.frames=some outer
 mod:Mod K mg base
 bs:∀b o,base.get? b=some o→s.heap.get? b=some o∧H b=none
 bsz:base.objs.size≤s.heap.objs.size
 funs:s.heap.FunFrames base outer
 frf:∀b∈frs outer,H b=none
 hok:HOk P w H s.heap
 bare:AllBare s.gens
def CE (outer:List Env)(P:Program)(w:World)(H:Hp)(s:Shared)(Q:VK)(u:Value)(s':Shared):Prop :=
 ∃v H',s'.os=s.os∧AllBare s'.gens∧Un (frs outer) [] H H' s.heap s'.heap∧HOk P w H' s'.heap∧RelV v u∧Q v H'
def CR (CX:CXT)(outer:List Env)(P:Program)(w:World)(H:Hp)(s:Shared)(Q:VK)(E:XK)(r:Result)(s':Shared):Prop :=
 match r with
 | .ok (.ret u)=>CE outer P w H s Q u s'
 | .ok _=>False
 | .error e=>CX outer H s E e s'
structure FnOk (P:Program)(w:World)(K:PySem.W.Frag)(mg:Str→Option Value)(base:Heap)(CX:CXT)(k:Nat)(f:Addr)(fd:FuncData)(ps:List Str)(sp:Sp):Prop where
 len:∀vs H Q E,sp vs H Q E→vs.length=ps.length
 run:∀(A:Around) (outer:List Env) (s:Shared) (H:Hp) (args:Args) (us:List Value) (vs:List V) (Q:VK) (E:XK),Room k A→Env0 P w K mg base A outer s H→BindsTo s fd args (ps.zip us)→Vals vs us→sp vs H Q E →
   codeAny (model P w) A (.call (.ref f) args) (CR CX outer P w H s Q E) s
theorem FnOk.mono {P:Program}{w:World}{K:PySem.W.Frag}{mg:Str→Option Value}{base:Heap}{CX:CXT}{j k:Nat}{f:Addr}{fd:FuncData}{ps:List Str}{sp:Sp}(F:FnOk P w K mg base CX j f fd ps sp)(h:j≤k) :
   FnOk P w K mg base CX k f fd ps sp:=⟨F.len,fun A outer s H args us vs Q E hr=>F.run A outer s H args us vs Q E (hr.mono h)⟩
theorem FnOk.imp {P:Program}{w:World}{K:PySem.W.Frag}{mg:Str→Option Value}{base:Heap}{CX:CXT}{k:Nat}{f:Addr}{fd:FuncData}{ps:List Str}{sp sp':Sp}(F:FnOk P w K mg base CX k f fd ps sp)
   (h:∀vs H Q E,sp' vs H Q E→sp vs H Q E):FnOk P w K mg base CX k f fd ps sp' :=
 ⟨fun vs H Q E q=>F.len vs H Q E (h _ _ _ _ q),fun A outer s H args us vs Q E hr he hb hv hs=>F.run A outer s H args us vs Q E hr he hb hv (h _ _ _ _ hs)⟩
theorem Env0.make {P:Program}{w:World}{K:PySem.W.Frag}{mg:Str→Option Value}{base:Heap}{A:Around}{outer:List Env}{s:Shared}{H:Hp}(e:Env0 P w K mg base A outer s H)(C:Addr)(us:List Value)(kw:List (Str×Value)) :
   Env0 P w K mg base (A.under (.builtin "type.__call__" ⟨.ref C::us,kw⟩)) outer s H:=⟨by first | exact e.frames | (simpa [Around.under,Code.envs,Code.isFrame,pushEnvs] using e.frames),e.mod,e.bs,e.bsz,e.funs,e.frf,e.hok,e.bare⟩
theorem Env0.in1 {P:Program}{w:World}{K:PySem.W.Frag}{mg:Str→Option Value}{base:Heap}{A:Around}{outer:List Env}{s:Shared}{H:Hp}(e:Env0 P w K mg base A outer s H) :
   Env0 P w K mg base A.in1 outer s H:=⟨e.frames,e.mod,e.bs,e.bsz,e.funs,e.frf,e.hok,e.bare⟩
section
variable {X:Cx}{pins:List (Addr×Obj)}{σ:St}{H:Hp}{s s':Shared}
theorem Inv.env0 (I:Inv X pins σ H s):Env0 X.prog X.w X.K X.mg X.base X.A X.stack s H :=
 ⟨I.ok.frames,I.ok.mod,I.bs,Nat.le_trans I.ok.bsz I.sz,I.stack,I.stkFree,I.hok,I.bare⟩
theorem Inv.after {Q:VK}{u:Value}(I:Inv X pins σ H s)(h:CE X.stack X.prog X.w H s Q u s'):EP X pins σ Q u s':=by
 obtain⟨v,H',os,bare,un,hok,r,q⟩:=h
 obtain⟨hh,g,d,t,os'⟩:=s'
 obtain rfl:os'=s.os:=os
 exact⟨v,H',I.call (h':=hh) (g':=g) (d':=d) (t':=t) (ch:=[]) un hok bare (fun b z=>absurd z (by simp)),r,q⟩
end
def Xsg (sp:Sp)(dvs:List V)(E:XK)(t:TA):TE:=fun σ H Q=>t σ H fun vs H1=>sp (vs++dvs) H1 Q E
def Xxp (C:Addr)(sp:Sp)(dvs:List V)(E:XK)(t:TA):TE:=fun σ H Q=>t σ H fun vs H1=>∀x dx,H1 x=none→H1 dx=none→dx≠x →
 sp (.ref x::(vs++dvs)) (upd (upd H1 dx (.own x)) x (.ins C dx [])) (fun v H2=>v = .non∧Q (.ref x) H2) E
def Xco (K:PySem.W.Frag)(fd:FuncData)(ps:List Str)(ds:List Value):Prop :=
 ∀(s:Shared) (us:List Value),K.In s.heap→(us++ds).length=ps.length→BindsTo s fd ⟨us,[]⟩ (ps.zip (us++ds))
theorem Xco.all {K:PySem.W.Frag}{fd:FuncData}{ps:List Str}(h:∀us:List Value,us.length=ps.length→bindArgs fd ⟨us,[]⟩=pure (ps.zip us)):Xco K fd ps []:=fun s us _ hl=>by
 rw[List.append_nil] at hl ⊢
 exact .of_eq (h us hl)
def Xfd (CX:CXT)(X:Cx)(E:XK):Prop:=∀(pins:List (Addr×Obj)) (σ:St) (H:Hp) (s:Shared) (e:Value) (s':Shared),Inv X pins σ H s→CX X.stack H s E e s'→X.xe e s'
section
variable {X:Cx}{CX:CXT}{k:Nat}{f C:Addr}{fd:FuncData}{ps:List Str}{sp:Sp}{dvs:List V}{ds:List Value}{E:XK}{x m:Str}{p pos apos:Pos}{e o:Expr}{es:List Expr}{ta:TE}{t:TA}
theorem Xnx {pins:List (Addr×Obj)}{σ:St}{H:Hp}{s:Shared}{Q:VK}{us:List Value}{vs:List V}(F:FnOk X.prog X.w X.K X.mg X.base CX k f fd ps sp)(hr:Room k X.A)(hb:Xco X.K fd ps ds)(hd:Vals dvs ds)(hx:Xfd CX X E)
   (I:Inv X pins σ H s) (r:Vals vs us) (h:sp (vs++dvs) H Q E):wpAny (model X.prog X.w) X.A (call (.ref f) us) (EP X pins σ Q) X.xe s:=by
 have r2:Vals (vs++dvs) (us++ds):=r.append hd
 have hl:(us++ds).length=ps.length:=by rw[←r2.length];exact F.len _ _ _ _ h
 refine wpAny_call (codeAny_mono (F.run X.A X.stack s H ⟨us,[]⟩ (us++ds) (vs++dvs) Q E hr I.env0 (hb s us I.kIn hl) r2 h) fun r s' hq=>?_)
 cases r with
 | error e=>exact hx pins σ H s e s' I hq
 | ok fl =>
   cases fl with
   | ret u=>exact I.after hq
   | next=>exact False.elim hq
   | brk=>exact False.elim hq
   | cont=>exact False.elim hq
theorem Xte (F:FnOk X.prog X.w X.K X.mg X.base CX k f fd ps sp)(hr:Room k X.A)(hg:Gl X x)(hm:X.mg x=some (.ref f))(hk:PySem.W.keepIn X.K (.ref f)=true)(hb:Xco X.K fd ps ds)(hd:Vals dvs ds)(hx:Xfd CX X E)
   (ha:PA X (e::es) t) (hdb:(x==("__debug__":Str))=false:=by decide) (he:starEach (e::es) X.env=(false,eval e X.env)::starEach es X.env:=by rfl) (hpl:(backTo pos (starEach es X.env)).any (·.1)=false:=by rfl) :
   PE X (.Call (.Name x p) (e::es) [] pos) (Xsg sp dvs E t):=by
 intro pins s σ H Q I h
 refine wpAny_Call_Name_kw (Xdv I hg hm ?_ hdb)
 refine PySem.W.callWith_K (h₀:=X.base) I.ok.mod.kin hk (thn (ha pos pins s σ H _ I h) fun us s1 ⟨vs,H1,I1,r,q⟩=>⟨I1.kIn,?_⟩) he hpl
 exact Xnx F hr hb hd hx I1 r q
structure Mk (K:PySem.W.Frag)(C f:Addr):Prop where
 makes:PySem.W.makesIn K C=true
 init:PySem.W.findIn K (.ref C) "__init__"=some (some (.ref f))
 fn:PySem.W.isFn K (.ref f)=true
 kp:PySem.W.keepIn K (.ref C)=true
theorem Xyg {pins:List (Addr×Obj)}{σ:St}{H:Hp}{s:Shared}{Q:VK}{us:List Value}{vs:List V}(M:Mk X.K C f)(F:FnOk X.prog X.w X.K X.mg X.base CX k f fd ps sp)(hr:Room (k+1) X.A)(hb:Xco X.K fd ps ds)(hd:Vals dvs ds)
   (hx:Xfd CX X E) (I:Inv X pins σ H s) (r:Vals vs us)
   (h:∀x dx,H x=none→H dx=none→dx≠x→sp (.ref x::(vs++dvs)) (upd (upd H dx (.own x)) x (.ins C dx [])) (fun v H2=>v = .non∧Q (.ref x) H2) E) :
   wpAny (model X.prog X.w) X.A (call (.ref C) us) (EP X pins σ Q) X.xe s:=by
 have hq:=h (s.heap.objs.size+1) s.heap.objs.size (I.hok.fresh (Nat.le_succ _)) (I.hok.fresh (Nat.le_refl _)) (Nat.ne_of_lt (Nat.lt_succ_self _))
 have I2:=Inv.made (C:=C) I
 have r2:Vals (V.ref (s.heap.objs.size+1)::(vs++dvs)) (Value.ref (s.heap.objs.size+1)::(us++ds)):=.cons rfl (r.append hd)
 have hl:(Value.ref (s.heap.objs.size+1)::us++ds).length=ps.length:=by
   have e:=r2.length
   rw[F.len _ _ _ _ hq] at e
   exact e.symm
 refine wpAny_call (Xwf (f:=f) I.kIn M.makes M.init (beq_iff_eq.mp M.fn) (codeAny_mono (F.run _ X.stack _ _ ⟨Value.ref (s.heap.objs.size+1)::us,[]⟩ (Value.ref (s.heap.objs.size+1)::(us++ds)) _ _ E (hr.make C us [])
   (I2.env0.make C us []) (hb _ (Value.ref (s.heap.objs.size+1)::us) I2.kIn hl) r2 hq) fun r s' hq'=>?_))
 cases r with
 | error e=>exact hx pins σ _ _ e s' I2 hq'
 | ok fl =>
   cases fl with
   | ret u =>
     obtain⟨v,H',I3,rv,ev,q3⟩:=I2.after hq'
     subst ev
     exact⟨rv,⟨V.ref (s.heap.objs.size+1),H',I3,rfl,q3⟩⟩
   | next=>exact False.elim hq'
   | brk=>exact False.elim hq'
   | cont=>exact False.elim hq'
theorem XGg (M:Mk X.K C f)(F:FnOk X.prog X.w X.K X.mg X.base CX k f fd ps sp)(hr:Room (k+1) X.A)(hg:Gl X x)(hm:X.mg x=some (.ref C))(hb:Xco X.K fd ps ds)(hd:Vals dvs ds)(hx:Xfd CX X E)
   (ha:PA X (e::es) t) (hdb:(x==("__debug__":Str))=false:=by decide) (he:starEach (e::es) X.env=(false,eval e X.env)::starEach es X.env:=by rfl) (hpl:(backTo pos (starEach es X.env)).any (·.1)=false:=by rfl) :
   PE X (.Call (.Name x p) (e::es) [] pos) (Xxp C sp dvs E t):=by
 intro pins s σ H Q I h
 refine wpAny_Call_Name_kw (Xdv I hg hm ?_ hdb)
 refine PySem.W.callWith_K (h₀:=X.base) I.ok.mod.kin M.kp (thn (ha pos pins s σ H _ I h) fun us s1 ⟨vs,H1,I1,r,q⟩=>⟨I1.kIn,?_⟩) he hpl
 exact Xyg M F hr hb hd hx I1 r q
end
section
variable {X:Cx}{CX:CXT}{k:Nat}{f C:Addr}{fd:FuncData}{ps ks:List Str}{sp:Sp}{E:XK}{x m:Str}{p pos apos kpos:Pos}{e o:Expr}{es:List Expr}{kws:List Keyword}{te ta:TE}{t tk:TA}{nm:Option Str}
structure KBinds (K:PySem.W.Frag)(fd:FuncData)(ps ks:List Str)(g:List Value→List Value→List Value)(gV:List V→List V→List V):Prop where
 to:∀(s:Shared) (us ws:List Value),K.In s.heap→(g us ws).length=ps.length→BindsTo s fd ⟨us,ks.zip ws⟩ (ps.zip (g us ws))
 rel:∀{vs:List V} {us:List Value} {zs:List V} {ws:List Value},Vals vs us→Vals zs ws→Vals (gV vs zs) (g us ws)
variable {g:List Value→List Value→List Value}{gV:List V→List V→List V}
end
structure FnScope (N P:List Str)(sc:Scope):Prop where
 kind:sc.kind = .function
 co:sc.isCoroutine=false
 gen:sc.isGenerator=false
 nd:N.Nodup
 pre:N.take P.length=P
 par:∀x∈P,sc.names.lookup x=some .local∨sc.names.lookup x=some .cell
 nofree:∀y∈sc.names,y.2≠.free
theorem Xlk {kindOf:Str→Option NameKind}{x:Str}:∀{binds:List (Str×Value)} {m:Str→Option Value},(∀v,(x,v) ∉ binds)→bindL kindOf binds m x=m x
 | [],_,_=>rfl
 | (n,v)::r,m,h=>by
   unfold bindL
   rw[Xlk fun w hw=>h w (List.mem_cons_of_mem _ hw)]
   split
   · have:x≠n:=by rintro rfl;exact h v List.mem_cons_self
     simp [this]
   · rfl
theorem Xmd {kindOf:Str→Option NameKind}{x:Str}:∀{binds:List (Str×Value)} {m:Str→Option Value},(∀v,(x,v) ∉ binds)→bindC kindOf binds m x=m x
 | [],_,_=>rfl
 | (n,v)::r,m,h=>by
   unfold bindC
   rw[Xmd fun w hw=>h w (List.mem_cons_of_mem _ hw)]
   split
   · rfl
   · have:x≠n:=by rintro rfl;exact h v List.mem_cons_self
     simp [this]
theorem Xli {kindOf:Str→Option NameKind}{x:Str}{v:Value}:∀{P:List Str} {vs:List Value} {i:Nat} {m:Str→Option Value},P.Nodup→P[i]?=some x→vs[i]?=some v→kindOf x=some .local →
   bindL kindOf (P.zip vs) m x=some v
 | [],_,_,_,_,h,_,_=>by simp at h
 | _::_,[],_,_,_,_,h,_=>by simp at h
 | p::P,w::vs,0,m,nd,h1,h2,hk=>by
   simp at h1 h2;subst h1;subst h2
   show bindL kindOf ((p,w)::P.zip vs) m p=_
   unfold bindL
   rw[Xlk fun v hv=>(List.nodup_cons.mp nd).1 (List.of_mem_zip hv).1,if_pos hk]
   simp
 | p::P,w::vs,i+1,m,nd,h1,h2,hk=>by
   show bindL kindOf ((p,w)::P.zip vs) m x=_
   unfold bindL
   exact Xli (i:=i) (List.nodup_cons.mp nd).2 (by simpa using h1) (by simpa using h2) hk
theorem Xlq {kindOf:Str→Option NameKind}{x:Str}{v:Value}:∀{P:List Str} {vs:List Value} {i:Nat} {m:Str→Option Value},P.Nodup→P[i]?=some x→vs[i]?=some v→kindOf x≠some .local →
   bindC kindOf (P.zip vs) m x=some v
 | [],_,_,_,_,h,_,_=>by simp at h
 | _::_,[],_,_,_,_,h,_=>by simp at h
 | p::P,w::vs,0,m,nd,h1,h2,hk=>by
   simp at h1 h2;subst h1;subst h2
   show bindC kindOf ((p,w)::P.zip vs) m p=_
   unfold bindC
   rw[Xmd fun v hv=>(List.nodup_cons.mp nd).1 (List.of_mem_zip hv).1,if_neg hk]
   simp
 | p::P,w::vs,i+1,m,nd,h1,h2,hk=>by
   show bindC kindOf ((p,w)::P.zip vs) m x=_
   unfold bindC
   exact Xlq (i:=i) (List.nodup_cons.mp nd).2 (by simpa using h1) (by simpa using h2) hk
def start (N:List Str)(vs:List V):St:=vs.map some++List.replicate (N.length-vs.length) none
def cxOf (CX:CXT)(P:Program)(w:World)(K:PySem.W.Frag)(mg:Str→Option Value)(base:Heap)(N:List Str)(qual:Str)(scope:Scope)(f:Addr)(cd:Value)(A:Around)(outer:List Env)(s:Shared)(H:Hp)(E:XK):Cx where
 prog:=P
 w:=w
 K:=K
 mg:=mg
 base:=base
 A:=A.deeper (envOfC qual scope s.heap.objs.size f cd)
 N:=N
 s₀:=s
 H₀:=H
 env:=envOfC qual scope s.heap.objs.size f cd
 outer:=outer
 stack:=envOfC qual scope s.heap.objs.size f cd::outer
 ex:=[]
 calm:=true
 fn:=fun _=>true
 pn:=[]
 xe:=fun e s'=>wpAny (model P w) (A.deeper (envOfC qual scope s.heap.objs.size f cd)) (leaving (envOfC qual scope s.heap.objs.size f cd) e) (fun _ s''=>CX outer H s E e s'') (fun e' s''=>CX outer H s E e' s'') s'
theorem Xnt {sc:Scope}{n:Nat}{x:Str}(h:sc.names.lookup x=some .cell):∃c,(cellsFrom n sc.names []).lookup x=some c:=by
 have q:=PySem.W.cellsFrom_some sc.names n [] (.inl h)
 exact Option.isSome_iff_exists.mp q
theorem Xth {CX:CXT}{P:Program}{w:World}{K:PySem.W.Frag}{mg:Str→Option Value}{base:Heap}{N ps:List Str}{qual:Str}{scope:Scope}{f:Addr}{cd:Value}{A:Around}{outer:List Env}{s s1:Shared}{H:Hp}{E:XK}{us:List Value}{vs:List V}
   (S:FnScope N ps scope) (hd:A.handled=none) (e0:Env0 P w K mg base A outer s H) (hl:vs.length=ps.length) (r:Vals vs us)
   (x:InCallC s s.heap.objs.size (bindL (envOfC qual scope s.heap.objs.size f cd).kindOf (ps.zip us) fun _=>none) (cellsFrom (s.heap.objs.size+1) scope.names []) (bindC (envOfC qual scope s.heap.objs.size f cd).kindOf (ps.zip us) fun _=>none) s1) :
   Inv (cxOf CX P w K mg base N qual scope f cd A outer s H E) [] (start N vs) H s1:=by
 have hpl:ps.length≤N.length:=by have:=congrArg List.length S.pre;rw[List.length_take] at this;omega
 obtain⟨h1,tk,rfl,hk⟩:=x.done
 have noA:∀b:Addr,b ∉ (cxOf CX P w K mg base N qual scope f cd A outer s H E).ex:=fun b z=>absurd (show b∈([]:List Addr) from z) (by simp)
 refine⟨⟨e0.mod,S.kind,rfl,rfl,Nat.le_refl _,fun y z c h1 h2=>?_,fun y hy=>?_,fun y c _ h=>?_,fun _=>hd,Around.frames_deeper e0.frames,.inr ⟨rfl,rfl⟩,fun b z=>absurd z (noA b),e0.bs,e0.bsz,fun b _ _=>noA b,fun b z=>absurd z (noA b),e0.funs,e0.frf⟩,
   rfl,e0.bare,Un.kept hk,⟨_,x.toInCall.ns,fun i y v h1 h2 h3=>?_⟩,fun y c h=>⟨_,x.cell y c h⟩,e0.hok.fresh (Nat.le_refl _),fun y c h=>?_,fun p hp=>absurd (show p∈([]:List (Addr×Obj)) from hp) (by simp),e0.hok.kept hk,?_⟩
 · exact name_of_addr x.apart (PySem.mem_of_lookup h1) (PySem.mem_of_lookup h2)
 · have hy:scope.names.lookup y=some .cell∨scope.names.lookup y=some .free:=hy
   rcases hy with hy | hy
   · exact Xnt hy
   · exact absurd rfl (S.nofree _ (PySem.mem_of_lookup hy))
 · exact Nat.le_of_lt (x.above y c (PySem.mem_of_lookup h))
 · have hi:i<vs.length:=by
     unfold start at h2
     by_cases hi:i<vs.length
     · exact hi
     · rw[List.getElem?_append_right (by simpa using hi)] at h2
       rw[List.getElem?_replicate] at h2
       split at h2 <;> cases h2
   have ha:vs[i]?=some v:=by
     unfold start at h2
     rw[List.getElem?_append_left (by simpa using hi),List.getElem?_map] at h2
     cases e:vs[i]? with
     | none=>rw[e] at h2;cases h2
     | some a=>rw[e] at h2;cases h2;rfl
   obtain⟨u,hu,rv⟩:=r.get ha
   have hp:ps[i]?=some y:=by
     rw[←S.pre,List.getElem?_take_of_lt (by omega)];exact h1
   have ndP:ps.Nodup:=by rw[←S.pre];exact S.nd.sublist (List.take_sublist _ _)
   refine⟨u,rv,?_⟩
   rcases S.par y (List.mem_of_getElem? hp) with k | k
   · exact .inl ⟨k,Xli ndP hp hu k⟩
   · obtain⟨c,e⟩:=Xnt (n:=s.heap.objs.size+1) k
     refine .inr ⟨.inl k,c,e,?_⟩
     have q:=x.cell y c e
     rw[Xlq ndP hp hu (by show scope.names.lookup y≠_;rw[k];decide)] at q
     exact q
 · exact e0.hok.fresh (Nat.le_of_lt (x.above y c (PySem.mem_of_lookup h)))
 · unfold start
   show _=N.length
   rw[List.length_append,List.length_map,List.length_replicate]
   omega
theorem XHh {CX:CXT}{P:Program}{w:World}{K:PySem.W.Frag}{mg:Str→Option Value}{base:Heap}{k:Nat}{f:Addr}{name qual:Str}{params:Arguments}{body:List Stmt}{scope:Scope}{dV kV doc pm cdv ct oc:Value}{an od:Option Addr}
   {osl:Array (Option Value)} {N ps:List Str} {sp:Sp} (lk:K.lookup f=some ⟨oc,od,.func (PySem.W.fnOf name qual params body scope dV kV doc pm an cdv ct),osl⟩) (hcd:PySem.W.codeIn K cdv qual=true) (S:FnScope N ps scope)
   (len:∀vs H Q E,sp vs H Q E→vs.length=ps.length)
   (hbody:∀(A:Around) (outer:List Env) (s:Shared) (H:Hp) (vs:List V) (Q:VK) (E:XK),Room k (A.deeper (envOfC qual scope s.heap.objs.size f cdv))→sp vs H Q E →
     ∃t,PSs (cxOf CX P w K mg base N qual scope f cdv A outer s H E) body t∧t { nx:=fun _ H'=>Q .non H',rt:=Q } (start N vs) H) :
   FnOk P w K mg base CX (k+1) f (PySem.W.fnOf name qual params body scope dV kV doc pm an cdv ct) ps sp:=by
 refine⟨len,fun A outer s H args us vs Q E hr e0 hb r hsp=>?_⟩
 have hl:=len _ _ _ _ hsp
 have KX:K.In s.heap:=e0.mod.kin.keeps fun b o e=>(e0.bs b o e).1
 have lim:s.heap.NoLimit:=e0.mod.nolimit.keeps fun b o e=>(e0.bs b o e).1
 have hkind:∀y∈ps.zip us,scope.names.lookup y.1=some .local∨(scope.names.lookup y.1=some .cell∧((cellsFrom (s.heap.objs.size+1) scope.names []).lookup y.1).isSome=true):=fun ⟨n,v⟩ hy=>by
   rcases S.par n (List.of_mem_zip hy).1 with q | q
   · exact .inl q
   · exact .inr ⟨q,PySem.W.cellsFrom_some _ _ _ (.inl q)⟩
 refine codeAny_call_function hr.depth (KX _ _ lk) rfl S.co S.gen rfl (PySem.W.codeRec_of KX hcd) (hb _ _ _ _ ?_)
 refine wpAny_newFunctionEnv_cells S.kind hkind fun env he s1 x=>?_
 subst he
 refine⟨lim.keeps x.toInCall.keep,codeAny_func ?_⟩
 obtain⟨t,ht,hq⟩:=hbody A outer s H vs Q E (hr.deeper _) hsp
 have I:Inv (cxOf CX P w K mg base N qual scope f cdv A outer s H E) [] (start N vs) H s1:=Xth S hr.hd e0 hl r x
 refine wpAny_mono (ht [] s1 (start N vs) H _ I hq) (fun fl s' hs=>?_) fun e s' hs=>hs
 have fin:∀{σ':St} {H':Hp} {v:V} {u:Value},Inv (cxOf CX P w K mg base N qual scope f cdv A outer s H E) [] σ' H' s'→RelV v u→Q v H'→CE outer P w H s Q u s' :=
   fun {σ' H' v u} J rv q=>⟨v,H',J.os,J.bare,J.base,J.hok,rv,q⟩
 cases fl with
 | ret u =>
   obtain⟨v,σ',H',J,rv,q⟩:=hs
   exact fin J rv q
 | next =>
   obtain⟨σ',H',J,q⟩:=hs
   exact fin (v:=V.non) (u:=Value.none) J rfl q
 | brk =>
   obtain⟨_,_,_,q⟩:=hs
   exact False.elim q
 | cont =>
   obtain⟨_,_,_,q⟩:=hs
   exact False.elim q
end L2
namespace L2
open PySem PySem.Spec PyProof.Rows
section
variable {X:Cx}{x:Str}{p pos:Pos}{e:Expr}{es:List Expr}{t:TA}{id T:String}{r:List V→Hp→VK→Prop}
def tCB (r:List V→Hp→VK→Prop)(t:TA):TE:=fun σ H Q=>t σ H fun vs H1=>r vs H1 Q
theorem Xar (hc:Xgq X (.builtin id) r)(hg:Gl X x)(hm:X.mg x=none)(hv:bootBuiltins x=some (.builtin id))(ha:PA X (e::es) t)(hn:x≠"__name__":=by decide)(hdb:(x==("__debug__":Str))=false:=by decide)
   (he:starEach (e::es) X.env=(false,eval e X.env)::starEach es X.env:=by rfl) (hpl:(backTo pos (starEach es X.env)).any (·.1)=false:=by rfl):PE X (.Call (.Name x p) (e::es) [] pos) (tCB r t):=by
 intro pins s σ H Q I h
 refine wpAny_Call_Name_kw (Xml I hg hm hv ?_ hn hdb)
 exact PyProof.Rows.callWith_builtin1 (thn (ha pos pins s σ H _ I h) fun us s1 ⟨vs,H1,I1,r1,q1⟩=>hc pins s1 σ H1 vs us Q I1 r1 q1) he hpl
theorem Xcx (hc:Xgq X (.type T) r)(hg:Gl X x)(hm:X.mg x=none)(hv:bootBuiltins x=some (.type T))(ha:PA X (e::es) t)(hn:x≠"__name__":=by decide)(hdb:(x==("__debug__":Str))=false:=by decide)
   (he:starEach (e::es) X.env=(false,eval e X.env)::starEach es X.env:=by rfl) (hpl:(backTo pos (starEach es X.env)).any (·.1)=false:=by rfl):PE X (.Call (.Name x p) (e::es) [] pos) (tCB r t):=by
 intro pins s σ H Q I h
 refine wpAny_Call_Name_kw (Xml I hg hm hv ?_ hn hdb)
 exact PyProof.Rows.callWith_type1 (thn (ha pos pins s σ H _ I h) fun us s1 ⟨vs,H1,I1,r1,q1⟩=>hc pins s1 σ H1 vs us Q I1 r1 q1) he hpl
end
end L2
namespace HT
open PySem PyProof.Rows
def lexLt:List Int→List Int→Bool
 | [],[]=>false
 | [],_::_=>true
 | _::_,[]=>false
 | x::xs,y::ys=>if x=y then lexLt xs ys else decide (x<y)
theorem Xoy (x y:Int)(xs ys:List Int):lexLt (x::xs) (y::ys)=if x=y then lexLt xs ys else decide (x<y):=rfl
theorem Xlb:lexLt [] []=false:=rfl
theorem Xis (y:Int)(ys:List Int):lexLt [] (y::ys)=true:=rfl
theorem Xir (x:Int)(xs:List Int):lexLt (x::xs) []=false:=rfl
theorem Xxs (A:Around)(s:Shared)(a:Int)(t:Tok)(c:Int)(u:Tok):∃e,SeqAt.EqAt A s (.int a t) (.int c u) e∧(e=true↔a=c) :=
 ⟨(a==c),SeqAt.EqAt.int_int a t c u,by simp⟩
theorem Xwo (A:Around)(s:Shared)(a:Int)(t:Tok)(c:Int)(u:Tok)(prog:Program)(w:World)(E:Value→Shared→Prop)(Q:Value→Shared→Prop)(h:Q (.bool (decide (a<c))) s) :
   wpAny (model prog w) A (richCompare .Lt (.int a t) (.int c u)) Q E s :=
 (PyProof.Rows.lt_int h:wpAny (model prog w) A (compareOp .Lt (.int a t) (.int c u)) Q E s)
section
open PySem.SeqAt
open PySem.AutoSeq1 (wpAny_loadPart')
open PySem.MeetsSeq PySem.MeetsSeq2 PySem.MeetsSeq3
theorem Xjw (l b:Addr)(items items2:Array Value)(n n2:Nat)(dd dd2:Option Addr)(sl sl2:Array (Option Value))(ns ms:List Int)(hi:IntsAre items.toList ns)(hj:IntsAre items2.toList ms) :
   Meets (Builtin.«tuple.__lt__» ⟨[.ref l,.ref b],[]⟩)
     (fun _ R s=>s.heap.get? l=some { cls:=.type "tuple",dict:=dd,data:=.seq items n,slots:=sl }∧s.heap.get? b=some { cls:=.type "tuple",dict:=dd2,data:=.seq items2 n2,slots:=sl2 } ∧
       R (.ok (.ret (.bool (lexLt ns ms)))) s) :=
 .of_wp fun prog w A R s h=>by
   obtain⟨hp,g,d,tk,os⟩:=s;obtain⟨hl,hb,h⟩:=h
   have f2:=AutoSeq1.sub_tuple_tuple
   have z1:items.size=ns.length:=by rw[←hi.length];simp
   have z2:items2.size=ms.length:=by rw[←hj.length];simp
   wp_walk using wpAny_loadPart' hl,wpAny_loadPart' hb,wpAny_forIn_list _ (fun rest b s'=>b.1=none∧s'=⟨hp,g,d,tk,os⟩∧∃(vs ws:List Value) (ns' ms':List Int),rest=vs.zip ws ∧
     IntsAre vs ns'∧IntsAre ws ms'∧ns'.length+items2.size=ms'.length+items.size∧R (.ok (.ret (.bool (lexLt ns' ms')))) ⟨hp,g,d,tk,os⟩) _
   case turn =>
     rintro⟨y,x⟩ rest b s' ⟨hb',rfl,vs,ws,ns',ms',hz,hvi,hwi,hlen,hR⟩
     cases hvi with
     | nil=>rw[List.zip_nil_left] at hz;cases hz
     | cons a t hvi' =>
       cases hwi with
       | nil=>rw[List.zip_nil_right] at hz;cases hz
       | cons c u hwi' =>
         rw[List.zip_cons_cons] at hz
         injection hz with hyx hrest
         injection hyx with hy hx
         subst hy hx
         rw[Xoy] at hR
         simp only [List.length_cons] at hlen
         obtain⟨e,he,hiff⟩:=Xxs A.in1 ⟨hp,g,d,tk,os⟩ a t c u
         refine wpAny_bind (he prog w _ _ ?_)
         cases e with
         | true =>
           rw[if_pos (hiff.mp rfl)] at hR
           wp_walk
           exact⟨rfl,rfl,_,_,_,_,hrest,hvi',hwi',by omega,hR⟩
         | false =>
           rw[if_neg (fun q=>absurd (hiff.mpr q) Bool.false_ne_true)] at hR
           have hri:=Xwo A.in1 ⟨hp,g,d,tk,os⟩ a t c u prog w
           wp_walk using hri
           exact⟨_,rfl,by simpa using hR⟩
   case fin =>
     rintro⟨b1,b2⟩ s' ⟨hb',rfl,vs,ws,ns',ms',hz,hvi,hwi,hlen,hR⟩
     simp only at hb'
     subst hb'
     have hv:lexLt ns' ms'=decide (items.size<items2.size):=by
       cases hvi with
       | nil =>
         cases hwi with
         | nil =>
           simp only [List.length_nil] at hlen
           rw[Xlb]
           exact(decide_eq_false (by omega)).symm
         | cons c u hw =>
           simp only [List.length_nil,List.length_cons] at hlen
           rw[Xis]
           exact(decide_eq_true (by omega)).symm
       | cons a t hv =>
         cases hwi with
         | nil =>
           simp only [List.length_nil,List.length_cons] at hlen
           rw[Xir]
           exact(decide_eq_false (by omega)).symm
         | cons c u hw =>
           rw[List.zip_cons_cons] at hz
           cases hz
     rw[hv] at hR
     wp_walk
     exact⟨_,rfl,by simpa [Builtin.Tuple.tupleCompareSizes] using hR⟩
   case h =>
     exact⟨rfl,rfl,items.toList,items2.toList,ns,ms,rfl,hi,hj,by omega,h⟩
end
section
variable {prog:Program}{w:World}{A:Around}{E:Value→Shared→Prop}{s:Shared}
theorem lt_tupInts {l b:Addr}{items items2:Array Value}{ns ms:List Int}{Q:Value→Shared→Prop}(hl:IsTup s.heap l items)(hb:IsTup s.heap b items2)(hi:IntsAre items.toList ns)(hj:IntsAre items2.toList ms)
   (hu:A.units<cLine) (h:Q (.bool (lexLt ns ms)) s):wpAny (model prog w) A (compareOp .Lt (.ref l) (.ref b)) Q E s:=by
 obtain⟨⟨cls,dd,data,sl⟩,ho,hc,n,hd⟩:=id hl
 obtain⟨⟨cls2,dd2,data2,sl2⟩,ho2,hc2,n2,hd2⟩:=id hb
 simp only at hc hd hc2 hd2
 subst hc hd hc2 hd2
 exact richCompare_meets_room (op:=.Lt) ⟨_,ho,rfl⟩ ⟨_,ho2,rfl⟩ PySem.F.slot_tuple_lt PySem.F.entry_tuple_lt (PySem.F.args_tuple_lt_2 _ _) (Xjw l b items items2 n n2 dd dd2 sl sl2 ns ms hi hj)
   ⟨ho,ho2,show Value.bool (lexLt ns ms)≠Value.notImplemented∧Q (.bool (lexLt ns ms)) s from ⟨(fun x=>nomatch x),h⟩⟩ hu
def sIx (n d:Nat):Option Int→Nat
 | none=>d
 | some v=>if v<0 then (v+(n:Int)).toNat else min v.toNat n
end
end HT
namespace L2
open PySem PySem.Spec PyProof.Rows
abbrev TO:=St→Hp→(Option Int→Hp→Prop)→Prop
def PO (X:Cx)(e:Option Expr)(t:TO):Prop :=
 ∀(pins:List (Addr×Obj)) (s:Shared) (σ:St) (H:Hp) (Q:Option Int→Hp→Prop),Inv X pins σ H s→t σ H Q →
   wpAny (model X.prog X.w) X.A (evalPart e X.env) (fun u s'=>∃o H',Inv X pins σ H' s'∧IsPart u o∧Q o H') X.xe s
def XIt (t:TE):TO:=fun σ H Q=>t σ H fun x H1=>∃i,x = .int i∧Q (some i) H1
theorem Xeq {ns:List Int}:∀{us:List Value},Vals (ns.map V.int) us→IntsAre us ns:=by
 induction ns with
 | nil=>intro us r;rw[List.map_nil] at r;cases r;exact .nil
 | cons n ns ih =>
   intro us r
   rw[List.map_cons] at r
   cases r with
   | cons r1 r2 =>
     obtain⟨t,e⟩:=r1
     subst e
     exact .cons n t (ih r2)
section
variable {X:Cx}{e:Expr}{te:TE}{lo hi:Option Expr}{tl th:TO}{pos p2:Pos}
theorem Xks (h:PE X e te):PO X (some e) (XIt te):=by
 intro pins s σ H Q I hw
 rw[evalPart_some]
 refine thn (h pins s σ H _ I hw) fun u s1 ⟨x,H1,I1,r1,q1⟩=>?_
 obtain⟨i,rfl,q⟩:=q1
 obtain⟨t,rfl⟩:=r1
 exact⟨some i,H1,I1,.int i t,q⟩
def SlR (X:Cx)(r:V→Option Int→Option Int→Hp→VK→Prop):Prop :=
 ∀(pins:List (Addr×Obj)) (s:Shared) (σ:St) (H:Hp) (x:V) (v vl vu:Value) (lo hi:Option Int) (sl:Addr) (Q:VK),Inv X pins σ H s→RelV x v→s.heap.IsSliceOf sl vl vu .none→IsPart vl lo→IsPart vu hi→r x lo hi H Q →
   ∃T id,typeLookup (.type T) "__getitem__"=pure (some (.builtin id))∧s.TypeIs v T∧wpAny (model X.prog X.w) X.A (getItem v (.ref sl)) (EP X pins σ Q) X.xe s
def tSl (r:V→Option Int→Option Int→Hp→VK→Prop)(te:TE)(tl th:TO):TE:=fun σ H Q=>te σ H fun x H1=>tl σ H1 fun l H2=>th σ H2 fun u H3=>r x l u H3 Q
theorem Xog {r:V→Option Int→Option Int→Hp→VK→Prop}(hr:SlR X r)(he:PE X e te)(hl:PO X lo tl)(hu:PO X hi th):PE X (.Subscript e (.Slice lo hi none p2) pos) (tSl r te tl th):=by
 intro pins s σ H Q I h
 refine Subscript_ (thn (he pins s σ H _ I h) fun v s1 ⟨x,H1,I1,r1,q1⟩=>?_)
 refine wpAny_Slice (thn (hl pins s1 σ H1 _ I1 q1) fun vl s2 ⟨l,H2,I2,pl,q2⟩=>thn (hu pins s2 σ H2 _ I2 q2) fun vu s3 ⟨u,H3,I3,pu,q3⟩=>?_)
 rw[evalPart_none]
 refine wpAny_pure ?_
 have I4:Inv X pins σ H3 { s3 with heap:=s3.heap.push { cls:=.type "slice",data:=.fields #[vl,vu,.none] } }:=I3.kept (t':=s3.toks) fun b ob q=>Heap.get?_push_of_some _ q
 obtain⟨T,id,hT,ht,hg⟩:=hr pins { s3 with heap:=s3.heap.push { cls:=.type "slice",data:=.fields #[vl,vu,.none] } } σ H3 x v vl vu l u s3.heap.objs.size Q I4 r1 (Heap.IsSliceOf.new ..) pl pu q3
 show wpAny (model X.prog X.w) X.A (subscriptTail e (.Slice lo hi none p2) v (.ref s3.heap.objs.size)) (EP X pins σ Q) X.xe { s3 with heap:=s3.heap.push { cls:=.type "slice",data:=.fields #[vl,vu,.none] } }
 exact tail_any (ops:=[.ref s3.heap.objs.size,v]) ht hT hg (by with_unfolding_all rfl)
def cutV (xs:List V)(lo hi:Option Int):List V:=(xs.drop (HT.sIx xs.length 0 lo)).take (HT.sIx xs.length xs.length hi-HT.sIx xs.length 0 lo)
theorem Xno (xs:List V)(lo hi:Option Int):(cutV xs lo hi).length≤xs.length:=by
 unfold cutV
 rw[List.length_take,List.length_drop]
 omega
end
end L2
namespace L2
open PySem PySem.Spec PyProof.Rows
def ixN (n:Nat)(i:Int):Option Nat:=if 0≤i then (if i<n then some i.toNat else none) else if -(n:Int)≤i then some (i+n).toNat else none
def atI {α:Type}(xs:List α)(i:Int):Option α:=(ixN xs.length i).bind fun j=>xs[j]?
theorem Xse {n:Nat}{i:Int}{j:Nat}(h:ixN n i=some j):seqIndex? i n=some j∧j<n∧-(n:Int)≤i∧i<n:=by
 unfold ixN at h
 by_cases h0:0≤i
 · rw[if_pos h0] at h
   by_cases h1:i<n
   · rw[if_pos h1] at h
     have e:i.toNat=j:=Option.some.inj h
     exact⟨by rw[seqIndex_of h0 h1,e],by omega,by omega,h1⟩
   · rw[if_neg h1] at h;cases h
 · rw[if_neg h0] at h
   by_cases h1 : -(n:Int)≤i
   · rw[if_pos h1] at h
     have e:(i+n).toNat=j:=Option.some.inj h
     exact⟨by rw[seqIndex_neg (by omega) h1,e],by omega,h1,by omega⟩
   · rw[if_neg h1] at h;cases h
theorem Xqe {α:Type}{xs:List α}{i:Int}{v:α}(h:atI xs i=some v):∃j,seqIndex? i xs.length=some j∧xs[j]?=some v∧j<xs.length∧-(xs.length:Int)≤i∧i<xs.length:=by
 unfold atI at h
 cases e:ixN xs.length i with
 | none=>rw[e] at h;cases h
 | some j =>
   rw[e] at h
   obtain⟨h1,h2,h3,h4⟩:=Xse e
   exact⟨j,h1,h,h2,h3,h4⟩
theorem Xid {α:Type}{xs:List α}{j:Nat}{v:α}(h:xs[j]?=some v):atI xs (j:Int)=some v:=by
 have hj:j<xs.length:=(List.getElem?_eq_some_iff.mp h).1
 have e:ixN xs.length (j:Int)=some j:=by
   unfold ixN
   rw[if_pos (by omega),if_pos (by omega)];simp
 unfold atI;rw[e];exact h
theorem Xwt {α:Type}(xs:List α)(v:α):atI (xs++[v]) (-1)=some v:=by
 have hl:(xs++[v]).length=xs.length+1:=by simp
 have e:ixN (xs++[v]).length (-1)=some xs.length:=by
   unfold ixN
   rw[hl,if_neg (by decide),if_pos (by omega)]
   congr 1
   omega
 unfold atI
 rw[e]
 show (xs++[v])[xs.length]?=some v
 simp
def XDh (b:Expr):Prop:=∀o i,subscripted b false o i=operate [o,i] (getItem o i)
def IxR (X:Cx)(r:R2):Prop :=
 ∀(value slice:Expr) (pins:List (Addr×Obj)) (s:Shared) (σ:St) (H:Hp) (x y:V) (v u:Value) (Q:VK),Inv X pins σ H s→RelV x v→RelV y u→r x y H Q →
   subscripted slice false v u=operate [v,u] (getItem v u)→wpAny (model X.prog X.w) X.A (subscriptTail value slice v u) (EP X pins σ Q) X.xe s
def MtR (X:Cx)(id:String)(r:V→List V→Hp→VK→Prop):Prop :=
 ∀(pins:List (Addr×Obj)) (s:Shared) (σ:St) (H:Hp) (x:V) (xs:List V) (v:Value) (us:List Value) (Q:VK),Inv X pins σ H s→RelV x v→Vals xs us→r x xs H Q →
   wpAny (model X.prog X.w) X.A (call (.builtin id) (v::us)) (EP X pins σ Q) X.xe s
section
variable {X:Cx}{a b:Expr}{ta tb:TE}{pos:Pos}
theorem Xbn {r:R2}(hr:IxR X r)(ha:PE X a ta)(hb:PE X b tb)(hs:XDh b):PE X (.Subscript a b pos) (tOp r ta tb):=by
 intro pins s σ H Q I h
 exact Subscript_ (binT ha hb I h fun v u s2 x y H2 I2 rx ry q=>hr a b pins s2 σ H2 x y v u Q I2 rx ry q (hs _ _))
def rIxL (K:PySem.W.Frag):R2:=fun x y H Q=>∃p xs i v,x = .ref p∧y = .int i∧SqL K H p xs∧atI xs i=some v∧Q v H
def rIxT (K:PySem.W.Frag):R2:=fun x y H Q=>∃p xs i v,x = .ref p∧y = .int i∧SqT K H p xs∧atI xs i=some v∧Q v H
theorem Xbe:IxR X (rIxL X.K):=by
 intro value slice pins s σ H x y v u Q I rx ry h hs
 obtain⟨p,xs,i,z,rfl,rfl,hq,he,q⟩:=h
 cases rx
 obtain⟨t,rfl⟩:=ry
 obtain⟨its,r,pl,hz⟩:=I.list hq
 obtain⟨j,h1,h2,h3,h4,h5⟩:=Xqe he
 obtain⟨w,ew,rw'⟩:=r.get h2
 have hl:=r.length
 have hn:=Xly
 have fin:EP X pins σ Q w s:=⟨z,H,I,rw',q⟩
 by_cases h0:0≤i
 · have hj:i.toNat=j:=by
     rw[seqIndex_of h0 h5] at h1
     exact Option.some.inj h1
   exact item_listR pl.isList h0 (by omega) (by rw[hj];simpa using ew) fin hs
 · have hj:(i+(its.toArray.size:Int)).toNat=j:=by
     rw[seqIndex_neg (by omega) h4] at h1
     rw[List.size_toArray,←hl]
     exact Option.some.inj h1
   exact subscriptTail_builtinR (x:=w) pl.isList.typeIs slot_list_getitem.lookup
     (wpAny_getItem_list_neg (Q:=fun r s'=>r=w∧EP X pins σ Q r s') pl.isList (by omega) (by rw[List.size_toArray] <;> omega) (by omega) (by rw[hj];simpa using ew) ⟨rfl,fin⟩) hs
theorem Xho:IxR X (rIxT X.K):=by
 intro value slice pins s σ H x y v u Q I rx ry h hs
 obtain⟨p,xs,i,z,rfl,rfl,hq,he,q⟩:=h
 cases rx
 obtain⟨t,rfl⟩:=ry
 obtain⟨its,r,pl,hz⟩:=I.tuple hq
 obtain⟨j,h1,h2,h3,h4,h5⟩:=Xqe he
 obtain⟨w,ew,rw'⟩:=r.get h2
 have hl:=r.length
 have hn:=Xly
 have fin:EP X pins σ Q w s:=⟨z,H,I,rw',q⟩
 exact subscriptTail_builtinR (x:=w) pl.typeIs slot_tuple_getitem.lookup
   (getItem_tuple (j:=j) (Q:=fun r s'=>r=w∧EP X pins σ Q r s') pl (by omega) (by omega) (by rw[List.size_toArray,←hl];exact h1) (by simpa using ew) ⟨rfl,fin⟩) hs
theorem Xpv (its:List Value)(n j:Nat)(u:Value):Obj.mapSeq (·.setIfInBounds j u) { cls:=.type "list",data:=.seq its.toArray n }={ cls:=.type "list",data:=.seq (its.set j u).toArray n }:=by
 simp [Obj.mapSeq]
theorem Inv.lst {pins:List (Addr×Obj)}{σ:St}{H:Hp}{s:Shared}{p:Addr}{xs:List V}(I:Inv X pins σ H s)(h:H p=some (.lst xs)) :
   ∃(its:List Value) (n:Nat),Vals xs its∧s.heap.get? p=some { cls:=.type "list",data:=.seq its.toArray n }∧xs.length≤sizeLine:=by
 obtain⟨z,its,n,r,e⟩:=I.hok p _ h
 exact⟨its,n,r,e,z⟩
theorem Inv.lstUpd {pins:List (Addr×Obj)}{σ:St}{H:Hp}{s:Shared}{p:Addr}{xs ys:List V}{its its':List Value}{n n':Nat}{f:Obj→Obj}(I:Inv X pins σ H s)(h:H p=some (.lst xs))
   (ho:s.heap.get? p=some { cls:=.type "list",data:=.seq its.toArray n }) (hf:f { cls:=.type "list",data:=.seq its.toArray n }={ cls:=.type "list",data:=.seq its'.toArray n' }) (r:Vals ys its') (hz:ys.length≤sizeLine) (t:Nat) :
   Inv X pins σ (upd H p (.lst ys)) { s with heap:=s.heap.update p f,toks:=t }:=by
 have e:(s.heap.update p f).get? p=some { cls:=.type "list",data:=.seq its'.toArray n' }:=by
   rw[Heap.get?_update_self f ho (by rw[hf] <;> rfl),hf]
 refine I.write (x:=p) (e:=p) (by rw[h];trivial) (.inl rfl) (fun b u hb q=>(Heap.get?_update_other _ _ (Ne.symm hb)).trans q) ⟨_,e⟩ ?_
 exact⟨hz,its',n',r,e⟩
def XMs:V→V→V→Hp→(Hp→Prop)→Prop:=fun o i v H Q=>∃p xs k j,o = .ref p∧i = .int k∧H p=some (.lst xs)∧ixN xs.length k=some j∧Q (upd H p (.lst (xs.set j v)))
theorem Xfz:PSet X XMs:=by
 intro pins s σ H o i v ov iv u Q I ro ri rv h
 obtain⟨p,xs,k,j,rfl,rfl,hp,hj,q⟩:=h
 cases ro
 obtain⟨t,rfl⟩:=ri
 obtain⟨its,n,r,ho,hz⟩:=I.lst hp
 obtain⟨h1,h2,h3,h4⟩:=Xse hj
 have hl:=r.length
 have hn:=Xly
 have I':Inv X pins σ (upd H p (.lst (xs.set j v))) { s with heap:=s.heap.update p (Obj.mapSeq (·.setIfInBounds j u)) } :=
   I.lstUpd hp ho (Xpv its n j u) (r.set rv j) (by rw[List.length_set];exact hz) s.toks
 by_cases h0:0≤k
 · have hk:k.toNat=j:=by
     rw[seqIndex_of h0 h4] at h1
     exact Option.some.inj h1
   exact PySem.W.ki_setAt ho h0 (by omega) (by rw[List.size_toArray,←hl];exact h4) (by rw[hk];exact⟨_,I',q⟩)
 · have hk:(k+(its.toArray.size:Int)).toNat=j:=by
     rw[seqIndex_neg (by omega) h3] at h1
     rw[List.size_toArray,←hl]
     exact Option.some.inj h1
   exact PySem.W.ki_setBack ho (by omega) (by rw[List.size_toArray,←hl];exact h3) (by omega) (by rw[hk];exact⟨_,I',q⟩)
theorem Xmc (lo hi:Option Int)(n:Nat):(sliceBounds lo hi none n).1=((HT.sIx n 0 lo:Nat):Int)∧(sliceBounds lo hi none n).2.1=((HT.sIx n n hi:Nat):Int)∧(sliceBounds lo hi none n).2.2=1:=by
 refine⟨?_,?_,rfl⟩
 · cases lo with
   | none=>simp [sliceBounds,HT.sIx]
   | some i =>
     simp only [sliceBounds,HT.sIx,Option.getD_none,show (1:Int)>0 by decide,if_true]
     by_cases h:i<0
     · simp only [h,if_true] <;> omega
     · simp only [h,if_false] <;> omega
 · cases hi with
   | none=>simp [sliceBounds,HT.sIx]
   | some i =>
     simp only [sliceBounds,HT.sIx,Option.getD_none,show (1:Int)>0 by decide,if_true]
     by_cases h:i<0
     · simp only [h,if_true] <;> omega
     · simp only [h,if_false] <;> omega
theorem Xjy (its:List Value)(lo hi:Option Int):slicePick its.toArray lo hi none=((its.drop (HT.sIx its.length 0 lo)).take (HT.sIx its.length its.length hi-HT.sIx its.length 0 lo)).toArray:=by
 obtain⟨h1,h2,h3⟩:=Xmc lo hi its.toArray.size
 unfold slicePick
 rw[h1,h2,h3]
 simp only [sliceRange_one,pick_run,List.size_toArray] <;> rfl
def rSlL (K:PySem.W.Frag):V→Option Int→Option Int→Hp→VK→Prop:=fun x lo hi H Q=>∃a xs,x = .ref a∧SqL K H a xs∧∀p,H p=none→Q (.ref p) (upd H p (.lst (cutV xs lo hi)))
theorem Xrv:SlR X (rSlL X.K):=by
 intro pins s σ H x v vl vu lo hi sl Q I rx hs pl pu h
 obtain⟨a,xs,rfl,hx,q⟩:=h
 cases rx
 obtain⟨its,r,ht,hz⟩:=I.list hx
 have hlen:=r.length
 refine⟨"list",_,slot_list_getitem.lookup,ht.isList.typeIs,?_⟩
 refine wpAny_getItem_list_slice ht.isList hs pl pu .none (by simp) ?_ (by rw[List.size_toArray] <;> omega)
 rw[Xjy,←hlen]
 refine⟨.ref s.heap.objs.size,_,I.laid (t':=s.toks) (o:=.lst (cutV xs lo hi)) (fun b ob q=>Heap.get?_push_of_some _ q) (Nat.le_refl _) ?_,rfl,q _ (I.hok.fresh (Nat.le_refl _))⟩
 exact⟨Nat.le_trans (Xno xs lo hi) hz,_,0,(r.drop (HT.sIx xs.length 0 lo)).take (HT.sIx xs.length xs.length hi-HT.sIx xs.length 0 lo),Heap.get?_push_size _ rfl⟩
def Xdj:V→Bool
 | .non=>true
 | .bl _=>true
 | .int _=>true
 | .str _=>true
 | _=>false
def eqV:V→V→Bool
 | .non,.non=>true
 | .bl a,.bl b=>a==b
 | .bl a,.int b=>(if a then 1 else 0)==b
 | .int a,.bl b=>a==(if b then 1 else 0)
 | .int a,.int b=>a==b
 | .str a,.str b=>a==b
 | _,_=>false
theorem Xqv {A:Around}{s:Shared}{y x:V}{u v:Value}(ry:RelV y u)(rx:RelV x v)(fy:Xdj y=true)(fx:Xdj x=true):SeqAt.EqAt A s u v (eqV y x):=by
 cases y with
 | non =>
   cases ry
   cases x with
   | non=>cases rx;exact SeqAt.EqAt.same _
   | bl b=>cases rx;exact SeqAt.EqAt.none_bool b
   | int b=>obtain⟨t,rfl⟩:=rx;exact SeqAt.EqAt.none_int b t
   | str b=>obtain⟨t,rfl⟩:=rx;exact SeqAt.EqAt.none_str b t
   | _=>exact absurd (show false=true from fx) Bool.false_ne_true
 | bl a =>
   cases ry
   cases x with
   | non=>cases rx;exact SeqAt.EqAt.bool_none a
   | bl b=>cases rx;exact SeqAt.EqAt.bool_bool a b
   | int b=>obtain⟨t,rfl⟩:=rx;exact SeqAt.EqAt.bool_int a b t
   | str b=>obtain⟨t,rfl⟩:=rx;exact SeqAt.EqAt.bool_str a b t
   | _=>exact absurd (show false=true from fx) Bool.false_ne_true
 | int a =>
   obtain⟨t',rfl⟩:=ry
   cases x with
   | non=>cases rx;exact SeqAt.EqAt.int_none a t'
   | bl b=>cases rx;exact SeqAt.EqAt.int_bool a t' b
   | int b=>obtain⟨t,rfl⟩:=rx;exact SeqAt.EqAt.int_int a t' b t
   | str b=>obtain⟨t,rfl⟩:=rx;exact SeqAt.EqAt.int_str a t' b t
   | _=>exact absurd (show false=true from fx) Bool.false_ne_true
 | str a =>
   obtain⟨t',rfl⟩:=ry
   cases x with
   | non=>cases rx;exact SeqAt.EqAt.str_none a t'
   | bl b=>cases rx;exact SeqAt.EqAt.str_bool a t' b
   | int b=>obtain⟨t,rfl⟩:=rx;exact SeqAt.EqAt.str_int a t' b t
   | str b=>obtain⟨t,rfl⟩:=rx;exact SeqAt.EqAt.str_str a t' b t
   | _=>exact absurd (show false=true from fx) Bool.false_ne_true
 | _=>exact absurd (show false=true from fy) Bool.false_ne_true
def eqU (x:V)(u:Value):Bool:=match u with
 | .none=>eqV .non x
 | .bool b=>eqV (.bl b) x
 | .int i _=>eqV (.int i) x
 | .str z _=>eqV (.str z) x
 | _=>false
theorem Xzx {x y:V}{u:Value}(r:RelV y u)(f:Xdj y=true):eqU x u=eqV y x:=by
 cases y with
 | non=>cases r;rfl
 | bl b=>cases r;rfl
 | int i=>obtain⟨t,rfl⟩:=r;rfl
 | str z=>obtain⟨t,rfl⟩:=r;rfl
 | _=>exact absurd (show false=true from f) Bool.false_ne_true
theorem Xnm {x:V}:∀{xs:List V} {us:List Value},Vals xs us→xs.all Xdj=true→us.any (eqU x)=xs.any fun y=>eqV y x
 | _,_,.nil,_=>rfl
 | y::xs,u::us,.cons r t,f=>by
   rw[List.all_cons,Bool.and_eq_true] at f
   rw[List.any_cons,List.any_cons,Xzx r f.1,Xnm t f.2]
theorem Xkd {A:Around}{s:Shared}{x:V}{v:Value}(rx:RelV x v)(fx:Xdj x=true):∀{xs:List V} {us:List Value},Vals xs us→xs.all Xdj=true→∀u∈us,SeqAt.EqAt A s u v (eqU x u)
 | _,_,.nil,_=>fun u hu=>by cases hu
 | y::xs,u::us,.cons r t,f=>fun u' hu=>by
   rw[List.all_cons,Bool.and_eq_true] at f
   rcases List.mem_cons.mp hu with rfl | hu
   · rw[Xzx r f.1];exact Xqv r rx f.1 fx
   · exact Xkd rx fx t f.2 u' hu
def inV (x:V)(xs:List V):Bool:=xs.any fun y=>eqV y x
def rIn (K:PySem.W.Frag)(neg:Bool):R2:=fun x y H Q=>∃p xs,y = .ref p∧(SqL K H p xs∨SqT K H p xs)∧Xdj x=true∧xs.all Xdj=true∧Q (.bl (if neg then !inV x xs else inV x xs)) H
theorem Xhl:OpR X (compareOp .In) (rIn X.K false):=by
 intro pins s σ H x y v u Q I rx ry h
 obtain⟨p,xs,rfl,hq,fx,fs,q⟩:=h
 cases ry
 rcases hq with hq | hq
 · obtain⟨its,r,pl,hz⟩:=I.list hq
   refine SeqAt.in_listAt (eqU x) pl.isList (fun w hw=>Xkd rx fx r fs w (by simpa using hw)) ⟨.bl _,H,I,rfl,?_⟩
   rw[show its.toArray.any (eqU x)=its.any (eqU x) by simp,Xnm r fs]
   exact q
 · obtain⟨its,r,pl,hz⟩:=I.tuple hq
   refine SeqAt.in_tupleAt (eqU x) pl (fun w hw=>Xkd rx fx r fs w (by simpa using hw)) ⟨.bl _,H,I,rfl,?_⟩
   rw[show its.toArray.any (eqU x)=its.any (eqU x) by simp,Xnm r fs]
   exact q
theorem Xbb:Xgq X (.builtin "len") (fun xs H Q=>∃p ys,xs=[.ref p]∧(SqL X.K H p ys∨SqT X.K H p ys)∧Q (.int ys.length) H):=by
 intro pins s σ H xs us Q I r h
 obtain⟨p,ys,rfl,hq,q⟩:=h
 obtain⟨u,rfl,rx⟩:=Xpd r
 cases rx
 have hn:=Xly
 rcases hq with hq | hq
 · obtain⟨its,r',pl,hz⟩:=I.list hq
   have hlen:=r'.length
   exact Calls.call_len_list pl.isList (by simp only [List.size_toArray] <;> omega) ⟨.int ys.length,H,I.tok _,⟨s.toks+1,by rw[List.size_toArray,hlen]⟩,q⟩
 · obtain⟨its,r',pl,hz⟩:=I.tuple hq
   have hlen:=r'.length
   exact len_tuple pl (by simp only [List.size_toArray] <;> omega) ⟨.int ys.length,H,I.tok _,⟨s.toks+1,by rw[List.size_toArray,hlen]⟩,q⟩
theorem Xck:Xgq X (.type "list") (fun xs H Q=>∃p ys,xs=[.ref p]∧(SqL X.K H p ys∨SqT X.K H p ys)∧∀l,H l=none→Q (.ref l) (upd H l (.lst ys))):=by
 intro pins s σ H xs us Q I r h
 obtain⟨p,ys,rfl,hq,q⟩:=h
 obtain⟨u,rfl,rx⟩:=Xpd r
 cases rx
 have fin:∀(its:List Value),Vals ys its→ys.length≤sizeLine→∀(h':Heap) (c':Nat),(∀b o',s.heap.get? b=some o'→h'.get? b=some o') →
     h'.get? s.heap.objs.size=some { cls:=.type "list",dict:=none,data:=.seq its.toArray c',slots:=#[] }→EP X pins σ Q (.ref s.heap.objs.size) { s with heap:=h' }:=fun its r' hz h' c' kp e =>
   ⟨.ref s.heap.objs.size,_,I.laid (t':=s.toks) kp (Nat.le_refl _) (show Xct X.prog X.w _ h' _ (.lst ys) from ⟨hz,its,c',r',e⟩),rfl,q _ (I.hok.fresh (Nat.le_refl _))⟩
 rcases hq with hq | hq
 · obtain⟨its,r',pl,hz⟩:=I.list hq
   have hlen:=r'.length
   obtain⟨o,ho,hc,n,hd⟩:=pl.isList
   exact call_list_seq p (.inl rfl) ho hc hd (fun h' c' kp e=>fin its r' hz h' c' kp e) (by simp only [List.size_toArray] <;> omega)
 · obtain⟨its,r',pl,hz⟩:=I.tuple hq
   have hlen:=r'.length
   obtain⟨o,ho,hc,n,hd⟩:=pl
   exact call_list_seq p (.inr rfl) ho hc hd (fun h' c' kp e=>fin its r' hz h' c' kp e) (by simp only [List.size_toArray] <;> omega)
def tyV (K:PySem.W.Frag)(T:String)(x:V)(H:Hp):Prop:=match x with
 | .str _=>T="str"
 | .int _=>T="int"
 | .ref p=>(T="list"∧∃xs,SqL K H p xs)∨(T="tuple"∧∃o,K.lookup p=some o∧o.cls = .type "tuple"∧o.dict=none) ∨
     (T="dict"∧((∃kvs,H p=some (.dK kvs))∨∃kvs,H p=some (.dT kvs)))∨(T="set"∧∃S n,H p=some (.set S n))
 | _=>False
theorem Xzl {pins:List (Addr×Obj)}{σ:St}{H:Hp}{s:Shared}{T:String}{x:V}{v:Value}(I:Inv X pins σ H s)(r:RelV x v)(ty:tyV X.K T x H) :
   s.TypeIs v T∧∀a,v = .ref a→∃ob,s.heap.get? a=some ob∧ob.dict=none:=by
 cases x with
 | str z =>
   obtain⟨t,rfl⟩:=r
   cases (show T="str" from ty)
   exact⟨typeIs_str s z t,fun _ e=>nomatch e⟩
 | int i =>
   obtain⟨t,rfl⟩:=r
   cases (show T="int" from ty)
   exact⟨typeIs_int s i t,fun _ e=>nomatch e⟩
 | ref p =>
   cases r
   rcases ty with ⟨rfl,xs,hq⟩ | ⟨rfl,o,hk,hc,hd⟩ | ⟨rfl,hk⟩ | ⟨rfl,S,n,hk⟩
   · obtain⟨its,_,pl,_⟩:=I.list hq
     refine⟨pl.isList.typeIs,fun a e=>?_⟩
     cases e
     obtain⟨o,n,e,c,hd,_⟩:=pl
     exact⟨o,e,hd⟩
   · refine⟨⟨o,I.kIn p o hk,hc⟩,fun a e=>?_⟩
     cases e
     exact⟨o,I.kIn _ o hk,hd⟩
   · have z:∃o,s.heap.get? p=some o∧o.ExactDict:=by
       rcases hk with ⟨kvs,hk⟩ | ⟨kvs,hk⟩
       · obtain⟨_,_,_,_,o,_,_,e,ex,_⟩:=I.hok p _ hk
         exact⟨o,e,ex⟩
       · obtain⟨_,_,_,_,o,_,_,e,ex,_⟩:=I.hok p _ hk
         exact⟨o,e,ex⟩
     obtain⟨o,e,ex⟩:=z
     refine⟨⟨o,e,ex.1⟩,fun a e2=>?_⟩
     cases e2
     exact⟨o,e,ex.2.1⟩
   · obtain⟨o,_,_,_,e,ex,_⟩:=I.hok p _ hk
     refine⟨⟨o,e,ex.1⟩,fun a e2=>?_⟩
     cases e2
     exact⟨o,e,ex.2.1⟩
 | _=>exact False.elim ty
def tBM0 (K:PySem.W.Frag)(T:String)(r:V→List V→Hp→VK→Prop)(to:TE):TE:=fun σ H Q=>to σ H fun x H1=>tyV K T x H1∧r x [] H1 Q
def tBM (K:PySem.W.Frag)(T:String)(r:V→List V→Hp→VK→Prop)(to:TE)(t:TA):TE:=fun σ H Q=>to σ H fun x H1=>tyV K T x H1∧t σ H1 fun xs H2=>r x xs H2 Q
variable {o e:Expr}{es:List Expr}{to:TE}{t:TA}{name:Str}{apos cpos:Pos}{T id:String}{r:V→List V→Hp→VK→Prop}
theorem XKn (pa:PlainAttrs T)(slot:Slot T name id)(hty:typeOf (.builtin id)=pure (.type "method_descriptor"))(hm:MtR X id r)(ho:PE X o to)
   (hbase:attributeBase o name X.env (eval o X.env)=eval o X.env:=by rfl) (hline:(apos.endLine==cpos.line)=true:=by rfl):PE X (.Call (.Attribute o name apos) [] [] cpos) (tBM0 X.K T r to):=by
 intro pins s σ H Q I h
 refine wpAny_Call_method0_late hbase hline (thn (ho pins s σ H _ I h) fun v s1 ⟨x,H1,I1,r1,ty,q1⟩=>?_)
 obtain⟨h1,h2⟩:=Xzl I1 r1 ty
 exact⟨T,id,pa,slot,hty,h1,h2,Calls.callWith_builtin rfl (PySem.evalArgs_none (hm pins s1 σ H1 x [] v [] Q I1 r1 .nil q1))⟩
theorem XLl (pa:PlainAttrs T)(slot:Slot T name id)(hty:typeOf (.builtin id)=pure (.type "method_descriptor"))(hm:MtR X id r)(ho:PE X o to)(ha:PA X (e::es) t)
   (hbase:attributeBase o name X.env (eval o X.env)=eval o X.env:=by rfl)
   (hfew:((backTo cpos (starEach (e::es) X.env)).all (fun x=>!x.1)&&(backToKw cpos (keywordEach [] X.env)).all (fun x=>x.1.isSome)
     && decide ((e::es).length+([]:List Keyword).length+(if ([]:List Keyword).isEmpty then 0 else 1)<30))=true:=by rfl)
   (hline:(apos.endLine==cpos.line)=true:=by rfl) (hs:starEach (e::es) X.env=(false,eval e X.env)::starEach es X.env:=by rfl) (hplain:(backTo cpos (starEach es X.env)).any (·.1)=false:=by rfl) :
   PE X (.Call (.Attribute o name apos) (e::es) [] cpos) (tBM X.K T r to t):=by
 intro pins s σ H Q I h
 refine wpAny_Call_method_late hbase hfew hline rfl (thn (ho pins s σ H _ I h) fun v s1 ⟨x,H1,I1,r1,ty,q1⟩=>?_)
 obtain⟨h1,h2⟩:=Xzl I1 r1 ty
 refine⟨T,id,pa,slot,hty,h1,h2,?_⟩
 have hA:=ha cpos pins s1 σ H1 _ I1 q1
 rw[hs] at hA ⊢
 refine Calls.callWith_builtin (by show (false||(backTo cpos (starEach es X.env)).any (·.1))=false;rw[hplain] <;> rfl) (Calls.evalArgs_plain ?_)
 exact thn hA fun us s2 ⟨vs,H2,I2,r2,q2⟩=>hm pins s2 σ H2 x vs v us Q I2 r1 r2 q2
/- xs.append(e),list.index on a module's tuple .. are MtR facts of 06m -/
end
end L2
namespace L2
open PySem PySem.Spec PyProof.Rows
def MtM (X:Cx)(id:String)(r:V→List V→Hp→VK→Prop):Prop :=
 ∀(pins:List (Addr×Obj)) (s:Shared) (σ:St) (H:Hp) (x:V) (xs:List V) (v:Value) (us:List Value) (Q:VK),Inv X pins σ H s→RelV x v→Vals xs us→r x xs H Q →
   wpAny (model X.prog X.w) X.A (call (.builtin id) (v::us)) (EP X pins σ Q) X.xe s
theorem Vals.one:∀{x:V} {us:List Value},Vals [x] us→∃u,us=[u]∧RelV x u
 | _,_,.cons r .nil=>⟨_,rfl,r⟩
theorem Vals.zero:∀{us:List Value},Vals [] us→us=[]
 | _,.nil=>rfl
theorem Vals.dropLast {xs:List V}{us:List Value}(h:Vals xs us):Vals xs.dropLast us.dropLast:=by
 induction h with
 | nil=>exact .nil
 | cons r t ih =>
   cases t with
   | nil=>exact .nil
   | cons q t'=>exact .cons r ih
theorem Vals.rep {xs:List V}{us:List Value}(h:Vals xs us):∀k:Nat,Vals (List.replicate k xs).flatten (List.replicate k us).flatten
 | 0=>.nil
 | k+1=>by
   rw[List.replicate_succ,List.replicate_succ,List.flatten_cons,List.flatten_cons]
   exact Vals.append h (Vals.rep h k)
theorem Xlj (its:List Value):∀(k:Nat) (acc:List Value),
   List.foldl (fun x1 x2=>x1++x2) acc.toArray (List.replicate k its.toArray)=(acc++(List.replicate k its).flatten).toArray
 | 0,acc=>by simp
 | k+1,acc=>by
   have e:acc.toArray++its.toArray=(acc++its).toArray:=by simp
   have e2:(acc++its)++(List.replicate k its).flatten=acc++(List.replicate (k+1) its).flatten:=by
     rw[List.replicate_succ,List.flatten_cons,List.append_assoc]
   rw[←e2,←Xlj its k (acc++its),←e,List.replicate_succ,List.foldl_cons]
section
variable {X:Cx}{pins:List (Addr×Obj)}{σ:St}{H:Hp}{s:Shared}{l b:Addr}{xs ys zs:List V}
theorem Inv.lset {its its':List Value}{n:Nat}{f:Array Value→Array Value}{t':Nat}(I:Inv X pins σ H s)(hH:H l=some (.lst xs))
   (e:s.heap.get? l=some { cls:=.type "list",data:=.seq its.toArray n }) (hf:f its.toArray=its'.toArray) (hv:Vals ys its') (hz:ys.length≤sizeLine) :
   Inv X pins σ (upd H l (.lst ys)) { s with heap:=s.heap.update l (Obj.mapSeq f),toks:=t' }:=by
 have q:=PySem.IsL.update e f
 rw[hf] at q
 refine I.write (x:=l) (e:=l) (by rw[hH];exact trivial) (.inl rfl) (fun b' u hb hu=>(Heap.get?_update_other s.heap (Obj.mapSeq f) (Ne.symm hb)).trans hu) ⟨_,q⟩ ?_
 exact⟨hz,its',_,hv,q⟩
theorem Inv.lnew {its:List Value}{t':Nat}(I:Inv X pins σ H s)(hv:Vals ys its)(hz:ys.length≤sizeLine) :
   Inv X pins σ (upd H s.heap.objs.size (.lst ys)) { s with heap:=s.heap.push { cls:=.type "list",data:=.seq its.toArray },toks:=t' } :=
 I.laid (fun _ _ q=>Heap.get?_push_of_some _ q) (Nat.le_refl _) ⟨hz,its,0,hv,Heap.get?_push_size _ rfl⟩
theorem Inv.fresh (I:Inv X pins σ H s):H s.heap.objs.size=none:=I.hok.fresh (Nat.le_refl _)
theorem Inv.lstM (I:Inv X pins σ H s)(hH:H l=some (.lst xs)):xs.length≤sizeLine∧∃(its:List Value) (n:Nat),Vals xs its∧xs.length=its.length∧s.heap.get? l=some { cls:=.type "list",data:=.seq its.toArray n }:=by
 obtain⟨z,its,n,r,e⟩:=I.hok l _ hH
 exact⟨z,its,n,r,r.length,e⟩
theorem Xod {n:Nat}(h:n≤sizeLine):Builtin.List.listTooLong n=false:=by
 unfold Builtin.List.listTooLong
 exact decide_eq_false (by omega)
end
section
variable {X:Cx}
def Xsc:V→List V→Hp→VK→Prop:=fun x vs H Q=>∃l xs y,x = .ref l∧vs=[y]∧H l=some (.lst xs)∧xs.length<sizeLine∧Q .non (upd H l (.lst (xs++[y])))
theorem Xhk:MtM X "list.append" Xsc:=by
 intro pins s σ H x vs v us Q I rx rv h
 obtain⟨l,xs,y,rfl,rfl,hH,hz,q⟩:=h
 cases rx
 obtain⟨u,rfl,ru⟩:=rv.one
 obtain⟨z,its,n,r,hl,e⟩:=I.lstM hH
 refine call_meets F.slot_list_append ⟨_,e,rfl⟩ F.entry_list_append (F.args_list_append_2 _ _) (PySem.list_append l its.toArray n u (by rw[List.size_toArray];omega)) ⟨e,?_⟩
 refine⟨.non,_,I.lset (its':=its++[u]) hH e (by simp) (r.append (.cons ru .nil)) ?_,rfl,q⟩
 rw[List.length_append,List.length_singleton]
 omega
def XDn:V→List V→Hp→VK→Prop:=fun x vs H Q=>∃l b xs zs,x = .ref l∧vs=[.ref b]∧H l=some (.lst xs)∧H b=some (.lst zs)∧xs.length+zs.length≤sizeLine∧Q .non (upd H l (.lst (xs++zs)))
theorem XPr:MtM X "list.extend" XDn:=by
 intro pins s σ H x vs v us Q I rx rv h
 obtain⟨l,b,xs,zs,rfl,rfl,hH,hB,hz,q⟩:=h
 cases rx
 obtain⟨u,rfl,ru⟩:=rv.one
 cases ru
 obtain⟨z,its,n,r,hl,e⟩:=I.lstM hH
 obtain⟨z2,its2,n2,r2,hl2,e2⟩:=I.lstM hB
 have hsz:its.toArray.size+its2.toArray.size≤sizeLine:=by rw[List.size_toArray,List.size_toArray];omega
 have hlong:¬(!its.toArray.isEmpty&&Builtin.List.listTooLong (its.toArray.size+its2.toArray.size))=true:=by
   rw[Xod hsz,Bool.and_false]
   exact Bool.false_ne_true
 refine call_meets F.slot_list_extend ⟨_,e,rfl⟩ F.entry_list_extend (F.args_list_extend_2 _ _)
   (AutoSeq1.list_extend_list_list_0 l its.toArray n b its2.toArray n2 hlong (by rw[List.size_toArray];omega) (by omega)) ⟨e,e2,?_⟩
 refine⟨.non,_,I.lset (its':=its++its2) hH e (by simp) (r.append r2) ?_,rfl,q⟩
 rw[List.length_append]
 omega
def rCat:R2:=fun x y H Q=>∃l b xs zs,x = .ref l∧y = .ref b∧H l=some (.lst xs)∧H b=some (.lst zs)∧xs.length+zs.length≤sizeLine∧∀p,H p=none→Q (.ref p) (upd H p (.lst (xs++zs)))
theorem Xim:OpR X (binaryOp .Add) rCat:=by
 intro pins s σ H x y v u Q I rx ry h
 obtain⟨l,b,xs,zs,rfl,rfl,hH,hB,hz,q⟩:=h
 cases rx
 cases ry
 obtain⟨z,its,n,r,hl,e⟩:=I.lstM hH
 obtain⟨z2,its2,n2,r2,hl2,e2⟩:=I.lstM hB
 refine PySem.P.add_list e e2 ?_ (by rw[List.size_toArray,List.size_toArray];omega)
 have ea:its.toArray++its2.toArray=(its++its2).toArray:=by simp
 rw[ea]
 exact⟨.ref _,_,I.lnew (t':=s.toks) (r.append r2) (by rw[List.length_append];omega),rfl,q _ I.fresh⟩
def rRep:R2:=fun x y H Q=>∃l k xs,x = .ref l∧y = .int k∧H l=some (.lst xs)∧-(2^63)≤k∧k<2^63∧xs.length*k.toNat≤sizeLine ∧
 ∀p,H p=none→Q (.ref p) (upd H p (.lst (List.replicate k.toNat xs).flatten))
theorem XAv {α:Type}(xs:List α)(k:Nat):(List.replicate k xs).flatten.length=k*xs.length:=by
 induction k with
 | zero=>simp
 | succ k ih=>rw[List.replicate_succ,List.flatten_cons,List.length_append,ih,Nat.succ_mul,Nat.add_comm]
theorem XAf:OpR X (binaryOp .Mult) rRep:=by
 intro pins s σ H x y v u Q I rx ry h
 obtain⟨l,k,xs,rfl,rfl,hH,h1,h2,hz,q⟩:=h
 cases rx
 obtain⟨t,rfl⟩:=ry
 obtain⟨z,its,n,r,hl,e⟩:=I.lstM hH
 have hlen:its.toArray.size*k.toNat≤sizeLine:=by rw[List.size_toArray,←hl];exact hz
 have hcap:¬its.toArray.size*k.toNat>(2^63-1)/8:=by
   have:(sizeLine:Nat)≤(2^63-1)/8:=by decide
   omega
 have hfit:¬(!Builtin.List.listFitsIndex k)=true:=by
   rw[fitsIndex_both h1 h2]
   exact Bool.false_ne_true
 have hlong:¬Builtin.List.listTooLong (its.toArray.size*k.toNat)=true:=by
   rw[Xod hlen]
   exact Bool.false_ne_true
 have hnew:List.foldl (fun x1 x2=>x1++x2) #[] (List.replicate (if its.toArray.isEmpty=true then 0 else k.toNat) its.toArray)=(List.replicate k.toNat its).flatten.toArray:=by
   have f0:∀m:Nat,List.foldl (fun x1 x2=>x1++x2) #[] (List.replicate m its.toArray)=(List.replicate m its).flatten.toArray:=fun m=>by
     have:=Xlj its m []
     rw[List.nil_append] at this
     exact this
   rw[f0]
   cases its with
   | nil=>simp
   | cons a r'=>rw[if_neg (by simp)]
 refine wpAny_binaryOp_repeat_ref (T:="list") (U:="int") (by decide) ⟨_,e,rfl⟩ (fun s'=>typeIs_int s' k t) noFill_list_mul F.fills_int_mul F.slot_int_rmul repeat_list F.slot_int_index.lookup
   (call_meets F.slot_int_rmul (typeIs_int s k t) F.entry_int_rmul (F.args_int_rmul_2 _ _) (int___rmul___int_list k t l its.toArray n)
     ⟨e,rfl,⟨_,e,rfl⟩,call_meets F.slot_list_mul ⟨_,e,rfl⟩ F.entry_list_mul (F.args_list_mul_2 _ _) (AutoListH.list___mul___list_int_3 l its.toArray n k t hfit hcap hlong) ⟨e,?_⟩⟩)
 rw[hnew]
 exact⟨.ref _,_,I.lnew (t':=s.toks) (r.rep k.toNat) (by rw[XAv,Nat.mul_comm];exact hz),rfl,q _ I.fresh⟩
end
section
variable {prog:Program}{w:World}{A:Around}{E:Value→Shared→Prop}{s:Shared}
end
section
variable {X:Cx}
end
end L2
namespace Att
open PySem PySem.W PySem.Calls PyProof.Rows
theorem Xhq {P:Params}{h:Heap}:∀(ns:List Int) (vs:List Value),WellAll P h vs (ns.map WData.int)→IntsAre vs ns:=by
 intro ns
 induction ns with
 | nil =>
   intro vs w
   rw[List.map_nil] at w
   cases w
   exact .nil
 | cons n ns ih =>
   intro vs w
   rw[List.map_cons] at w
   cases w with
   | cons a b =>
     cases a
     exact .cons _ _ (ih _ b)
theorem Xsk {l:OpenLaw}{n:Nat}(hn:l.most=some n){P:Params}{h:Heap}{args:List WData}{vals:List Value}
   (hpre:l.row.toRowW.claim.pre args=true) (hwl:WellAll P h vals args) :
   ∃a vs ns,vals=[Value.ref a]∧args=[WData.list (ns.map WData.int)]∧h.get? a=some { cls:=.type "list",data:=.seq vs.toArray }∧IntsAre vs ns∧ns.length≤n:=by
 have hsh:WShape.hasAll [] args [.list .int]=true:=(pre_splitW hpre).1
 have hc:l.pre.holds [] { args:=args }=true:=(pre_splitW hpre).2
 obtain⟨d,r,rfl,h1,h2⟩:=hasAllW_cons hsh
 obtain rfl:=hasAllW_nil h2
 obtain⟨xs,rfl,h3⟩:=hasW_list h1
 obtain⟨ns,rfl⟩:=items_int h3
 have hlen:ns.length≤n:=by
   unfold OpenLaw.pre at hc
   have h4:(WTm.not (.lt (.lit (.int (n:Int))) (.len (.arg 0)))).holds [] { args:=[.list (ns.map .int)] }=true:=by
     have h4:=(holds_andW hc).1
     rw[hn] at h4
     exact h4
   have h5:=condW_of h4 (w_not (w_lt w_lit (w_len_list (w_arg rfl))))
   rw[List.length_map] at h5
   refine Nat.le_of_not_lt fun q=>?_
   have q':(n:Int)<((ns.length:Nat):Int):=by omega
   first
     | (rw[decide_eq_true q'] at h5;exact absurd h5 (by decide))
     | (simp at h5;omega)
 cases hwl with
 | cons w1 w2 =>
   cases w2
   cases w1 with
   | list ho hall=>exact⟨_,_,ns,rfl,rfl,ho,Xhq ns _ hall,hlen⟩
theorem Xul (l:OpenLaw)(args:List WData):l.row.toRowW.claim.post args (.bool true) args=true :=
 postW_of (r:=l.row.toRowW) (X:=(true==true))
   (show WShape.has [] (.bool true) .bool=true by first | rfl | decide | simp [WShape.has,WShape.arms,WShape.armsAll])
   (show (WTm.eq .res (.lit (.bool true))).value [] { args:=args,res:=some (.bool true),after:=args }=some (.bool (true==true)) from w_eq_bool (w_res rfl) w_lit) rfl
theorem attach_call {l:OpenLaw}{n:Nat}{q:Program}{loose:List Str}{XP:(Str→Option Value)→Heap→Prop}{YP:World→Heap→Prop}{d:DefRec}
   (hn:l.most=some n) (hdf:d.params.defaults=[])
   (call:∀(w:World) (s₀ s₁:Shared) (mg mb:Str→Option Value) (fa:Addr) (o:Obj) (pm cd doc:Value) (a:Addr) (vs:List Value) (ns:List Int),
     Ground q loose [] XP w s₀ mg mb s₁.heap→YP w s₁.heap →
     s₁.heap.get? fa=some o→o.data = .func (docDef d.name d.params d.body d.scope pm cd doc)→s₁.heap.CodeRec cd d.name→mg d.name=some (.ref fa) →
     s₁.heap.get? a=some { cls:=.type "list",data:=.seq vs.toArray }→IntsAre vs ns→ns.length≤n→s₁.gens=#[] →
     codeAny (model l.prog w) callerA (.call (.ref fa) ⟨[.ref a],[]⟩) (fun r s'=>r = .ok (.ret (.bool true))∧OldK s₁.heap s'.heap∧s'.os=s₁.os∧AllBare s'.gens) s₁) :
   WalkO q loose XP YP l.row.toRowW d [] (fun f vs=>PySem.call f vs):=by
 intro w s₀ s₁ mg mb G Y fa o pm cd doc dV kV ho hd hcd hD hmg hg args vals as hpre hlay hrd hwl hlo
 obtain rfl:dV = .none:=Dflts.none hD hdf
 obtain rfl:kV = .none:=Dflts.noKw hD
 obtain⟨a,vs,ns,rfl,rfl,hobj,hints,hlen⟩:=Xsk hn hpre hwl
 refine enter_call (codeAny_mono (call w s₀ s₁ mg mb fa o pm cd doc a vs ns G Y ho (fd_plain hd) hcd hmg hobj hints hlen hg) fun r s' hq=>?_)
 obtain⟨rfl,h2,h3,h4⟩:=hq
 exact⟨.inl ⟨.bool true,.bool true,[],rfl,fun _=>rfl,.bool true,Xul l _,fun _=>⟨List.Pairwise.nil,fun _ hm=>(nomatch hm)⟩⟩,h2,h3,h4⟩
section
variable {prog:Program}{w:World}{A:Around}{E:Value→Shared→Prop}{s:Shared}{K:Frag}
end
end Att
namespace L2
open PySem PySem.Spec PyProof.Rows
theorem Xem:∀{vs:List Value} {ns:List Int},IntsAre vs ns→Vals (ns.map V.int) vs
 | _,_,.nil=>.nil
 | _,_,.cons n t h=>.cons ⟨t,rfl⟩ (Xem h)
def Only (H:Hp):Prop:=∀b,H b=none∨∃o xs,H b=some (.frz o (.lst xs))
theorem Xwc {P:Program}{w:World}{K:PySem.W.Frag}{mg mb:Str→Option Value}{CX:CXT}{k:Nat}{fa a:Addr}{fd:FuncData}{x:Str}{sp:Sp}{s₁:Shared}{vs:List Value}{ns:List Int}
   (KX:K.In s₁.heap) (hns:s₁.heap.Ns mainGlobals mg) (hb:s₁.heap.Ns builtinsNs mb) (hbb:∀x:Str,x≠"__name__"→mb x=bootBuiltins x) (hlim:s₁.heap.NoLimit) (hg:s₁.gens=#[])
   (ha:s₁.heap.get? a=some { cls:=.type "list",data:=.seq vs.toArray }) (hi:IntsAre vs ns) (hl:ns.length≤sizeLine) (hr:Room k callerA)
   (F:∀base:Heap,K.In base→base.Ns mainGlobals mg→FnOk P w K mg base CX k fa fd [x] sp) (hbind:∀(s:Shared) (u:Value),BindsTo s fd ⟨[u],[]⟩ [(x,u)])
   (hsp:∀H:Hp,Only H→SqL K H a (ns.map V.int)→sp [.ref a] H (fun v _=>v = .bl true) fun _ _ _=>False)
   (hCX:∀H e s',CX [] H s₁ (fun _ _ _=>False) e s'→False) :
   codeAny (model P w) callerA (.call (.ref fa) ⟨[.ref a],[]⟩) (fun r s'=>r = .ok (.ret (.bool true))∧OldK s₁.heap s'.heap∧s'.os=s₁.os∧AllBare s'.gens) s₁:=by
 have rv:=Xem hi
 have lenV:=hi.length
 -- from an abstract heap in which nothing but the script may be tracked
 have core:∀H:Hp,Only H→SqL K H a (ns.map V.int)→HOk P w H s₁.heap→(∀b,H b≠none→b=a)→(H a≠none→K.lookup a=none) →
     codeAny (model P w) callerA (.call (.ref fa) ⟨[.ref a],[]⟩) (fun r s'=>r = .ok (.ret (.bool true))∧OldK s₁.heap s'.heap∧s'.os=s₁.os∧AllBare s'.gens) s₁:=by
   intro H hO hS hok hA hK
   have base_of:∀{b:Addr} {o:Obj},s₁.heap.get? b=some o→H b=none→(hidT s₁.heap H).get? b=some o:=fun e n=>Xwh e n
   have noA:∀{b:Addr} {o:Obj} {es:Array DictEntry} {ep:Nat},s₁.heap.get? b=some o→o.data = .dict es ep→H b=none:=fun {b o es ep} e d=>by
     cases q:H b with
     | none=>rfl
     | some u =>
       have e':b=a:=hA b (by rw[q];simp)
       subst e'
       rw[ha] at e;cases e
       have d':Data.seq vs.toArray _=Data.dict es ep:=d
       cases d'
   have nsK:∀{b:Addr} {m:Str→Option Value},s₁.heap.Ns b m→(hidT s₁.heap H).Ns b m:=fun {b m} ⟨o,es,ep,e,d,r⟩=>⟨o,es,ep,base_of e (noA e d),d,r⟩
   have hKb:K.In (hidT s₁.heap H):=fun b o e=>base_of (KX b o e) (by
     cases q:H b with
     | none=>rfl
     | some u =>
       have e':b=a:=hA b (by rw[q];simp)
       subst e'
       rw[hK (by rw[q];simp)] at e;cases e)
   have hM:Mod K mg (hidT s₁.heap H):=⟨hKb,nsK hns,⟨mb,nsK hb,hbb⟩,let ⟨mc,h1,h2⟩:=hlim;⟨mc,nsK h1,h2⟩⟩
   have e0:Env0 P w K mg (hidT s₁.heap H) callerA [] s₁ H:=⟨rfl,hM,fun b o e=>XHo e,Nat.le_of_eq (Xqh _ _),trivial,fun b hb=>absurd (show b∈([]:List Addr) from hb) (by simp),hok,.of_eq hg⟩
   refine codeAny_mono ((F _ hKb (nsK hns)).run callerA [] s₁ H ⟨[.ref a],[]⟩ [.ref a] [.ref a] _ _ hr e0 (hbind s₁ (.ref a)) (.cons rfl .nil) (hsp H hO hS)) fun r s' h=>?_
   cases r with
   | error e=>exact(hCX H e s' h).elim
   | ok fl =>
     cases fl with
     | next=>exact False.elim h
     | brk=>exact False.elim h
     | cont=>exact False.elim h
     | ret u =>
       obtain⟨v,H',os,bare,un,hok',r',q⟩:=h
       have q':v = .bl true:=q
       subst q'
       obtain rfl:u=Value.bool true:=r'
       refine⟨rfl,OldK.of_keep fun b o e=>?_,os,bare⟩
       cases q:H b with
       | none=>exact un.keep b o e q (by intro z;exact absurd (show b∈([]:List Addr) from z) (by simp)) (by simp)
       | some u =>
         rcases hO b with z | ⟨ob,xs,z⟩
         · rw[q] at z;cases z
         · have z2:=un.frzs b ob _ z
           obtain⟨e1,_⟩:=hok b _ z
           obtain⟨e2,_⟩:=hok' b _ z2
           rw[e] at e1;cases e1
           exact e2
 cases hk:K.lookup a with
 | some o =>
   -- the script is one of the module's own objects
   have e:=KX a o hk
   rw[ha] at e
   cases e
   refine core (fun _=>none) (fun _=>.inl rfl) (.inr ⟨_,vs.toArray,_,hk,rfl,rfl,rfl,by rw[List.size_toArray,lenV];exact hl,by simpa using rv⟩) (fun b u z=>by have z':(none:Option HO)=some u:=z;cases z') (fun b z=>absurd rfl z) fun z=>absurd rfl z
 | none =>
   refine core (fun b=>if b=a then some (.frz { cls:=.type "list",data:=.seq vs.toArray } (.lst (ns.map V.int))) else none) (fun b=>?_) (.inl (.inr ⟨{ cls:=.type "list",data:=.seq vs.toArray },if_pos rfl⟩)) (fun b u z=>?_) (fun b z=>?_) fun _=>hk
   · by_cases hb:b=a
     · exact .inr ⟨_,_,if_pos hb⟩
     · exact .inl (if_neg hb)
   · by_cases hb:b=a
     · have z':=(if_pos hb).symm.trans z
       cases z'
       subst hb
       exact⟨ha,by rw[List.length_map];exact hl,vs,_,rv,ha⟩
     · have z':=(if_neg hb).symm.trans z
       cases z'
   · by_cases hb:b=a
     · exact hb
     · exact absurd (if_neg hb) z
end L2
namespace L2
open PySem PySem.Spec PyProof.Rows
theorem walk_of {l:PySem.W.OpenLaw}{n k:Nat}{q:Program}{loose:List Str}{XP:(Str→Option Value)→Heap→Prop}{YP:World→Heap→Prop}{d:DefRec}{K:Params→PySem.W.Frag}{CX:World→CXT}{sp:World→Sp}{x:Str}
   (hn:l.most=some n) (hn2:n≤sizeLine) (hdf:d.params.defaults=[]) (hr:Room k callerA)
   (hY:∀(w:World) (h:Heap),YP w h→(K w.params).In h)
   (F:∀(w:World) (mg:Str→Option Value) (fa:Addr) (h:Heap),(K w.params).In h→h.Ns mainGlobals mg→mg d.name=some (.ref fa) →
     ∃fd:FuncData,(∀(s:Shared) (u:Value),BindsTo s fd ⟨[u],[]⟩ [(x,u)]) ∧
       ∀base:Heap,(K w.params).In base→base.Ns mainGlobals mg→FnOk l.prog w (K w.params) mg base (CX w) k fa fd [x] (sp w))
   (hsp:∀(w:World) (H:Hp) (a:Addr) (ns:List Int),ns.length≤n→Only H→SqL (K w.params) H a (ns.map V.int)→sp w [.ref a] H (fun v _=>v = .bl true) fun _ _ _=>False)
   (hCX:∀(w:World) (H:Hp) (s:Shared) (e:Value) (s':Shared),CX w [] H s (fun _ _ _=>False) e s'→False) :
   PySem.W.WalkO q loose XP YP l.row.toRowW d [] (fun f vs=>PySem.call f vs):=by
 refine Att.attach_call hn hdf fun w s₀ s₁ mg mb fa o pm cd doc a vs ns G Y ho hd hcd hmg hobj hints hlen hg=>?_
 have KX:=hY w _ Y
 obtain⟨fd,hb,hF⟩:=F w mg fa _ KX G.T.g hmg
 exact Xwc KX G.T.g G.T.b G.T.builtins G.T.nolimit hg hobj hints (Nat.le_trans hlen hn2) hr hF hb (fun H hO hS=>hsp w H a ns hlen hO hS) fun H e s'=>hCX w H s₁ e s'
end L2
namespace L2
open PySem PySem.Spec PyProof.Rows
abbrev CX0:CXT:=fun _ _ _ _ _ _=>False
abbrev E0:XK:=fun _ _ _=>False
structure Fun (K:PySem.W.Frag)(x qual:Str)(st:Stmt)(f:Addr)(fd:FuncData):Prop where
 ex:∃(oc:Value) (od:Option Addr) (kV doc pm:Value) (an:Option Addr) (cdv ct:Value) (osl:Array (Option Value)),
   fd=PySem.W.fnOf x qual (Xbf st) (Xaz st) (Xad st) .none kV doc pm an cdv ct∧K.lookup f=some ⟨oc,od,.func fd,osl⟩∧PySem.W.codeIn K cdv qual=true
 kp:PySem.W.keepIn K (.ref f)=true
section
variable {P:Program}{w:World}{K:PySem.W.Frag}{mg:Str→Option Value}{base:Heap}
theorem Fun.ok {x qual:Str}{st:Stmt}{f:Addr}{fd:FuncData}{N ps:List Str}{k:Nat}{sp:Sp}(F:Fun K x qual st f fd)(S:FnScope N ps (Xad st))(len:∀vs H Q E,sp vs H Q E→vs.length=ps.length)
   (hbody:∀(cdv:Value) (A:Around) (outer:List Env) (s:Shared) (H:Hp) (vs:List V) (Q:VK) (E:XK),Room k (A.deeper (envOfC qual (Xad st) s.heap.objs.size f cdv))→sp vs H Q E →
     ∃t,PSs (cxOf CX0 P w K mg base N qual (Xad st) f cdv A outer s H E).nox (Xaz st) t∧t { nx:=fun _ H'=>Q .non H',rt:=Q } (start N vs) H):FnOk P w K mg base CX0 (k+1) f fd ps sp:=by
 obtain⟨oc,od,kV,doc,pm,an,cdv,ct,osl,rfl,lk,hcd⟩:=F.ex
 refine XHh lk hcd S len fun A outer s H vs Q E hr hsp=>?_
 obtain⟨t,h,q⟩:=hbody cdv A outer s H vs Q E hr hsp
 exact⟨t,h.nox,q⟩
theorem Fun.binds {x qual:Str}{st:Stmt}{f:Addr}{fd:FuncData}{ps:List Str}(F:Fun K x qual st f fd)
   (h:∀(kV doc pm:Value) (an:Option Addr) (cdv ct:Value) (us:List Value),us.length=ps.length→bindArgs (PySem.W.fnOf x qual (Xbf st) (Xaz st) (Xad st) .none kV doc pm an cdv ct) ⟨us,[]⟩=pure (ps.zip us)):Xco K fd ps []:=by
 obtain⟨oc,od,kV,doc,pm,an,cdv,ct,osl,rfl,lk,hcd⟩:=F.ex
 exact .all (h kV doc pm an cdv ct)
theorem Xcj {x qual:Str}{st:Stmt}{f:Addr}{oc:Value}{od an:Option Addr}{osl:Array (Option Value)}{kV doc pm cdv ct:Value}(l:K.lookup f=some ⟨oc,od,.func (PySem.W.fnOf x qual (Xbf st) (Xaz st) (Xad st) .none kV doc pm an cdv ct),osl⟩)
   (c:PySem.W.codeIn K cdv qual=true) (k:PySem.W.keepIn K (.ref f)=true):Fun K x qual st f (PySem.W.fnOf x qual (Xbf st) (Xaz st) (Xad st) .none kV doc pm an cdv ct):=⟨⟨oc,od,kV,doc,pm,an,cdv,ct,osl,rfl,l,c⟩,k⟩
end
theorem small1000 {n:Nat}(h:n≤1000):n<sizeLine:=Nat.lt_of_le_of_lt h (by decide)
section
variable {X:Cx}
theorem pv (i:Nat){x:Str}{pos:Pos}(hN:X.N[i]?=some x:=by rfl)(hv:Vis X.env.scope x:=by first | exact Or.inl rfl | exact Or.inr (Or.inl rfl) | exact Or.inr (Or.inr rfl))(hd:(x==("__debug__":Str))=false:=by decide)
   (hcd:(x==("__classdict__":Str))=false:=by decide):PE X (.Name x pos) (tVar i):=XNu hN hv hd hcd
end
theorem iteF {A B:Prop}(h:B):if false=true then A else B:=by
 rw[if_neg Bool.false_ne_true]
 exact h
theorem iteT {A B:Prop}(h:A):if true=true then A else B:=by
 rw[if_pos rfl]
 exact h
def Same (H H':Hp):Prop:=∀b o,H b=some o→H' b=some o
theorem Same.refl (H:Hp):Same H H:=fun _ _ h=>h
theorem Same.trans {H H1 H2:Hp}(a:Same H H1)(b:Same H1 H2):Same H H2:=fun c o h=>b c o (a c o h)
theorem Same.free {H H':Hp}(e:Same H H'){l:Addr}(h:H' l=Option.none):H l=Option.none:=by
 cases q:H l with
 | none=>rfl
 | some o =>
   rw[e l o q] at h
   cases h
theorem Same.seq {K:PySem.W.Frag}{H H':Hp}{a:Addr}{xs:List V}(e:Same H H')(h:SqL K H a xs):SqL K H' a xs:=by
 rcases h with (h | ⟨o,h⟩) | h
 · exact .inl (.inl (e _ _ h))
 · exact .inl (.inr ⟨o,e _ _ h⟩)
 · exact .inr h
end L2
set_option Elab.async false
set_option linter.all false
set_option maxRecDepth 100000
set_option maxHeartbeats 4000000
namespace Stow
structure Pc where
 a:Int
 l:Int
 v:Bool
 deriving DecidableEq
def mkOf (l:Int)(v:Bool):Int:=l*2+(if v then 1 else 0)
def Pc.mk' (p:Pc):Int:=mkOf p.l p.v
def Xas:Int→List Pc→Int→Prop
 | s,[],e=>s=e
 | s,p::r,e=>p.a=s∧1≤p.l∧(p.v=true→3≤p.l)∧Xas (s+p.l) r e
theorem Xas.le:∀{ps:List Pc} {s e:Int},Xas s ps e→s+ps.length≤e
 | [],s,e,h=>by have h:s=e:=h;simp [h]
 | p::r,s,e,h=>by
   obtain⟨_,h1,_,h2⟩:=h
   have:=Xas.le h2
   simp only [List.length_cons];omega
theorem Xas.app:∀{ps qs:List Pc} {s m e:Int},Xas s ps m→Xas m qs e→Xas s (ps++qs) e
 | [],_,s,m,e,h,k=>by have h:s=m:=h;subst h;exact k
 | p::r,qs,s,m,e,h,k=>by
   obtain⟨h0,h1,h2,h3⟩:=h
   exact⟨h0,h1,h2,Xas.app h3 k⟩
theorem Xas.one {p:Pc}(h1:1≤p.l)(h3:p.v=true→3≤p.l):Xas p.a [p] (p.a+p.l):=⟨rfl,h1,h3,rfl⟩
theorem Xas.snoc {ps:List Pc}{s:Int}{p:Pc}(h:Xas s ps p.a)(h1:1≤p.l)(h3:p.v=true→3≤p.l):Xas s (ps++[p]) (p.a+p.l):=h.app (.one h1 h3)
theorem Xas.mem:∀{ps:List Pc} {s e:Int},Xas s ps e→∀p∈ps,s≤p.a∧1≤p.l∧(p.v=true→3≤p.l)∧p.a+p.l≤e
 | [],_,_,_,p,hp=>by cases hp
 | q::r,s,e,h,p,hp=>by
   obtain⟨h0,h1,h2,h3⟩:=h
   rcases List.mem_cons.mp hp with rfl | hp
   · have:=h3.le
     exact⟨by omega,h1,h2,by omega⟩
   · obtain⟨a,b,c,d⟩:=Xas.mem h3 p hp
     exact⟨by omega,b,c,d⟩
def Xat (cs:List Int)(ps:List Pc):Prop:=∀p∈ps,cs[p.a.toNat]?=some p.mk'∧cs[(p.a+p.l-1).toNat]?=some p.mk'
theorem Xat.nil (cs:List Int):Xat cs []:=fun p hp=>by cases hp
theorem Xat.snoc {cs ext:List Int}{ps:List Pc}{p:Pc}(hc:Xas 0 ps p.a)(hl:(cs.length:Int)=p.a)(h1:1≤p.l)(he:(ext.length:Int)=p.l)(m:Xat cs ps) :
   Xat ((((cs++ext).set p.a.toNat p.mk')).set (p.a+p.l-1).toNat p.mk') (ps++[p]):=by
 intro q hq
 have h0:=hc.le
 rcases List.mem_append.mp hq with hq | hq
 · obtain⟨a1,a2,a3,a4⟩:=hc.mem q hq
   obtain⟨b1,b2⟩:=m q hq
   have key:∀k:Nat,(k:Int)<p.a→∀z,cs[k]?=some z→((((cs++ext).set p.a.toNat p.mk')).set (p.a+p.l-1).toNat p.mk')[k]?=some z:=by
     intro k hk z hz
     rw[List.getElem?_set_ne (by omega),List.getElem?_set_ne (by omega),List.getElem?_append_left (by omega)]
     exact hz
   exact⟨key _ (by omega) _ b1,key _ (by omega) _ b2⟩
 · have e:q=p:=by simpa using hq
   subst e
   have len:(cs++ext).length=cs.length+ext.length:=List.length_append
   constructor
   · by_cases h:(q.a+q.l-1).toNat=q.a.toNat
     · rw[h,List.getElem?_set_self (by simp;omega)]
     · rw[List.getElem?_set_ne (by omega),List.getElem?_set_self (by simp;omega)]
   · rw[List.getElem?_set_self (by simp;omega)]
theorem Xht (l:Int)(v:Bool):mkOf l v/2=l:=by unfold mkOf;split <;> omega
theorem Xna (l:Int)(v:Bool):decide (mkOf l v%2=1)=v:=by
 unfold mkOf
 cases v
 · exact decide_eq_false (by simp)
 · exact decide_eq_true (by simp)
def Xbs (ns:List Int)(k:Int):Bool :=
 if ns.getD k.toNat 0/2<1∨(ns.length:Int)<k+ns.getD k.toNat 0/2 then false else decide (3≤ns.getD k.toNat 0/2)||!decide (ns.getD k.toNat 0%2=1)
def Xdm (ns:List Int)(k:Int):Option Int :=
 if Xbs ns k=true then (if ns.getD (k+ns.getD k.toNat 0/2-1).toNat 0=ns.getD k.toNat 0 then none else some (k+ns.getD k.toNat 0/2-1)) else some k
theorem Xeg {ns:List Int}{k:Nat}{x:Int}(h:ns[k]?=some x):ns.getD k 0=x:=by rw[List.getD_eq_getElem?_getD,h];rfl
theorem Xyk {ns:List Int}{p:Pc}(h1:1≤p.l)(h3:p.v=true→3≤p.l)(hl:p.a+p.l≤ns.length)(m1:ns[p.a.toNat]?=some p.mk')(m2:ns[(p.a+p.l-1).toNat]?=some p.mk'):Xdm ns p.a=none:=by
 have e1:=Xeg m1
 have e2:=Xeg m2
 have e3:ns.getD p.a.toNat 0/2=p.l:=by rw[e1];exact Xht _ _
 have hc:Xbs ns p.a=true:=by
   unfold Xbs
   rw[e3,if_neg (by omega),e1]
   show (decide (3≤p.l)||!decide (mkOf p.l p.v%2=1))=true
   rw[Xna]
   cases hv:p.v with
   | false=>simp
   | true=>simp [h3 hv]
 unfold Xdm
 rw[if_pos hc,e3,e2,e1,if_pos rfl]
end Stow
namespace Stow
theorem Xgk (ns:List Int)(k:Int):Xbs ns k=true↔(1≤ns.getD k.toNat 0/2∧k+ns.getD k.toNat 0/2≤ns.length∧(ns.getD k.toNat 0%2=1→3≤ns.getD k.toNat 0/2)):=by
 unfold Xbs
 by_cases h:ns.getD k.toNat 0/2<1∨(ns.length:Int)<k+ns.getD k.toNat 0/2
 · rw[if_pos h]
   constructor
   · intro z;cases z
   · intro z;omega
 · rw[if_neg h]
   simp only [Bool.or_eq_true,decide_eq_true_eq,Bool.not_eq_true',decide_eq_false_iff_not]
   constructor
   · intro z
     refine⟨by omega,by omega,fun w=>?_⟩
     rcases z with z | z
     · exact z
     · exact absurd w z
   · rintro⟨_,_,z⟩
     by_cases w:ns.getD k.toNat 0%2=1
     · exact .inl (z w)
     · exact .inr w
def pcAt (ns:List Int)(k:Int):Pc:=⟨k,ns.getD k.toNat 0/2,decide (ns.getD k.toNat 0%2=1)⟩
theorem XCn {ns:List Int}{k:Int}(h:Xdm ns k=none):Xbs ns k=true:=by
 unfold Xdm at h
 split at h
 · assumption
 · cases h
theorem Xtq {ns:List Int}{k:Int}(h:Xdm ns k=none):1≤ns.getD k.toNat 0/2∧k+ns.getD k.toNat 0/2≤ns.length∧(ns.getD k.toNat 0%2=1→3≤ns.getD k.toNat 0/2):=(Xgk ns k).mp (XCn h)
theorem XIp {ns:List Int}{k:Int}(h:Xbs ns k=false):Xdm ns k=some k:=by
 unfold Xdm
 rw[if_neg (by rw[h];exact Bool.false_ne_true)]
theorem Xvp {ns:List Int}{k:Int}(h:Xbs ns k=true)(h2:ns.getD (k+ns.getD k.toNat 0/2-1).toNat 0≠ns.getD k.toNat 0):Xdm ns k=some (k+ns.getD k.toNat 0/2-1):=by
 unfold Xdm
 rw[if_pos h,if_neg h2]
theorem Xyn {ns:List Int}{k:Int}(h:Xbs ns k=true)(h2:ns.getD (k+ns.getD k.toNat 0/2-1).toNat 0=ns.getD k.toNat 0):Xdm ns k=none:=by
 unfold Xdm
 rw[if_pos h,if_pos h2]
def Xcy (ns:List Int)(k:Int):List Pc×Option Int :=
 if h:k<ns.length∧Xdm ns k=none then
   (pcAt ns k::(Xcy ns (k+ns.getD k.toNat 0/2)).1,(Xcy ns (k+ns.getD k.toNat 0/2)).2)
 else ([],if k<ns.length then Xdm ns k else none)
termination_by (ns.length-k).toNat
decreasing_by
 all_goals
   have:=Xtq h.2
   omega
theorem Xll {ns:List Int}{k:Int}(h:¬k<ns.length):Xcy ns k=([],none):=by
 rw[Xcy,dif_neg (fun z=>h z.1),if_neg h]
theorem Xtc {ns:List Int}{k b:Int}(h:k<ns.length)(hb:Xdm ns k=some b):Xcy ns k=([],some b):=by
 rw[Xcy,dif_neg (fun z=>by rw[hb] at z;cases z.2),if_pos h,hb]
theorem Xjc {ns:List Int}{k:Int}(h:k<ns.length)(hb:Xdm ns k=none):Xcy ns k=(pcAt ns k::(Xcy ns (k+ns.getD k.toNat 0/2)).1,(Xcy ns (k+ns.getD k.toNat 0/2)).2):=by
 rw[Xcy,dif_pos ⟨h,hb⟩]
def WPre (ns:List Int)(ds:List Pc)(k:Int):Prop:=Xcy ns 0=(ds++(Xcy ns k).1,(Xcy ns k).2)
theorem WPre.nil (ns:List Int):WPre ns [] 0:=by unfold WPre;simp
theorem WPre.step {ns:List Int}{ds:List Pc}{k:Int}(w:WPre ns ds k)(h:k<ns.length)(hb:Xdm ns k=none):WPre ns (ds++[pcAt ns k]) (k+ns.getD k.toNat 0/2):=by
 unfold WPre at *
 rw[w,Xjc h hb]
 simp
theorem WPre.fin {ns:List Int}{ds:List Pc}{k:Int}(w:WPre ns ds k)(h:¬k<ns.length):Xcy ns 0=(ds,none):=by
 unfold WPre at w
 rw[w,Xll h]
 simp
theorem WPre.bad {ns:List Int}{ds:List Pc}{k b:Int}(w:WPre ns ds k)(h:k<ns.length)(hb:Xdm ns k=some b):Xcy ns 0=(ds,some b):=by
 unfold WPre at w
 rw[w,Xtc h hb]
 simp
end Stow
namespace Stow
end Stow
namespace Stow
theorem XGd {cs:List Int}{p:Pc}(m:cs[p.a.toNat]?=some p.mk'):pcAt cs p.a=p:=by
 have e:=Xeg m
 unfold pcAt
 rw[e]
 show (⟨p.a,mkOf p.l p.v/2,decide (mkOf p.l p.v%2=1)⟩:Pc)=p
 rw[Xht,Xna]
theorem Xaw {cs:List Int}:∀{ps:List Pc} {k:Int},Xas k ps cs.length→Xat cs ps→Xcy cs k=(ps,none)
 | [],k,h,_=>by
   have h:k=cs.length:=h
   exact Xll (by omega)
 | p::r,k,h,m=>by
   obtain⟨ea,h1,h3,h4⟩:=h
   have le:=h4.le
   obtain⟨m1,m2⟩:=m p List.mem_cons_self
   have bn:=Xyk h1 h3 (by omega) m1 m2
   rw[ea] at bn
   have e2:cs.getD k.toNat 0/2=p.l:=by rw[←ea,Xeg m1];exact Xht _ _
   have ih:=Xaw (cs:=cs) h4 fun q hq=>m q (List.mem_cons_of_mem _ hq)
   rw[Xjc (by omega) bn,e2,ih,←ea,XGd m1]
end Stow
namespace Stow
open PySem L2 PyProof.Rows
structure Def (P:Program)(w:World)(K:PySem.W.Frag)(mg:Str→Option Value)(base:Heap)(x:Str)(k:Nat)(ps:List Str)(sp:Sp):Prop where
 ex:∃(f:Addr) (fd:FuncData),FnOk P w K mg base CX0 k f fd ps sp∧mg x=some (.ref f)∧PySem.W.keepIn K (.ref f)=true∧Xco K fd ps []
structure Src (K:PySem.W.Frag)(mg:Str→Option Value)(x:Str)(st:Stmt):Prop where
 ex:∃(f:Addr) (fd:FuncData),Fun K x x st f fd∧mg x=some (.ref f)
theorem Xbc {K:PySem.W.Frag}{h:Heap}{mg:Str→Option Value}{x:Str}{st:Stmt}{f:Addr}{oc kV doc pm cdv ct:Value}{od an:Option Addr}{osl:Array (Option Value)}(X:K.In h)(G:h.Ns mainGlobals mg)
   (a:PySem.W.nsIn K mainGlobals x=some (some (.ref f))) (l:K.lookup f=some ⟨oc,od,.func (PySem.W.fnOf x x (Xbf st) (Xaz st) (Xad st) .none kV doc pm an cdv ct),osl⟩)
   (c:PySem.W.codeIn K cdv x=true) (k:PySem.W.keepIn K (.ref f)=true):Src K mg x st:=⟨f,_,Xcj l c k,PySem.W.mg_of X G a⟩
section
variable {P:Program}{w:World}{K:PySem.W.Frag}{mg:Str→Option Value}{base:Heap}
theorem Src.ok {x:Str}{st:Stmt}{N ps:List Str}{k:Nat}{sp:Sp}(S:Src K mg x st)(sc:FnScope N ps (Xad st))
   (hb:∀(kV doc pm:Value) (an:Option Addr) (cdv ct:Value) (us:List Value),us.length=ps.length→bindArgs (PySem.W.fnOf x x (Xbf st) (Xaz st) (Xad st) .none kV doc pm an cdv ct) ⟨us,[]⟩=pure (ps.zip us))
   (len:∀vs H Q E,sp vs H Q E→vs.length=ps.length)
   (hbody:∀(f:Addr) (cdv:Value) (A:Around) (outer:List Env) (s:Shared) (H:Hp) (vs:List V) (Q:VK) (E:XK),Room k (A.deeper (envOfC x (Xad st) s.heap.objs.size f cdv))→sp vs H Q E →
     ∃t,PSs (cxOf CX0 P w K mg base N x (Xad st) f cdv A outer s H E).nox (Xaz st) t∧t { nx:=fun _ H'=>Q .non H',rt:=Q } (start N vs) H):Def P w K mg base x (k+1) ps sp:=by
 obtain⟨f,fd,F,hm⟩:=S.ex
 exact⟨f,fd,F.ok sc len (hbody f),hm,F.kp,F.binds hb⟩
end
section
variable {X:Cx}
theorem Xkc:Xgq X (.builtin "isinstance") (fun xs H Q=>∃x n t b,xs=[x,.ty n]∧TyOf X.K H x t∧PySem.W.kitOne X.K t (.type n)=some b∧Q (.bl b) H):=by
 intro pins s σ H xs us Q I r h
 obtain⟨x,n,t,b,rfl,ty,e,q⟩:=h
 obtain⟨u,u',rfl,rx,ry⟩:=Xtt r
 cases (show u'=Value.type n from ry)
 exact Xqj I rx ty e fun tk=>⟨.bl b,H,I.tok tk,rfl,q⟩
theorem Xnz {x:V}(h:Xdj x=true):eqV x x=true:=by
 cases x <;> first | rfl | (simp [eqV];done) | (exact absurd h Bool.false_ne_true)
theorem XAb (hu:X.A.units+64<cLine):OpR X (compareOp .Eq) (fun x y H Q=>∃(a b:Addr) (ns ms:List Int),x = .ref a∧y = .ref b∧SqL X.K H a (ns.map V.int)∧SqL X.K H b (ms.map V.int)∧Q (.bl (decide (ns=ms))) H):=by
 intro pins s σ H x y v u Q I rx ry h
 obtain⟨a,b,ns,ms,rfl,rfl,ha,hb,q⟩:=h
 cases rx
 cases ry
 obtain⟨its,r1,p1,_⟩:=I.list ha
 obtain⟨its2,r2,p2,_⟩:=I.list hb
 exact PySem.W.ke_eq_ints p1.isList p2.isList (Xeq r1) (Xeq r2) hu ⟨.bl _,H,I,rfl,q⟩
end
theorem _root_.L2.Same.new {H:Hp}{p:Addr}{o:HO}(h:H p=none):Same H (upd H p o):=fun b u e=>by
 rw[Xaq (Xap e h)]
 exact e
theorem _root_.L2.Same.put {H H':Hp}{p:Addr}{o:HO}(s:Same H H')(h:H p=none):Same H (upd H' p o):=fun b u e=>by
 rw[Xaq (Xap e h)]
 exact s b u e
theorem small4000 {n:Nat}(h:n≤4000):n<sizeLine:=Nat.lt_of_le_of_lt h (by decide)
theorem two1:(2:Int)^(1:Int).toNat=2:=by decide
theorem XHb (ns:List Int)(k:Int)(h0:0≤k)(h:k<ns.length):atI (ns.map V.int) k=some (.int (ns.getD k.toNat 0)):=by
 have e:(ns.map V.int)[k.toNat]?=some (.int (ns.getD k.toNat 0)):=by
   rw[List.getElem?_map,List.getD_eq_getElem?_getD,List.getElem?_eq_getElem (by omega)]
   rfl
 have:=Xid e
 rwa [Int.toNat_of_nonneg h0] at this
theorem XGf (n:Int):decide (V.int (Builtin.bitAnd n 1)=V.int 1)=decide (n%2=1):=by
 rw[Xkr,bitAnd_m1]
 rfl
section
variable {K:PySem.W.Frag}
theorem kit_ii:PySem.W.kitOne K (.type "int") (.type "int")=some true:=by rfl
theorem kit_ll:PySem.W.kitOne K (.type "list") (.type "list")=some true:=by rfl
theorem kit_ib:PySem.W.kitOne K (.type "int") (.type "bool")=some false:=by
 show (if (Value.type "int"==Value.type "bool")=true then some true else PySem.W.kitCls K (.type "int") (.type "bool"))=some false
 rw[if_neg (by decide)]
 show (if PySem.W.kitMeta "bool"=true then PySem.W.subIn K (.type "int") (.type "bool") else none)=some false
 rw[if_pos (by decide +kernel)]
 show (fastBuiltinMro "int").map (·.contains (Value.type "bool"))=some false
 decide +kernel
end
end Stow
namespace Stow
open PySem
structure Noted (fr:List Addr)(e:Addr)(oe:Obj)(fl:Value)(h h':Heap):Prop where
 keep:∀b o,b≠e→b ∉ fr→h.get? b=some o→h'.get? b=some o
 slot:∀b o,b≠e→h.get? b=some o→∃sl,h'.get? b=some { o with slots:=sl }
 ent:∃(T:Addr) (oT:Obj) (ts:Array Value),h.get? T=none∧T≠e∧h'.get? e=some (oe.mapFields (·.setIfInBounds 1 (.ref T)))∧h'.get? T=some oT∧oT.data = .fields ts∧ts[3]?=some fl
section
variable {M:Model}{A:Around}{E:Value→Shared→Prop}{s:Shared}
theorem Xtg {base:Heap}{env:Env}{outer:List Env}{L e:Addr}{oe:Obj}{vs:Array Value}{head:Value}{had:Bool}{Q:Unit→Shared→Prop}(hfr:A.frames=some (env::outer))(hl:s.heap.FunFrames base (env::outer))(hf:env.frame=some L)
   (he:s.heap.get? e=some oe) (hd:oe.data = .fields vs) (hsz:1<vs.size) (h:∀h',Noted ((env::outer).filterMap (·.frame)) e oe (rawInt L) s.heap h'→Q () { s with heap:=h' }) :
   wpAny M A (do
     let a ←frameOf env
     let pl ←entryPlaceOf L had
     let b ←EntryCells.newEntry head a .none (rawInt L) .none pl
     setField (.ref e) 1 b) Q E s:=by
 have out:e ∉ (env::outer).filterMap (·.frame):=fun z=>by
   obtain⟨_,o,q,nf⟩:=hl.mem z
   rw[he] at q
   cases q
   exact nf vs hd
 refine wpAny_bind (wpAny_frameOf_fun hfr hl hf fun hA sA=>?_)
 refine wpAny_bind (wpAny_entryPlaceOf fun pl isP=>?_)
 unfold EntryCells.newEntry newFields
 refine wpAny_bind (wpAny_newObj_type ?_ (isP.sizeOk5 _ _ _ _ _))
 have eA:hA.get? e=some oe:=(sA.2.1 e out).trans he
 refine wpAny_setField (Heap.get?_push_of_some _ eA) hd hsz (h _ ?_)
 have apart:hA.objs.size≠e:=Nat.ne_of_gt (Heap.lt_size eA)
 have other:∀{ob:Obj} b o,b≠e→hA.get? b=some o→((hA.push ob).update e (Obj.mapFields (·.setIfInBounds 1 (Value.ref hA.objs.size)))).get? b=some o:=fun b o nb q=>by
   rw[Heap.get?_update_other _ _ (fun z=>nb z.symm)]
   exact Heap.get?_push_of_some _ q
 refine⟨fun b o nb nf q=>other b o nb ((sA.2.1 b nf).trans q),fun b o nb q=>?_,hA.objs.size,_,_,?_,apart,?_,(Heap.get?_update_other _ _ (fun z=>apart z.symm)).trans (Heap.get?_push_size _ rfl),rfl,?_⟩
 · obtain⟨sl,q'⟩:=sA.2.2 b o q
   exact⟨sl,other b _ nb q'⟩
 · rw[sA.1]
   exact Heap.get?_none_of_le (Nat.le_refl _)
 · exact Heap.get?_update_self _ (Heap.get?_push_of_some _ eA) (Obj.isFreed_of_fields (Obj.data_mapFields hd _))
 · first
     | (simp;done)
     | (rcases isP with rfl | ⟨_,_,_,_,_,_,_,rfl⟩ <;> simp)
theorem Xut (o:Obj)(f:Array Value→Array Value):(o.mapFields f).dict=o.dict:=by
 obtain⟨c,d,dt,sl⟩:=o
 cases dt <;> rfl
end
def Exc (h:Heap)(x:Addr)(cls:Value)(od:Option Addr)(T:Addr)(fl:Value):Prop :=
 ∃(oe:Obj) (vs:Array Value) (oT:Obj) (ts:Array Value),T≠x∧h.get? x=some oe∧oe.cls=cls∧oe.dict=od∧oe.data = .fields vs∧vs[1]?=some (.ref T)∧h.get? T=some oT∧oT.data = .fields ts∧ts[3]?=some fl
def Exc0 (h:Heap)(x:Addr)(cls:Value)(od:Option Addr):Prop:=∃(oe:Obj) (vs:Array Value),h.get? x=some oe∧oe.cls=cls∧oe.dict=od∧oe.data = .fields vs∧vs[1]?=some .none
structure Upto (fr ex:List Addr)(h h':Heap):Prop where
 keep:∀b o,b ∉ ex→b ∉ fr→h.get? b=some o→h'.get? b=some o
 slot:∀b o,b ∉ ex→h.get? b=some o→∃sl,h'.get? b=some { o with slots:=sl }
theorem Upto.trans {fr ex ex':List Addr}{h1 h2 h3:Heap}(a:Upto fr ex h1 h2)(b:Upto fr ex' h2 h3):Upto fr (ex++ex') h1 h3 :=
 ⟨fun c o n1 n2 q=>b.keep c o (fun z=>n1 (List.mem_append_right _ z)) n2 (a.keep c o (fun z=>n1 (List.mem_append_left _ z)) n2 q),fun c o n1 q=>by
   obtain⟨sl,q1⟩:=a.slot c o (fun z=>n1 (List.mem_append_left _ z)) q
   obtain⟨sl',q2⟩:=b.slot c _ (fun z=>n1 (List.mem_append_right _ z)) q1
   exact⟨sl',q2⟩⟩
theorem Upto.update {fr:List Addr}{h:Heap}{a:Addr}{f:Obj→Obj}:Upto fr [a] h (h.update a f) :=
 ⟨fun b o n _ q=>by rw[Heap.get?_update_other _ _ (fun z=>n (by simp [z]))];exact q,fun b o n q=>⟨o.slots,by rw[Heap.get?_update_other _ _ (fun z=>n (by simp [z]))];exact q⟩⟩
section
variable {M:Model}{A:Around}{E:Value→Shared→Prop}{s:Shared}
theorem Xhb {fr:List Addr}{x:Addr}{cls:Value}{od:Option Addr}{T:Addr}{fl:Value}{Q:Unit→Shared→Prop}(ht:Exc s.heap x cls od T fl)
   (h:∀h',Upto fr [T] s.heap h'→Exc h' x cls od T .none→Q () { s with heap:=h' }):wpAny M A (setFlight (.ref x) none) Q E s:=by
 obtain⟨oe,vs,oT,ts,ne,ex,hc,hdi,hd,h1,eT,dT,h3⟩:=ht
 unfold setFlight
 refine wpAny_bind (wpAny_field ex hd h1 ?_)
 rw[if_pos (show (Value.ref T != Value.none)=true by simp)]
 have sz:3<ts.size:=(Array.getElem?_eq_some_iff.mp h3).1
 refine wpAny_setField eT dT sz (h _ .update ⟨oe,vs,_,_,ne,?_,hc,hdi,hd,h1,Heap.get?_update_self _ eT (Obj.isFreed_of_fields (Obj.data_mapFields dT _)),Obj.data_mapFields dT _,?_⟩)
 · rw[Heap.get?_update_other _ _ ne]
   exact ex
 · simp [sz]
theorem Noted.exc {fr:List Addr}{x:Addr}{oe:Obj}{vs:Array Value}{fl:Value}{h h':Heap}(n:Noted fr x oe fl h h')(hd:oe.data = .fields vs)(hsz:1<vs.size):∃T,h.get? T=none∧Exc h' x oe.cls oe.dict T fl:=by
 obtain⟨T,oT,ts,nT,ne,ex,eT,dT,h3⟩:=n.ent
 exact⟨T,nT,_,_,oT,ts,ne,ex,Obj.cls_mapFields _ _,Xut _ _,Obj.data_mapFields hd _,by simp [hsz],eT,dT,h3⟩
theorem Noted.upto {fr:List Addr}{x:Addr}{oe:Obj}{fl:Value}{h h':Heap}(n:Noted fr x oe fl h h'):Upto fr [x] h h' :=
 ⟨fun b o nb nf q=>n.keep b o (fun z=>nb (by simp [z])) nf q,fun b o nb q=>n.slot b o (fun z=>nb (by simp [z])) q⟩
theorem look0 {base:Heap}{env:Env}{outer:List Env}{L x:Addr}{cls:Value}{od:Option Addr}{Q:Unit→Shared→Prop}(hfr:A.frames=some (env::outer))(hl:s.heap.FunFrames base (env::outer))(hf:env.frame=some L)(hx:Exc0 s.heap x cls od)
   (h:∀h' T,s.heap.get? T=none→Upto ((env::outer).filterMap (·.frame)) [x] s.heap h'→Exc h' x cls od T (rawInt L)→Q () { s with heap:=h' }):wpAny M A (noteFrame (.ref x) env) Q E s:=by
 obtain⟨oe,vs,ex,rfl,rfl,hd,h1⟩:=hx
 have sz:=(Array.getElem?_eq_some_iff.mp h1).1
 unfold noteFrame
 simp only [hf]
 refine wpAny_bind (wpAny_field ex hd h1 ?_)
 rw[if_neg (by decide)]
 refine Xtg hfr hl hf ex hd sz fun h' n=>?_
 obtain⟨T,nT,t⟩:=n.exc hd sz
 exact h h' T nT n.upto t
theorem XJc {base:Heap}{env:Env}{outer:List Env}{L x T:Addr}{cls:Value}{od:Option Addr}{Q:Unit→Shared→Prop}(hfr:A.frames=some (env::outer))(hl:s.heap.FunFrames base (env::outer))(hf:env.frame=some L)(hx:Exc s.heap x cls od T .none)
   (h:∀h' T',s.heap.get? T'=none→Upto ((env::outer).filterMap (·.frame)) [T,x] s.heap h'→Exc h' x cls od T' (rawInt L)→Q () { s with heap:=h' }):wpAny M A (noteFrame (.ref x) env) Q E s:=by
 obtain⟨oe,vs,oT,ts,ne,ex,rfl,rfl,hd,h1,eT,dT,h3⟩:=hx
 have sz:=(Array.getElem?_eq_some_iff.mp h1).1
 have sz3:=(Array.getElem?_eq_some_iff.mp h3).1
 unfold noteFrame
 simp only [hf]
 refine wpAny_bind (wpAny_field ex hd h1 ?_)
 rw[if_pos (show (Value.ref T != Value.none)=true by simp)]
 refine wpAny_bind (wpAny_field eT dT h3 ?_)
 rw[if_neg (show ¬((Value.none==rawInt L)=true) by simp [rawInt])]
 refine wpAny_bind (wpAny_setField eT dT sz3 ?_)
 have u1:Upto ((env::outer).filterMap (·.frame)) [T] s.heap (s.heap.update T (Obj.mapFields (·.setIfInBounds 3 Value.none))):=.update
 have hl2:(s.heap.update T (Obj.mapFields (·.setIfInBounds 3 Value.none))).FunFrames base (env::outer):=hl.of_keeps fun b o q nf=>by
   have nb:b≠T:=fun z=>by
     subst z
     rw[eT] at q
     cases q
     exact nf ts dT
   exact⟨o,by rw[Heap.get?_update_other _ _ (fun z=>nb z.symm)];exact q,rfl⟩
 have ex2:(s.heap.update T (Obj.mapFields (·.setIfInBounds 3 Value.none))).get? x=some oe:=by
   rw[Heap.get?_update_other _ _ ne]
   exact ex
 refine Xtg (s:={ s with heap:=s.heap.update T (Obj.mapFields (·.setIfInBounds 3 Value.none)) }) hfr hl2 hf ex2 hd sz fun h' n=>?_
 obtain⟨T',nT,t⟩:=n.exc hd sz
 refine h h' T' ?_ (u1.trans n.upto) t
 cases q:s.heap.get? T' with
 | none=>rfl
 | some o =>
   by_cases z:T'=T
   · subst z
     rw[Heap.get?_update_self _ eT (Obj.isFreed_of_fields (Obj.data_mapFields dT _))] at nT
     cases nT
   · rw[Heap.get?_update_other _ _ (fun y=>z y.symm),q] at nT
     cases nT
theorem XJd {base:Heap}{env:Env}{outer:List Env}{L x:Addr}{cls:Value}{od:Option Addr}{Q:Unit→Shared→Prop}(hfr:A.frames=some (env::outer))(hl:s.heap.FunFrames base (env::outer))(hf:env.frame=some L)(hx:Exc0 s.heap x cls od)
   (h:∀h' T,s.heap.get? T=none→Upto ((env::outer).filterMap (·.frame)) [x,T] s.heap h'→Exc h' x cls od T .none→Q () { s with heap:=h' }):wpAny M A (leaving env (.ref x)) Q E s:=by
 unfold leaving
 refine wpAny_bind (look0 hfr hl hf hx fun h1 T nT u t=>?_)
 exact Xhb (s:={ s with heap:=h1 }) (fr:=(env::outer).filterMap (·.frame)) t fun h2 u2 t2=>h h2 T nT (u.trans u2) t2
theorem XOv {base:Heap}{env:Env}{outer:List Env}{L x T:Addr}{cls:Value}{od:Option Addr}{Q:Unit→Shared→Prop}(hfr:A.frames=some (env::outer))(hl:s.heap.FunFrames base (env::outer))(hf:env.frame=some L)(hx:Exc s.heap x cls od T .none)
   (h:∀h' T',s.heap.get? T'=none→Upto ((env::outer).filterMap (·.frame)) [T,x,T'] s.heap h'→Exc h' x cls od T' .none→Q () { s with heap:=h' }):wpAny M A (leaving env (.ref x)) Q E s:=by
 unfold leaving
 refine wpAny_bind (XJc hfr hl hf hx fun h1 T' nT u t=>?_)
 exact Xhb (s:={ s with heap:=h1 }) (fr:=(env::outer).filterMap (·.frame)) t fun h2 u2 t2=>h h2 T' nT (u.trans u2) t2
end
end Stow
namespace Stow
open PySem
open Sem (wp)
section
variable {M:Model}{A:Around}{E:Value→Shared→Prop}
variable {nm q nm0 q0:Str}{C N C0 N0:Addr}{bs bm bs0 bm0:List Value}{hdct hdct0:Bool}{sn sn0:List Str}{sub sub0:List Value}{ab ab0:Bool}{col col0:Option Bool}{dd dd0:Option Addr}{k0 k1 k2 k3 k5 j0 j1 j2 j3 j5:Option Value}{newId newId0:String}
theorem Xro {h:Heap}{g:Array GenState}{d:Drawn}{t:Nat}{os:OsState}{x:Addr}{ox:Obj}{b:Bool}{Q:Bool→Shared→Prop}
   (hC:h.get? C=some (excClassObj nm q C N bs bm hdct sn sub ab col dd k0 k1 k2 k3 k5 newId)) (hC0:h.get? C0=some (excClassObj nm0 q0 C0 N0 bs0 bm0 hdct0 sn0 sub0 ab0 col0 dd0 j0 j1 j2 j3 j5 newId0))
   (hx:h.get? x=some ox) (hcl:ox.cls = .ref C) (hb0:(Value.ref C0::bm0).contains (.type "BaseException")=true) (hb:(Value.ref C::bm).contains (.ref C0)=b) (k:Q b ⟨h,g,d,t,os⟩) :
   wpAny M A (excMatches (.ref x) (.ref C0)) Q E ⟨h,g,d,t,os⟩:=by
 have f:=tc_notTuple
 unfold excMatches
 repeat (first
   | (with_reducible refine wpAny_loadPart_at hx ?_;rw[hcl])
   | with_reducible refine wpAny_loadPart_at hC0 ?_
   | (with_reducible refine wpAny_isSubtype_exc hC0 ?_;rw[hb0])
   | (with_reducible refine wpAny_isSubtype_exc hC ?_;rw[hb])
   | wp_step)
 all_goals (cases b <;> (wp_walk;exact k))
end
end Stow
namespace Stow
open PySem
open Sem (wp)
def Lk (M:Model)(h:Heap){α:Type}(m:Sem α)(v:α):Prop:=∀(A:Around) (E:Value→Shared→Prop) (g:Array GenState) (d:Drawn) (t:Nat) (os:OsState) (Q:α→Shared→Prop),Q v ⟨h,g,d,t,os⟩→wpAny M A m Q E ⟨h,g,d,t,os⟩
theorem Lk.at {M:Model}{h:Heap}{α:Type}{m:Sem α}{v:α}(l:Lk M h m v){A:Around}{E:Value→Shared→Prop}{g:Array GenState}{d:Drawn}{t:Nat}{os:OsState}{Q:α→Shared→Prop}(q:Q v ⟨h,g,d,t,os⟩):wpAny M A m Q E ⟨h,g,d,t,os⟩:=l A E g d t os Q q
section
variable {prog:Program}{w:World}{A:Around}{E:Value→Shared→Prop}{h:Heap}{g:Array GenState}{d:Drawn}{t:Nat}{os:OsState}{a C:Addr}{o:Obj}
structure XLk (prog:Program)(w:World)(h:Heap)(C:Addr):Prop where
 ga:Lk (model prog w) h (typeLookup (.ref C) "__getattribute__") (some (.builtin "BaseException.__getattribute__"))
 gat:Lk (model prog w) h (typeLookup (.ref C) "__getattr__") none
 cls:Lk (model prog w) h (typeLookup (.ref C) "__class__") (some (.builtin "object.__class__"))
 obj:Lk (model prog w) h (isSubtype (.ref C) (.type "object")) true
 exc:Lk (model prog w) h (isSubtype (.ref C) (.type "BaseException")) true
theorem XIz {R:Result→Shared→Prop}(L:XLk prog w h C)(hx:h.get? a=some o)(hc:o.cls = .ref C)(k:R (.ok (.ret (.ref C))) ⟨h,g,d,t,os⟩) :
   codeAny (model prog w) A (.call (.builtin "getset_descriptor.__get__") ⟨[.builtin "object.__class__",.ref a,.ref C],[]⟩) R ⟨h,g,d,t,os⟩:=by
 have y5:(⟨h,g,d,t,os⟩:Shared).TypeIs (.builtin "object.__class__") "getset_descriptor":=F.typeOf_object_class
 have y8:Lk (model prog w) h (isSubtype (.ref C) (.type (".".intercalate ("object.__class__".cutAt '.').dropLast))) true:=by rw[F.owner_object_class];exact L.obj
 refine codeAny_call_builtin F.slot_gs_get.plain F.entry_gs_get (F.slot_gs_get.check _ _ _ _ _ _ _ _ y5 (F.args_gs_get _ _ _) ?_)
 repeat (any_goals (first
   | assumption
   | (with_reducible refine wpAny_loadPart_at hx ?_;rw[hc])
   | with_reducible refine y8.at ?_
   | wp_step))
 refine⟨Code.quiet_builtin _ (by decide +kernel),codeAny_builtin F.entry_object_class ?_⟩
 repeat (any_goals (first
   | assumption
   | (with_reducible refine wpAny_loadPart_at hx ?_;rw[hc])
   | wp_step))
theorem Xyo {tk:Tok}{Q:Fin→Shared→Prop}(L:XLk prog w h C)(hx:h.get? a=some o)(hc:o.cls = .ref C)(k:Q (.done (.ret (.ref C))) ⟨h,g,d,t,os⟩) :
   wpAny (model prog w) A (Builtin.«object.__getattribute__» ⟨[.ref a,.str "__class__" tk],[]⟩) Q E ⟨h,g,d,t,os⟩:=by
 have y5:(⟨h,g,d,t,os⟩:Shared).TypeIs (.builtin "object.__class__") "getset_descriptor":=F.typeOf_object_class
 have f5:=F.typeOf_object_class
 have f6:=F.slot_gs_get.lookup
 have f7:=F.slot_gs_set.lookup
 have l2:=L.cls
 repeat (any_goals (first
   | assumption
   | (with_reducible refine wpAny_loadPart_at hx ?_;rw[hc])
   | with_reducible refine l2.at ?_
   | wp_step))
 refine XIz L hx hc ?_
 repeat (any_goals (first | assumption | wp_step))
theorem Xvb {nv:Value}{Q:Unit→Shared→Prop}(L:XLk prog w h C)(hx:h.get? a=some o)(hc:o.cls = .ref C)(k:Q () ⟨h,g,d,t,os⟩):wpAny (model prog w) A (checkBuiltinCall "BaseException.__getattribute__" ⟨[.ref a,nv],[]⟩) Q E ⟨h,g,d,t,os⟩:=by
 have e1:builtinKind "BaseException.__getattribute__"=some .slot:=by decide +kernel
 have e2:splitId "BaseException.__getattribute__"=some ("BaseException","__getattribute__"):=by decide +kernel
 have ha:=F.args_bexc_ga (.ref a) nv
 have l4:=L.exc
 simp only [checkBuiltinCall,e1,e2]
 refine wpAny_bind ?_
 unfold isInstance
 repeat (first
   | (with_reducible refine wpAny_loadPart_at hx ?_;rw[hc])
   | with_reducible refine l4.at ?_
   | wp_step)
 exact k
theorem XAl {tk:Tok}{R:Result→Shared→Prop}(FB:Slot "ValueError" "__getattribute__" "BaseException.__getattribute__")(L:XLk prog w h C)(hx:h.get? a=some o)(hc:o.cls = .ref C)(k:R (.ok (.ret (.ref C))) ⟨h,g,d,t,os⟩) :
   codeAny (model prog w) A (.call (.builtin "BaseException.__getattribute__") ⟨[.ref a,.str "__class__" tk],[]⟩) R ⟨h,g,d,t,os⟩ :=
 codeAny_call_builtin FB.plain F.entry_bexc_ga (Xvb L hx hc (Xyo L hx hc k))
theorem xc_by {tk:Tok}{fill:Bool}{Q:Value→Shared→Prop}(FB:Slot "ValueError" "__getattribute__" "BaseException.__getattribute__")(L:XLk prog w h C)(hx:h.get? a=some o)(hc:o.cls = .ref C)(k:Q (.ref C) ⟨h,g,d,t,os⟩) :
   wpAny (model prog w) A (getAttrBy (.ref a) (.str "__class__" tk) fill) Q E ⟨h,g,d,t,os⟩:=by
 have f3:=FB.bind (.ref a)
 have x0:(false&&onTheHeap (Value.builtin "BaseException.__getattribute__"))=false:=rfl
 have x2:(Value.builtin "BaseException.__getattribute__"==Value.builtin "object.__getattribute__")=false:=by decide +kernel
 have x1:(onTheHeap (Value.ref C)&&Value.builtin "BaseException.__getattribute__"==Value.builtin "object.__getattribute__")=false:=by rw[x2,Bool.and_false]
 have l1:=L.ga
 have l2:=L.gat
 repeat (any_goals (first
   | assumption
   | (with_reducible refine wpAny_loadPart_at hx ?_;rw[hc])
   | with_reducible refine l1.at ?_
   | with_reducible refine l2.at ?_
   | wp_step))
 refine XAl FB L hx hc ?_
 repeat (any_goals (first | assumption | wp_step))
theorem XBo {Q:Option Value→Shared→Prop}(FB:Slot "ValueError" "__getattribute__" "BaseException.__getattribute__")(L:XLk prog w h C)(hx:h.get? a=some o)(hc:o.cls = .ref C)(k:Q (some (.ref C)) ⟨h,g,d,t+1,os⟩) :
   wpAny (model prog w) A (getAttr? (.ref a) "__class__") Q E ⟨h,g,d,t,os⟩:=by
 unfold getAttr? getAttrBy?
 repeat (any_goals (first | assumption | with_reducible apply xc_by FB L hx hc | wp_step))
end
end Stow
namespace Stow
open PySem L2 PyProof.Rows
section
variable {P:Program}{w:World}{H H':Hp}{h h' g:Heap}{a:Addr}{o:HO}
theorem Xxj (x:Xct P w H h a o):∃ob,h.get? a=some ob:=by
 cases o with
 | lst xs=>obtain⟨_,_,_,_,e⟩:=x;exact⟨_,e⟩
 | tup xs=>obtain⟨_,_,_,ob,e,_⟩:=x;exact⟨_,e⟩
 | dK kvs=>obtain⟨_,_,_,_,ob,_,_,e,_⟩:=x;exact⟨_,e⟩
 | dT kvs=>obtain⟨_,_,_,_,ob,_,_,e,_⟩:=x;exact⟨_,e⟩
 | set S n=>obtain⟨ob,_,_,_,e,_⟩:=x;exact⟨_,e⟩
 | ins C dx fs=>obtain⟨_,_,_,e,_⟩:=x;exact⟨_,e⟩
 | own y=>obtain⟨_,e⟩:=x;exact⟨_,e⟩
 | xd fs=>obtain⟨_,⟨_,_,_,e,_⟩,_⟩:=x;exact⟨_,e⟩
 | rng lo hi=>obtain⟨_,_,_,e⟩:=x;exact⟨_,e⟩
 | frz ob u=>obtain⟨e,_⟩:=x;exact⟨_,e⟩
 | tbl ps=>exact⟨_,(show h.get? a=some _ from x)⟩
 | met f y=>exact⟨_,(show h.get? a=some _ from x)⟩
 | ext φ=>obtain⟨_,e,_⟩:=x;exact e
theorem Xdl (x:HOk P w H h)(e:h.get? a=none):H a=none:=by
 cases q:H a with
 | none=>rfl
 | some u =>
   obtain⟨ob,z⟩:=Xxj (x a u q)
   rw[e] at z
   cases z
theorem Xkh {fr ex:List Addr}(x:HOk P w H h)(u:Upto fr ex h h')(hf:∀b∈fr,H b=none)(he:∀b∈ex,H b=none):HOk P w H h':=fun a o e=>by
 have out:∀b v,H b=some v→b ∉ ex∧b ∉ fr:=fun b v q=>⟨(fun z=>by rw[he b z] at q;cases q),(fun z=>by rw[hf b z] at q;cases q)⟩
 refine(x a o e).stay (fun b ob hb q=>?_) (fun _ q=>q) fun _ _ q=>q
 rcases hb with rfl | hb
 · exact u.keep b ob (out b _ e).1 (out b _ e).2 q
 · exact u.keep b ob (out b _ hb).1 (out b _ hb).2 q
theorem Xmo {fs fr ex:List Addr}(u:Un fs [] H H' g h)(v:Upto fr ex h h')(hfr:∀b∈fr,b∈fs∨g.get? b=none)(hex:∀b∈ex,g.get? b=none):Un fs [] H H' g h':=by
 have nex:∀b o,g.get? b=some o→b ∉ ex:=fun b o q z=>by rw[hex b z] at q;cases q
 refine⟨fun b o q n hb hx=>?_,fun b o q n hb hx=>?_,u.free,fun b o q hx=>?_,u.tups,u.frzs,u.tbls⟩
 · refine v.keep b o (nex b o q) (fun z=>?_) (u.keep b o q n hb hx)
   rcases hfr b z with z | z
   · exact hb z
   · rw[z] at q
     cases q
 · obtain⟨sl,q1⟩:=u.slot b o q n hb hx
   obtain⟨sl',q2⟩:=v.slot b _ (nex b o q) q1
   exact⟨sl',q2⟩
 · obtain⟨o',q1⟩:=u.there b o q hx
   obtain⟨sl,q2⟩:=v.slot b o' (nex b o q) q1
   exact⟨_,q2⟩
theorem Xft {fs:List Addr}(u:Un fs [] H H' g h)(e:h.get? a=none):g.get? a=none:=by
 cases q:g.get? a with
 | none=>rfl
 | some o =>
   obtain⟨o',z⟩:=u.there a o q (by simp)
   rw[e] at z
   cases z
end
def CXe (P:Program)(w:World):CXT:=fun outer H s E e s'=>∃(x C T:Addr) (od:Option Addr) (H':Hp),e = .ref x∧s'.os=s.os∧AllBare s'.gens∧Un (frs outer) [] H H' s.heap s'.heap∧HOk P w H' s'.heap ∧
 s.heap.get? x=none∧s.heap.get? T=none∧H' x=none∧H' T=none∧Exc s'.heap x (.ref C) od T .none∧E (.ref C) od H'
section
variable {P:Program}{w:World}{K:PySem.W.Frag}{mg:Str→Option Value}{base:Heap}{N:List Str}{qual:Str}{scope:Scope}{f:Addr}{cd:Value}{A:Around}{outer:List Env}{s₀:Shared}{H₀:Hp}{EX:XK}
theorem Xsp {pins:List (Addr×Obj)}{σ:L2.St}{H:Hp}{s:Shared}{x C:Addr}{od:Option Addr}(I:Inv (cxOf (CXe P w) P w K mg base N qual scope f cd A outer s₀ H₀ EX) pins σ H s)(hx:Exc0 s.heap x (.ref C) od)(nx:s₀.heap.get? x=none)(ux:H x=none)(q:EX (.ref C) od H) :
   (cxOf (CXe P w) P w K mg base N qual scope f cd A outer s₀ H₀ EX).xe (.ref x) s:=by
 refine XJd (base:=base) (outer:=outer) I.ok.frames I.stack rfl hx fun h' T nT u t=>?_
 have hu:Un (frs outer) [] H₀ H s₀.heap s.heap:=I.base
 have uT:H T=none:=Xdl I.hok nT
 refine⟨x,C,T,od,H,rfl,I.os,I.bare,Xmo hu u (fun b hb=>?_) (fun b hb=>?_),Xkh I.hok u I.stkFree (fun b hb=>?_),nx,Xft hu nT,ux,uT,t,q⟩
 · rcases List.mem_cons.mp hb with rfl | hb
   · exact .inr (Heap.get?_none_of_le (Nat.le_refl _))
   · exact .inl hb
 · rcases List.mem_cons.mp hb with rfl | hb
   · exact nx
   · have e:b=T:=by simpa using hb
     subst e
     exact Xft hu nT
 · rcases List.mem_cons.mp hb with rfl | hb
   · exact ux
   · have e:b=T:=by simpa using hb
     subst e
     exact uT
theorem Xdk:Xfd (CXe P w) (cxOf (CXe P w) P w K mg base N qual scope f cd A outer s₀ H₀ EX) EX:=by
 rintro pins σ H s e s' I ⟨x,C,T,od,H',rfl,os,bare,un,hok,nx,nT,ux,uT,t,q⟩
 have I':Inv (cxOf (CXe P w) P w K mg base N qual scope f cd A outer s₀ H₀ EX) pins σ H' s':=by
   obtain⟨hh,gg,dd,tt,oo⟩:=s'
   obtain rfl:oo=s.os:=os
   have z:=I.call (h':=hh) (g':=gg) (d':=dd) (t':=tt) (ch:=[]) un hok bare (fun b z=>absurd z (by simp))
   exact z
 refine XOv (base:=base) (outer:=outer) I'.ok.frames I'.stack rfl t fun h' T' nT' u t'=>?_
 have hu:Un (frs outer) [] H₀ H' s₀.heap s'.heap:=I'.base
 have hu0:Un (frs outer) [] H₀ H s₀.heap s.heap:=I.base
 have uT':H' T'=none:=Xdl hok nT'
 have n0:∀b∈[T,x,T'],s₀.heap.get? b=none:=fun b hb=>by
   rcases List.mem_cons.mp hb with rfl | hb
   · exact Xft hu0 nT
   · rcases List.mem_cons.mp hb with rfl | hb
     · exact Xft hu0 nx
     · have e:b=T':=by simpa using hb
       subst e
       exact Xft hu nT'
 refine⟨x,C,T',od,H',rfl,I'.os,I'.bare,Xmo hu u (fun b hb=>?_) n0,Xkh hok u I'.stkFree (fun b hb=>?_),n0 x (by simp),n0 T' (by simp),ux,uT',t',q⟩
 · rcases List.mem_cons.mp hb with rfl | hb
   · exact .inr (Heap.get?_none_of_le (Nat.le_refl _))
   · exact .inl hb
 · rcases List.mem_cons.mp hb with rfl | hb
   · exact uT
   · rcases List.mem_cons.mp hb with rfl | hb
     · exact ux
     · have e:b=T':=by simpa using hb
       subst e
       exact uT'
end
end Stow
namespace Stow
open PySem L2 PyProof.Rows
theorem Xty {K:PySem.W.Frag}{h:Heap}{C:Addr}{bmB:List Value}{newId:String}(X:K.In h)(q:PySem.W.excIn K C bmB newId=true) :
   ∃(bm:List Value) (N:Addr) (nm qn:Str) (bs:List Value) (hd:Bool) (sn:List Str) (sub:List Value) (ab:Bool) (col:Option Bool) (dd:Option Addr) (k0 k1 k2 k3 k5:Option Value) (mN:Str→Option Value),
     h.get? C=some (excClassObj nm qn C N bs bm hd sn sub ab col dd k0 k1 k2 k3 k5 newId)∧h.Ns N mN∧mN "__init__"=none∧OwnTail h bmB bm∧∀v,PySem.W.mroIn K C v=some ((Value.ref C::bm).contains v):=by
 unfold PySem.W.excIn at q
 split at q
 · rename_i dd cd sl lk
   split at q
   · rename_i C' bm a0 a1 a2 a3 n a5 em es
     simp only [Bool.and_eq_true,beq_iff_eq,Bool.not_eq_true'] at q
     obtain⟨⟨⟨⟨⟨eC,rfl⟩,nodel⟩,tl⟩,okN⟩,noI⟩:=q
     have eC:=eC.symm
     subst eC
     have mro:∀v,PySem.W.mroIn K C v=some ((Value.ref C::bm).contains v):=fun v=>by
       unfold PySem.W.mroIn PySem.W.clsIn
       rw[lk]
       first
         | rfl
         | (simp [em];done)
     obtain⟨nm,bs,mr,ns,qn,hd,sn,sub,ab,col,del⟩:=cd
     dsimp only at em nodel okN noI
     subst em nodel
     have esl:sl=#[a0,a1,a2,a3,some (.builtin n),a5]:=by
       cases sl with
       | mk l =>
         dsimp only at es
         rw[es]
     subst esl
     exact⟨bm,ns,nm,qn,bs,hd,sn,sub,ab,col,dd,a0,a1,a2,a3,a5,_,X _ _ lk,.of_isNs (PySem.W.isNs_of_in X okN),PySem.W.nsMap_none_of_in X okN noI,PySem.W.tail_of_in X tl,mro⟩
   · cases q
 · cases q
structure XCls (K:PySem.W.Frag)(mg:Str→Option Value)(x:Str)(C:Addr):Prop where
 bound:mg x=some (.ref C)
 ex:∃(bmB:List Value) (B newId initId:String),PySem.W.excIn K C bmB newId=true∧ExcBaseFacts B newId initId bmB∧bmB.contains (.type "BaseException")=true
def Xzv (C:Addr)(E:XK)(t:TA):TS:=fun _ σ H=>t σ H fun xs H1=>xs.length≤sizeLine∧E (.ref C) none H1
section
variable {P:Program}{w:World}{K:PySem.W.Frag}{mg:Str→Option Value}{base:Heap}{N:List Str}{qual:Str}{scope:Scope}{f:Addr}{cd:Value}{A:Around}{outer:List Env}{s₀:Shared}{H₀:Hp}{EX:XK}
theorem Xcb {x:Str}{C:Addr}{np cpos pos:Pos}{e:Expr}{es:List Expr}{t:TA}(XC:XCls K mg x C)(hh:(cxOf (CXe P w) P w K mg base N qual scope f cd A outer s₀ H₀ EX).A.handled=none)
   (hg:Gl (cxOf (CXe P w) P w K mg base N qual scope f cd A outer s₀ H₀ EX) x) (ha:PA (cxOf (CXe P w) P w K mg base N qual scope f cd A outer s₀ H₀ EX) (e::es) t)
   (hdb:(x==("__debug__":Str))=false:=by decide) (he:starEach (e::es) (cxOf (CXe P w) P w K mg base N qual scope f cd A outer s₀ H₀ EX).env=(false,eval e (cxOf (CXe P w) P w K mg base N qual scope f cd A outer s₀ H₀ EX).env)::starEach es (cxOf (CXe P w) P w K mg base N qual scope f cd A outer s₀ H₀ EX).env:=by rfl)
   (hpl:(backTo cpos (starEach es (cxOf (CXe P w) P w K mg base N qual scope f cd A outer s₀ H₀ EX).env)).any (·.1)=false:=by rfl) :
   PS (cxOf (CXe P w) P w K mg base N qual scope f cd A outer s₀ H₀ EX) (.Raise (some (.Call (.Name x np) (e::es) [] cpos)) none pos) (Xzv C EX t):=by
 intro pins s σ H D I h
 obtain⟨bmB,B,newId,initId,q,FB,hB⟩:=XC.ex
 obtain⟨bm,NN,nm,qn,bs,hd,sn,sub,ab,col,dd,k0,k1,k2,k3,k5,mN,hC,hN,noI,tl,_⟩:=Xty I.mod.kin q
 refine wpAny_Raise_call_subT (C:=C) (nm:=nm) (q:=qn) (N:=NN) (bs:=bs) (bm:=bm) (hdct:=hd) (sn:=sn) (sub:=sub) (ab:=ab) (col:=col) (dd:=dd) (k0:=k0) (k1:=k1) (k2:=k2) (k3:=k3) (k5:=k5) FB (mN:=mN) (tl.hasType hB) hh
   (by rw[he];show (false||(backTo cpos (starEach es _)).any (·.1))=false;rw[hpl];rfl) noI (Xdv I hg XC.bound ⟨rfl,?_⟩ hdb)
 have hA:=ha cpos pins s σ H _ I h
 rw[he] at hA ⊢
 refine Calls.evalArgs_plain (thn hA fun us s2 ⟨xs,H2,I2,r2,hz,q2⟩=>⟨rfl,by rw[←r2.length];exact hz,I2.bk _ _ hC,hN.keeps I2.bk,tl.keeps I2.bk,fun h' x hm=>?_⟩)
 have I3:Inv (cxOf (CXe P w) P w K mg base N qual scope f cd A outer s₀ H₀ EX) pins σ H2 { s2 with heap:=h' }:=I2.kept (t':=s2.toks) hm.keeps
 obtain⟨tt,ht,_,_⟩:=hm.there
 exact Xsp I3 ⟨_,_,ht,rfl,rfl,rfl,rfl⟩ (Xft (show Un (frs outer) [] H₀ H2 s₀.heap s2.heap from I2.base) hm.new) (Xdl I2.hok hm.new) q2
end
def ExcO (x C:Addr)(od:Option Addr):HO:=.ext fun h=>∃oe vs,h.get? x=some oe∧oe.cls = .ref C∧oe.dict=od∧oe.data = .fields vs
abbrev Cx.suite (X:Cx)(x:Addr):Cx:={ X with A:=X.A.mark (some (.ref x)),calm:=false,xe:=fun _ _=>False }
theorem Xyw {X:Cx}(ok:X.Ok)(x:Addr):(Cx.suite X x).Ok :=
 ⟨ok.mod,ok.kind,ok.glob,ok.blt,ok.above,ok.inj,ok.has,ok.cab,fun z=>(nomatch z),ok.frames,ok.stk,ok.exf,ok.bs,ok.bsz,ok.noex,ok.exfs,ok.funs,ok.frf⟩
theorem Xig {X:Cx}{pins:List (Addr×Obj)}{σ:L2.St}{H:Hp}{s:Shared}(I:Inv X pins σ H s)(x:Addr):Inv (Cx.suite X x) pins σ H s:=⟨Xyw I.ok x,I.os,I.bare,I.base,I.loc,I.cell,I.free,I.freeC,I.pin,I.hok,I.len⟩
theorem Xdw {X:Cx}{pins:List (Addr×Obj)}{σ:L2.St}{H:Hp}{s:Shared}{x:Addr}(ok:X.Ok)(I:Inv (Cx.suite X x) pins σ H s):Inv X pins σ H s:=⟨ok,I.os,I.bare,I.base,I.loc,I.cell,I.free,I.freeC,I.pin,I.hok,I.len⟩
section
variable {X:Cx}
theorem Xov {pins:List (Addr×Obj)}{σ:L2.St}{H H':Hp}{s s':Shared}{h':Heap}{x C T:Addr}{od:Option Addr}{fr ex:List Addr}(I:Inv X pins σ H s)(os:s'.os=s.os)(bare:AllBare s'.gens)(un:Un (frs X.stack) [] H H' s.heap s'.heap)(hok:HOk X.prog X.w H' s'.heap)
   (nx:s.heap.get? x=none) (ux:H' x=none) (u:Upto fr ex s'.heap h') (hfr:fr=frs X.stack) (nex:∀b∈ex,s.heap.get? b=none∧H' b=none) (t:Exc h' x (.ref C) od T .none):Inv X pins σ (upd H' x (ExcO x C od)) { s' with heap:=h' }:=by
 subst hfr
 have un2:Un (frs X.stack) [] H H' s.heap h':=Xmo un u (fun b hb=>.inl hb) fun b hb=>(nex b hb).1
 have stk:∀b∈frs X.stack,H' b=none:=fun b hb=>by
   obtain⟨_,o,ho,_⟩:=I.stack.mem hb
   exact un.free b o ho (I.stkFree b hb) (by simp)
 have hok2:HOk X.prog X.w H' h':=Xkh hok u stk fun b hb=>(nex b hb).2
 have nex':∀b v,H' b=some v→b≠x:=fun b v e z=>by rw[z,ux] at e;cases e
 have un3:Un (frs X.stack) [] H (upd H' x (ExcO x C od)) s.heap h':=by
   refine⟨un2.keep,un2.slot,fun b o q n hx=>?_,un2.there,fun b xs q=>?_,fun b o v q=>?_,fun b ps q=>?_⟩
   · rw[Xaq (fun z=>by rw[z,nx] at q;cases q)]
     exact un2.free b o q n hx
   · rw[Xaq (nex' b _ (un2.tups b xs q))]
     exact un2.tups b xs q
   · rw[Xaq (nex' b _ (un2.frzs b o v q))]
     exact un2.frzs b o v q
   · obtain⟨more,z⟩:=un2.tbls b ps q
     exact⟨more,by rw[Xaq (nex' b _ z)];exact z⟩
 obtain⟨oe,vs,oT,ts,ne,ee,hc,hd,hf,_⟩:=t
 have hok3:HOk X.prog X.w (upd H' x (ExcO x C od)) h':=fun b v e=>by
   by_cases z:b=x
   · subst z
     rw[upd_same] at e
     cases e
     exact⟨⟨oe,vs,ee,hc,hd,hf⟩,⟨oe,ee⟩,fun h1 h2 ⟨o1,v1,q1,q2,q3,q4⟩ k=>⟨o1,v1,k o1 q1,q2,q3,q4⟩⟩
   · rw[Xaq z] at e
     exact(hok2 b v e).stay (fun _ _ _ q=>q) (fun c q=>by rw[Xaq (nex' c _ q)];exact q) fun c xs q=>by rw[Xaq (nex' c _ q)];exact q
 obtain⟨hh,gg,dd,tt,oo⟩:=s'
 obtain rfl:oo=s.os:=os
 have z:=I.call (h':=h') (g':=gg) (d':=dd) (t':=tt) (ch:=[]) un3 hok3 bare (fun b z=>absurd z (by simp))
 exact z
end
end Stow
namespace Stow
open PySem L2 PyProof.Rows
section
variable {X:Cx}
theorem Xfx {M:Model}{A:Around}{E:Value→Shared→Prop}{pins:List (Addr×Obj)}{σ:L2.St}{H:Hp}{s:Shared}{i:Nat}{n:Str}{pos:Pos}{Q:Unit→Shared→Prop}(I:Inv X pins σ H s)(hN:X.N.Nodup)(hi:X.N[i]?=some n)
   (hk:X.env.kindOf n=some .local) (k:∀s',Inv X pins (σ.set i none) H s'→Q () s'):wpAny M A (do bindName X.env n .none;unbindBehindTheSuite X.env n pos) Q E s:=by
 obtain⟨m,hn,hl⟩:=id I.loc
 have iσ:i<σ.length:=by rw[I.len];exact(List.getElem?_eq_some_iff.mp hi).1
 refine wpAny_nameGoes_keeps hk hn (by rw[I.ok.kind];rfl) fun h' v hn' hs=>k _ ?_
 have far:∀b o,X.s₀.heap.get? b=some o→h'.get? b=s.heap.get? b:=fun b o e=>hs.2 b (Nat.ne_of_lt (Nat.lt_of_lt_of_le (Heap.lt_size e) I.ok.above))
 refine⟨I.ok,I.os,I.bare,⟨fun b o e z hb hx=>(far b o e).trans (I.base.keep b o e z hb hx),fun b o e z hb hx=>?_,I.base.free,fun b o e hx=>?_,I.base.tups,I.base.frzs,I.base.tbls⟩,⟨_,hn',fun j y w' e1 e2 e3=>?_⟩,fun y c e=>?_,I.free,I.freeC,fun p hp=>?_,fun b ob e=>?_,by rw[List.length_set];exact I.len⟩
 · obtain⟨sl,q⟩:=I.base.slot b o e z hb hx
   exact⟨sl,(far b o e).trans q⟩
 · obtain⟨o',q⟩:=I.base.there b o e hx
   exact⟨o',(far b o e).trans q⟩
 · have ji:j≠i:=fun z=>by
     subst z
     rw[List.getElem?_set_self iσ] at e2
     cases e2
   rw[List.getElem?_set_ne (Ne.symm ji)] at e2
   obtain⟨u',r',q⟩:=hl j y w' e1 e2 e3
   refine⟨u',r',?_⟩
   rcases q with ⟨kk,e⟩ | ⟨kk,c,e,z⟩
   · have yn:y≠n:=fun e=>ji (Xjv hN e1 (e▸hi))
     exact .inl ⟨kk,by simp [yn,e]⟩
   · exact .inr ⟨kk,c,e,z.sameBut hs (I.cne y c e)⟩
 · obtain⟨w',z⟩:=I.cell y c e
   exact⟨w',z.sameBut hs (I.cne y c e)⟩
 · obtain⟨e,z,ne,nf,d⟩:=I.pin p hp
   exact⟨(hs.2 p.1 ne).trans e,z,ne,nf,d⟩
 · refine(I.hok b ob e).stay (fun c w' hc q=>(hs.2 c ?_).trans q) (fun _ q=>q) fun _ _ q=>q
   rintro rfl
   rcases hc with hc | hc
   · rw[←hc,I.free] at e
     cases e
   · rw[I.free] at hc
     cases hc
def ECls (K:PySem.W.Frag)(C:Addr)(bm:List Value):Prop:=∃(nm qn:Str) (N:Addr) (bs:List Value) (hd:Bool) (sn:List Str) (sub:List Value) (ab:Bool) (col:Option Bool) (dd:Option Addr) (k0 k1 k2 k3 k5:Option Value) (newId:String),
 K.lookup C=some (excClassObj nm qn C N bs bm hd sn sub ab col dd k0 k1 k2 k3 k5 newId)
variable {k:Nat}{f C0:Addr}{fd:FuncData}{ps:List Str}{sp:Sp}{fx cx:Str}{p cpos epos np hpos pos:Pos}{e:Expr}{es:List Expr}{ta:TA}{b0:Stmt}{suite:List Stmt}{ts:Addr→TS}
theorem XAe {pins:List (Addr×Obj)}{σ:L2.St}{H:Hp}{s s':Shared}{EX:XK}{y:Value}{W:Shared→Prop}(I:Inv X pins σ H s)(hst:X.stack=X.env::X.outer∧X.env.frame=some X.env.locals)(hq:CXe X.prog X.w X.stack H s EX y s')
   (k:∀(x C:Addr) (od:Option Addr) (T:Addr) (h2:Heap) (H2:Hp),y = .ref x→EX (.ref C) od H2→Exc h2 x (.ref C) od T .none→Inv X pins σ (upd H2 x (ExcO x C od)) { s' with heap:=h2 } →
     (∀h3,Upto (frs X.stack) [T] h2 h3→Exc h3 x (.ref C) od T .none→H2 x=none∧Inv X pins σ (upd H2 x (ExcO x C od)) { s' with heap:=h3 })→W { s' with heap:=h2 }) {E':Value→Shared→Prop} :
   wpAny (model X.prog X.w) X.A (noteFrame y X.env) (fun _ s2=>wpAny (model X.prog X.w) X.A (setFlight y none) (fun _ s3=>W s3) E' s2) E' s':=by
 obtain⟨x,C,T,od,H',rfl,os,bare,un,hok,nx,nT,ux,uT,t,q⟩:=hq
 have I':Inv X pins σ H' s':=by
   obtain⟨hh,gg,dd,tt,oo⟩:=s'
   obtain rfl:oo=s.os:=os
   have z:=I.call (h':=hh) (g':=gg) (d':=dd) (t':=tt) (ch:=[]) un hok bare (fun b z=>absurd z (by simp))
   exact z
 have efr:(X.env::X.outer).filterMap (·.frame)=frs X.stack:=by rw[hst.1];rfl
 refine XJc (base:=X.base) (outer:=X.outer) (by rw[←hst.1];exact I'.ok.frames) (by rw[←hst.1];exact I'.stack) hst.2 t fun h1 T' nT' u1 t1=>?_
 rw[efr] at u1
 refine Xhb (s:={ s' with heap:=h1 }) (fr:=frs X.stack) t1 fun h2 u2 t2=>?_
 have new:∀b∈[T,x]++[T']++[T'],s.heap.get? b=none∧H' b=none:=fun b hb=>by
   simp only [List.cons_append,List.nil_append,List.mem_cons,List.not_mem_nil,or_false] at hb
   rcases hb with rfl | rfl | rfl | rfl
   · exact⟨nT,uT⟩
   · exact⟨nx,ux⟩
   · exact⟨Xft un nT',Xdl hok nT'⟩
   · exact⟨Xft un nT',Xdl hok nT'⟩
 refine k x C od T' h2 H' rfl q t2 (Xov I os bare un hok nx ux (u1.trans u2) rfl (fun b hb=>new b (List.mem_append_left _ hb)) t2) fun h3 u3 t3=>⟨ux,Xov I os bare un hok nx ux ((u1.trans u2).trans u3) rfl new t3⟩
end
end Stow
namespace Stow
open PySem L2 PyProof.Rows
structure Defx (P:Program)(w:World)(K:PySem.W.Frag)(mg:Str→Option Value)(base:Heap)(x:Str)(k:Nat)(ps:List Str)(sp:Sp):Prop where
 ex:∃(f:Addr) (fd:FuncData),FnOk P w K mg base (CXe P w) k f fd ps sp∧mg x=some (.ref f)∧PySem.W.keepIn K (.ref f)=true∧Xco K fd ps []
section
variable {P:Program}{w:World}{K:PySem.W.Frag}{mg:Str→Option Value}{base:Heap}
theorem Xbq {x qual:Str}{st:Stmt}{f:Addr}{fd:FuncData}{N ps:List Str}{k:Nat}{sp:Sp}(F:Fun K x qual st f fd)(S:FnScope N ps (Xad st))(len:∀vs H Q E,sp vs H Q E→vs.length=ps.length)
   (hbody:∀(cdv:Value) (A:Around) (outer:List Env) (s:Shared) (H:Hp) (vs:List V) (Q:VK) (E:XK),Room k (A.deeper (envOfC qual (Xad st) s.heap.objs.size f cdv))→sp vs H Q E →
     ∃t,PSs (cxOf (CXe P w) P w K mg base N qual (Xad st) f cdv A outer s H E) (Xaz st) t∧t { nx:=fun _ H'=>Q .non H',rt:=Q } (start N vs) H):FnOk P w K mg base (CXe P w) (k+1) f fd ps sp:=by
 obtain⟨oc,od,kV,doc,pm,an,cdv,ct,osl,rfl,lk,hcd⟩:=F.ex
 exact XHh lk hcd S len fun A outer s H vs Q E hr hsp=>hbody cdv A outer s H vs Q E hr hsp
theorem Src.okx {x:Str}{st:Stmt}{N ps:List Str}{k:Nat}{sp:Sp}(S:Src K mg x st)(sc:FnScope N ps (Xad st))
   (hb:∀(kV doc pm:Value) (an:Option Addr) (cdv ct:Value) (us:List Value),us.length=ps.length→bindArgs (PySem.W.fnOf x x (Xbf st) (Xaz st) (Xad st) .none kV doc pm an cdv ct) ⟨us,[]⟩=pure (ps.zip us))
   (len:∀vs H Q E,sp vs H Q E→vs.length=ps.length)
   (hbody:∀(f:Addr) (cdv:Value) (A:Around) (outer:List Env) (s:Shared) (H:Hp) (vs:List V) (Q:VK) (E:XK),Room k (A.deeper (envOfC x (Xad st) s.heap.objs.size f cdv))→sp vs H Q E →
     ∃t,PSs (cxOf (CXe P w) P w K mg base N x (Xad st) f cdv A outer s H E) (Xaz st) t∧t { nx:=fun _ H'=>Q .non H',rt:=Q } (start N vs) H):Defx P w K mg base x (k+1) ps sp:=by
 obtain⟨f,fd,F,hm⟩:=S.ex
 exact⟨f,fd,Xbq F sc len (hbody f),hm,F.kp,F.binds hb⟩
end
section
variable {X:Cx}
theorem Xav:Xfd (CXe X.prog X.w) X E0:=by
 rintro pins σ H s e s' I ⟨x,C,T,od,H',_,_,_,_,_,_,_,_,_,_,q⟩
 exact q.elim
theorem Xai {x:Str}{j k:Nat}{ps:List Str}{sp:Sp}{p pos:Pos}{e:Expr}{es:List Expr}{t:TA}(D:Defx X.prog X.w X.K X.mg X.base x j ps sp)(hr:Room k X.A)(hg:Gl X x)(ha:PA X (e::es) t)(hk:j≤k:=by decide)
   (hdb:(x==("__debug__":Str))=false:=by decide) (he:starEach (e::es) X.env=(false,eval e X.env)::starEach es X.env:=by rfl) (hpl:(backTo pos (starEach es X.env)).any (·.1)=false:=by rfl) :
   PE X (.Call (.Name x p) (e::es) [] pos) (Xsg sp [] E0 t):=by
 obtain⟨f,fd,F,hm,kp,b⟩:=D.ex
 exact Xte F (hr.mono hk) hg hm kp b .nil Xav ha hdb he hpl
variable {j k:Nat}{C0:Addr}{ps:List Str}{sp:Sp}{fx cx:Str}{p cpos epos np hpos pos:Pos}{e:Expr}{es:List Expr}{ta:TA}{b0:Stmt}{suite:List Stmt}{ts:Addr→TS}
end
theorem Lk.of {M:Model}{h:Heap}{α:Type}{m:Sem α}{v:α}(l:PySem.W.Looks M h m v):Lk M h m v:=fun A E g d t os Q q=>l A Q E ⟨h,g,d,t,os⟩ (fun _ _ e=>e) q
structure XK0 (K:PySem.W.Frag)(C:Addr):Prop where
 ga:PySem.W.findIn K (.ref C) "__getattribute__"=some (some (.builtin "BaseException.__getattribute__"))
 gat:PySem.W.findIn K (.ref C) "__getattr__"=some none
 cls:PySem.W.findIn K (.ref C) "__class__"=some (some (.builtin "object.__class__"))
 obj:PySem.W.mroIn K C (.type "object")=some true
 exc:PySem.W.mroIn K C (.type "BaseException")=some true
theorem XK0.lk {prog:Program}{w:World}{K:PySem.W.Frag}{C:Addr}{h:Heap}(x:XK0 K C)(KX:K.In h):XLk prog w h C :=
 ⟨.of (PySem.W.looks_findIn KX x.ga),.of (PySem.W.looks_findIn KX x.gat),.of (PySem.W.looks_findIn KX x.cls),.of (PySem.W.looks_mroIn KX x.obj),.of (PySem.W.looks_mroIn KX x.exc)⟩
theorem Xza {K:PySem.W.Frag}{x C:Addr}(FB:Slot "ValueError" "__getattribute__" "BaseException.__getattribute__")(Z:XK0 K C):PySem.W.KitX K (.ref x) (.ref C) (fun h=>∃ox,h.get? x=some ox∧ox.cls = .ref C) where
 ty:=fun M h KX ⟨ox,e,hc⟩ A Q E s k q=>by
   unfold typeOf
   refine wpAny_bind (wpAny_loadPart (k _ _ e) ?_)
   rw[hc]
   exact wpAny_pure q
 it:=fun M h KX _ A Q E s k q=>by
   obtain⟨cd,hcd,_⟩:=Option.bind_eq_some_iff.mp Z.obj
   unfold PySem.W.clsIn at hcd
   split at hcd
   · rename_i lk
     unfold isType loadHead
     exact wpAny_bind (wpAny_loadPart (k _ _ (KX _ _ lk)) (wpAny_pure q))
   · cases hcd
 ne:=fun h tp dd its n sl KX htp=>by
   obtain⟨cd,hcd,_⟩:=Option.bind_eq_some_iff.mp Z.obj
   refine Bool.eq_false_iff.mpr fun q=>?_
   have e:C=tp:=Value.ref.inj (beq_iff_eq.mp q)
   subst e
   unfold PySem.W.clsIn at hcd
   split at hcd
   · rename_i lk
     have z:=(KX _ _ lk).symm.trans htp
     cases z
   · cases hcd
 ca:=fun {_ _ _ _ _ s} KX ⟨ox,e,hc⟩ k=>by
   obtain⟨h,g,d,t,os⟩:=s
   exact XBo FB (Z.lk KX) e hc k
def clsV:V→Value
 | .ty n=>.type n
 | .ref a=>.ref a
 | _=>.none
section
variable {X:Cx}
theorem Xbp (FB:Slot "ValueError" "__getattribute__" "BaseException.__getattribute__"):Xgq X (.builtin "isinstance") (fun xs H Q=>∃x C od v b,xs=[.ref x,v]∧H x=some (ExcO x C od)∧XK0 X.K C∧clsV v≠.none∧PySem.W.kitOne X.K (.ref C) (clsV v)=some b∧Q (.bl b) H):=by
 intro pins s σ H xs us Q I r h
 obtain⟨x,C,od,v,b,rfl,hx,Z,nv,e,q⟩:=h
 obtain⟨u,u',rfl,rx,ry⟩:=Xtt r
 cases (show u=Value.ref x from rx)
 have ev:u'=clsV v:=by
   cases v with
   | ty n=>exact ry
   | ref a=>exact ry
   | _=>exact absurd rfl nv
 subst ev
 obtain⟨⟨oe,vs,ee,hc,_⟩,_⟩:=I.hok x _ hx
 exact PySem.W.kia_one (Xza FB Z) I.kIn ⟨oe,ee,hc⟩ e (fun z=>nomatch z) fun tk=>⟨.bl b,H,I.tok tk,rfl,q⟩
end
end Stow
namespace Stow
open PySem L2 PyProof.Rows
open PySem.W in
theorem Xmz (self:Value):refuseLoop self "__setattr__" [.type "ValueError",.type "Exception",.type "BaseException",.type "object"]=pure ():=by kernel_rfl
def Xhf:List Value→Bool
 | .ref _::r=>Xhf r
 | l=>l==[.type "ValueError",.type "Exception",.type "BaseException",.type "object"]
open PySem.W in
theorem Xin (self:Value):∀{l:List Value},Xhf l=true→refuseLoop self "__setattr__" l=pure ()
 | .ref c::r,e=>by rw[refuseLoop_ref];exact Xin self e
 | [],e=>by cases e
 | .none::r,e=>by cases e
 | .type n::r,e=>by
   have e':(Value.type n::r)=[.type "ValueError",.type "Exception",.type "BaseException",.type "object"]:=beq_iff_eq.mp e
   rw[e']
   exact Xmz self
 | .ellipsis::r,e=>by cases e
 | .notImplemented::r,e=>by cases e
 | .bool b::r,e=>by cases e
 | .int i t::r,e=>by cases e
 | .float i t::r,e=>by cases e
 | .str i t::r,e=>by cases e
 | .bytes i t::r,e=>by cases e
 | .builtin i::r,e=>by cases e
section
variable {prog:Program}{w:World}{A:Around}{K:PySem.W.Frag}{x C:Addr}{s:Shared}
open PySem.W in
theorem Xxr {E:Value→Shared→Prop}{ox:Obj}{vs:Array Value}{name:Str}{v:Value}{cd:ClassData}{Q:Unit→Shared→Prop}(X:K.In s.heap)(hx:s.heap.get? x=some ox)(hcl:ox.cls = .ref C)(hdi:ox.dict=none)(hda:ox.data = .fields vs)
   (hs:findIn K (.ref C) "__setattr__"=some (some (.builtin "object.__setattr__"))) (hc:clsIn K C=some cd) (ho:Xhf cd.mro=true) (hm:mroIn K C (.type "object")=some true) (hd:cd.hasDict=true) (ht:findIn K (.ref C) name=some none)
   (h:∀h' dx,s.heap.get? dx=none→dx≠x→h'.get? x=some { ox with dict:=some dx }→h'.Ns1 dx (fun y=>if y=name then some v else none)→(∀b o,b≠x→s.heap.get? b=some o→h'.get? b=some o)→Q () { s with heap:=h',toks:=s.toks+2 }) :
   wpAny (model prog w) A (setAttr (.ref x) name v) Q E s:=by
 have I:InstAt s.heap x ox C none:=⟨hx,hcl,by unfold notCls;rw[hda],by rw[hdi];trivial⟩
 refine set_plain X I hs ?_
 have SF:=PySem.F.store_object
 have sub:Looks (model prog w) s.heap (isInstance (.ref x) (.type "object")) true:=I.type.andThen (looks_mroIn X hm)
 refine codeAny_call_builtin SF.slot.plain SF.entry (@check_slot (model prog w) _ _ { s with toks:=s.toks+1 } "object.__setattr__" "object" "__setattr__" (.ref x) [.str name s.toks,v] [] _ SF.kind SF.split sub (SF.args (.ref x) (.str name s.toks) v) ?_)
 have mro:Looks (model prog w) s.heap (mroOf (.ref C)) cd.mro:=(looks_clsIn X hc).andThen .now
 rw[osa_eq,refuse_eq]
 refine wpAny_bind (wpAny_bind (Looks.here (s:={ s with toks:=s.toks+1 }) I.type (wpAny_bind (Looks.here (s:={ s with toks:=s.toks+1 }) mro ?_))))
 rw[Xin _ ho]
 refine wpAny_pure (wpAny_bind (Looks.here (s:={ s with toks:=s.toks+1 }) I.type (wpAny_bind (Looks.here (s:={ s with toks:=s.toks+1 }) (looks_findIn X ht) (wpAny_bind (wpAny_pure ?_))))))
 show wpAny _ _ (Builtin.ObjectAttr.storeInOwnDict (.ref x) (.ref C) _ name v _) _ _ _
 unfold Builtin.ObjectAttr.storeInOwnDict
 obtain⟨c0,d0,dt0,sl0⟩:=ox
 dsimp only at hcl hdi hda
 subst hcl hdi hda
 refine wpAny_bind (wpAny_pure (wpAny_bind (wpAny_bind (wpAny_loadPart hx (wpAny_bind (Looks.here (s:={ s with toks:=s.toks+1 }) (looks_clsIn X hc) ?_))))))
 rw[hd]
 show wpAny (model prog w) A.in1 (do
   let d ←alloc { cls:=Value.type "dict",data:=Data.dict #[] }
   update x fun o=>{ o with dict:=some d }
   dictMade (.ref C) x d) _ _ _
 refine wpAny_bind (wpAny_alloc ?_)
 refine wpAny_bind (wpAny_update (Heap.get?_push_of_some _ hx) ?_)
 refine wpAny_pure (a:=some s.heap.objs.size) (wpAny_bind (wpAny_pure (wpAny_bind ?_)))
 have ne:s.heap.objs.size≠x:=Nat.ne_of_gt (Heap.lt_size hx)
 have n0:((s.heap.push { cls:=.type "dict",data:=.dict #[] }).update x fun o=>{ o with dict:=some s.heap.objs.size }).Ns1 s.heap.objs.size (fun _=>none):=by
   have e1:(s.heap.push { cls:=.type "dict",data:=.dict #[] }).get? s.heap.objs.size=some { cls:=.type "dict",data:=.dict #[] }:=Heap.get?_push_size s.heap rfl
   have e3:(s.heap.push { cls:=.type "dict",data:=.dict #[] }).Ns s.heap.objs.size (fun _=>none):=⟨_,#[],_,e1,rfl,(fun e he=>absurd he (by simp)),fun _=>rfl⟩
   exact(Heap.Ns1.of_empty e3).at fun o q=>by rw[Heap.get?_update_other _ _ (fun z=>ne z.symm)];exact q
 refine wpAny_nsSet1 n0 fun h' hn2 hs2=>?_
 obtain⟨oD,esD,epD,hoD,hdD,hcD⟩:=hn2.count (PySem.Within.cons name v (ns:=[]) (fun y hy=>absurd rfl hy))
 refine wpAny_bind (wpAny_lookBehind hoD (by rw[hdD];exact pastItsLine_dict (Nat.le_trans hcD (by show 1≤sizeLine+1;exact Nat.le_add_left 1 _))) ?_)
 refine wpAny_pure (h _ s.heap.objs.size (Heap.get?_none_of_le (Nat.le_refl _)) ne ?_ hn2 fun b o nb q=>?_)
 · rw[hs2.2 x (fun z=>ne z.symm)]
   exact Heap.get?_update_self _ (Heap.get?_push_of_some _ hx) rfl
 · rw[hs2.2 b (Nat.ne_of_lt (Heap.lt_size q))]
   show ((s.heap.push _).update x _).get? b=some o
   rw[Heap.get?_update_other _ _ (fun z=>nb z.symm)]
   exact Heap.get?_push_of_some _ q
end
end Stow
namespace Stow
open PySem
open Sem (wp)
section
variable {prog:Program}{w:World}{A:Around}{E:Value→Shared→Prop}{h:Heap}{g:Array GenState}{d:Drawn}{t:Nat}{os:OsState}{a C:Addr}{o:Obj}{name:Str}{v:Value}
end
end Stow
namespace Stow
open PySem L2 PyProof.Rows
structure XSet (K:PySem.W.Frag)(C:Addr)(f:Str):Prop where
 sa:PySem.W.findIn K (.ref C) "__setattr__"=some (some (.builtin "object.__setattr__"))
 cd:∃cd,PySem.W.clsIn K C=some cd∧Xhf cd.mro=true∧cd.hasDict=true
 ob:PySem.W.mroIn K C (.type "object")=some true
 no:PySem.W.findIn K (.ref C) f=some none
def ExcN (x C:Addr)(od:Option Addr):HO:=.ext fun h=>∃tt,h.get? x=some { cls:=.ref C,dict:=od,data:=.fields #[.ref tt,.none,.none,.none,.bool false,.none] }
def sFldX (K:PySem.W.Frag)(ta tv:TE)(f:Str):TS:=fun D σ H=>tv σ H fun y H1=>ta σ H1 fun x H2=>∃a C,x = .ref a∧H2 a=some (ExcN a C none)∧XSet K C f∧∀dx,H2 dx=none→D.nx σ (upd (upd H2 dx (.xd [(f,y)])) a (ExcN a C (some dx)))
section
variable {X:Cx}{o e value:Expr}{f:Str}{pos pos':Pos}{ta tv:TE}
theorem XCs (ha:PE X o ta)(hv:PE X value tv)(hs:swapsWith value (some (.Attribute o f pos')) pos.line X.env=pure false:=by rfl):PS X (.Assign [.Attribute o f pos'] value pos) (sFldX X.K ta tv f):=by
 intro pins s σ H D I h
 refine plainObj_wpAny_Assign_Attribute (thn (hv pins s σ H _ I h) fun u s1 ⟨y,H1,I1,ry,q⟩=>thn (ha pins s1 σ H1 _ I1 q) fun ov s2 ⟨x,H2,I2,rx,a,C,ex,ea,Z,q2⟩=>?_) hs
 subst ex
 obtain rfl:ov=Value.ref a:=rx
 obtain⟨⟨tt,ee⟩,_⟩:=I2.hok a _ ea
 obtain⟨cd,hcd,ht,hdi⟩:=Z.cd
 refine Xxr I2.kIn ee rfl rfl rfl Z.sa hcd ht Z.ob hdi Z.no fun h' dx nd ne e' n' kp=>?_
 have ud:H2 dx=none:=Xdl I2.hok nd
 have nda:a≠dx:=fun z=>ne z.symm
 refine⟨σ,_,?_,q2 dx ud⟩
 -- the dict is laid,the exception bears it
 have un:Un X.fs [] H2 (upd (upd H2 dx (.xd [(f,y)])) a (ExcN a C (some dx))) s2.heap h':=by
   refine⟨fun b ob qb n _ _=>kp b ob (fun z=>by rw[z,ea] at n;cases n) qb,fun b ob qb n _ _=>⟨ob.slots,kp b ob (fun z=>by rw[z,ea] at n;cases n) qb⟩,fun b ob qb n _=>?_,fun b ob qb _=>?_,fun b xs qb=>?_,fun b ob v' qb=>?_,fun b ps qb=>?_⟩
   · rw[Xaq (fun z=>by rw[z,ea] at n;cases n),Xaq (fun z=>by rw[z,nd] at qb;cases qb)]
     exact n
   · by_cases z:b=a
     · subst z
       exact⟨_,e'⟩
     · exact⟨ob,kp b ob z qb⟩
   · rw[Xaq (fun z=>by rw[z,ea] at qb;cases qb),Xaq (Xap qb ud)]
     exact qb
   · rw[Xaq (fun z=>by rw[z,ea] at qb;cases qb),Xaq (Xap qb ud)]
     exact qb
   · exact⟨#[],by rw[Xaq (fun z=>by rw[z,ea] at qb;cases qb),Xaq (Xap qb ud),qb];simp⟩
 have hok:HOk X.prog X.w (upd (upd H2 dx (.xd [(f,y)])) a (ExcN a C (some dx))) h':=fun b v' qb=>by
   by_cases z:b=a
   · subst z
     rw[upd_same] at qb
     cases qb
     exact⟨⟨tt,e'⟩,⟨_,e'⟩,fun h1 h2 ⟨t1,q1⟩ k=>⟨t1,k _ q1⟩⟩
   · rw[Xaq z] at qb
     by_cases z2:b=dx
     · subst z2
       rw[upd_same] at qb
       cases qb
       refine⟨_,n',fun g=>?_⟩
       show RelO (List.lookup g [(f,y)]) (if g=f then some u else none)
       by_cases zg:g=f
       · subst zg
         rw[if_pos rfl,List.lookup_cons_self]
         exact ry
       · rw[if_neg zg,List.lookup_cons,show (g==f)=false from beq_false_of_ne zg]
         trivial
     · rw[Xaq z2] at qb
       refine(I2.hok b v' qb).stay (fun c w' hcw q=>kp c w' (fun y'=>?_) q) (fun c q=>?_) fun c xs q=>?_
       · subst y'
         rcases hcw with r | r
         · exact z r.symm
         · rw[ea] at r
           cases r
       · rw[Xaq (fun z=>by rw[z,ea] at q;cases q),Xaq (Xap q ud)]
         exact q
       · rw[Xaq (fun z=>by rw[z,ea] at q;cases q),Xaq (Xap q ud)]
         exact q
 exact I2.un un hok
end
end Stow
namespace Stow
open PySem
open Sem (wp)
section
variable {prog:Program}{w:World}{A:Around}{E:Value→Shared→Prop}{h:Heap}{g:Array GenState}{d:Drawn}{t:Nat}{os:OsState}
variable {nm q:Str}{C N:Addr}{bs bm bmB:List Value}{hdct:Bool}{sn:List Str}{sub:List Value}{ab:Bool}{col:Option Bool}{dd:Option Addr}{k0 k1 k2 k3 k5:Option Value}{B newId initId:String}
theorem Xsf (FB:ExcBaseFacts B newId initId bmB)(TL:OwnTail h bmB bm){args:List Value}{fI:Addr}{oI:Obj}{Q:Fin→Shared→Prop}(hC:h.get? C=some (excClassObj nm q C N bs bm hdct sn sub ab col dd k0 k1 k2 k3 k5 newId))
   (LI:PySem.W.Looks (model prog w) h (typeLookup (.ref C) "__init__") (some (.ref fI))) (hfI:h.get? fI=some oI) (hfc:oI.cls = .type "function")
   (k:∀h' e,Heap.MadeExcOf h h' e (.ref C) args→wpAny (model prog w) A (call (.ref fI) (.ref e::args)) (fun r s'=>r = .none∧Q (.done (.ret (.ref e))) s') E ⟨h',g,d,t,os⟩) (hz:args.length≤sizeLine) :
   wpAny (model prog w) A (Builtin.«type.__call__» ⟨.ref C::args,[]⟩) Q E ⟨h,g,d,t,os⟩:=by
 repeat (first
   | with_reducible refine wpAny_loadPart_at hC ?_
   | with_reducible refine wpAny_madeBy_exc hC ?_
   | wp_step)
 refine codeAny_call_builtin_code (Code.quiet_builtin _ FB.quiet) (wpAny_check_new_subT FB TL hC (codeAny_exc_new_subT FB TL hC ?_ hz))
 show wpAny _ _ _ _ _ _
 have kp:∀b o,h.get? b=some o→((h.push { cls:=.type "tuple",data:=.seq args.toArray }).push { cls:=.ref C,data:=.fields #[.ref h.objs.size,.none,.none,.none,.bool false,.none] }).get? b=some o :=
   fun b o z=>Heap.get?_push_of_some _ (Heap.get?_push_of_some _ z)
 have gC:=kp _ _ hC
 have gE:((h.push { cls:=.type "tuple",data:=.seq args.toArray }).push { cls:=.ref C,data:=.fields #[.ref h.objs.size,.none,.none,.none,.bool false,.none] }).get? (h.objs.size+1)
     = some { cls:=.ref C,data:=.fields #[.ref h.objs.size,.none,.none,.none,.bool false,.none] }:=by heap_get
 have cC:(Value.ref C::bm).contains (.ref C)=true:=by simp
 unfold isInstance
 repeat (first
   | with_reducible refine wpAny_loadPart_at gE ?_
   | (with_reducible refine wpAny_isSubtype_exc gC ?_;rw[cC])
   | wp_step)
 show wpAny _ _ (typeLookup (.ref C) _) _ _ _
 refine LI _ _ _ _ kp ?_
 refine wpAny_holding (wpAny_bind ?_)
 unfold bindSpecial
 refine wpAny_bind (wpAny_typeOf (T:="function") ⟨_,kp _ _ hfI,hfc⟩ ?_)
 rw[if_pos (by decide)]
 refine wpAny_pure (wpAny_bind (wpAny_mono (k _ (h.objs.size+1) ⟨kp,Heap.get?_none_of_le (Nat.le_succ _),h.objs.size,gE,Heap.get?_none_of_le (Nat.le_refl _),?_⟩) (fun r s' hr=>?_) fun _ _ z=>z))
 · exact Heap.get?_push_of_some _ (Heap.get?_push_at rfl rfl)
 · obtain⟨rfl,z⟩:=hr
   wp_walk
   exact z
theorem Xql (FB:ExcBaseFacts B newId initId bmB)(TL:OwnTail h bmB bm){args:List Value}{fI:Addr}{oI:Obj}{Q:Value→Shared→Prop}(hC:h.get? C=some (excClassObj nm q C N bs bm hdct sn sub ab col dd k0 k1 k2 k3 k5 newId))
   (LI:PySem.W.Looks (model prog w) h (typeLookup (.ref C) "__init__") (some (.ref fI))) (hfI:h.get? fI=some oI) (hfc:oI.cls = .type "function")
   (k:∀h' e,Heap.MadeExcOf h h' e (.ref C) args→wpAny (model prog w) (A.under (.builtin "type.__call__" ⟨.ref C::args,[]⟩)) (call (.ref fI) (.ref e::args)) (fun r s'=>r = .none∧Q (.ref e) s') E ⟨h',g,d,t,os⟩) (hz:args.length≤sizeLine) :
   wpAny (model prog w) A (call (.ref C) args) Q E ⟨h,g,d,t,os⟩:=by
 have y1:=tc_lookup
 have y2:=tc_bind (.ref C)
 have y3:(⟨h,g,d,t,os⟩:Shared).TypeIs (.ref C) "type":=⟨_,hC,rfl⟩
 refine wpAny_call (codeAny_of_tree ?_)
 show wpAny _ _ (callAny (.ref C) _) _ _ _
 repeat (any_goals (first
   | assumption
   | with_reducible refine wpAny_loadPart_at hC ?_
   | wp_step))
 refine⟨rfl,codeAny_call_builtin_at (Code.quiet_builtin _ (by decide +kernel)) entry_typeCall (wpAny_check_type_call_sub hC (Xsf FB TL hC LI hfI hfc (fun h' e hm=>?_) hz))⟩
 exact k h' e hm
theorem Xso {M:Model}{env:Env}{s:Shared}{x:Sem Value}{Q:Flow→Shared→Prop}(hbase:bm.contains (.type "BaseException")=true)(hh:A.handled=none)
   (k:wpAny M A x (fun v s1=>∃e od tt,v = .ref e∧s1.heap.get? C=some (excClassObj nm q C N bs bm hdct sn sub ab col dd k0 k1 k2 k3 k5 newId)∧s1.heap.get? e=some { cls:=.ref C,dict:=od,data:=.fields #[.ref tt,.none,.none,.none,.bool false,.none] }∧E (.ref e) s1) E s) :
   wpAny M A (raiseStmt env (some x) none) Q E s:=by
 have cB:(Value.ref C::bm).contains (.type "BaseException")=true:=by rw[List.contains_cons,hbase,Bool.or_true]
 unfold raiseStmt
 refine wpAny_bind (wpAny_mono k (fun v s1 k1=>?_) fun _ _ z=>z)
 obtain⟨e,od,tt,rfl,hC,he,z⟩:=k1
 obtain⟨hp,gg,d1,tk,os1⟩:=s1
 repeat (first
   | with_reducible refine wpAny_loadPart_at he ?_
   | with_reducible refine wpAny_loadPart_at hC ?_
   | (with_reducible refine wpAny_isSubtype_exc hC ?_;rw[cB])
   | wp_step)
 exact wpAny_raiseNew_none hh z
end
end Stow
namespace Stow
open PySem L2 PyProof.Rows
structure XIni (K:PySem.W.Frag)(mg:Str→Option Value)(x:Str)(C C0 fI:Addr):Prop where
 bound:mg x=some (.ref C)
 lk:∃(nm qn:Str) (N:Addr) (bs:List Value) (hd:Bool) (sn:List Str) (sub:List Value) (ab:Bool) (col:Option Bool) (dd:Option Addr) (k0 k1 k2 k3 k5:Option Value),
   K.lookup C=some (excClassObj nm qn C N bs (.ref C0::[.type "ValueError",.type "Exception",.type "BaseException",.type "object"]) hd sn sub ab col dd k0 k1 k2 k3 k5 "ValueError.__new__")
 base:PySem.W.excIn K C0 [.type "ValueError",.type "Exception",.type "BaseException",.type "object"] "ValueError.__new__"=true
 ini:PySem.W.findIn K (.ref C) "__init__"=some (some (.ref fI))
 keep:PySem.W.keepIn K (.ref C)=true
 fn:∃(c:Value) (dd:Option Addr) (da:Data) (sl:Array (Option Value)),K.lookup fI=some ⟨c,dd,da,sl⟩∧c = .type "function"
def del (H:Hp)(x:Addr):Hp:=fun b=>if b=x then none else H b
theorem Xgy {H:Hp}{x:Addr}:del H x x=none:=by unfold del;rw[if_pos rfl]
theorem Xgo {H:Hp}{x b:Addr}(h:b≠x):del H x b=H b:=by unfold del;rw[if_neg h]
theorem XGr {X:Cx}{pins:List (Addr×Obj)}{σ:L2.St}{H:Hp}{s:Shared}{x:Addr}{φ:Heap→Prop}(I:Inv X pins σ H s)(e:H x=some (.ext φ)):Inv X pins σ (del H x) s:=by
 have nx:∀b v,H b=some v→v≠.ext φ→b≠x:=fun b v q n z=>by
   subst z
   rw[e] at q
   exact n (Option.some.inj q).symm
 have un:Un X.fs [] H (del H x) s.heap s.heap:=by
   refine⟨fun b o q _ _ _=>q,fun b o q _ _ _=>⟨o.slots,q⟩,fun b o q n _=>?_,fun b o q _=>⟨o,q⟩,fun b xs q=>?_,fun b o v q=>?_,fun b ps q=>⟨#[],?_⟩⟩
   · by_cases z:b=x
     · rw[z]
       exact Xgy
     · rw[Xgo z]
       exact n
   · rw[Xgo (nx b _ q (by intro z;cases z))]
     exact q
   · rw[Xgo (nx b _ q (by intro z;cases z))]
     exact q
   · rw[Xgo (nx b _ q (by intro z;cases z)),q]
     simp
 have hok:HOk X.prog X.w (del H x) s.heap:=fun b v q=>by
   by_cases z:b=x
   · rw[z,Xgy] at q
     cases q
   · rw[Xgo z] at q
     refine(I.hok b v q).stay (fun _ _ _ z=>z) (fun c q'=>?_) fun c xs q'=>?_
     · rw[Xgo (nx c _ q' (by intro z;cases z))]
       exact q'
     · rw[Xgo (nx c _ q' (by intro z;cases z))]
       exact q'
 exact I.un (h':=s.heap) (t':=s.toks) un hok
theorem XBf {X:Cx}{pins:List (Addr×Obj)}{σ:L2.St}{H:Hp}{s:Shared}{h':Heap}{x C tt:Addr}(I:Inv X pins σ H s)(nx:s.heap.get? x=none)(kp:∀b o,s.heap.get? b=some o→h'.get? b=some o)
   (e:h'.get? x=some { cls:=.ref C,data:=.fields #[.ref tt,.none,.none,.none,.bool false,.none] }):Inv X pins σ (upd H x (ExcN x C none)) { s with heap:=h' }:=by
 have ux:H x=none:=Xdl I.hok nx
 have un:Un X.fs [] H (upd H x (ExcN x C none)) s.heap h':=by
   refine⟨fun b o q _ _ _=>kp b o q,fun b o q _ _ _=>⟨o.slots,kp b o q⟩,fun b o q n _=>?_,fun b o q _=>⟨o,kp b o q⟩,fun b xs q=>?_,fun b o v q=>?_,fun b ps q=>⟨#[],?_⟩⟩
   · rw[Xaq (fun z=>by rw[z,nx] at q;cases q)]
     exact n
   · rw[Xaq (Xap q ux)]
     exact q
   · rw[Xaq (Xap q ux)]
     exact q
   · rw[Xaq (Xap q ux),q]
     simp
 have hok:HOk X.prog X.w (upd H x (ExcN x C none)) h':=fun b v q=>by
   by_cases z:b=x
   · subst z
     rw[upd_same] at q
     cases q
     exact⟨⟨tt,e⟩,⟨_,e⟩,fun h1 h2 ⟨t1,q1⟩ k=>⟨t1,k _ q1⟩⟩
   · rw[Xaq z] at q
     refine(I.hok b v q).stay (fun c w' _ q'=>kp c w' q') (fun c q'=>?_) fun c xs q'=>?_
     · rw[Xaq (Xap q' ux)]
       exact q'
     · rw[Xaq (Xap q' ux)]
       exact q'
 exact I.un (t':=s.toks) un hok
theorem Xyp {X:Cx}{x:Str}{C C0 fI:Addr}{fd:FuncData}{ps:List Str}{sp:Sp}{j:Nat}{pins:List (Addr×Obj)}{σ:L2.St}{H:Hp}{s:Shared}{Q:VK}{us:List Value}{vs:List V}(XI:XIni X.K X.mg x C C0 fI)(F:FnOk X.prog X.w X.K X.mg X.base (CXe X.prog X.w) j fI fd ps sp)
   (hr:Room (j+1) X.A) (hb:Xco X.K fd ps []) (I:Inv X pins σ H s) (r:Vals vs us) (hz:vs.length≤1000) (h:∀y,H y=none→sp (.ref y::vs) (upd H y (ExcN y C none)) (fun v H2=>v = .non∧Q (.ref y) H2) E0) :
   wpAny (model X.prog X.w) X.A (call (.ref C) us) (fun u s'=>EP X pins σ Q u s'∧∃y,u = .ref y∧s.heap.get? y=none) X.xe s:=by
 obtain⟨nm,qn,NN,bs,hd,sn,sub,ab,col,dd,k0,k1,k2,k3,k5,lkC⟩:=XI.lk
 obtain⟨bm,N0,nm0,qn0,bs0,hd0,sn0,sub0,ab0,col0,dd0,j0,j1,j2,j3,j5,mN0,hC0,hN0,noI,tl,_⟩:=Xty I.kIn XI.base
 have FB:=PySem.F.excBase_ValueError
 have TL:OwnTail s.heap [.type "ValueError",.type "Exception",.type "BaseException",.type "object"] (.ref C0::[.type "ValueError",.type "Exception",.type "BaseException",.type "object"]):=.own hC0 hN0 noI .base
 obtain⟨cI,dI,daI,slI,lkI,ecI⟩:=XI.fn
 have gC:=I.kIn _ _ lkC
 have gI:=I.kIn _ _ lkI
 have LI:=PySem.W.looks_findIn (M:=model X.prog X.w) I.kIn XI.ini
 obtain⟨hp,gg,d1,tk,os1⟩:=s
 refine Xql FB TL gC LI gI ecI (fun h' y hm=>?_) (by rw[←r.length];exact Nat.le_of_lt (small1000 hz))
 obtain⟨tt,ey,_,_⟩:=hm.there
 have I2:=XBf I hm.new hm.keeps ey
 have uy:H y=none:=Xdl I.hok hm.new
 have hq:=h y uy
 have r2:Vals (V.ref y::vs) (Value.ref y::us):=.cons rfl r
 have hl:((Value.ref y::us)++[]).length=ps.length:=by
   rw[List.append_nil,←F.len _ _ _ _ hq]
   exact r2.length.symm
 have bd:=hb _ (Value.ref y::us) I2.kIn hl
 rw[List.append_nil] at bd
 refine wpAny_call (codeAny_mono (F.run _ X.stack _ _ ⟨Value.ref y::us,[]⟩ (Value.ref y::us) _ _ E0 (hr.make C us []) (I2.env0.make C us []) bd r2 hq) fun rs s' hq'=>?_)
 cases rs with
 | error e=>obtain⟨_,_,_,_,_,_,_,_,_,_,_,_,_,_,_,z⟩:=hq';exact z.elim
 | ok fl =>
   cases fl with
   | ret u =>
     obtain⟨v,H',I3,rv,ev,q3⟩:=I2.after hq'
     subst ev
     exact⟨rv,⟨V.ref y,H',I3,rfl,q3⟩,y,rfl,hm.new⟩
   | next=>exact False.elim hq'
   | brk=>exact False.elim hq'
   | cont=>exact False.elim hq'
def Xnh (C:Addr)(sp:Sp)(E:XK)(t:TA):TS:=fun _ σ H=>t σ H fun vs H1=>vs.length≤1000∧∀y,H1 y=none→sp (.ref y::vs) (upd H1 y (ExcN y C none)) (fun v H2=>v = .non∧∃z,V.ref y=V.ref z∧∃od,H2 z=some (ExcN z C od)∧E (.ref C) od (del H2 z)) E0
section
variable {P:Program}{w:World}{K:PySem.W.Frag}{mg:Str→Option Value}{base:Heap}{N:List Str}{qual:Str}{scope:Scope}{f:Addr}{cd:Value}{A:Around}{outer:List Env}{s₀:Shared}{H₀:Hp}{EX:XK}
theorem Xqd {x:Str}{C C0 fI:Addr}{fd:FuncData}{ps:List Str}{sp:Sp}{j k:Nat}{np cpos pos:Pos}{e:Expr}{es:List Expr}{t:TA}(XI:XIni K mg x C C0 fI)(F:FnOk P w K mg base (CXe P w) j fI fd ps sp)(hb:Xco K fd ps [])
   (hr:Room k (cxOf (CXe P w) P w K mg base N qual scope f cd A outer s₀ H₀ EX).A)
   (hg:Gl (cxOf (CXe P w) P w K mg base N qual scope f cd A outer s₀ H₀ EX) x) (ha:PA (cxOf (CXe P w) P w K mg base N qual scope f cd A outer s₀ H₀ EX) (e::es) t) (hj:j+1≤k:=by decide)
   (hdb:(x==("__debug__":Str))=false:=by decide) (he:starEach (e::es) (cxOf (CXe P w) P w K mg base N qual scope f cd A outer s₀ H₀ EX).env=(false,eval e (cxOf (CXe P w) P w K mg base N qual scope f cd A outer s₀ H₀ EX).env)::starEach es (cxOf (CXe P w) P w K mg base N qual scope f cd A outer s₀ H₀ EX).env:=by rfl)
   (hpl:(backTo cpos (starEach es (cxOf (CXe P w) P w K mg base N qual scope f cd A outer s₀ H₀ EX).env)).any (·.1)=false:=by rfl) :
   PS (cxOf (CXe P w) P w K mg base N qual scope f cd A outer s₀ H₀ EX) (.Raise (some (.Call (.Name x np) (e::es) [] cpos)) none pos) (Xnh C sp EX t):=by
 intro pins s σ H D I h
 obtain⟨nm,qn,NN,bs,hd,sn,sub,ab,col,dd,k0,k1,k2,k3,k5,lkC⟩:=id XI.lk
 have hB:(Value.ref C0::[.type "ValueError",.type "Exception",.type "BaseException",.type "object"]:List Value).contains (.type "BaseException")=true:=by
   rw[List.contains_cons,PySem.F.excBase_ValueError.hasBase,Bool.or_true]
 rw[arm_exec_Raise]
 refine wpAny_bind (wpAny_standAt (Xso (C:=C) (nm:=nm) (q:=qn) (N:=NN) (bs:=bs) (bm:=.ref C0::[.type "ValueError",.type "Exception",.type "BaseException",.type "object"]) (hdct:=hd) (sn:=sn) (sub:=sub) (ab:=ab) (col:=col) (dd:=dd) (k0:=k0) (k1:=k1) (k2:=k2) (k3:=k3) (k5:=k5) (newId:="ValueError.__new__") hB hr.hd ?_))
 refine wpAny_bind (wpAny_mono ?_ (fun v s1 hv=>wpAny_bind (wpAny_standAt (wpAny_pure hv))) (fun _ _ z=>z))
 refine wpAny_Call_Name_kw (Xdv I hg XI.bound ?_ hdb)
 refine PySem.W.callWith_K (h₀:=base) I.ok.mod.kin XI.keep (thn (ha cpos pins s σ H _ I h) fun us s1 ⟨vs,H1,I1,r,hz,q⟩=>⟨I1.kIn,?_⟩) he hpl
 refine thn (Xyp XI F (hr.mono hj) hb I1 r hz (Q:=fun u H2=>∃z,u = .ref z∧∃od,H2 z=some (ExcN z C od)∧EX (.ref C) od (del H2 z)) (fun y hy=>q y hy)) fun u s2 ⟨⟨v,H2,I2,rv,y,ev,od,ey,qe⟩,y',eu,ny⟩=>?_
 · subst ev
   obtain rfl:u=Value.ref y:=rv
   cases eu
   obtain⟨⟨tt,g1⟩,_⟩:=I2.hok y _ ey
   refine⟨y,od,tt,rfl,I2.kIn _ _ lkC,g1,?_⟩
   exact Xsp (XGr I2 ey) ⟨_,_,g1,rfl,rfl,rfl,rfl⟩ (Xft (show Un (frs outer) [] H₀ H1 s₀.heap s1.heap from I1.base) ny) Xgy qe
end
end Stow
set_option Elab.async false
set_option linter.all false
set_option maxRecDepth 100000
set_option maxHeartbeats 4000000
namespace Stow
open PySem L2 PyProof.Rows
structure DefI (P:Program)(w:World)(K:PySem.W.Frag)(mg:Str→Option Value)(base:Heap)(x:Str)(C C0:Addr)(j:Nat)(ps:List Str)(sp:Sp):Prop where
 ex:∃(fI:Addr) (fd:FuncData),XIni K mg x C C0 fI∧FnOk P w K mg base (CXe P w) j fI fd ps sp∧Xco K fd ps []
def Xur (C:Addr)(f:Str):Sp:=fun vs H Q _=>∃(y:Addr) (v:V),vs=[.ref y,v]∧H y=some (ExcN y C none)∧∀dx,H dx=none→Q .non (upd (upd H dx (.xd [(f,v)])) y (ExcN y C (some dx)))
section
variable {P:Program}{w:World}{K:PySem.W.Frag}{mg:Str→Option Value}{base:Heap}{N:List Str}{qual:Str}{scope:Scope}{f:Addr}{cd:Value}{A:Around}{outer:List Env}{s₀:Shared}{H₀:Hp}{EX:XK}
theorem Xtv {x:Str}{C C0:Addr}{ps:List Str}{sp:Sp}{j k:Nat}{np cpos pos:Pos}{e:Expr}{es:List Expr}{t:TA}(D:DefI P w K mg base x C C0 j ps sp)
   (hr:Room k (cxOf (CXe P w) P w K mg base N qual scope f cd A outer s₀ H₀ EX).A)
   (hg:Gl (cxOf (CXe P w) P w K mg base N qual scope f cd A outer s₀ H₀ EX) x) (ha:PA (cxOf (CXe P w) P w K mg base N qual scope f cd A outer s₀ H₀ EX) (e::es) t) (hj:j+1≤k:=by decide)
   (hdb:(x==("__debug__":Str))=false:=by decide) (he:starEach (e::es) (cxOf (CXe P w) P w K mg base N qual scope f cd A outer s₀ H₀ EX).env=(false,eval e (cxOf (CXe P w) P w K mg base N qual scope f cd A outer s₀ H₀ EX).env)::starEach es (cxOf (CXe P w) P w K mg base N qual scope f cd A outer s₀ H₀ EX).env:=by rfl)
   (hpl:(backTo cpos (starEach es (cxOf (CXe P w) P w K mg base N qual scope f cd A outer s₀ H₀ EX).env)).any (·.1)=false:=by rfl) :
   PS (cxOf (CXe P w) P w K mg base N qual scope f cd A outer s₀ H₀ EX) (.Raise (some (.Call (.Name x np) (e::es) [] cpos)) none pos) (Xnh C sp EX t):=by
 obtain⟨fI,fd,XI,F,hb⟩:=D.ex
 exact Xqd XI F hb hr hg ha hj hdb he hpl
theorem Xcp {x:Str}{j k:Nat}{ps:List Str}{sp:Sp}{p pos:Pos}{e:Expr}{es:List Expr}{t:TA}(D:Defx P w K mg base x j ps sp)(hr:Room k (cxOf (CXe P w) P w K mg base N qual scope f cd A outer s₀ H₀ EX).A)
   (hg:Gl (cxOf (CXe P w) P w K mg base N qual scope f cd A outer s₀ H₀ EX) x) (ha:PA (cxOf (CXe P w) P w K mg base N qual scope f cd A outer s₀ H₀ EX) (e::es) t) (hk:j≤k:=by decide)
   (hdb:(x==("__debug__":Str))=false:=by decide) (he:starEach (e::es) (cxOf (CXe P w) P w K mg base N qual scope f cd A outer s₀ H₀ EX).env=(false,eval e (cxOf (CXe P w) P w K mg base N qual scope f cd A outer s₀ H₀ EX).env)::starEach es (cxOf (CXe P w) P w K mg base N qual scope f cd A outer s₀ H₀ EX).env:=by rfl)
   (hpl:(backTo pos (starEach es (cxOf (CXe P w) P w K mg base N qual scope f cd A outer s₀ H₀ EX).env)).any (·.1)=false:=by rfl) :
   PE (cxOf (CXe P w) P w K mg base N qual scope f cd A outer s₀ H₀ EX) (.Call (.Name x p) (e::es) [] pos) (Xsg sp [] EX t):=by
 obtain⟨f',fd,F,hm,kp,b⟩:=D.ex
 exact Xte F (hr.mono hk) hg hm kp b .nil Xdk ha hdb he hpl
end
section
variable {K:PySem.W.Frag}{σ:L2.St}{H:Hp}{D:Ends}
theorem r_raise {C:Addr}{E:XK}{t:TA}(h:t σ H fun xs H1=>xs.length≤sizeLine∧E (.ref C) none H1):Xzv C E t D σ H:=h
theorem r_raiseI {C:Addr}{sp:Sp}{E:XK}{t:TA}(h:t σ H fun vs H1=>vs.length≤1000∧∀y,H1 y=none→sp (.ref y::vs) (upd H1 y (ExcN y C none)) (fun v H2=>v = .non∧∃z,V.ref y=V.ref z∧∃od,H2 z=some (ExcN z C od)∧E (.ref C) od (del H2 z)) E0) :
   Xnh C sp E t D σ H:=h
theorem XOb {C:Addr}{f:Str}{E:XK}{v:V}(q:∀dx,H dx=none→E (.ref C) (some dx) (upd H dx (.xd [(f,v)]))) :
   [v].length≤1000∧∀y,H y=none→Xur C f (.ref y::[v]) (upd H y (ExcN y C none)) (fun v H2=>v = .non∧∃z,V.ref y=V.ref z∧∃od,H2 z=some (ExcN z C od)∧E (.ref C) od (del H2 z)) E0:=by
 refine⟨by show 1≤1000;decide,fun y hy=>⟨y,v,rfl,upd_same,fun dx hd=>⟨rfl,y,rfl,some dx,upd_same,?_⟩⟩⟩
 have ne:dx≠y:=fun z=>by rw[z,upd_same] at hd;cases hd
 have hd':H dx=none:=by rw[Xaq ne] at hd;exact hd
 have e:del (upd (upd (upd H y (ExcN y C none)) dx (.xd [(f,v)])) y (ExcN y C (some dx))) y=upd H dx (.xd [(f,v)]):=by
   funext b
   by_cases hb:b=y
   · subst hb
     rw[Xgy,Xaq (Ne.symm ne)]
     exact hy.symm
   · rw[Xgo hb,Xaq hb]
     by_cases hbd:b=dx
     · subst hbd
       rw[upd_same,upd_same]
     · rw[Xaq hbd,Xaq hb,Xaq hbd]
 rw[e]
 exact q dx hd'
theorem r_isiX {x C C':Addr}{od:Option Addr}{b:Bool}{P:Bool→Prop}(h:H x=some (ExcO x C od))(z:XK0 K C)(e:PySem.W.kitOne K (.ref C) (.ref C')=some b)(q:P b) :
   ∃x' C0 od' v b',[V.ref x,V.ref C']=[V.ref x',v]∧H x'=some (ExcO x' C0 od')∧XK0 K C0∧clsV v≠.none∧PySem.W.kitOne K (.ref C0) (clsV v)=some b'∧P b':=⟨x,C,od,.ref C',b,rfl,h,z,(fun z=>nomatch z),e,q⟩
end
end Stow
namespace Stow
open PySem L2 PyProof.Rows
section
variable {X:Cx}{x:Str}{C:Addr}{p pos:Pos}{e:Expr}{es:List Expr}{t:TA}
end
section
variable {K:PySem.W.Frag}{σ:L2.St}{H:Hp}{Q:VK}
end
end Stow
namespace Stow
open PySem L2 PyProof.Rows
end Stow
namespace Stow
open PySem L2 PyProof.Rows
section
variable {X:Cx}
def PTs (X:Cx)(ifs:List Expr)(t:TT):Prop:=∀(pins:List (Addr×Obj)) (s:Shared) (σ:L2.St) (H:Hp) (Q:Bool→Hp→Prop),Inv X pins σ H s→t σ H Q →
 wpAny (model X.prog X.w) X.A (forIn ifs true fun c r=>if r=true then do let ok ←isTrue c X.env (eval c X.env);pure (ForInStep.yield ok) else pure (ForInStep.yield r)) (TP X pins σ Q) X.xe s
theorem Xdy {c:Expr}{t:TT}(h:PT X c t):PTs X [c] t:=fun pins s σ H Q I q=>wpAny_tests_one (h pins s σ H Q I q)
end
end Stow
namespace Stow
open PySem L2 PyProof.Rows
section
variable {K:PySem.W.Frag}{σ:L2.St}{H:Hp}{Q:VK}{D:Ends}
theorem r_next (h:D.nx σ H):XSb D σ H:=h
theorem r_seq {t u:TS}(h:t { D with nx:=u D } σ H):tSeq t u D σ H:=h
theorem r_nx {f:L2.St→Hp→Prop}{r:VK}{b c:L2.St→Hp→Prop}(h:f σ H):Ends.nx ⟨f,r,b,c⟩ σ H:=h
theorem r_rt {f:L2.St→Hp→Prop}{r:VK}{b c:L2.St→Hp→Prop}{v:V}(h:r v H):Ends.rt ⟨f,r,b,c⟩ v H:=h
theorem r_drop {te:TE}(h:te σ H fun _ H1=>D.nx σ H1):XKo te D σ H:=h
theorem r_ret {te:TE}(h:te σ H D.rt):tRet te D σ H:=h
theorem r_ifS {c:TT}{t u:TS}(h:c σ H fun b H1=>if b=true then t D σ H1 else u D σ H1):tIfS c t u D σ H:=h
theorem r_asg {te:TE}{g:TG}(h:te σ H fun x H1=>g x σ H1 D.nx):tAsg te g D σ H:=h
theorem r_gname {i:Nat}{v:V}{R:L2.St→Hp→Prop}(h:R (σ.set i (some v)) H):Xpt i v σ H R:=h
theorem r_gsub {to ti:TE}{t:TSet}{v:V}{R:L2.St→Hp→Prop}(h:to σ H fun o H1=>ti σ H1 fun i H2=>t o i v H2 fun H3=>R σ H3):gSub to ti t v σ H R:=h
theorem r_var {i:Nat}{v:V}(e:σ[i]?=some (some v))(h:Q v H):tVar i σ H Q:=⟨v,e,h⟩
theorem r_c {v:V}(h:Q v H):tC v σ H Q:=h
theorem r_op {r:R2}{ta tb:TE}(h:ta σ H fun x H1=>tb σ H1 fun y H2=>r x y H2 Q):tOp r ta tb σ H Q:=h
theorem r_un {r:V→Hp→VK→Prop}{ta:TE}(h:ta σ H fun x H1=>r x H1 Q):tUn r ta σ H Q:=h
theorem r_rI0 {g:Int→Int→V}{i j:Int}(h:Q (g i j) H):rI0 g (.int i) (.int j) H Q:=⟨i,j,rfl,rfl,h⟩
theorem r_rI {C:Int→Int→Prop}{g:Int→Int→V}{i j:Int}(c:C i j)(h:Q (g i j) H):rI C g (.int i) (.int j) H Q:=⟨i,j,rfl,rfl,c,h⟩
theorem r_rU {g:Int→V}{i:Int}(h:Q (g i) H):rU g (.int i) H Q:=⟨i,rfl,h⟩
theorem decV {i j:Int}:decide (V.int i=V.int j)=decide (i=j):=by rw[Xkr];exact Bool.beq_eq_decide_eq i j
theorem r_eqI {i j:Int}(h:Q (.bl (decide (i=j))) H):rEq (.int i) (.int j) H Q:=⟨rfl,by rw[decV];exact h⟩
theorem r_neI {i j:Int}(h:Q (.bl (!decide (i=j))) H):rNe (.int i) (.int j) H Q:=⟨rfl,by rw[decV];exact h⟩
theorem r_isN {P:Prop}(h:P):V.non=V.non∧P:=⟨rfl,h⟩
theorem r_bl {b:Bool}{P:Bool→Prop}(h:P b):∃k,V.bl b=V.bl k∧P k:=⟨b,rfl,h⟩
theorem r_int {i:Int}{P:Int→Prop}(h:P i):∃k,V.int i=V.int k∧P k:=⟨i,rfl,h⟩
theorem r_test {t:TE}{R:Bool→Hp→Prop}(h:t σ H fun x H'=>∃k,x = .bl k∧R k H'):XBu t σ H R:=h
theorem r_tB {t:TE}{R:Bool→Hp→Prop}(h:t σ H fun x H'=>∃k,x = .bl k∧R k H'):tB t σ H R:=h
theorem r_and {t u:TT}{R:Bool→Hp→Prop}(h:t σ H fun c H1=>if c=true then u σ H1 R else R false H1):tAnd t u σ H R:=h
theorem r_or {t u:TT}{R:Bool→Hp→Prop}(h:t σ H fun c H1=>if c=true then R true H1 else u σ H1 R):tOr t u σ H R:=h
theorem r_not {t:TT}{R:Bool→Hp→Prop}(h:t σ H fun c H1=>R (!c) H1):tNot t σ H R:=h
theorem r_andV {ta tb:TE}(h:ta σ H fun x H1=>∃c,x = .bl c∧if c=true then tb σ H1 Q else Q (.bl false) H1):Xye ta tb σ H Q:=h
theorem r_orV {ta tb:TE}(h:ta σ H fun x H1=>∃c,x = .bl c∧if c=true then Q (.bl true) H1 else tb σ H1 Q):tOrV ta tb σ H Q:=h
theorem r_notV {ta:TE}(h:ta σ H fun x H1=>∃c,x = .bl c∧Q (.bl (!c)) H1):XPo ta σ H Q:=h
theorem r_cons {ta:TE}{tr:TA}{R:List V→Hp→Prop}(h:ta σ H fun x H1=>tr σ H1 fun xs H2=>R (x::xs) H2):XKd ta tr σ H R:=h
theorem r_nil {R:List V→Hp→Prop}(h:R [] H):tNil σ H R:=h
theorem r_tup {t:TA}(h:t σ H fun xs H1=>xs.length≤sizeLine∧∀p,H1 p=none→Q (.ref p) (upd H1 p (.tup xs))):tTup t σ H Q:=h
theorem r_lst {t:TA}(h:t σ H fun xs H1=>xs.length≤sizeLine∧∀p,H1 p=none→Q (.ref p) (upd H1 p (.lst xs))):tLst t σ H Q:=h
theorem r_call {sp:Sp}{E:XK}{t:TA}(h:t σ H fun vs H1=>sp vs H1 Q E):Xsg sp [] E t σ H Q:=by
 have e:(fun (vs:List V) H1=>sp (vs++[]) H1 Q E)=fun vs H1=>sp vs H1 Q E:=by funext vs H1;rw[List.append_nil]
 show t σ H fun vs H1=>sp (vs++[]) H1 Q E
 rw[e]
 exact h
theorem r_cb {r:List V→Hp→VK→Prop}{t:TA}(h:t σ H fun vs H1=>r vs H1 Q):tCB r t σ H Q:=h
theorem r_sl {r:V→Option Int→Option Int→Hp→VK→Prop}{te:TE}{tl th:TO}(h:te σ H fun x H1=>tl σ H1 fun l H2=>th σ H2 fun u H3=>r x l u H3 Q):tSl r te tl th σ H Q:=h
theorem r_part {t:TE}{R:Option Int→Hp→Prop}(h:t σ H fun x H1=>∃i,x = .int i∧R (some i) H1):XIt t σ H R:=h
theorem r_bm {T:String}{r:V→List V→Hp→VK→Prop}{to:TE}{t:TA}(h:to σ H fun x H1=>tyV K T x H1∧t σ H1 fun xs H2=>r x xs H2 Q):tBM K T r to t σ H Q:=h
theorem r_bm0 {T:String}{r:V→List V→Hp→VK→Prop}{to:TE}(h:to σ H fun x H1=>tyV K T x H1∧r x [] H1 Q):tBM0 K T r to σ H Q:=h
theorem r_tyL {p:Addr}{xs:List V}{P:Prop}(h:H p=some (.lst xs))(q:P):tyV K "list" (.ref p) H∧P:=⟨.inl ⟨rfl,xs,SqL.of h⟩,q⟩
theorem r_append {l:Addr}{xs:List V}{y:V}(h:H l=some (.lst xs))(hz:xs.length<sizeLine)(q:Q .non (upd H l (.lst (xs++[y])))):Xsc (.ref l) [y] H Q:=⟨l,xs,y,rfl,rfl,h,hz,q⟩
theorem r_cat {l b:Addr}{xs zs:List V}(h:H l=some (.lst xs))(h2:H b=some (.lst zs))(hz:xs.length+zs.length≤sizeLine)(q:∀p,H p=none→Q (.ref p) (upd H p (.lst (xs++zs)))):rCat (.ref l) (.ref b) H Q:=⟨l,b,xs,zs,rfl,rfl,h,h2,hz,q⟩
theorem Xpq {p:Addr}{xs:List V}{i:Int}{v:V}(h:SqL K H p xs)(e:atI xs i=some v)(q:Q v H):rIxL K (.ref p) (.int i) H Q:=⟨p,xs,i,v,rfl,rfl,h,e,q⟩
theorem r_ixT {p:Addr}{xs:List V}{i:Int}{v:V}(h:H p=some (.tup xs))(e:atI xs i=some v)(q:Q v H):rIxT K (.ref p) (.int i) H Q:=⟨p,xs,i,v,rfl,rfl,SqT.of h,e,q⟩
theorem r_ixI {p:Addr}{ns:List Int}{k:Int}(h:SqL K H p (ns.map V.int))(h0:0≤k)(h1:k<ns.length)(q:Q (.int (ns.getD k.toNat 0)) H):rIxL K (.ref p) (.int k) H Q:=⟨p,_,k,_,rfl,rfl,h,XHb ns k h0 h1,q⟩
theorem XAd {n:Nat}{k:Int}(h0:0≤k)(h:k<n):ixN n k=some k.toNat:=by
 unfold ixN
 rw[if_pos h0,if_pos h]
theorem r_setI {p:Addr}{ns:List Int}{k x:Int}{R:Hp→Prop}(h:H p=some (.lst (ns.map V.int)))(h0:0≤k)(h1:k<ns.length)(q:R (upd H p (.lst ((ns.set k.toNat x).map V.int)))):XMs (.ref p) (.int k) (.int x) H R:=by
 refine⟨p,_,k,k.toNat,rfl,rfl,h,XAd h0 (by rw[List.length_map];exact h1),?_⟩
 rw[List.map_set] at q
 exact q
theorem r_lenI {p:Addr}{ns:List Int}{P:List V→Prop}(h:SqL K H p (ns.map V.int))(q:P (ns.map V.int)):∃p' ys,[V.ref p]=[V.ref p']∧(SqL K H p' ys∨SqT K H p' ys)∧P ys:=⟨p,_,rfl,.inl h,q⟩
theorem r_lenL {p:Addr}{xs:List V}{P:List V→Prop}(h:H p=some (.lst xs))(q:P xs):∃p' ys,[V.ref p]=[V.ref p']∧(SqL K H p' ys∨SqT K H p' ys)∧P ys:=⟨p,_,rfl,.inl (SqL.of h),q⟩
theorem r_isi {x:V}{n:String}{t:Value}{b:Bool}{P:Bool→Prop}(ty:TyOf K H x t)(e:PySem.W.kitOne K t (.type n)=some b)(q:P b):∃x' n' t' b',[x,V.ty n]=[x',V.ty n']∧TyOf K H x' t'∧PySem.W.kitOne K t' (.type n')=some b'∧P b':=⟨x,n,t,b,rfl,ty,e,q⟩
theorem r_intB {k:Bool}{P1:Int→Prop}{P2:Bool→Prop}(q:P2 k):(∃i,[V.bl k]=[V.int i]∧P1 i)∨∃k',[V.bl k]=[V.bl k']∧P2 k':=.inr ⟨k,rfl,q⟩
theorem r_max {i j:Int}{P:Int→Int→Prop}(q:P i j):∃i' j',[V.int i,V.int j]=[V.int i',V.int j']∧P i' j':=⟨i,j,rfl,q⟩
theorem r_new {xs:List V}{P:Prop}(h:xs.length≤1000)(q:P):xs.length≤sizeLine∧P:=⟨Nat.le_of_lt (small1000 h),q⟩
theorem r_truB {b:Bool}{P:Bool→Prop}(q:P b):∃k,TruV K (.bl b) H k∧P k:=⟨b,rfl,q⟩
theorem r_truL {p:Addr}{xs:List V}{P:Bool→Prop}(h:SqL K H p xs)(q:P (!xs.isEmpty)):∃k,TruV K (.ref p) H k∧P k:=⟨_,.inl ⟨xs,h,rfl⟩,q⟩
theorem r_for {wi:TI}{g:TG}{tb:TS}(h:wi σ H fun J H1=>∃W:Nat→Nat→L2.St→Hp→Prop,(∃m,W 0 m σ H1)∧∀i m σ H,W i m σ H →
   (J.stop i H∧D.nx σ H)∨(J.go i H∧∃N:L2.St→Hp→Prop,(∀σ' H',N σ' H'→∃m',m'<m∧W (i+1) m' σ' H')∧∀x H',J.yld i H x H'→g x σ H' fun σ2 H2=>tb { D with nx:=N,ct:=N,bk:=D.nx } σ2 H2)):tFor wi g tb D σ H:=h
theorem r_iL {tl:TE}{R:It→Hp→Prop}(h:tl σ H fun x H1=>∃a,x = .ref a∧(∃xs,SqL K H1 a xs)∧R (Itl K a) H1):XLs K tl σ H R:=h
theorem r_iR1 {ta:TA}{R:It→Hp→Prop}(h:ta σ H fun vs H1=>∃j:Int,vs=[.int j]∧-(2^62)≤j∧j<2^62∧R (Itr 0 j.toNat) H1):XOy ta σ H R:=h
theorem Xjp {t u:TS}{M:L2.St→Hp→Prop}(hM:∀σ' H',M σ' H'→u D σ' H')(h:∀nx:L2.St→Hp→Prop,(∀σ' H',M σ' H'→nx σ' H')→t { D with nx:=nx } σ H):tSeq t u D σ H:=h (u D) hM
theorem r_isIf {c:TT}{t u v:TS}(h:tSeq (tIfS c t u) v D σ H):tSeq (tIfS c t u) v D σ H:=h
end
theorem r_ifN {b:Bool}{A B:Prop}(h:if b=true then B else A):if (!b)=true then A else B:=by cases b <;> exact h
theorem Xbj {c A B:Prop}[Decidable c](h1:c→A)(h2:¬c→B):if decide c=true then A else B:=by
 by_cases h:c
 · rw[decide_eq_true h]
   exact iteT (h1 h)
 · rw[decide_eq_false h]
   exact iteF (h2 h)
theorem r_ifdT {c A B:Prop}[Decidable c](h:c)(h1:A):if decide c=true then A else B:=Xbj (fun _=>h1) fun z=>absurd h z
theorem r_ifdF {c A B:Prop}[Decidable c](h:¬c)(h1:B):if decide c=true then A else B:=Xbj (fun z=>absurd z h) fun _=>h1
theorem Xei {b:Bool}{A B:Prop}(h1:b=true→A)(h2:b=false→B):if b=true then A else B:=by
 cases b with
 | true=>exact iteT (h1 rfl)
 | false=>exact iteF (h2 rfl)
theorem look_put {H:Hp}{p d:Addr}{o v:HO}(hp:H p=none)(h:H d=some v):upd H p o d=some v:=(Xaq (Xap h hp)).trans h
theorem look_ne {H:Hp}{p d:Addr}{o v:HO}(hp:d≠p)(h:H d=some v):upd H p o d=some v:=(Xaq hp).trans h
end Stow
namespace Stow
open PySem L2 PyProof.Rows
abbrev TX:=L2.St→Hp→VK→XK→Prop
def PX (X:Cx)(e:Expr)(t:TX):Prop:=∀(pins:List (Addr×Obj)) (s:Shared) (σ:L2.St) (H:Hp) (QV:VK) (EX:XK) (Qp W:Value→Shared→Prop),Inv X pins σ H s→t σ H QV EX→(∀u s',EP X pins σ QV u s'→Qp u s') →
 (∀H1 s1 y s',Inv X pins σ H1 s1→CXe X.prog X.w X.stack H1 s1 EX y s'→W y s')→wpAny (model X.prog X.w) X.A (eval e X.env) Qp W s
def Xvl (sp:Sp)(dvs:List V)(ta:TA):TX:=fun σ H QV EX=>ta σ H fun vs H1=>sp (vs++dvs) H1 QV EX
def xMeth (C:Addr)(m:Str)(sp:Sp)(dvs:List V)(to:TE)(ta:TA):TX:=fun σ H QV EX=>to σ H fun x H1=>∃a dx fs,x = .ref a∧H1 a=some (.ins C dx fs)∧fs.lookup m=none∧ta σ H1 fun vs H2=>sp (x::(vs++dvs)) H2 QV EX
section
variable {X:Cx}{k:Nat}{f C:Addr}{fd:FuncData}{ps:List Str}{sp:Sp}{dvs:List V}{ds:List Value}{fx m:Str}{p pos apos:Pos}{e o:Expr}{es:List Expr}{to:TE}{ta:TA}
theorem XOg {pins:List (Addr×Obj)}{σ:L2.St}{H:Hp}{s:Shared}{us:List Value}{vs:List V}{QV:VK}{EX:XK}{Qp W:Value→Shared→Prop}(F:FnOk X.prog X.w X.K X.mg X.base (CXe X.prog X.w) k f fd ps sp)(hr:Room k X.A)(hb:Xco X.K fd ps ds)(hd:Vals dvs ds)
   (I:Inv X pins σ H s) (r:Vals vs us) (h:sp (vs++dvs) H QV EX) (hv:∀u s',EP X pins σ QV u s'→Qp u s') (hx:∀y s',CXe X.prog X.w X.stack H s EX y s'→W y s'):wpAny (model X.prog X.w) X.A (call (.ref f) us) Qp W s:=by
 have r2:Vals (vs++dvs) (us++ds):=r.append hd
 have hl:(us++ds).length=ps.length:=by rw[←r2.length];exact F.len _ _ _ _ h
 refine wpAny_call (codeAny_mono (F.run X.A X.stack s H ⟨us,[]⟩ (us++ds) (vs++dvs) QV EX hr I.env0 (hb s us I.kIn hl) r2 h) fun r s' hq=>?_)
 cases r with
 | error y=>exact hx y s' hq
 | ok fl =>
   cases fl with
   | ret u=>exact hv u s' (I.after hq)
   | next=>exact False.elim hq
   | brk=>exact False.elim hq
   | cont=>exact False.elim hq
theorem XBt (F:FnOk X.prog X.w X.K X.mg X.base (CXe X.prog X.w) k f fd ps sp)(hr:Room k X.A)(hg:Gl X fx)(hm:X.mg fx=some (.ref f))(hk:PySem.W.keepIn X.K (.ref f)=true)(hb:Xco X.K fd ps ds)(hd:Vals dvs ds)(ha:PA X.nox (e::es) ta)
   (hdb:(fx==("__debug__":Str))=false:=by decide) (he:starEach (e::es) X.env=(false,eval e X.env)::starEach es X.env:=by rfl) (hpl:(backTo pos (starEach es X.env)).any (·.1)=false:=by rfl) :
   PX X (.Call (.Name fx p) (e::es) [] pos) (Xvl sp dvs ta):=by
 intro pins s σ H QV EX Qp W I h hv hx
 refine wpAny_Call_Name_kw (Xdv I hg hm ?_ hdb)
 refine PySem.W.callWith_K (h₀:=X.base) I.ok.mod.kin hk (wpAny_mono (ha pos pins s σ H _ (I.wish _) h) (fun us s1 ⟨vs,H1,I1',r,q⟩=>?_) (fun _ _ z=>z.elim)) he hpl
 have I1:=I1'.unwish
 exact⟨I1.kIn,XOg F hr hb hd I1 r q hv fun y s' hq=>hx H1 s1 y s' I1 hq⟩
theorem XTp {pl:Sem Bool}(ho:PE X.nox o to)(c:Cls X.K C)(hm:Meth X.K C m f)(F:FnOk X.prog X.w X.K X.mg X.base (CXe X.prog X.w) k f fd ps sp)(hr:Room k X.A)(hb:Xco X.K fd ps ds)(hd:Vals dvs ds)(ha:PA X.nox (e::es) ta)
   (hst:starEach (e::es) X.env=(false,eval e X.env)::starEach es X.env:=by rfl) (hpl:(backTo pos (starEach es X.env)).any (·.1)=false:=by rfl)
   (ht:eval (.Call (.Attribute o m apos) (e::es) [] pos) X.env=(do
     let ov ←eval o X.env
     standAt apos.atName
     let (f,first) ←holding [ov] (getMethod ov m pl)
     callWith pos f first (backTo pos (starEach (e::es) X.env)) (backToKw pos (keywordEach [] X.env))):=by rfl) :
   PX X (.Call (.Attribute o m apos) (e::es) [] pos) (xMeth C m sp dvs to ta):=by
 intro pins s σ H QV EX Qp W I h hv hx
 refine PySem.W.methodCall_KW (pl:=pl) (wpAny_mono (ho pins s σ H _ (I.wish _) h) (fun u s1 ⟨x,H1,I1',rx,a,dx,fs,ex,ea,l,q⟩=>?_) (fun _ _ z=>z.elim)) ht
 have I1:=I1'.unwish
 subst ex
 obtain rfl:u=Value.ref a:=rx
 refine Xgj I1 ea c hm l ?_
 refine PySem.W.callWith_K (first:=[.ref a]) (h₀:=X.base) I.ok.mod.kin hm.kp (wpAny_mono (ha pos pins s1 σ H1 _ (I1.wish _) q) (fun us s2 ⟨vs,H2,I2',r,q2⟩=>?_) (fun _ _ z=>z.elim)) hst hpl
 have I2:=I2'.unwish
 exact⟨I2.kIn,XOg (us:=.ref a::us) (vs:=.ref a::vs) F hr hb hd I2 (.cons rfl r) q2 hv fun y s' hq=>hx H2 s2 y s' I2 hq⟩
end
def Fits (K:PySem.W.Frag)(C C0:Addr)(b:Bool):Prop:=∃(bm bm0:List Value),ECls K C bm∧ECls K C0 bm0∧(Value.ref C0::bm0).contains (.type "BaseException")=true∧(Value.ref C::bm).contains (.ref C0)=b
theorem Xuj {M:Model}{A:Around}{E:Value→Shared→Prop}{K:PySem.W.Frag}{C C0 x:Addr}{ox:Obj}{s:Shared}{b:Bool}{Q:Bool→Shared→Prop}(F:Fits K C C0 b)(KX:K.In s.heap)(hx:s.heap.get? x=some ox)(hc:ox.cls = .ref C)(k:Q b s) :
   wpAny M A (excMatches (.ref x) (.ref C0)) Q E s:=by
 obtain⟨bm,bm0,⟨nm,qn,N,bs,hd,sn,sub,ab,col,dd,k0,k1,k2,k3,k5,newId,lk⟩,⟨nm',qn',N',bs',hd',sn',sub',ab',col',dd',j0,j1,j2,j3,j5,new',lk0⟩,hb,hm⟩:=F
 have hC:=KX _ _ lk
 have hC0:=KX _ _ lk0
 obtain⟨hh,g,d,t,os⟩:=s
 exact Xro hC hC0 hx hc hb hm k
abbrev TH:=Addr→Addr→TS
def PH (X:Cx)(hs:List ExceptHandler)(th:TH):Prop:=∀(pins:List (Addr×Obj)) (s:Shared) (σ:L2.St) (H:Hp) (D:Ends) (x C T:Addr) (od:Option Addr),X.Ok→Inv X pins σ H s→Exc s.heap x (.ref C) od T .none →
 (∀h3,Upto (frs X.stack) [T] s.heap h3→Exc h3 x (.ref C) od T .none→Inv X pins σ H { s with heap:=h3 })→th x C D σ H→wpAny (model X.prog X.w) X.A (handleBy (.ref x) X.env hs) (SP X pins D) X.xe s
section
variable {X:Cx}{C0:Addr}{cx:Str}{np hpos pos epos:Pos}{b0:Stmt}{suite:List Stmt}{ts:Addr→TS}{hs:List ExceptHandler}{th:TH}{e:Expr}{t:TX}
theorem XHu:PH X [] (fun _ _ _ _ _=>False):=fun _ _ _ _ _ _ _ _ _ _ _ _ _ h=>h.elim
theorem Xrd {i:Nat}{n:Str}(hgc:Gl X cx)(hc0:X.mg cx=some (.ref C0))(hN:X.N.Nodup)(hi:X.N[i]?=some n)(hln:X.env.kindOf n=some .local)(hss:∀x,PSs (Cx.suite X x) (b0::suite) (ts x))(hr:PH X hs th)(hdc:(cx==("__debug__":Str))=false:=by decide) :
   PH X (.ExceptHandler (some (.Name cx np)) (some n) (b0::suite) hpos::hs)
     (fun x C D σ H=>(Fits X.K C C0 true∧ts x { D with nx:=fun σ' H'=>D.nx (σ'.set i none) H',bk:=fun σ' H'=>D.bk (σ'.set i none) H',ct:=fun σ' H'=>D.ct (σ'.set i none) H' } (σ.set i (some (.ref x))) H)∨(Fits X.K C C0 false∧th x C D σ H)):=by
 intro pins s σ H D x C T od ok J t2 again h
 obtain⟨oe,vs,oT,tts,ne,ee,hcl,_⟩:=id t2
 rcases h with ⟨fit,q⟩ | ⟨fit,q⟩
 · refine wpAny_handleBy_cons (codeAny_handlers_test (Xdv (X:=Cx.suite X x) (Xig J x) hgc hc0 (Xuj fit J.kIn ee hcl ?_) hdc)) (by intro z;cases z)
   refine codeAny_handlers_suite_as ?_
   refine Xhb (fr:=frs X.stack) t2 fun h3 u3 t3=>?_
   refine Xgv (X:=Cx.suite X x) (Xig (again h3 u3 t3) x) hN hi (.inl hln) (v:=.ref x) rfl (fun s4 J4=>?_) (.inr hln)
   refine wpAny_mono (hss x pins s4 _ _ _ J4 q) (fun fl s5 q5=>?_) (fun _ _ z=>z.elim)
   cases fl with
   | next=>obtain⟨σ',H',I5,q⟩:=q5;exact Xfx (Xdw ok I5) hN hi hln fun s6 I6=>⟨_,_,I6,q⟩
   | brk=>obtain⟨σ',H',I5,q⟩:=q5;exact Xfx (Xdw ok I5) hN hi hln fun s6 I6=>⟨_,_,I6,q⟩
   | cont=>obtain⟨σ',H',I5,q⟩:=q5;exact Xfx (Xdw ok I5) hN hi hln fun s6 I6=>⟨_,_,I6,q⟩
   | ret u=>obtain⟨v,σ',H',I5,r,q⟩:=q5;exact Xfx (Xdw ok I5) hN hi hln fun s6 I6=>⟨v,_,_,I6,r,q⟩
 · refine wpAny_handleBy_cons (codeAny_handlers_test (Xdv (X:=Cx.suite X x) (Xig J x) hgc hc0 (Xuj fit J.kIn ee hcl ?_) hdc)) (by intro z;cases z)
   exact hr pins s σ H D x C T od ok J t2 again q
theorem Upto.refl (fr ex:List Addr)(h:Heap):Upto fr ex h h:=⟨fun _ _ _ _ q=>q,fun b o _ q=>⟨o.slots,q⟩⟩
def tTryE (t:TX)(th:TH):TS:=fun D σ H=>t σ H (fun _ H2=>D.nx σ H2) fun c od H2=>∃C,c = .ref C∧∀x,H2 x=none→th x C D σ (upd H2 x (ExcO x C od))
def XIm (i:Nat)(t:TX)(th:TH):TS:=fun D σ H=>t σ H (fun v H2=>D.nx (σ.set i (some v)) H2) fun c od H2=>∃C,c = .ref C∧∀x,H2 x=none→th x C D σ (upd H2 x (ExcO x C od))
theorem ps_tryE {h₀:ExceptHandler}(he:PX X e t)(hst:X.stack=X.env::X.outer∧X.env.frame=some X.env.locals)(hh:PH X (h₀::hs) th)(hsw:swapsWith e none epos.line X.env=pure false:=by rfl) :
   PS X (.Try [.Expr e epos] (h₀::hs) [] [] pos) (tTryE t th):=by
 intro pins s σ H D I h
 refine wpAny_Try_except (wpAny_execs_cons (wpAny_Expr_any (he pins s σ H _ _ _ _ I h (fun u s' ⟨v,H2,I2,_,q2⟩=>wpAny_execs_nil (wpAny_execs_nil ⟨σ,H2,I2,q2⟩)) (fun H1 s1 y s' I1 hq=>?_)) I.quiet hsw))
 refine XAe I1 hst hq fun x C od T h2 H2 ex ⟨C',ec,q⟩ t2 J2 again=>?_
 subst ex
 cases ec
 exact hh pins _ σ _ D x C T od I.ok J2 t2 (fun h3 u3 t3=>(again h3 u3 t3).2) (q x (again h2 (Upto.refl _ _ _) t2).1)
theorem XGw {h₀:ExceptHandler}{i:Nat}{y:Str}{py:Pos}(hN:X.N.Nodup)(hi:X.N[i]?=some y)(hy:Loc X.env.scope y)(he:PX X e t)(hst:X.stack=X.env::X.outer∧X.env.frame=some X.env.locals)(hh:PH X (h₀::hs) th)
   (hsw:swapsWith e (some (.Name y py)) epos.line X.env=pure false:=by rfl) (hf:X.fn y=true∨X.env.scope.names.lookup y=some .local:=by first | exact .inl rfl | exact .inr rfl | assumption) :
   PS X (.Try [.Assign [.Name y py] e epos] (h₀::hs) [] [] pos) (XIm i t th):=by
 intro pins s σ H D I h
 refine wpAny_Try_except (wpAny_execs_cons (wpAny_Assign_Name (he pins s σ H _ _ _ _ I h (fun u s' ⟨v,H2,I2,r2,q2⟩=>Xgv I2 hN hi hy r2 (fun s3 I3=>wpAny_execs_nil (wpAny_execs_nil ⟨_,H2,I3,q2⟩)) hf) (fun H1 s1 z s' I1 hq=>?_)) hsw))
 refine XAe I1 hst hq fun x C od T h2 H2 ex ⟨C',ec,q⟩ t2 J2 again=>?_
 subst ex
 cases ec
 exact hh pins _ σ _ D x C T od I.ok J2 t2 (fun h3 u3 t3=>(again h3 u3 t3).2) (q x (again h2 (Upto.refl _ _ _) t2).1)
end
section
variable {K:PySem.W.Frag}{σ:L2.St}{H:Hp}{D:Ends}
theorem r_tryA {i:Nat}{t:TX}{th:TH}(h:t σ H (fun v H2=>D.nx (σ.set i (some v)) H2) fun c od H2=>∃C,c = .ref C∧∀x,H2 x=none→th x C D σ (upd H2 x (ExcO x C od))):XIm i t th D σ H:=h
theorem r_xCall {sp:Sp}{ta:TA}{QV:VK}{EX:XK}(h:ta σ H fun vs H1=>sp vs H1 QV EX):Xvl sp [] ta σ H QV EX:=by
 unfold Xvl
 simp only [List.append_nil]
 exact h
end
end Stow
namespace Stow
open PySem L2 PyProof.Rows
structure FunD (K:PySem.W.Frag)(x qual:Str)(st:Stmt)(dV:Value)(f:Addr)(fd:FuncData):Prop where
 ex:∃(oc:Value) (od:Option Addr) (kV doc pm:Value) (an:Option Addr) (cdv ct:Value) (osl:Array (Option Value)),
   fd=PySem.W.fnOf x qual (Xbf st) (Xaz st) (Xad st) dV kV doc pm an cdv ct∧K.lookup f=some ⟨oc,od,.func fd,osl⟩∧PySem.W.codeIn K cdv qual=true
 kp:PySem.W.keepIn K (.ref f)=true
theorem Xil {K:PySem.W.Frag}{x qual:Str}{st:Stmt}{f:Addr}{oc:Value}{od an:Option Addr}{osl:Array (Option Value)}{dV kV doc pm cdv ct:Value}(l:K.lookup f=some ⟨oc,od,.func (PySem.W.fnOf x qual (Xbf st) (Xaz st) (Xad st) dV kV doc pm an cdv ct),osl⟩)
   (c:PySem.W.codeIn K cdv qual=true) (k:PySem.W.keepIn K (.ref f)=true):FunD K x qual st dV f (PySem.W.fnOf x qual (Xbf st) (Xaz st) (Xad st) dV kV doc pm an cdv ct):=⟨⟨oc,od,kV,doc,pm,an,cdv,ct,osl,rfl,l,c⟩,k⟩
section
variable {P:Program}{w:World}{K:PySem.W.Frag}{mg:Str→Option Value}{base:Heap}
theorem Xga {x qual:Str}{st:Stmt}{dV:Value}{f:Addr}{fd:FuncData}{N ps:List Str}{k:Nat}{sp:Sp}(F:FunD K x qual st dV f fd)(S:FnScope N ps (Xad st))(len:∀vs H Q E,sp vs H Q E→vs.length=ps.length)
   (hbody:∀(cdv:Value) (A:Around) (outer:List Env) (s:Shared) (H:Hp) (vs:List V) (Q:VK) (E:XK),Room k (A.deeper (envOfC qual (Xad st) s.heap.objs.size f cdv))→sp vs H Q E →
     ∃t,PSs (cxOf (CXe P w) P w K mg base N qual (Xad st) f cdv A outer s H E) (Xaz st) t∧t { nx:=fun _ H'=>Q .non H',rt:=Q } (start N vs) H):FnOk P w K mg base (CXe P w) (k+1) f fd ps sp:=by
 obtain⟨oc,od,kV,doc,pm,an,cdv,ct,osl,rfl,lk,hcd⟩:=F.ex
 exact XHh lk hcd S len fun A outer s H vs Q E hr hsp=>hbody cdv A outer s H vs Q E hr hsp
theorem FunD.binds {x qual:Str}{st:Stmt}{dV:Value}{f:Addr}{fd:FuncData}{ps:List Str}(F:FunD K x qual st dV f fd)
   (h:∀(kV doc pm:Value) (an:Option Addr) (cdv ct:Value) (us:List Value),us.length=ps.length→bindArgs (PySem.W.fnOf x qual (Xbf st) (Xaz st) (Xad st) dV kV doc pm an cdv ct) ⟨us,[]⟩=pure (ps.zip us)):Xco K fd ps []:=by
 obtain⟨oc,od,kV,doc,pm,an,cdv,ct,osl,rfl,lk,hcd⟩:=F.ex
 exact .all (h kV doc pm an cdv ct)
theorem FunD.bindsD {x qual:Str}{st:Stmt}{T:Addr}{f:Addr}{fd:FuncData}{ps:List Str}{ds:List Value}{tc:Value}{td:Option Addr}{tn:Nat}{tsl:Array (Option Value)}(F:FunD K x qual st (.ref T) f fd)
   (lt:K.lookup T=some ⟨tc,td,.seq ds.toArray tn,tsl⟩)
   (h:∀(kV doc pm:Value) (an:Option Addr) (cdv ct:Value) (us:List Value),(us++ds).length=ps.length→∃k:Option (Array Value)→Sem (List (Str×Value)),
     bindArgs (PySem.W.fnOf x qual (Xbf st) (Xaz st) (Xad st) (.ref T) kV doc pm an cdv ct) ⟨us,[]⟩=seqItems? (.ref T) >>= k∧k (some ds.toArray)=pure (ps.zip (us++ds))):Xco K fd ps ds:=by
 obtain⟨oc,od,kV,doc,pm,an,cdv,ct,osl,rfl,lk,hcd⟩:=F.ex
 intro s us X hl
 obtain⟨k,h1,h2⟩:=h kV doc pm an cdv ct us hl
 exact .of_defaults rfl (X _ _ lt) rfl h1 h2
end
structure Methx (P:Program)(w:World)(K:PySem.W.Frag)(mg:Str→Option Value)(base:Heap)(C:Addr)(m:Str)(j:Nat)(ps:List Str)(dvs:List V)(sp:Sp):Prop where
 ex:∃(f:Addr) (fd:FuncData) (ds:List Value),FnOk P w K mg base (CXe P w) j f fd ps sp∧Meth K C m f∧Xco K fd ps ds∧Vals dvs ds
 cl:Cls K C
structure Makex (P:Program)(w:World)(K:PySem.W.Frag)(mg:Str→Option Value)(base:Heap)(x:Str)(C:Addr)(j:Nat)(ps:List Str)(dvs:List V)(sp:Sp):Prop where
 ex:∃(f:Addr) (fd:FuncData) (ds:List Value),FnOk P w K mg base (CXe P w) j f fd ps sp∧Mk K C f∧Xco K fd ps ds∧Vals dvs ds
 bound:mg x=some (.ref C)
structure ClsM (K:PySem.W.Frag)(C:Addr)(m:Str)(f:Addr):Prop where
 sp:PySem.W.specialIn K (.ref C) "__getattribute__"=some (some (.builtin "type.__getattribute__"))
 rd:PySem.W.readsIn K C (.type "type")=true
 fc:PySem.W.findCls K (.ref C) (.type "type") m=some (.val (.ref f))
 kp:PySem.W.keepIn K (.ref f)=true
structure Basex (P:Program)(w:World)(K:PySem.W.Frag)(mg:Str→Option Value)(base:Heap)(x:Str)(m:Str)(j:Nat)(ps:List Str)(sp:Sp):Prop where
 ex:∃(C f:Addr) (fd:FuncData),FnOk P w K mg base (CXe P w) j f fd ps sp∧ClsM K C m f∧Xco K fd ps []∧mg x=some (.ref C)
section
variable {X:Cx}{j k:Nat}{C:Addr}{ps:List Str}{sp:Sp}{dvs:List V}{x m:Str}{p pos apos:Pos}{e o:Expr}{es:List Expr}{to:TE}{t:TA}{EX:XK}
theorem XGj (D:Defx X.prog X.w X.K X.mg X.base x j ps sp)(hr:Room k X.A)(hg:Gl X x)(ha:PA X.nox (e::es) t)(hk:j≤k:=by decide)
   (hdb:(x==("__debug__":Str))=false:=by decide) (he:starEach (e::es) X.env=(false,eval e X.env)::starEach es X.env:=by rfl) (hpl:(backTo pos (starEach es X.env)).any (·.1)=false:=by rfl):PX X (.Call (.Name x p) (e::es) [] pos) (Xvl sp [] t):=by
 obtain⟨f,fd,F,hm,kp,b⟩:=D.ex
 exact XBt F (hr.mono hk) hg hm kp b .nil ha hdb he hpl
theorem Xkl (D:Makex X.prog X.w X.K X.mg X.base x C j ps dvs sp)(hp:Xfd (CXe X.prog X.w) X EX)(hr:Room k X.A)(hg:Gl X x)(ha:PA X (e::es) t)(hk:j+1≤k:=by decide)
   (hdb:(x==("__debug__":Str))=false:=by decide) (he:starEach (e::es) X.env=(false,eval e X.env)::starEach es X.env:=by rfl) (hpl:(backTo pos (starEach es X.env)).any (·.1)=false:=by rfl):PE X (.Call (.Name x p) (e::es) [] pos) (Xxp C sp dvs EX t):=by
 obtain⟨f,fd,ds,F,M,hb,hd⟩:=D.ex
 exact XGg M F (hr.mono hk) hg D.bound hb hd hp ha hdb he hpl
theorem Xny {pl:Sem Bool}{p':Pos}(D:Basex X.prog X.w X.K X.mg X.base x m j ps sp)(hp:Xfd (CXe X.prog X.w) X EX)(hr:Room k X.A)(hg:Gl X x)(ha:PA X (e::es) t)(hk:j≤k:=by decide)(hdb:(x==("__debug__":Str))=false:=by decide)
   (hst:starEach (e::es) X.env=(false,eval e X.env)::starEach es X.env:=by rfl) (hpl:(backTo pos (starEach es X.env)).any (·.1)=false:=by rfl)
   (ht:eval (.Call (.Attribute (.Name x p') m apos) (e::es) [] pos) X.env=(do
     let ov ←eval (.Name x p') X.env
     standAt apos.atName
     let (f,first) ←holding [ov] (getMethod ov m pl)
     callWith pos f first (backTo pos (starEach (e::es) X.env)) (backToKw pos (keywordEach [] X.env))):=by rfl):PE X (.Call (.Attribute (.Name x p') m apos) (e::es) [] pos) (Xsg sp [] EX t):=by
 obtain⟨C,f,fd,F,M,hb,hm⟩:=D.ex
 intro pins s σ H Q I h
 refine PySem.W.methodCall_KW (pl:=pl) (Xdv I hg hm ?_ hdb) ht
 refine PySem.W.method_cls I.kIn M.sp (PySem.W.cls_value I.kIn M.rd M.fc rfl ?_)
 have I':=I.tok (s.toks+1)
 refine PySem.W.callWith_K (h₀:=X.base) I.ok.mod.kin M.kp (thn (ha pos pins _ σ H _ I' h) fun us s1 ⟨vs,H1,I1,r,q⟩=>⟨I1.kIn,?_⟩) hst hpl
 exact Xnx F (hr.mono hk) hb .nil hp I1 r q
end
section
variable {K:PySem.W.Frag}{σ:L2.St}{H:Hp}{Q:VK}{D:Ends}
theorem r_fld {f:Str}{ta:TE}(h:ta σ H fun x H1=>∃a C dx fs v,x = .ref a∧H1 a=some (.ins C dx fs)∧Cls K C∧Xcr K C f∧fs.lookup f=some v∧Q v H1):tFld K ta f σ H Q:=h
theorem r_at {a C dx:Addr}{fs:List (Str×V)}{f:Str}{v:V}{P:V→Prop}(h:H a=some (.ins C dx fs))(c:Cls K C)(n:Xcr K C f)(l:fs.lookup f=some v)(q:P v) :
   ∃a' C' dx' fs' v',V.ref a=V.ref a'∧H a'=some (.ins C' dx' fs')∧Cls K C'∧Xcr K C' f∧fs'.lookup f=some v'∧P v':=⟨a,C,dx,fs,v,rfl,h,c,n,l,q⟩
theorem r_sfld {f:Str}{ta tv:TE}(h:tv σ H fun y H1=>ta σ H1 fun x H2=>∃a C dx fs,x = .ref a∧H2 a=some (.ins C dx fs)∧Cls K C∧Xcr K C f∧fs.length<1000∧D.nx σ (upd H2 a (.ins C dx (putF f y fs)))):sFld K ta tv f D σ H:=h
end
end Stow
namespace Stow
open PySem L2 PyProof.Rows
section
variable {X:Cx}
end
section
variable {a x:Option V}{v:V}{l r:L2.St}{k:Nat}{n:Str}{ns:List Str}{vs:List V}
theorem set0_c:(a::l).set 0 x=x::l:=rfl
theorem XCg:L2.start (n::ns) (v::vs)=some v::L2.start ns vs:=by
 unfold L2.start
 rw[List.length_cons,List.length_cons,Nat.add_sub_add_right]
 rfl
theorem set0_0:(L2.start (n::ns) []).set 0 x=x::L2.start ns []:=rfl
theorem setS_c (h:l.set k x=r):(a::l).set (k+1) x=a::r:=h▸rfl
theorem setS_1 (h:(L2.start ns vs).set k x=r):(L2.start (n::ns) (v::vs)).set (k+1) x=some v::r:=by
 rw[XCg,←h]
 rfl
theorem r_gnameN {σ σ':L2.St}{H:Hp}{i:Nat}{R:L2.St→Hp→Prop}(e:σ.set i (some v)=σ')(h:R σ' H):Xpt i v σ H R:=by
 subst e
 exact h
end
def cutI (ns:List Int)(l u:Option Int):List Int:=(ns.drop (HT.sIx ns.length 0 l)).take (HT.sIx ns.length ns.length u-HT.sIx ns.length 0 l)
theorem XAs (ns:List Int)(l u:Option Int):cutV (ns.map V.int) l u=(cutI ns l u).map V.int:=by
 unfold cutV cutI
 rw[List.map_take,List.map_drop,List.length_map]
section
variable {K:PySem.W.Frag}{σ:L2.St}{H:Hp}{D:Ends}{Q:VK}
theorem r_sllG {a:Addr}{ns:List Int}{lo hi:Option Int}(h:SqL K H a (ns.map V.int))(q:∀p H',H p=none→Same H H'→H' p=some (.lst ((cutI ns lo hi).map V.int))→Q (.ref p) H'):rSlL K (.ref a) lo hi H Q :=
 ⟨a,_,rfl,h,fun p hp=>by rw[XAs];exact q p _ hp (Same.new hp) upd_same⟩
theorem r_catG {l b:Addr}{xs zs:List Int}(h:H l=some (.lst (xs.map V.int)))(h2:H b=some (.lst (zs.map V.int)))(hz:xs.length+zs.length≤4000)(q:∀p H',H p=none→Same H H'→H' p=some (.lst ((xs++zs).map V.int))→Q (.ref p) H'):rCat (.ref l) (.ref b) H Q :=
 ⟨l,b,_,_,rfl,rfl,h,h2,by rw[List.length_map,List.length_map];exact Nat.le_of_lt (small4000 hz),fun p hp=>by rw[←List.map_append];exact q p _ hp (Same.new hp) upd_same⟩
theorem r_isSeq {t u:TS}(h:tSeq t u D σ H):tSeq t u D σ H:=h
theorem r_isAnd {ta tb:TE}(h:Xye ta tb σ H Q):Xye ta tb σ H Q:=h
theorem r_isOr {ta tb:TE}(h:tOrV ta tb σ H Q):tOrV ta tb σ H Q:=h
end
end Stow
namespace Stow
open PySem L2 PyProof.Rows
section
variable {K:PySem.W.Frag}{σ:L2.St}{H:Hp}{Q:VK}
theorem r_gtup {a:Addr}{xs:List V}{n:Nat}{t:TGs}{R:L2.St→Hp→Prop}(h:H a=some (.tup xs))(hl:xs.length=n)(q:t xs σ H R):gTup K n t (.ref a) σ H R:=⟨a,xs,rfl,SqT.of h,hl,q⟩
theorem r_gcons {v:V}{r:List V}{t:TG}{u:TGs}{R:L2.St→Hp→Prop}(h:t v σ H fun σ' H'=>u r σ' H' R):XRo t u (v::r) σ H R:=⟨v,r,rfl,h⟩
theorem r_gnil {R:L2.St→Hp→Prop}(h:R σ H):gNil [] σ H R:=⟨rfl,h⟩
theorem Xom {p:Addr}{xs:List V}{v:V}(h:SqL K H p (xs++[v]))(q:Q v H):rIxL K (.ref p) (.int (-1)) H Q:=Xpq h (Xwt xs v) q
end
end Stow
namespace Stow
def fpl (a b:Int):Int:=a+(b-1-a%b)
def fp (a n L b:Int):Option Int:=if fpl a b+L≤a+n then some (fpl a b) else none
end Stow
namespace Stow
open PySem L2 PyProof.Rows
def Xbz (H:Hp)(us:List V)(ps:List Pc):Prop:=us.length=ps.length∧∀(i:Nat) (p:Pc),ps[i]?=some p→∃a,us[i]?=some (.ref a)∧H a=some (.tup [.int p.a,.int p.l,.bl p.v])
theorem Xbz.nil {H:Hp}:Xbz H [] []:=⟨rfl,fun i p h=>by simp at h⟩
theorem Xbz.mono {H H':Hp}{us:List V}{ps:List Pc}(h:Xbz H us ps)(k:∀b xs,H b=some (.tup xs)→H' b=some (.tup xs)):Xbz H' us ps :=
 ⟨h.1,fun i p e=>let ⟨a,h1,h2⟩:=h.2 i p e;⟨a,h1,k _ _ h2⟩⟩
theorem Xbz.same {H H':Hp}{us:List V}{ps:List Pc}(h:Xbz H us ps)(k:Same H H'):Xbz H' us ps:=h.mono fun b xs e=>k b _ e
theorem Xbz.snoc {H:Hp}{us:List V}{ps:List Pc}{p:Pc}{a:Addr}(h:Xbz H us ps)(ha:H a=some (.tup [.int p.a,.int p.l,.bl p.v])):Xbz H (us++[.ref a]) (ps++[p]):=by
 refine⟨by simp [h.1],fun i q e=>?_⟩
 have hl:=h.1
 by_cases hi:i<ps.length
 · rw[List.getElem?_append_left hi] at e
   obtain⟨b,h1,h2⟩:=h.2 i q e
   exact⟨b,by rw[List.getElem?_append_left (by omega)];exact h1,h2⟩
 · have hlt:i<(ps++[p]).length:=(List.getElem?_eq_some_iff.mp e).1
   have hi2:i=ps.length:=by simp at hlt;omega
   subst hi2
   rw[List.getElem?_append_right (Nat.le_refl _)] at e
   have e':p=q:=by simpa using e
   subst e'
   exact⟨a,by rw[←hl,List.getElem?_append_right (Nat.le_refl _)];simp,ha⟩
theorem Xps {H:Hp}{p:Addr}{o:HO}(hp:H p=none∨∃xs,H p=some (.lst xs)):∀b xs,H b=some (.tup xs)→upd H p o b=some (.tup xs):=fun b xs e=>by
 have hne:b≠p:=fun z=>by
   subst z
   rcases hp with h | ⟨ys,h⟩
   · rw[h] at e;cases e
   · rw[h] at e;cases e
 rw[Xaq hne]
 exact e
theorem Xbz.push {H:Hp}{us:List V}{ps:List Pc}{p t:Addr}{z:Pc}(h:Xbz H us ps)(hp:H p=some (.lst us))(ht:H t=none) :
   upd (upd H t (.tup [.int z.a,.int z.l,.bl z.v])) p (.lst (us++[.ref t])) p=some (.lst (us++[.ref t])) ∧
   Xbz (upd (upd H t (.tup [.int z.a,.int z.l,.bl z.v])) p (.lst (us++[.ref t]))) (us++[.ref t]) (ps++[z]):=by
 have hpt:p≠t:=Xap hp ht
 have hp2:upd H t (.tup [.int z.a,.int z.l,.bl z.v]) p=some (.lst us):=by rw[Xaq hpt];exact hp
 refine⟨upd_same,?_⟩
 refine Xbz.snoc ?_ ?_
 · exact(h.mono (Xps (.inl ht))).mono (Xps (.inr ⟨_,hp2⟩))
 · exact Xps (.inr ⟨_,hp2⟩) _ _ upd_same
theorem Xbz.at {H:Hp}{us:List V}{ps:List Pc}(h:Xbz H us ps){k:Int}(h0:0≤k)(h1:k<us.length):∃t z,atI us k=some (.ref t)∧ps[k.toNat]?=some z∧H t=some (.tup [.int z.a,.int z.l,.bl z.v]):=by
 have hl:=h.1
 have hk:k.toNat<ps.length:=by omega
 obtain⟨t,e1,e2⟩:=h.2 k.toNat ps[k.toNat] (by simp [hk])
 refine⟨t,_,?_,by simp [hk],e2⟩
 have:=Xid e1
 rwa [Int.toNat_of_nonneg h0] at this
def Xcs (H:Hp)(us:List V)(xs:List (List V)):Prop:=us.length=xs.length∧∀(i:Nat) (x:List V),xs[i]?=some x→∃a,us[i]?=some (.ref a)∧H a=some (.tup x)
theorem Xcs.nil {H:Hp}:Xcs H [] []:=⟨rfl,fun i p h=>by simp at h⟩
theorem Xcs.mono {H H':Hp}{us:List V}{xs:List (List V)}(h:Xcs H us xs)(k:∀b ys,H b=some (.tup ys)→H' b=some (.tup ys)):Xcs H' us xs :=
 ⟨h.1,fun i p e=>let ⟨a,h1,h2⟩:=h.2 i p e;⟨a,h1,k _ _ h2⟩⟩
theorem Xcs.same {H H':Hp}{us:List V}{xs:List (List V)}(h:Xcs H us xs)(k:Same H H'):Xcs H' us xs:=h.mono fun b ys e=>k b _ e
theorem Xcs.push {H:Hp}{us:List V}{xs:List (List V)}{p t:Addr}{z:List V}(h:Xcs H us xs)(hp:H p=some (.lst us))(ht:H t=none) :
   Xcs (upd (upd H t (.tup z)) p (.lst (us++[.ref t]))) (us++[.ref t]) (xs++[z]):=by
 have hpt:p≠t:=Xap hp ht
 have hp2:upd H t (.tup z) p=some (.lst us):=by rw[Xaq hpt];exact hp
 have h2:=(h.mono (Xps (o:=.tup z) (.inl ht))).mono (Xps (o:=.lst (us++[.ref t])) (.inr ⟨_,hp2⟩))
 have hz:upd (upd H t (.tup z)) p (.lst (us++[.ref t])) t=some (.tup z):=Xps (.inr ⟨_,hp2⟩) _ _ upd_same
 refine⟨by simp [h.1],fun i q e=>?_⟩
 have hl:=h.1
 by_cases hi:i<xs.length
 · rw[List.getElem?_append_left hi] at e
   obtain⟨b,h1,h3⟩:=h2.2 i q e
   exact⟨b,by rw[List.getElem?_append_left (by omega)];exact h1,h3⟩
 · have hlt:i<(xs++[z]).length:=(List.getElem?_eq_some_iff.mp e).1
   have hi2:i=xs.length:=by simp at hlt;omega
   subst hi2
   rw[List.getElem?_append_right (Nat.le_refl _)] at e
   have e':z=q:=by simpa using e
   subst e'
   exact⟨t,by rw[←hl,List.getElem?_append_right (Nat.le_refl _)];simp,hz⟩
theorem Xcs.at {H:Hp}{us:List V}{xs:List (List V)}(h:Xcs H us xs){i:Nat}(h1:i<us.length):∃t z,atI us (0+(i:Int))=some (.ref t)∧xs[i]?=some z∧H t=some (.tup z):=by
 have hl:=h.1
 have hk:i<xs.length:=by omega
 obtain⟨t,e1,e2⟩:=h.2 i xs[i] (by simp [hk])
 exact⟨t,_,by rw[Int.zero_add];exact Xid e1,by simp [hk],e2⟩
@[reducible] def optV:Option Int→V
 | none=>.non
 | some b=>.int b
def Xjk:Sp:=fun vs H Q _=>∃n:Int,vs=[.int n]∧Q (.int (n/2)) H
def Xnq:Sp:=fun vs H Q _=>∃n:Int,vs=[.int n]∧Q (.bl (decide (n%2=1))) H
def XFn (K:PySem.W.Frag):Sp:=fun vs H Q _=>∃(a:Addr) (ns:List Int) (k:Int),vs=[.ref a,.int k]∧SqL K H a (ns.map V.int)∧0≤k∧k<ns.length∧Q (.bl (Xbs ns k)) H
def XDl (K:PySem.W.Frag):Sp:=fun vs H Q _=>∃(a:Addr) (ns:List Int) (k:Int),vs=[.ref a,.int k]∧SqL K H a (ns.map V.int)∧0≤k∧k<ns.length∧Q (optV (Xdm ns k)) H
def Xdx (K:PySem.W.Frag)(C:Addr):Sp:=fun vs H Q E=>∃(a:Addr) (ns:List Int),vs=[.ref a]∧SqL K H a (ns.map V.int)∧ns.length≤4000 ∧
 (∀b,(Xcy ns 0).2=some b→∀(dx:Addr) (H':Hp),Same H H'→H' dx=some (.xd [("cell",.int b)])→E (.ref C) (some dx) H') ∧
 ((Xcy ns 0).2=none→∀(p:Addr) (us:List V) (H':Hp),H p=none→Same H H'→H' p=some (.lst us)→Xbz H' us (Xcy ns 0).1→Q (.ref p) H')
def Xrf (K:PySem.W.Frag):Sp:=fun vs H Q _=>∃(a:Addr) (ns:List Int) (k:Int),vs=[.ref a,.int k]∧SqL K H a (ns.map V.int)∧0≤k∧Q (.int (ns.getD k.toNat 0)) H
def Xki:Sp:=fun vs H Q _=>∃n:Int,vs=[.int n]∧Q (.bl true) H
def Xwl (K:PySem.W.Frag):Sp:=fun vs H Q _=>∃(a:Addr) (ns:List Int),vs=[.ref a]∧SqL K H a (ns.map V.int)∧ns.length≤63∧∀H',Q (.bl true) H'
section
variable {K:PySem.W.Frag}{H:Hp}{Q:VK}{E:XK}
theorem i_long {n:Int}(q:Q (.int (n/2)) H):Xjk [.int n] H Q E:=⟨n,rfl,q⟩
theorem i_live {n:Int}(q:Q (.bl (decide (n%2=1))) H):Xnq [.int n] H Q E:=⟨n,rfl,q⟩
theorem i_can {a:Addr}{ns:List Int}{k:Int}(h:SqL K H a (ns.map V.int))(h0:0≤k)(h1:k<ns.length)(q:Q (.bl (Xbs ns k)) H):XFn K [.ref a,.int k] H Q E:=⟨a,ns,k,rfl,h,h0,h1,q⟩
theorem i_bad {a:Addr}{ns:List Int}{k:Int}(h:SqL K H a (ns.map V.int))(h0:0≤k)(h1:k<ns.length)(q:Q (optV (Xdm ns k)) H):XDl K [.ref a,.int k] H Q E:=⟨a,ns,k,rfl,h,h0,h1,q⟩
theorem i_cell {a:Addr}{ns:List Int}{k:Int}(h:SqL K H a (ns.map V.int))(h0:0≤k)(q:Q (.int (ns.getD k.toNat 0)) H):Xrf K [.ref a,.int k] H Q E:=⟨a,ns,k,rfl,h,h0,q⟩
theorem i_whole {n:Int}(q:Q (.bl true) H):Xki [.int n] H Q E:=⟨n,rfl,q⟩
theorem Xwb (n:Int):decide (Builtin.bitAnd n 1=1)=decide (n%2=1):=by rw[←XGf,decV]
end
end Stow
namespace Stow
def Xci (cs:List Int)(k l:Int)(v:Bool):List Int:=(cs.set k.toNat (l*2+if v then 1 else 0)).set (k+l-1).toNat (l*2+if v then 1 else 0)
theorem Xbm (cs:List Int)(k l:Int)(v:Bool):(Xci cs k l v).length=cs.length:=by
 unfold Xci
 rw[List.length_set,List.length_set]
theorem Xeh {cs:List Int}{k l:Int}{v:Bool}{j:Nat}(h0:0≤k)(h1:1≤l)(h:(j:Int)<k∨k+l≤j):(Xci cs k l v)[j]?=cs[j]?:=by
 unfold Xci
 rw[List.getElem?_set_ne (by omega),List.getElem?_set_ne (by omega)]
theorem Xhc {cs:List Int}{k l:Int}{v:Bool}(h0:0≤k)(h1:1≤l)(h:k+l≤cs.length):(Xci cs k l v)[k.toNat]?=some (mkOf l v):=by
 unfold Xci mkOf
 by_cases e:(k+l-1).toNat=k.toNat
 · rw[e,List.getElem?_set_self (by rw[List.length_set];omega)]
 · rw[List.getElem?_set_ne e,List.getElem?_set_self (by omega)]
theorem Xjg {cs:List Int}{k l:Int}{v:Bool}(h0:0≤k)(h1:1≤l)(h:k+l≤cs.length):(Xci cs k l v)[(k+l-1).toNat]?=some (mkOf l v):=by
 unfold Xci mkOf
 rw[List.getElem?_set_self (by rw[List.length_set];omega)]
def Xds (ds:List Pc)(k:Int):Prop:=∀p∈ds,0≤p.a∧1≤p.l∧p.a+p.l≤k
def Xfc (rs:List Pc)(e:Int):Prop:=∀p∈rs,e≤p.a∧1≤p.l
theorem Xas.endBy {ds:List Pc}{s e:Int}(h:Xas s ds e)(h0:0≤s):Xds ds e:=fun p hp=>by
 obtain⟨h1,h2,_,h3⟩:=h.mem p hp
 omega
theorem Xas.fromOn {ds:List Pc}{s e:Int}(h:Xas s ds e):Xfc ds s:=fun p hp=>by
 obtain⟨h1,h2,_,_⟩:=h.mem p hp
 omega
theorem Xds.mono {ds:List Pc}{k k':Int}(h:Xds ds k)(e:k≤k'):Xds ds k':=fun p hp=>by have:=h p hp;omega
theorem Xds.app {ds es:List Pc}{k:Int}(h:Xds ds k)(g:Xds es k):Xds (ds++es) k:=fun p hp=>(List.mem_append.mp hp).elim (h p) (g p)
theorem Xat.sub {cs:List Int}{ps qs:List Pc}(m:Xat cs ps)(h:∀p∈qs,p∈ps):Xat cs qs:=fun p hp=>m p (h p hp)
theorem Xat.lay {cs:List Int}{ds rs:List Pc}{k l:Int}{v:Bool}(h0:0≤k)(h1:1≤l)(hl:k+l≤cs.length)(hd:Xds ds k)(hr:Xfc rs (k+l))(m:Xat cs (ds++rs)) :
   Xat (Xci cs k l v) (ds++⟨k,l,v⟩::rs):=by
 intro p hp
 rcases List.mem_append.mp hp with h | h
 · obtain⟨a0,a1,a2⟩:=hd p h
   obtain⟨m1,m2⟩:=m p (List.mem_append_left _ h)
   exact⟨by rw[Xeh h0 h1 (by omega)];exact m1,by rw[Xeh h0 h1 (by omega)];exact m2⟩
 · rcases List.mem_cons.mp h with h | h
   · subst h
     exact⟨Xhc h0 h1 hl,Xjg h0 h1 hl⟩
   · obtain⟨a0,a1⟩:=hr p h
     obtain⟨m1,m2⟩:=m p (List.mem_append_right _ h)
     exact⟨by rw[Xeh h0 h1 (by omega)];exact m1,by rw[Xeh h0 h1 (by omega)];exact m2⟩
def lfI (cs:List Int)(b e:Int):List Int:=if b=e then cs else Xci cs b (e-b) false
def fr (b e:Int):List Pc:=if b=e then [] else [⟨b,e-b,false⟩]
theorem Xen (cs:List Int)(b e:Int):(lfI cs b e).length=cs.length:=by
 unfold lfI
 split
 · rfl
 · exact Xbm _ _ _ _
theorem lfI_out {cs:List Int}{b e:Int}{j:Nat}(h0:0≤b)(h1:b≤e)(h:(j:Int)<b∨e≤j):(lfI cs b e)[j]?=cs[j]?:=by
 unfold lfI
 split
 · rfl
 · exact Xeh h0 (by omega) (by omega)
theorem Xgz {b e:Int}(h:b≤e):Xas b (fr b e) e:=by
 unfold fr
 split
 · assumption
 · exact⟨rfl,(by show 1≤e-b;omega),(fun z=>by cases z),(by show b+(e-b)=e;omega)⟩
theorem Xat.layF {cs:List Int}{ds rs:List Pc}{b e:Int}(h0:0≤b)(h1:b≤e)(hl:e≤cs.length)(hd:Xds ds b)(hr:Xfc rs e)(m:Xat cs (ds++rs)):Xat (lfI cs b e) (ds++(fr b e++rs)):=by
 unfold lfI fr
 split
 · exact m
 · exact Xat.lay h0 (by omega) (by omega) hd (by rw[show b+(e-b)=e by omega];exact hr) m
def cutO (cs:List Int)(a l s L:Int):List Int:=lfI (Xci (lfI cs a s) s L true) (s+L) (a+l)
theorem Xwu (cs:List Int)(a l s L:Int):(cutO cs a l s L).length=cs.length:=by
 unfold cutO
 rw[Xen,Xbm,Xen]
def cutP (ds rs:List Pc)(a l s L:Int):List Pc:=ds++(fr a s++(⟨s,L,true⟩::(fr (s+L) (a+l)++rs)))
theorem Xpn {cs:List Int}{ds rs:List Pc}{z:Pc}{s L:Int}(h0:0≤z.a)(hL:1≤L)(h1:z.a≤s)(h2:s+L≤z.a+z.l)(hl:z.a+z.l≤cs.length)(hd:Xds ds z.a)(hr:Xfc rs (z.a+z.l))(m:Xat cs (ds++z::rs)) :
   Xat (cutO cs z.a z.l s L) (cutP ds rs z.a z.l s L):=by
 have m0:Xat cs (ds++rs):=m.sub fun p hp=>by
   rcases List.mem_append.mp hp with h | h
   · exact List.mem_append_left _ h
   · exact List.mem_append_right _ (List.mem_cons_of_mem _ h)
 have m1:=Xat.layF h0 h1 (by omega) hd (fun p hp=>by have:=hr p hp;omega) m0
 have d1:Xds (ds++fr z.a s) s:=(hd.mono h1).app ((Xgz h1).endBy h0)
 have m2:Xat (Xci (lfI cs z.a s) s L true) ((ds++fr z.a s)++⟨s,L,true⟩::rs) :=
   Xat.lay (by omega) hL (by rw[Xen];omega) d1 (fun p hp=>by have:=hr p hp;omega) (by rw[List.append_assoc];exact m1)
 have d2:Xds ((ds++fr z.a s)++[⟨s,L,true⟩]) (s+L):=(d1.mono (by omega)).app fun p hp=>by
   have:p=⟨s,L,true⟩:=by simpa using hp
   subst this
   exact⟨by show 0≤s;omega,hL,Int.le_refl _⟩
 have m3:=Xat.layF (cs:=Xci (lfI cs z.a s) s L true) (b:=s+L) (e:=z.a+z.l) (by omega) h2 (by rw[Xbm,Xen];omega) d2 hr (by rw[List.append_assoc];exact m2)
 unfold cutO cutP
 simpa only [List.append_assoc,List.singleton_append,List.cons_append,List.nil_append] using m3
theorem Xcu:∀{ps:List Pc} {s e:Int} {i:Nat} {z:Pc},Xas s ps e→ps[i]?=some z→∃ds rs,ps=ds++z::rs∧ds.length=i∧Xas s ds z.a∧Xas (z.a+z.l) rs e
 | [],s,e,i,z,_,h=>by simp at h
 | p::r,s,e,0,z,c,h=>by
   have e1:p=z:=by simpa using h
   subst e1
   obtain⟨h0,h1,h2,h3⟩:=c
   exact⟨[],r,rfl,rfl,h0.symm,by rw[h0];exact h3⟩
 | p::r,s,e,i+1,z,c,h=>by
   obtain⟨h0,h1,h2,h3⟩:=c
   obtain⟨ds,rs,e1,e2,c1,c2⟩:=Xcu h3 (show r[i]?=some z by simpa using h)
   exact⟨p::ds,rs,by rw[e1];rfl,by rw[List.length_cons,e2],⟨h0,h1,h2,c1⟩,c2⟩
theorem Xnn {ps:List Pc}:∀{b e:Int},Xas b ps e→∀(i j:Nat) (y z:Pc),ps[i]?=some y→ps[j]?=some z→y.a=z.a→y=z:=by
 induction ps with
 | nil=>intro b e _ i j y z hi;simp at hi
 | cons p r ih =>
   intro b e h i j y z hi hj ha
   obtain⟨e1,h1,h3,c⟩:=h
   have up:∀(i:Nat) (y:Pc),r[i]?=some y→y.a>p.a:=fun i y hy=>by
     have:=(c.mem y (List.mem_of_getElem? hy)).1
     omega
   cases i with
   | zero =>
     cases j with
     | zero=>simp at hi hj;rw[←hi,←hj]
     | succ j =>
       have e2:p=y:=by simpa using hi
       have:=up j z (by simpa using hj)
       subst e2;omega
   | succ i =>
     cases j with
     | zero =>
       have e2:p=z:=by simpa using hj
       have:=up i y (by simpa using hi)
       subst e2;omega
     | succ j=>exact ih c i j y z (by simpa using hi) (by simpa using hj) ha
end Stow
namespace Stow
theorem Xce {ps:List Pc}{s e:Int}{y z:Pc}(c:Xas s ps e)(hy:y∈ps)(hz:z∈ps)(h:y.a=z.a):y=z:=by
 obtain⟨i,hi⟩:=List.getElem?_of_mem hy
 obtain⟨j,hj⟩:=List.getElem?_of_mem hz
 exact Xnn c i j y z hi hj h
end Stow
namespace Stow
end Stow
namespace Stow
end Stow
namespace Stow
theorem Xas.take:∀{ps:List Pc} {s e:Int} {i:Nat},Xas s ps e→i≤ps.length→∃m,Xas s (ps.take i) m∧Xas m (ps.drop i) e
 | ps,s,e,0,c,_=>⟨s,rfl,c⟩
 | [],s,e,i+1,c,h=>by simp at h
 | p::r,s,e,i+1,c,h=>by
   obtain⟨h0,h1,h2,h3⟩:=c
   obtain⟨m,c1,c2⟩:=h3.take (i:=i) (by simpa using h)
   exact⟨m,⟨h0,h1,h2,c1⟩,c2⟩
theorem Xas.unsnoc {D:List Pc}{y:Pc}{s e:Int}(c:Xas s (D++[y]) e):Xas s D y.a∧1≤y.l∧(y.v=true→3≤y.l)∧y.a+y.l=e:=by
 obtain⟨ds,rs,e1,e2,c1,c2⟩:=Xcu (i:=D.length) (z:=y) c (by rw[List.getElem?_append_right (Nat.le_refl _),Nat.sub_self];rfl)
 have hl:=congrArg List.length e1
 rw[List.length_append,List.length_append,List.length_singleton,List.length_cons] at hl
 have er:rs=[]:=List.length_eq_zero_iff.mp (by omega)
 subst er
 have:=(List.append_inj e1 (by omega)).1
 subst this
 obtain⟨h1,h2,h3,_⟩:=c.mem y (List.mem_append_right _ List.mem_cons_self)
 exact⟨c1,h2,h3,c2⟩
def Xgd (ps:List Pc):Prop:=∀j y z,ps[j]?=some y→ps[j+1]?=some z→y.v=true∨z.v=true
theorem Xgd.snoc {D:List Pc}{w z:Pc}(h:Xgd (D++[w]))(hv:w.v=true∨z.v=true):Xgd (D++[w]++[z]):=by
 intro j y x hy hx
 have hl:j+1<(D++[w]++[z]).length:=(List.getElem?_eq_some_iff.mp hx).1
 rw[List.length_append,List.length_singleton] at hl
 rw[List.getElem?_append_left (by omega)] at hy
 by_cases e:j+1<(D++[w]).length
 · rw[List.getElem?_append_left e] at hx
   exact h j y x hy hx
 · rw[List.length_append,List.length_singleton] at e hl
   rw[List.getElem?_append_right (by rw[List.length_append,List.length_singleton];omega),show j+1-(D++[w]).length=0 by rw[List.length_append,List.length_singleton];omega] at hx
   rw[show j=D.length by omega,List.getElem?_append_right (Nat.le_refl _),Nat.sub_self] at hy
   have e1:w=y:=by simpa using hy
   have e2:z=x:=by simpa using hx
   rw[←e1,←e2]
   exact hv
end Stow
namespace Stow
end Stow
namespace Stow
end Stow
namespace Stow
open PySem L2 PyProof.Rows
theorem Xbz.unsnoc {H:Hp}{us:List V}{ps:List Pc}{y:Pc}(h:Xbz H us (ps++[y])):∃ui t,us=ui++[.ref t]∧Xbz H ui ps∧H t=some (.tup [.int y.a,.int y.l,.bl y.v]):=by
 have hl:=h.1
 rw[List.length_append,List.length_singleton] at hl
 obtain⟨t,e1,e2⟩:=h.2 ps.length y (by rw[List.getElem?_append_right (Nat.le_refl _),Nat.sub_self];rfl)
 have hd:us=us.take ps.length++[.ref t]:=by
   have:=List.take_append_drop ps.length us
   have e3:us.drop ps.length=[.ref t]:=by
     apply List.ext_getElem?
     intro i
     rw[List.getElem?_drop]
     cases i with
     | zero=>exact e1
     | succ i=>rw[List.getElem?_eq_none (by omega)];rfl
   rw[e3] at this
   exact this.symm
 refine⟨us.take ps.length,t,hd,⟨by rw[List.length_take];omega,fun i p e=>?_⟩,e2⟩
 have hi:i<ps.length:=(List.getElem?_eq_some_iff.mp e).1
 obtain⟨a,h1,h2⟩:=h.2 i p (by rw[List.getElem?_append_left hi];exact e)
 exact⟨a,by rw[List.getElem?_take_of_lt hi];exact h1,h2⟩
section
variable {X:Cx}
end
end Stow
namespace Stow
open PySem L2 PyProof.Rows
def eqVs (xs ys:List V):Bool:=(List.range (min xs.length ys.length)).all (fun j=>eqV (xs.getD j .non) (ys.getD j .non))&&xs.length==ys.length
section
variable {X:Cx}{pins:List (Addr×Obj)}{σ:L2.St}{H:Hp}{s:Shared}{A:Around}
theorem Xwk {a b:Addr}{xs ys:List V}(I:Inv X pins σ H s)(ha:SqT X.K H a xs)(hb:SqT X.K H b ys)(hf:xs.all Xdj=true)(hg:ys.all Xdj=true) :
   ∃its its2:List Value,s.heap.IsTuple a its.toArray∧s.heap.IsTuple b its2.toArray∧its.length=xs.length∧its2.length=ys.length ∧
     ∀j (h1:j<its.toArray.size) (h2:j<its2.toArray.size),SeqAt.EqAt A s its.toArray[j] its2.toArray[j] (eqV (xs.getD j .non) (ys.getD j .non)):=by
 obtain⟨its,r1,p1,_⟩:=I.tuple ha
 obtain⟨its2,r2,p2,_⟩:=I.tuple hb
 have l1:=r1.length
 have l2:=r2.length
 refine⟨its,its2,p1,p2,l1.symm,l2.symm,fun j h1 h2=>?_⟩
 rw[List.size_toArray] at h1 h2
 have hj:j<xs.length:=by omega
 have hk:j<ys.length:=by omega
 obtain⟨u1,e1,q1⟩:=r1.get (i:=j) (x:=xs[j]) (by simp [hj])
 obtain⟨u2,e2,q2⟩:=r2.get (i:=j) (x:=ys[j]) (by simp [hk])
 obtain⟨g1,f1⟩:=List.getElem?_eq_some_iff.mp e1
 obtain⟨g2,f2⟩:=List.getElem?_eq_some_iff.mp e2
 have fl:Xdj xs[j]=true:=List.all_eq_true.mp hf _ (List.getElem_mem hj)
 have gl:Xdj ys[j]=true:=List.all_eq_true.mp hg _ (List.getElem_mem hk)
 have z:=Xqv (A:=A) (s:=s) q1 q2 fl gl
 rw[←f1,←f2] at z
 have ex:xs.getD j .non=xs[j]:=by simp [hj]
 have ey:ys.getD j .non=ys[j]:=by simp [hk]
 rw[ex,ey]
 simpa using z
theorem XGe {a b:Addr}{xs ys:List V}(hu:A.units<cLine)(I:Inv X pins σ H s)(ha:SqT X.K H a xs)(hb:SqT X.K H b ys)(hf:xs.all Xdj=true)(hg:ys.all Xdj=true):SeqAt.RcAt A s (.ref a) (.ref b) (eqVs xs ys):=by
 obtain⟨its,its2,p1,p2,l1,l2,he⟩:=Xwk (A:=A.in1) I ha hb hf hg
 have key:=SeqAt.RcAt.tuples p1 p2 hu he
 simp only [List.size_toArray,l1,l2] at key
 exact key
theorem Xlz {xs:List V}(hf:xs.all Xdj=true):eqVs xs xs=true:=by
 unfold eqVs
 rw[Bool.and_eq_true]
 refine⟨List.all_eq_true.mpr fun j hj=>?_,by simp⟩
 have hj:j<xs.length:=by simpa using hj
 have ex:xs.getD j .non=xs[j]:=by simp [hj]
 rw[ex]
 exact Xnz (List.all_eq_true.mp hf _ (List.getElem_mem hj))
end
section
variable {X:Cx}
end
end Stow
set_option Elab.async false
set_option linter.all false
set_option maxRecDepth 100000
set_option maxHeartbeats 4000000
namespace L2
open PySem PySem.Spec PyProof.Rows
section
variable {κ:Type}[DecidableEq κ]
def valV (kvs:List (κ×V))(k:κ):Option V:=(kvs.find? fun kv=>decide (kv.1=k)).map (·.2)
def putK (kvs:List (κ×V))(k:κ)(v:V):List (κ×V) :=
 if (kvs.any fun kv=>decide (kv.1=k))=true then kvs.map (fun kv=>if kv.1=k then (kv.1,v) else kv) else kvs++[(k,v)]
def XNw (kvs:List (κ×V))(k:κ):List (κ×V):=kvs.filter fun kv=>decide (kv.1≠k)
theorem Xkm {p:κ×V}{r:List (κ×V)}{k:κ}(e:p.1=k):valV (p::r) k=some p.2:=by simp [valV,List.find?_cons,e]
theorem Xkw {p:κ×V}{r:List (κ×V)}{k:κ}(e:¬p.1=k):valV (p::r) k=valV r k:=by simp [valV,List.find?_cons,e]
theorem Xof (k:κ):∀kvs:List (κ×V),(kvs.any fun kv=>decide (kv.1=k))=(valV kvs k).isSome
 | []=>rfl
 | p::r=>by
   rw[List.any_cons]
   by_cases e:p.1=k
   · simp only [Xkm e,decide_eq_true e,Bool.true_or,Option.isSome_some]
   · rw[Xkw e,decide_eq_false e,Bool.false_or];exact Xof k r
theorem RelO.isSome_eq {o:Option V}{u:Option Value}(r:RelO o u):o.isSome=u.isSome:=by
 cases o with
 | none=>cases u with
   | none=>rfl
   | some _=>exact(show False from r).elim
 | some _=>cases u with
   | none=>exact(show False from r).elim
   | some _=>rfl
theorem RelO.getD {o:Option V}{u:Option Value}{d:V}{d':Value}(r:RelO o u)(rd:RelV d d'):RelV (o.getD d) (u.getD d'):=by
 cases o with
 | none=>cases u with
   | none=>exact rd
   | some _=>exact(show False from r).elim
 | some _=>cases u with
   | none=>exact(show False from r).elim
   | some _=>exact r
theorem KV.val {kvs:List (κ×V)}{vs:List (κ×Value)}(r:KV kvs vs)(k:κ):RelO (valV kvs k) (valueAt vs k):=by
 unfold KV at r
 induction r with
 | nil=>exact True.intro
 | @cons p q ps qs h t ih =>
   obtain⟨h1,h2⟩:=h
   by_cases e:p.1=k
   · have e':q.1=k:=h1.symm.trans e
     have b:valueAt (q::qs) k=some q.2:=by simp [valueAt,List.find?_cons,e']
     rw[Xkm e,b];exact h2
   · have e':¬q.1=k:=fun z=>e (h1.trans z)
     have b:valueAt (q::qs) k=valueAt qs k:=by simp [valueAt,List.find?_cons,e']
     rw[Xkw e,b];exact ih
theorem KV.any {kvs:List (κ×V)}{vs:List (κ×Value)}(r:KV kvs vs)(k:κ):(kvs.any fun kv=>decide (kv.1=k))=vs.any fun kv=>decide (kv.1=k):=by
 unfold KV at r
 induction r with
 | nil=>rfl
 | cons h t ih=>rw[List.any_cons,List.any_cons,ih,h.1]
theorem KV.repl {kvs:List (κ×V)}{vs:List (κ×Value)}(r:KV kvs vs)(k:κ){y:V}{u:Value}(ry:RelV y u) :
   KV (kvs.map fun kv=>if kv.1=k then (kv.1,y) else kv) (vs.map fun kv=>if kv.1=k then (kv.1,u) else kv):=by
 unfold KV at r ⊢
 induction r with
 | nil=>exact .nil
 | @cons p q ps qs h t ih =>
   rw[List.map_cons,List.map_cons]
   refine .cons ?_ ih
   obtain⟨h1,h2⟩:=h
   by_cases e:p.1=k
   · rw[if_pos e,if_pos (h1.symm.trans e)];exact⟨h1,ry⟩
   · rw[if_neg e,if_neg (fun z=>e (h1.trans z))];exact⟨h1,h2⟩
theorem KV.put {kvs:List (κ×V)}{vs:List (κ×Value)}(r:KV kvs vs)(k:κ){y:V}{u:Value}(ry:RelV y u):KV (putK kvs k y) (stored vs k u):=by
 unfold putK stored
 rw[r.any k]
 by_cases e:(vs.any fun kv=>decide (kv.1=k))=true
 · rw[if_pos e,if_pos e];exact r.repl k ry
 · rw[if_neg e,if_neg e];exact Paired.snoc r ⟨rfl,ry⟩
theorem KV.drop {kvs:List (κ×V)}{vs:List (κ×Value)}(r:KV kvs vs)(k:κ):KV (XNw kvs k) (without vs k):=by
 unfold KV at r ⊢
 unfold XNw without
 induction r with
 | nil=>exact .nil
 | @cons p q ps qs h t ih =>
   obtain⟨h1,h2⟩:=h
   rw[List.filter_cons,List.filter_cons]
   by_cases e:p.1=k
   · have a:¬decide (p.1≠k)=true:=by simp [e]
     have b:¬decide (q.1≠k)=true:=by simp [h1.symm.trans e]
     rw[if_neg a,if_neg b];exact ih
   · have e':¬q.1=k:=fun z=>e (h1.trans z)
     have a:decide (p.1≠k)=true:=by simp [e]
     have b:decide (q.1≠k)=true:=by simp [e']
     rw[if_pos a,if_pos b];exact .cons ⟨h1,h2⟩ ih
theorem KV.keys {kvs:List (κ×V)}{vs:List (κ×Value)}(r:KV kvs vs):kvs.map (·.1)=vs.map (·.1):=by
 unfold KV at r
 induction r with
 | nil=>rfl
 | cons h t ih=>rw[List.map_cons,List.map_cons,ih,h.1]
theorem KV.length {kvs:List (κ×V)}{vs:List (κ×Value)}(r:KV kvs vs):kvs.length=vs.length:=Paired.length r
end
theorem Xss {P:Program}{w:World}{k:Key}{u:Value}(r:RelV (kV k) u):(Xbk P w).is k u=true:=by
 cases k with
 | inl i=>obtain⟨t,e⟩:=(show ∃t,u=Value.int i t from r);subst e;exact Xmw P w i t
 | inr x=>obtain⟨t,e⟩:=(show ∃t,u=Value.str x t from r);subst e;exact Xms P w x t
theorem Xlm {P:Program}{w:World}:∀{ks:List Key} {us:List Value},Vals (ks.map kV) us→ItemsAre (Xbk P w) ks us
 | [],_,r=>by rw[List.map_nil] at r;cases r;exact .nil
 | k::ks,_,r=>by
   rw[List.map_cons] at r
   cases r with
   | cons h t=>exact .cons (Xss h) (Xlm t)
abbrev KT (H:Hp):List (List Key×V)→List (List Key×Addr×Value)→Prop:=Paired fun p q=>p.1=q.1∧H q.2.1=some (.tup (p.1.map kV))∧RelV p.2 q.2.2
theorem KT.val {H:Hp}{kvs:List (List Key×V)}{xs:List (List Key×Addr×Value)}(r:KT H kvs xs)(k:List Key):RelO (valV kvs k) ((atKey xs k).map (·.2)):=by
 induction r with
 | nil=>exact True.intro
 | @cons p q ps qs h t ih =>
   obtain⟨h1,_,h2⟩:=h
   by_cases e:p.1=k
   · have e':q.1=k:=h1.symm.trans e
     have b:atKey (q::qs) k=some q.2:=by simp [atKey,List.find?_cons,e']
     rw[Xkm e,b];exact h2
   · have e':¬q.1=k:=fun z=>e (h1.trans z)
     have b:atKey (q::qs) k=atKey qs k:=by simp [atKey,List.find?_cons,e']
     rw[Xkw e,b];exact ih
theorem KT.repl {H:Hp}{kvs:List (List Key×V)}{xs:List (List Key×Addr×Value)}(r:KT H kvs xs)(k:List Key){y:V}{u:Value}(ry:RelV y u) :
   KT H (kvs.map fun kv=>if kv.1=k then (kv.1,y) else kv) (xs.map (putAt k u)):=by
 induction r with
 | nil=>exact .nil
 | @cons p q ps qs h t ih =>
   rw[List.map_cons,List.map_cons]
   refine .cons ?_ ih
   obtain⟨h1,h2,h3⟩:=h
   unfold putAt
   by_cases e:p.1=k
   · rw[if_pos e,if_pos (h1.symm.trans e)];exact⟨h1,h2,ry⟩
   · rw[if_neg e,if_neg (fun z=>e (h1.trans z))];exact⟨h1,h2,h3⟩
theorem KT.put {H:Hp}{kvs:List (List Key×V)}{xs:List (List Key×Addr×Value)}(r:KT H kvs xs)(k:List Key){b:Addr}{y:V}{u:Value}(hb:H b=some (.tup (k.map kV)))(ry:RelV y u) :
   KT H (putK kvs k y) (storedH xs k b u):=by
 have e:(kvs.any fun kv=>decide (kv.1=k))=(atKey xs k).isSome:=by
   rw[Xof,(r.val k).isSome_eq,Option.isSome_map]
 unfold putK storedH
 rw[e]
 by_cases q:(atKey xs k).isSome=true
 · rw[if_pos q,if_pos q];exact r.repl k ry
 · rw[if_neg q,if_neg q];exact Paired.snoc r ⟨rfl,hb,ry⟩
theorem KT.keeps {H H':Hp}{kvs:List (List Key×V)}{xs:List (List Key×Addr×Value)}(r:KT H kvs xs)(ht:∀b ys,H b=some (.tup ys)→H' b=some (.tup ys)):KT H' kvs xs :=
 Paired.mapP r fun _ _ z=>⟨z.1,ht _ _ z.2.1,z.2.2⟩
section
variable {P:Program}{w:World}{H:Hp}{h:Heap}{a:Addr}
theorem XPh {u:HO}(ok:HOk P w H h)(e:Rd H a u):Xct P w H h a u:=e.ok ok
theorem Xpl {kvs:List (Key×V)}(ok:HOk P w H h)(e:Rd H a (.dK kvs)):kvs.length≤sizeLine∧(a==sysModules)=false∧∃vs,KV kvs vs∧h.DictOf (Xbk P w) a vs :=
 show Xct P w H h a (.dK kvs) from XPh ok e
theorem dk_of {kvs:List (Key×V)}(ok:HOk P w H h)(e:H a=some (.dK kvs)):kvs.length≤sizeLine∧(a==sysModules)=false∧∃vs,KV kvs vs∧h.DictOf (Xbk P w) a vs:=Xpl ok (.inl e)
theorem Xoj {ks:List Key}(ok:HOk P w H h)(e:H a=some (.tup (ks.map kV))):(tupleKind (Xbk P w)).is h ks a:=by
 obtain⟨_,its,r,o,h1,h2,n,h3⟩:=(show Xct P w H h a (.tup (ks.map kV)) from ok a _ e)
 exact⟨o,its.toArray,n,h1,h2,h3,by simpa using Xlm r⟩
theorem Xqq {kvs:List (List Key×V)}(ok:HOk P w H h)(e:Rd H a (.dT kvs)):kvs.length≤sizeLine∧(a==sysModules)=false ∧
   ∃xs,KT H kvs xs∧h.DictOfH (tupleKind (Xbk P w)) a xs:=by
 obtain⟨z,y,xs,r,o,es,ep,h1,h2,h3,h4,h5⟩:=(show Xct P w H h a (.dT kvs) from XPh ok e)
 refine⟨z,y,xs,r,o,es,ep,h1,h2,h3,h4,fun x hx=>?_,h5⟩
 have all:∀{l:List (List Key×V)} {m:List (List Key×Addr×Value)},KT H l m→∀x∈m,(tupleKind (Xbk P w)).is h x.1 x.2.1:=by
   intro l m q
   induction q with
   | nil=>intro x hx;exact nomatch hx
   | @cons p q ps qs hq t ih =>
     intro x hx
     rcases List.mem_cons.mp hx with e | hx
     · subst e
       exact Xoj ok (by rw[←hq.1];exact hq.2.1)
     · exact ih x hx
 exact all r x hx
end
def DGet (H:Hp)(a:Addr)(y:V)(r:Option V):Prop :=
 (∃kvs k,Rd H a (.dK kvs)∧y=kV k∧r=valV kvs k)∨∃kvs k b,Rd H a (.dT kvs)∧y = .ref b∧H b=some (.tup (k.map kV))∧r=valV kvs k
def DPut (H:Hp)(a:Addr)(y v:V)(H':Hp):Prop :=
 (∃kvs k,H a=some (.dK kvs)∧y=kV k∧kvs.length<sizeLine∧H'=upd H a (.dK (putK kvs k v))) ∨
 ∃kvs k b,H a=some (.dT kvs)∧y = .ref b∧H b=some (.tup (k.map kV))∧kvs.length<sizeLine∧H'=upd H a (.dT (putK kvs k v))
theorem DGet.k {H:Hp}{a:Addr}{kvs:List (Key×V)}{k:Key}(e:H a=some (.dK kvs)):DGet H a (kV k) (valV kvs k):=.inl ⟨kvs,k,.inl e,rfl,rfl⟩
theorem DGet.t {H:Hp}{a b:Addr}{kvs:List (List Key×V)}{k:List Key}(e:H a=some (.dT kvs))(eb:H b=some (.tup (k.map kV))):DGet H a (.ref b) (valV kvs k):=.inr ⟨kvs,k,b,.inl e,rfl,eb,rfl⟩
theorem DPut.k {H:Hp}{a:Addr}{kvs:List (Key×V)}{k:Key}{v:V}(e:H a=some (.dK kvs))(hl:kvs.length<sizeLine):DPut H a (kV k) v (upd H a (.dK (putK kvs k v))):=.inl ⟨kvs,k,e,rfl,hl,rfl⟩
theorem DPut.t {H:Hp}{a b:Addr}{kvs:List (List Key×V)}{k:List Key}{v:V}(e:H a=some (.dT kvs))(eb:H b=some (.tup (k.map kV)))(hl:kvs.length<sizeLine) :
   DPut H a (.ref b) v (upd H a (.dT (putK kvs k v))):=.inr ⟨kvs,k,b,e,rfl,eb,hl,rfl⟩
section
variable {X:Cx}{pins:List (Addr×Obj)}{σ:St}{H:Hp}{s:Shared}{a:Addr}{y v:V}{u r:Value}{o:Option V}{A:Around}{E:Value→Shared→Prop}
theorem Inv.big (I:Inv X pins σ H s):sysModules<s.heap.objs.size:=by
 have h:mainGlobals<s.heap.objs.size:=(I.mod.glob.keeps I.bk).lt
 exact Nat.lt_trans (by decide) h
theorem Xuq {Q:Value→Shared→Prop}(hu:A.units+1<cLine)(I:Inv X pins σ H s)(g:DGet H a y (some v))(ry:RelV y u)(h:∀w' s',Inv X pins σ H s'→RelV v w'→Q w' s') :
   wpAny (model X.prog X.w) A (getItem (.ref a) u) Q E s:=by
 rcases g with ⟨kvs,k,e,ey,l⟩ | ⟨kvs,k,b,e,ey,eb,l⟩
 · subst ey
   obtain⟨z,hd,vs,rel,dd⟩:=Xpl I.hok e
   obtain⟨w',hw,rw'⟩:=RelO.some_of (v:=v) (o:=valueAt vs k) (by rw[l];exact rel.val k)
   exact wpAny_getItem_of (Xss ry) dd.mapOf hw (h w' _ (I.tok _) rw')
 · subst ey
   cases (show u=Value.ref b from ry)
   obtain⟨z,hd,xs,rel,dd⟩:=Xqq I.hok e
   obtain⟨w',hw,rw'⟩:=RelO.some_of (v:=v) (o:=(atKey xs k).map (·.2)) (by rw[l];exact rel.val k)
   obtain⟨p,hp,hp2⟩:=Option.map_eq_some_iff.mp hw
   refine wpAny_getItem_heap (tupleKind_room_in1 hu) (Xoj I.hok eb) dd hp ?_
   rw[hp2]
   exact h w' _ (I.tok _) rw'
theorem XFb {Q:Value→Shared→Prop}(hu:A.units+1<cLine)(I:Inv X pins σ H s)(g:DGet H a y o)(ry:RelV y u)(h:∀s',Inv X pins σ H s'→Q (.bool (!o.isSome)) s') :
   wpAny (model X.prog X.w) A (compareOp .NotIn u (.ref a)) Q E s:=by
 rcases g with ⟨kvs,k,e,ey,l⟩ | ⟨kvs,k,b,e,ey,eb,l⟩
 · subst ey
   obtain⟨z,hd,vs,rel,dd⟩:=Xpl I.hok e
   refine wpAny_notIn_of (Xss ry) hd dd.mapOf ?_
   rw[←(rel.val k).isSome_eq,←l]
   exact h _ (I.tok _)
 · subst ey
   cases (show u=Value.ref b from ry)
   obtain⟨z,hd,xs,rel,dd⟩:=Xqq I.hok e
   refine wpAny_notIn_heap (tupleKind_room_in1 hu) (Xoj I.hok eb) hd dd ?_
   have q:=(rel.val k).isSome_eq
   rw[Option.isSome_map] at q
   rw[←q,←l]
   exact h _ (I.tok _)
end
section
variable {X:Cx}{pins:List (Addr×Obj)}{σ:St}{H:Hp}{s:Shared}{a:Addr}{kvs:List (Key×V)}{k:Key}{u:Value}{A:Around}{E:Value→Shared→Prop}
end
def NoSl (i:Expr):Prop:=∀ov iv,subscripted i false ov iv=operate [ov,iv] (getItem ov iv)
theorem XEe {prog:Program}{w:World}{A:Around}{E:Value→Shared→Prop}{s:Shared}{env:Env}{value slice:Expr}{pos:Pos}{T id:String}{Q:Value→Shared→Prop}
   (hl:typeLookup (.type T) "__getitem__"=pure (some (.builtin id))) (hs:NoSl slice)
   (h:wpAny (model prog w) A (eval value env) (fun o s₁=>wpAny (model prog w) A (eval slice env) (fun i s₂=>s₂.TypeIs o T∧wpAny (model prog w) A (getItem o i) Q E s₂) E s₁) E s) :
   wpAny (model prog w) A (eval (.Subscript value slice pos) env) Q E s:=by
 refine Subscript_ (wpAny_mono h (fun o s₁ h₁=>wpAny_mono h₁ (fun i s₂ h₂=>?_) fun _ _ x=>x) fun _ _ x=>x)
 obtain⟨hT,h₂⟩:=h₂
 unfold subscriptTail
 refine wpAny_bind ?_
 rw[getitemInPython_of_ne hT.not_modules]
 refine wpAny_bind (wpAny_specialOf hT hl ?_)
 have fin:wpAny (model prog w) A (subscripted slice false o i) (fun r s₃=>wpAny (model prog w) A (letTemporaryGo value o r >>= fun _=>pure r) Q E s₃) E s₂:=by
   rw[hs o i]
   exact wpAny_operating (wpAny_mono h₂ (fun r s₃ h₃=>wpAny_bind (wpAny_letTemporaryGo (wpAny_pure h₃))) fun _ _ x=>x)
 first
   | exact wpAny_pure (wpAny_bind fin)
   | exact wpAny_bind (wpAny_pure (wpAny_bind fin))
   | exact wpAny_bind fin
theorem Xmx {X:Cx}{pins:List (Addr×Obj)}{σ:St}{H:Hp}{s:Shared}{a:Addr}{y:V}{o:Option V}(I:Inv X pins σ H s)(g:DGet H a y o):s.TypeIs (.ref a) "dict":=by
 rcases g with ⟨kvs,k,e,_,_⟩ | ⟨kvs,k,b,e,_,_,_⟩
 · obtain⟨_,_,vs,_,dd⟩:=Xpl I.hok e
   exact dd.typeIs
 · obtain⟨_,_,xs,_,dd⟩:=Xqq I.hok e
   exact dd.typeIs
def XMx (td ty:TE):TE:=fun σ H Q=>td σ H fun x H1=>ty σ H1 fun y H2=>∃a v,x = .ref a∧DGet H2 a y (some v)∧Q v H2
def Xtb (ty td:TE):TE:=fun σ H Q=>ty σ H fun y H1=>td σ H1 fun x H2=>∃a o,x = .ref a∧DGet H2 a y o∧Q (.bl (!o.isSome)) H2
section
variable {X:Cx}{o i e value:Expr}{pos pos' tpos:Pos}{td ty tv:TE}
theorem Xmn (hu:X.A.units+1<cLine)(ho:PE X o td)(hi:PE X i ty)(hs:NoSl i):PE X (.Subscript o i pos) (XMx td ty):=by
 intro pins s σ H Q I h
 refine XEe PySem.F.slot_dict_getitem.lookup hs (thn (ho pins s σ H _ I h) fun u s1 ⟨x,H1,I1,rx,q1⟩=>thn (hi pins s1 σ H1 _ I1 q1) fun iv s2 ⟨y,H2,I2,ry,a,v,ex,g,q2⟩=>?_)
 subst ex
 obtain rfl:u=Value.ref a:=rx
 exact⟨Xmx I2 g,Xuq hu I2 g ry fun w' s3 I3 rw'=>⟨v,H2,I3,rw',q2⟩⟩
theorem Xto (hu:X.A.units+1<cLine)(hi:PE X i ty)(ho:PE X o td):PC X .NotIn i o (Xtb ty td):=by
 intro pins s σ H Q I h
 refine thn (hi pins s σ H _ I h) fun iv s1 ⟨y,H1,I1,ry,q1⟩=>thn (ho pins s1 σ H1 _ I1 q1) fun u s2 ⟨x,H2,I2,rx,a,ov,ex,g,q2⟩=>?_
 subst ex
 obtain rfl:u=Value.ref a:=rx
 exact XFb hu I2 g ry fun s3 I3=>⟨.bl (!ov.isSome),H2,I3,rfl,q2⟩
end
section
variable {X:Cx}{pos:Pos}
end
structure M1 (X:Cx)(o:Expr)(m:Str)(apos:Pos)(e:Expr)(cpos:Pos):Prop where
 base:attributeBase o m X.env (eval o X.env)=eval o X.env
 few:((backTo cpos (starEach [e] X.env)).all (fun x=>!x.1)&&(backToKw cpos (keywordEach [] X.env)).all (fun x=>x.1.isSome)
   && decide (([e]:List Expr).length+([]:List Keyword).length+(if ([]:List Keyword).isEmpty then 0 else 1)<30))=true
 line:(apos.endLine==cpos.line)=true
 trees:backTo cpos (starEach [e] X.env)=[(false,eval e X.env)]
structure M2 (X:Cx)(o:Expr)(m:Str)(apos:Pos)(e f:Expr)(cpos:Pos):Prop where
 base:attributeBase o m X.env (eval o X.env)=eval o X.env
 few:((backTo cpos (starEach [e,f] X.env)).all (fun x=>!x.1)&&(backToKw cpos (keywordEach [] X.env)).all (fun x=>x.1.isSome)
   && decide (([e,f]:List Expr).length+([]:List Keyword).length+(if ([]:List Keyword).isEmpty then 0 else 1)<30))=true
 line:(apos.endLine==cpos.line)=true
 trees:backTo cpos (starEach [e,f] X.env)=[(false,eval e X.env),(false,eval f X.env)]
def IsD (H:Hp)(a:Addr):Prop:=(∃kvs,Rd H a (.dK kvs))∨∃kvs,Rd H a (.dT kvs)
theorem XOz {X:Cx}{pins:List (Addr×Obj)}{σ:St}{H:Hp}{s:Shared}{a:Addr}(I:Inv X pins σ H s)(d:IsD H a) :
   s.TypeIs (.ref a) "dict"∧(∀b,Value.ref a = .ref b→∃ob,s.heap.get? b=some ob∧ob.dict=none)∧(a==sysModules)=false:=by
 rcases d with ⟨kvs,e⟩ | ⟨kvs,e⟩
 · obtain⟨_,hd,vs,_,dd⟩:=Xpl I.hok e
   refine⟨dd.typeIs,fun b q=>?_,hd⟩
   cases q
   obtain⟨ob,_,_,h1,h2,_⟩:=dd
   exact⟨ob,h1,h2.2.1⟩
 · obtain⟨_,hd,xs,_,dd⟩:=Xqq I.hok e
   refine⟨dd.typeIs,fun b q=>?_,hd⟩
   cases q
   obtain⟨ob,_,_,h1,h2,_⟩:=dd
   exact⟨ob,h1,h2.2.1⟩
section
variable {X:Cx}{pins:List (Addr×Obj)}{σ:St}{H:Hp}{s:Shared}{a:Addr}{y d:V}{u r:Value}{o:Option V}{A:Around}{E:Value→Shared→Prop}
theorem XLh {Q:Value→Shared→Prop}(hu:A.units+1<cLine)(I:Inv X pins σ H s)(g:DGet H a y o)(ry:RelV y u)(rd:RelV d r)(h:∀w' s',Inv X pins σ H s'→RelV (o.getD d) w'→Q w' s') :
   wpAny (model X.prog X.w) A (call (.builtin "dict.get") [.ref a,u,r]) Q E s:=by
 rcases g with ⟨kvs,k,e,ey,l⟩ | ⟨kvs,k,b,e,ey,eb,l⟩
 · subst ey
   obtain⟨z,hd,vs,rel,dd⟩:=Xpl I.hok e
   refine call_meetsIn PySem.F.slot_dict_get dd.typeIs PySem.F.entry_dict_get (PySem.F.args_dict_get_3 _ _ _) (meets_dict_get_default (Xbk X.prog X.w) a (Xss ry) hd r) ⟨_,dd.mapOf,h _ _ (I.tok _) ?_⟩
   rw[l]
   exact(rel.val k).getD rd
 · subst ey
   cases (show u=Value.ref b from ry)
   obtain⟨z,hd,xs,rel,dd⟩:=Xqq I.hok e
   refine call_meetsIn PySem.F.slot_dict_get dd.typeIs PySem.F.entry_dict_get (PySem.F.args_dict_get_3 _ _ _) (meetsH_dict_get_default (tupleKind (Xbk X.prog X.w)) a b hd r) ⟨tupleKind_room_in1 hu,k,xs,Xoj I.hok eb,dd,h _ _ (I.tok _) ?_⟩
   rw[l]
   exact(rel.val k).getD rd
end
def Xzp (td ty tx:TE):TE:=fun σ H Q=>td σ H fun x H1=>∃a,x = .ref a∧IsD H1 a∧ty σ H1 fun y H2=>tx σ H2 fun z H3=>∃o,DGet H3 a y o∧Q (o.getD z) H3
section
variable {X:Cx}{o e f:Expr}{apos cpos:Pos}{td ty tx:TE}
theorem Xyl (hu:X.A.units+1<cLine)(ho:PE X o td)(he:PE X e ty)(hf:PE X f tx)(m:M2 X o "get" apos e f cpos):PE X (.Call (.Attribute o "get" apos) [e,f] [] cpos) (Xzp td ty tx):=by
 intro pins s σ H Q I h
 refine wpAny_Call_method m.base m.few m.line PySem.F.plainAttrs_dict PySem.F.slot_dict_get PySem.F.type_dict_get (thn (ho pins s σ H _ I h) fun u s1 ⟨x,H1,I1,rx,a,ex,d,q1⟩=>?_)
 subst ex
 obtain rfl:u=Value.ref a:=rx
 obtain⟨t1,t2,_⟩:=XOz I1 d
 refine⟨t1,t2,?_⟩
 rw[m.trees]
 refine Calls.callWith_builtin rfl (Calls.evalArgs_plain (Calls.spliced_cons (thn (he pins s1 σ H1 _ I1 q1) fun iv s2 ⟨y,H2,I2,ry,q2⟩ =>
   Calls.spliced_cons (thn (hf pins s2 σ H2 _ I2 q2) fun fv s3 ⟨z,H3,I3,rz,ov,g,q3⟩=>Calls.spliced_nil ?_))))
 exact XLh hu I3 g ry rz fun w' s4 I4 rw'=>⟨_,H3,I4,rw',q3⟩
end
section
variable {X:Cx}{pins:List (Addr×Obj)}{σ:St}{H:Hp}{s:Shared}{a:Addr}{kvs:List (Key×V)}{A:Around}{E:Value→Shared→Prop}
end
section
variable {X:Cx}{pins:List (Addr×Obj)}{σ:St}{H:Hp}{s:Shared}{a:Addr}{y:V}{u:Value}{A:Around}{E:Value→Shared→Prop}
end
end L2
namespace L2
open PySem PySem.Spec PyProof.Rows
section
variable {X:Cx}
end
section
variable {κ:Type}[DecidableEq κ]
end
end L2
set_option Elab.async false
set_option linter.all false
set_option maxRecDepth 100000
set_option maxHeartbeats 4000000
namespace Stow
open PySem L2 PyProof.Rows
def CShl (i j:Int):Prop:=0≤j∧j≤1000∧i.natAbs<2^220
section
variable {X:Cx}
theorem Xmv:OpR X (binaryOp .LShift) (rI CShl fun i j=>.int (i*2^j.toNat)):=opI fun i j _ _ _ _ _ hc q =>
 lshift_int hc.1 (by
   obtain⟨h0,h1,h2⟩:=hc
   have:=PyProof.Rows.intBits_le h2
   omega) q
end
theorem Xua (n:Int):Builtin.bitOr (n*2) 1=n*2+1:=by
 rw[PyProof.Rows.bitOr_and]
 have e:Builtin.bitAnd (n*2) 1=(n*2)%2:=by rw[bitAnd_m1]
 rw[e]
 omega
end Stow
set_option Elab.async false
set_option linter.all false
set_option maxRecDepth 100000
set_option maxHeartbeats 4000000
namespace Stow
open PySem L2 PyProof.Rows
section
variable {prog:Program}{w:World}{A:Around}{R:Result→Shared→Prop}{s:Shared}
theorem Xpw {elt tgt src:Expr}{cs:List Expr}{sc:Scope}{ps:Pos}{itv accv:Value}{ev:Env}(J:Nat→Shared→Prop)
   (step:∀k t,J k t→wpAny (model prog w) A (pyNext itv) (fun r t1=>match r with
     | none=>R (.ok .next) t1
     | some x=>wpAny (model prog w) A (letOwnedTupleGo tgt itv x) (fun _ t2=>wpAny (model prog w) A (assign tgt ev x) (fun _ t3 =>
         wpAny (model prog w) A (forIn cs true fun c r=>if r=true then do let ok ←isTrue c ev (eval c ev);pure (ForInStep.yield ok) else pure (ForInStep.yield r)) (fun good t4 =>
           if good=true then wpAny (model prog w) A (eval elt ev) (fun y t5=>wpAny (model prog w) A (call (.builtin "list.append") [accv,y]) (fun _ t6=>∃j,j<k∧J j t6) (notedBy (model prog w) A ev fun e t'=>R (.error e) t') t5) (notedBy (model prog w) A ev fun e t'=>R (.error e) t') t4
           else ∃j,j<k∧J j t4) (notedBy (model prog w) A ev fun e t'=>R (.error e) t') t3) (notedBy (model prog w) A ev fun e t'=>R (.error e) t') t2) (notedBy (model prog w) A ev fun e t'=>R (.error e) t') t1) (notedBy (model prog w) A ev fun e t'=>R (.error e) t') t)
   (k0:Nat) (j0:J k0 s):codeAny (model prog w) A (.compLoop (.ListComp elt [⟨tgt,src,cs,0⟩] sc ps) 0 itv accv ev) R s:=by
 refine codeAny_loop rfl J (fun k t hJ=>?_) k0 j0
 show wpAny _ A ((compTurn (.ListComp elt [⟨tgt,src,cs,0⟩] sc ps) 0 itv accv ev).onRaise (fun x=>do noteFrame x ev;theTreesLotGoes x)) _ _ t
 refine wpAny_noted ?_
 rw[compTurn_list]
 refine wpAny_bind (wpAny_standAt (wpAny_bind (wpAny_mono (step k t hJ) (fun r t1 g1=>?_) fun _ _ z=>z)))
 cases r with
 | none=>exact wpAny_pure g1
 | some x =>
   refine wpAny_bind (wpAny_mono g1 (fun _ t2 g2=>?_) fun _ _ z=>z)
   refine wpAny_bind (wpAny_mono g2 (fun _ t3 g3=>?_) fun _ _ z=>z)
   refine wpAny_bind (wpAny_mono g3 (fun good t4 g4=>?_) fun _ _ z=>z)
   cases good with
   | false=>exact wpAny_pure ⟨rfl,g4⟩
   | true=>exact wpAny_bind (wpAny_bind (wpAny_mono g4 (fun y t5 g5=>wpAny_bind (wpAny_mono g5 (fun _ t6 g6=>wpAny_pure (wpAny_pure ⟨rfl,g6⟩)) fun _ _ z=>z)) fun _ _ z=>z))
end
theorem Xgf {env:Env}:∀(names:List (Str×NameKind)) (acc:List (Str×Addr)),(∀y∈names,y.2 = .free→∃c,env.cells.lookup y.1=some c)→(∀x c,acc.lookup x=some c→env.cells.lookup x=some c) →
   ∃cl,(forIn names acc fun x r=>(do let (name,kind):=x;if (kind==NameKind.free)=true then do let c ←cellOf env name;pure (ForInStep.yield ((name,c)::r)) else pure (ForInStep.yield r)):Sem (List (Str×Addr)))=pure cl ∧
     (∀x c,cl.lookup x=some c→env.cells.lookup x=some c)∧(∀y∈names,y.2 = .free→∃c,cl.lookup y.1=some c)∧(∀x c,acc.lookup x=some c→∃c',cl.lookup x=some c')
 | [],acc,_,ha=>⟨acc,by simp,ha,fun y hy=>by simp at hy,fun x c e=>⟨c,e⟩⟩
 | (n,k)::r,acc,h,ha=>by
   by_cases hk:k = .free
   · obtain⟨c,hc⟩:=h (n,k) List.mem_cons_self hk
     obtain⟨cl,e1,e2,e3,e4⟩:=Xgf r ((n,c)::acc) (fun y hy=>h y (List.mem_cons_of_mem _ hy)) (fun x d e=>by
       by_cases hx:x=n
       · subst hx
         rw[List.lookup_cons_self] at e
         cases e
         exact hc
       · rw[List.lookup_cons,show (x==n)=false by simpa using hx] at e
         exact ha x d e)
     refine⟨cl,?_,e2,fun y hy hf=>?_,fun x d e=>?_⟩
     · rw[List.forIn_cons]
       subst hk
       have ec:cellOf env n=pure c:=by unfold cellOf;rw[hc]
       simp only [beq_self_eq_true,if_true,ec,pure_bind]
       exact e1
     · rcases List.mem_cons.mp hy with z | z
       · subst z
         exact e4 n c (by rw[List.lookup_cons_self])
       · exact e3 y z hf
     · by_cases hx:x=n
       · subst hx
         exact e4 x c (by rw[List.lookup_cons_self])
       · exact e4 x d (by rw[List.lookup_cons,show (x==n)=false by simpa using hx];exact e)
   · obtain⟨cl,e1,e2,e3,e4⟩:=Xgf r acc (fun y hy=>h y (List.mem_cons_of_mem _ hy)) ha
     refine⟨cl,?_,e2,fun y hy hf=>?_,e4⟩
     · rw[List.forIn_cons]
       have:(k==NameKind.free)=false:=by simpa using hk
       simp only [this,Bool.false_eq_true,if_false,pure_bind]
       exact e1
     · rcases List.mem_cons.mp hy with z | z
       · subst z
         exact absurd hf hk
       · exact e3 y z hf
theorem Xja {scope:Scope}{env:Env}(h:∀y∈scope.names,y.2 = .free→∃c,env.cells.lookup y.1=some c) :
   ∃cl,closureFor scope env=pure cl∧(∀x c,cl.lookup x=some c→env.cells.lookup x=some c)∧(∀y∈scope.names,y.2 = .free→∃c,cl.lookup y.1=some c):=by
 obtain⟨cl,e1,e2,e3,_⟩:=Xgf scope.names [] h (fun x c e=>by simp at e)
 refine⟨cl,?_,e2,e3⟩
 unfold closureFor
 simp only [bind_pure] at *
 exact e1
section
variable {X:Cx}
abbrev Cx.blockG (X:Cx)(scope:Scope)(cl:List (Str×Addr))(C:Addr)(N:List Str)(s₀:Shared)(H₀:Hp)(ex:List Addr):Cx :=
 { X with N:=N,s₀:=s₀,H₀:=H₀,env:=compEnvC scope cl C X.env,outer:=X.stack,stack:=X.stack,ex:=ex,fn:=fun _=>false,pn:=[],xe:=fun _ _=>False }
theorem Xsi {pins:List (Addr×Obj)}{σ:L2.St}{H:Hp}{s:Shared}{scope:Scope}{cl:List (Str×Addr)}{C:Addr}{N:List Str}{fp:List Addr}(I:Inv X pins σ H s)(hk:scope.kind = .function)(hC:s.heap.objs.size≤C)
   (hcl:∀x c,cl.lookup x=some c→X.env.cells.lookup x=some c) (hhas:∀y,(relabel scope X.env).names.lookup y=some .cell∨(relabel scope X.env).names.lookup y=some .free→∃c,cl.lookup y=some c)
   (ho:∀b∈fp,∃o,s.heap.get? b=some o∧∀v,o.data≠.cell v) (hf:∀b∈fp,FpOk X pins H b) :
   (Cx.blockG X scope cl C N s H fp).Ok where
 mod:=I.ok.mod
 kind:=hk
 glob:=I.ok.glob
 blt:=I.ok.blt
 above:=hC
 inj:=fun x y c e1 e2=>I.ok.inj x y c (hcl x c e1) (hcl y c e2)
 has:=fun y e=>hhas y e
 cab:=fun _ _ e=>nomatch e
 hd:=I.ok.hd
 frames:=I.ok.frames
 stk:=.inl rfl
 exf:=fun b hb=>⟨fun z=>by
   obtain⟨o,e,_⟩:=ho b hb
   have:=Nat.lt_of_lt_of_le (Heap.lt_size e) hC
   rw[z] at this
   exact Nat.lt_irrefl _ this,fun x c e=>(hf b hb).2.2.2.2.1 x c (hcl x c e)⟩
 bs:=I.bs
 bsz:=Nat.le_trans I.ok.bsz I.sz
 noex:=fun b o e hb=>by
   rcases(hf b hb).2.2.2.1 with z | z
   · exact I.ok.noex b o e z
   · exact absurd (Nat.lt_of_lt_of_le (Heap.lt_size (I.ok.bs b o e).1) z) (Nat.lt_irrefl _)
 exfs:=fun b hb z=>by
   rcases List.mem_cons.mp (I.stkSub b z) with e | e
   · exact(hf b hb).2.1 e
   · exact(hf b hb).2.2.1 e
 funs:=I.stack
 frf:=I.stkFree
def Xsd (n:Nat)(fs:L2.St)(J:It)(g:TG)(tt:TT)(te:TE)(Q:VK)(H1:Hp):Prop:=∀D,H1 D=none→∃W:Nat→Nat→List V→Hp→Prop,(∃m,W 0 m [] (upd H1 D (.lst [])))∧∀i m ys H2,W i m ys H2 →
 (J.stop i H2∧Q (.ref D) H2)∨(J.go i H2∧∀x H3,J.yld i H2 x H3→∀τ:L2.St,τ.length=n→g x (τ++fs) H3 fun σ1 H4=>(∃τ':L2.St,τ'.length=n∧σ1=τ'++fs)∧tt σ1 H4 fun b H5 =>
   if b=true then te σ1 H5 fun y H6=>H6 D=some (.lst ys)∧ys.length<sizeLine∧∃m',m'<m∧W (i+1) m' (ys++[y]) (upd H6 D (.lst (ys++[y]))) else ∃m',m'<m∧W (i+1) m' ys H5)
def Xot (n:Nat)(is:List Nat)(wi:TI)(g:TG)(tt:TT)(te:TE):TE:=fun σ H Q=>wi σ H fun J H1=>Xsd n (is.map fun k=>σ.getD k none) J g tt te Q H1
def Xhi (X:Cx)(scope:Scope)(F:List Str)(is:List Nat):Prop:=F.length=is.length∧∀(j:Nat) (y:Str) (k:Nat),F[j]?=some y→is[j]?=some k→X.N[k]?=some y∧X.env.kindOf y=some .cell∧(relabel scope X.env).names.lookup y=some .cell
theorem Xhd {elt iter tg:Expr}{pos:Pos}{ifs:List Expr}{scope:Scope}{O F:List Str}{is:List Nat}{cl:List (Str×Addr)}{g:TG}{tt:TT}{te:TE}{pins:List (Addr×Obj)}{σ:L2.St}{s2:Shared}{H2:Hp}{it:Addr}{fp:List Addr}{tn:Nat→Heap→Prop}{J:It}{Q:VK}{RR:Value→Addr→Result→Shared→Prop}
   (hc:X.calm=true) (hkind:scope.kind = .function) (hcell:∀y∈scope.names,y.2≠.cell)
   (hcl:∀x c,cl.lookup x=some c→X.env.cells.lookup x=some c) (hhas:∀y,(relabel scope X.env).names.lookup y=some .cell∨(relabel scope X.env).names.lookup y=some .free→∃c,cl.lookup y=some c) (hF:Xhi X scope F is)
   (hG:∀cl C s₀ H₀ ex,PG (Cx.blockG X scope cl C (O++F) s₀ H₀ ex) tg g) (hT:∀cl C s₀ H₀ ex,PTs (Cx.blockG X scope cl C (O++F) s₀ H₀ ex) ifs tt) (hE:∀cl C s₀ H₀ ex,PE (Cx.blockG X scope cl C (O++F) s₀ H₀ ex) elt te)
   (I2:Inv X pins σ H2 s2) (T:Turn X.prog X.w X.K tg J fp it tn) (st2:tn 0 s2.heap) (f2:∀b∈fp,FpOk X pins H2 b)
   (h:Xsd O.length (is.map fun k=>σ.getD k none) J g tt te Q H2)
   (hRR:∀D C H' s',Inv X pins σ H' s'→FpOk X pins H' C→(∃m,s'.heap.Ns C m)→Q (.ref D) H'→RR (.ref D) C (.ok .next) s') :
   wpAny (model X.prog X.w) X.A (newList []) (fun acc s₃=>wpAny (model X.prog X.w) X.A (newFunctionEnv scope X.env.globals cl [] X.env.qual none .none (some X.env)) (fun cenv s₄ =>
     codeAny (model X.prog X.w) X.A (.compStart (.ListComp elt [⟨tg,iter,ifs,0⟩] scope pos) 0 (.ref it) acc { cenv with scope:=relabel scope X.env }) (RR acc cenv.locals) s₄) X.xe s₃) X.xe s2:=by
 refine wpAny_newObj_type (wpAny_newFunctionEnv hcell (by intro y hy;simp at hy) (fun h₁ hns₁ hsb₁=>?_) hkind)
 dsimp only at hns₁ hsb₁ ⊢
 generalize hG0:s2.heap.push { cls:=.type "list",dict:=none,data:=.seq ([]:List Value).toArray }=G at hns₁ hsb₁ ⊢
 have hCs:G.objs.size=s2.heap.objs.size+1:=by rw[←hG0,Heap.size_push]
 have hDC:s2.heap.objs.size≠G.objs.size:=by rw[hCs];exact Nat.ne_of_lt (Nat.lt_succ_self _)
 have hCle:s2.heap.objs.size≤G.objs.size:=by rw[hCs];exact Nat.le_succ _
 have old:∀b o,s2.heap.get? b=some o→h₁.get? b=some o:=fun b o e=>hsb₁.extBut b o (by rw[hCs];exact Nat.ne_of_lt (Nat.lt_succ_of_lt (Heap.lt_size e))) (Heap.get?_push_of_some _ (hG0▸Heap.get?_push_of_some _ e))
 have eD:h₁.get? s2.heap.objs.size=some { cls:=.type "list",dict:=none,data:=.seq ([]:List Value).toArray }:=hsb₁.extBut _ _ hDC (Heap.get?_push_of_some _ (hG0▸Heap.get?_push_size _ rfl))
 have nD:H2 s2.heap.objs.size=none:=I2.hok.fresh (Nat.le_refl _)
 have nC:H2 G.objs.size=none:=I2.hok.fresh hCle
 obtain⟨W,⟨m0,w0⟩,turn⟩:=h s2.heap.objs.size nD
 generalize efs:(is.map fun k=>σ.getD k none)=fs at turn
 have fre:∀b∈fp,upd H2 s2.heap.objs.size (.lst []) b=none:=fun b hb=>by
   obtain⟨o,e,_⟩:=T.obj _ _ st2 b hb
   rw[Xaq (Nat.ne_of_lt (Heap.lt_size e))]
   exact(f2 b hb).1
 have loop:∀s4:Shared,s4={ s2 with heap:=h₁,toks:=s2.toks+([]:List (Str×Value)).length } →
     codeAny (model X.prog X.w) X.A (.compLoop (.ListComp elt [⟨tg,iter,ifs,0⟩] scope pos) 0 (.ref it) (.ref s2.heap.objs.size) (compEnvC scope cl G.objs.size X.env)) (RR (.ref s2.heap.objs.size) G.objs.size) s4:=by
   rintro s4 rfl
   have ok:=Xsi (N:=O++F) I2 hkind hCle hcl hhas (T.obj _ _ st2) f2
   have IB:Inv (Cx.blockG X scope cl G.objs.size (O++F) s2 H2 fp) [] (List.replicate O.length none++fs) (upd H2 s2.heap.objs.size (.lst [])) { s2 with heap:=h₁,toks:=s2.toks+([]:List (Str×Value)).length }:=by
     refine⟨ok,rfl,I2.bare,Un.laid old (Nat.le_refl _) nD,⟨_,hns₁,fun i y v e1 e2 _=>?_⟩,(fun x c e=>?_),?_,(fun x c e=>?_),(fun p hp=>nomatch hp),I2.hok.laid old (Nat.le_refl _) ⟨Nat.zero_le _,[],0,.nil,eD⟩,?_⟩
     · have e1:(O++F)[i]?=some y:=e1
       by_cases hi:i<O.length
       · rw[List.getElem?_append_left (by rw[List.length_replicate];exact hi),List.getElem?_replicate,if_pos hi] at e2
         cases e2
       · rw[List.getElem?_append_right (by omega)] at e1
         rw[List.getElem?_append_right (by rw[List.length_replicate];omega),List.length_replicate,←efs,List.getElem?_map] at e2
         obtain⟨k,ek,ev⟩:=Option.map_eq_some_iff.mp e2
         obtain⟨g1,g2,g3⟩:=hF.2 _ _ _ e1 ek
         have es:σ[k]?=some (some v):=by
           rw[List.getD_eq_getElem?_getD] at ev
           cases q:σ[k]? with
           | none=>rw[q] at ev;cases ev
           | some z=>rw[q] at ev;exact congrArg some ev
         obtain⟨m,hm,hl⟩:=I2.loc
         obtain⟨u,ru,lk⟩:=hl k y v g1 es (.inr (.inl g2))
         refine⟨u,ru,.inr ⟨.inl g3,?_⟩⟩
         rcases lk with ⟨z,_⟩ | ⟨_,c,c1,o,c2,c3⟩
         · rw[g2] at z;cases z
         · obtain⟨c',e'⟩:=hhas y (.inl g3)
           have:=hcl y c' e'
           rw[c1] at this
           cases this
           exact⟨c,e',o,old c o c2,c3⟩
     · obtain⟨v,o,c2,c3⟩:=I2.cell x c (hcl x c e)
       exact⟨v,o,old c o c2,c3⟩
     · show upd H2 s2.heap.objs.size (.lst []) G.objs.size=none
       rw[Xaq (Ne.symm hDC)]
       exact nC
     · obtain⟨v,o,c2,c3⟩:=I2.cell x c (hcl x c e)
       show upd H2 s2.heap.objs.size (.lst []) c=none
       rw[Xaq (Nat.ne_of_lt (Heap.lt_size c2))]
       exact I2.freeC x c (hcl x c e)
     · show (List.replicate O.length none++fs).length=(O++F).length
       rw[List.length_append,List.length_append,List.length_replicate,←efs,List.length_map,hF.1]
   have stat:∀{H':Hp},(∀b∈fp,H' b=none)→∀b∈fp,FpOk (Cx.blockG X scope cl G.objs.size (O++F) s2 H2 fp) [] H' b:=fun hn b hb =>
     ⟨hn b hb,(ok.exf b hb).1,ok.exfs b hb,.inl hb,(ok.exf b hb).2,(fun p hp=>nomatch hp)⟩
   refine Xpw (fun n s'=>∃i ys τ H',Inv (Cx.blockG X scope cl G.objs.size (O++F) s2 H2 fp) [] (τ++fs) H' s'∧τ.length=O.length∧tn i s'.heap∧(∀b∈fp,H' b=none)∧W i n ys H') ?_ m0
     ⟨0,[],_,_,IB,List.length_replicate,T.keep _ _ _ st2 fun b _ o e=>old b o e,fre,w0⟩
   rintro n s3 ⟨i,ys,τ,H3,I3,hτ,st3,fr3,w3⟩
   rcases turn i n ys H3 w3 with ⟨stop,q⟩ | ⟨go,step⟩
   · refine wpAny_mono (T.done (Cx.blockG X scope cl G.objs.size (O++F) s2 H2 fp) rfl rfl rfl hc i [] s3 (τ++fs) H3 (fun _ _=>False) I3 (stat fr3) st3 stop) (fun r s4 ⟨hr,I4⟩=>?_) (fun _ _ z=>z.elim)
     subst hr
     obtain⟨m,hn,_⟩:=I4.loc
     refine hRR _ G.objs.size H3 s4 (I2.call' (ch:=fp) I4.os I4.base I4.hok I4.bare fun b hb=>?_) (I2.fpOk hCle I4.free) ⟨m,hn⟩ q
     obtain⟨g0,g1,g2,g3,g4,g5⟩:=f2 b hb
     exact⟨g3,g1,g4,g5⟩
   · refine wpAny_mono (T.item (Cx.blockG X scope cl G.objs.size (O++F) s2 H2 fp) rfl rfl rfl hc i [] s3 (τ++fs) H3 (fun _ _=>False) I3 (stat fr3) st3 go) (fun r s4 ⟨u,hr,h4⟩=>?_) (fun _ _ z=>z.elim)
     subst hr
     refine wpAny_mono h4 (fun _ s5 ⟨v,H5,I5,r5,y5,st5,fr5⟩=>?_) (fun _ _ z=>z.elim)
     have I5':=I5.pinned (stat fr5) (T.obj _ _ st5)
     refine wpAny_mono (hG _ _ _ _ _ _ s5 (τ++fs) H5 v u _ I5' r5 (step v H5 y5 τ hτ)) (fun _ s6 ⟨σ6,H6,I6,⟨τ',hτ',e6⟩,q6⟩=>?_) (fun _ _ z=>z.elim)
     subst e6
     have again:∀{s7:Shared} {H7:Hp} {ys':List V} {m':Nat},Inv (Cx.blockG X scope cl G.objs.size (O++F) s2 H2 fp) ([]++Xlf fp s5.heap) (τ'++fs) H7 s7→m'<n→W (i+1) m' ys' H7 →
         ∃m,m<n∧∃i ys τ H',Inv (Cx.blockG X scope cl G.objs.size (O++F) s2 H2 fp) [] (τ++fs) H' s7∧τ.length=O.length∧tn i s7.heap∧(∀b∈fp,H' b=none)∧W i m ys H':=fun {s7 H7 ys' m'} I7 hm w7=>by
       refine⟨m',hm,i+1,ys',τ',H7,I7.unpinned,hτ',T.keep _ _ _ st5 fun b hb o e=>(I7.pin (b,o) (List.mem_append_right _ (List.mem_append_right _ (Xeu hb e)))).1,fun b hb=>?_,w7⟩
       obtain⟨o,e,_⟩:=T.obj _ _ st5 b hb
       exact(I7.pin (b,o) (List.mem_append_right _ (List.mem_append_right _ (Xeu hb e)))).2.1
     refine wpAny_mono (hT _ _ _ _ _ _ s6 (τ'++fs) H6 _ I6 q6) (fun b s7 ⟨H7,I7,q7⟩=>?_) (fun _ _ z=>z.elim)
     cases b with
     | false =>
       obtain⟨m',hm,w7⟩:=q7
       exact again I7 hm w7
     | true =>
       rw[if_pos rfl]
       refine wpAny_mono (hE _ _ _ _ _ _ s7 (τ'++fs) H7 _ I7 q7) (fun y' s8 ⟨y,H8,I8,ry,hD,hz,m',hm,w8⟩=>?_) (fun _ _ z=>z.elim)
       refine wpAny_mono (Xhk (X:=Cx.blockG X scope cl G.objs.size (O++F) s2 H2 fp) _ s8 (τ'++fs) H8 (.ref s2.heap.objs.size) [y] (.ref s2.heap.objs.size) [y'] (fun _ H9=>H9=upd H8 s2.heap.objs.size (.lst (ys++[y]))) I8 rfl (.cons ry .nil) ⟨s2.heap.objs.size,ys,y,rfl,rfl,hD,hz,rfl⟩) (fun _ s9 ⟨_,H9,I9,_,e9⟩=>?_) (fun _ _ z=>z.elim)
       subst e9
       exact again I9 hm w8
 exact codeAny_compStart_list (loop _ rfl) (T.self _ 0 _ _ _ (T.keep _ _ _ st2 fun b _ o e=>old b o e) (loop _ rfl))
theorem Xfn {elt iter tg:Expr}{pos:Pos}{ifs:List Expr}{scope:Scope}{wi:TI}{g:TG}{tt:TT}{te:TE}(O F:List Str)(is:List Nat)(hc:X.calm=true)(hi:PI X tg iter wi)
   (hG:∀cl C s₀ H₀ ex,PG (Cx.blockG X scope cl C (O++F) s₀ H₀ ex) tg g) (hT:∀cl C s₀ H₀ ex,PTs (Cx.blockG X scope cl C (O++F) s₀ H₀ ex) ifs tt) (hE:∀cl C s₀ H₀ ex,PE (Cx.blockG X scope cl C (O++F) s₀ H₀ ex) elt te)
   (hF:Xhi X scope F is) (hfc:∀y∈scope.names,y.2 = .free→X.env.kindOf y.1=some .cell) (hrl:∀y,(relabel scope X.env).names.lookup y=some .cell∨(relabel scope X.env).names.lookup y=some .free→∃z∈scope.names,z.1=y∧z.2 = .free)
   (hkind:scope.kind = .function:=by rfl) (hcell:∀y∈scope.names,y.2≠.cell:=by decide +kernel)
   (hnames:∀y∈scope.names,y.2 = .local→scope.names.lookup y.1=some .local:=by decide +kernel) (hs:∀y,foldedSetIterable iter X.env y=pure y:=by intro _;rfl) :
   PE X (.ListComp elt [⟨tg,iter,ifs,0⟩] scope pos) (Xot O.length is wi g tt te):=by
 intro pins s σ H Q I h
 rw[eval_ListComp]
 obtain⟨cl,hcf,hcl,hca⟩:=Xja (scope:=scope) (env:=X.env) fun y hy hf=>I.ok.has y.1 (.inl (hfc y hy hf))
 refine wpAny_comprehension_free (use:=none) (cl:=cl) rfl hs hcf hkind hnames (wpAny_mono (hi pins s σ H _ I h) (fun v s1 h1=>wpAny_mono h1 (fun itv s2 h2=>?_) fun _ _ e=>e) fun _ _ e=>e)
 obtain⟨it,fp,tn,J,H2,e,I2,T,st2,f2,R2⟩:=h2
 subst e
 refine Xhd (O:=O) (F:=F) (is:=is) (Q:=Q) (RR:=fun acc C=>compPost (model X.prog X.w) X.A X.xe none (EP X pins σ Q) acc C) hc hkind hcell hcl (fun y hy=>?_) hF hG hT hE I2 T st2 f2 R2 ?_
 · obtain⟨z,hz,e1,e2⟩:=hrl y hy
   subst e1
   exact hca z hz e2
 · rintro D C H' s' I' f' ⟨m,hn⟩ q
   obtain⟨f0,f1,f2',f3,f4,f5⟩:=f'
   refine⟨m,hn,fun h' sb=>⟨.ref D,H',I'.turned (t':=s'.toks) (fun b o hb e=>(sb.2 b hb).trans e) f0 f1 f3 f4 f5,rfl,q⟩⟩
theorem Xff {elt iter tg:Expr}{y:Str}{py pos spos:Pos}{ifs:List Expr}{scope:Scope}{wi:TI}{g:TG}{tt:TT}{te:TE}{i:Nat}(O F:List Str)(is:List Nat)(hN:X.N.Nodup)(hi0:X.N[i]?=some y)(hy:Loc X.env.scope y)(hc:X.calm=true)(hi:PI X tg iter wi)
   (hG:∀cl C s₀ H₀ ex,PG (Cx.blockG X scope cl C (O++F) s₀ H₀ ex) tg g) (hT:∀cl C s₀ H₀ ex,PTs (Cx.blockG X scope cl C (O++F) s₀ H₀ ex) ifs tt) (hE:∀cl C s₀ H₀ ex,PE (Cx.blockG X scope cl C (O++F) s₀ H₀ ex) elt te)
   (hF:Xhi X scope F is) (hfc:∀y∈scope.names,y.2 = .free→X.env.kindOf y.1=some .cell) (hrl:∀y,(relabel scope X.env).names.lookup y=some .cell∨(relabel scope X.env).names.lookup y=some .free→∃z∈scope.names,z.1=y∧z.2 = .free)
   (hsw:swapsWith (.ListComp elt [⟨tg,iter,ifs,0⟩] scope pos) (some (.Name y py)) spos.line X.env=pure true:=by rfl)
   (hkind:scope.kind = .function:=by rfl) (hcell:∀y∈scope.names,y.2≠.cell:=by decide +kernel)
   (hnames:∀y∈scope.names,y.2 = .local→scope.names.lookup y.1=some .local:=by decide +kernel) (hs:∀y,foldedSetIterable iter X.env y=pure y:=by intro _;rfl)
   (hf:X.fn y=true∨X.env.scope.names.lookup y=some .local:=by first | exact .inl rfl | exact .inr rfl | assumption) :
   PS X (.Assign [.Name y py] (.ListComp elt [⟨tg,iter,ifs,0⟩] scope pos) spos) (tAsg (Xot O.length is wi g tt te) (Xpt i)):=by
 intro pins s σ H D I h
 rw[exec_Assign_Name_used _ _ _ _ hsw]
 obtain⟨cl,hcf,hcl,hca⟩:=Xja (scope:=scope) (env:=X.env) fun y hy hf=>I.ok.has y.1 (.inl (hfc y hy hf))
 refine wpAny_bind (wpAny_standAt (wpAny_bind ?_))
 show wpAny _ X.A (do let _ ←comprehension (.ListComp elt [⟨tg,iter,ifs,0⟩] scope pos) scope X.env _ (newList []) false (eval iter X.env) (some (assign (.Name y py) X.env))) _ _ s
 refine wpAny_bind (wpAny_mono (wpAny_comprehension_free (use:=some (assign (.Name y py) X.env)) (cl:=cl) (Q:=fun _ s'=>SP X pins D .next s') rfl hs hcf hkind hnames
   (wpAny_mono (hi pins s σ H _ I h) (fun v s1 h1=>wpAny_mono h1 (fun itv s2 h2=>?_) fun _ _ e=>e) fun _ _ e=>e)) (fun _ s' hq=>wpAny_pure (wpAny_pure hq)) fun _ _ e=>e)
 obtain⟨it,fp,tn,J,H2,e,I2,T,st2,f2,R2⟩:=h2
 subst e
 refine Xhd (O:=O) (F:=F) (is:=is) (Q:=fun v H1=>Xpt i v σ H1 D.nx) (RR:=fun acc C=>compPost (model X.prog X.w) X.A X.xe (some (assign (.Name y py) X.env)) (fun _ s'=>SP X pins D .next s') acc C) hc hkind hcell hcl (fun y hy=>?_) hF hG hT hE I2 T st2 f2 R2 ?_
 · obtain⟨z,hz,e1,e2⟩:=hrl y hy
   subst e1
   exact hca z hz e2
 · rintro D' C H' s' I' f' ⟨m,hn⟩ q
   obtain⟨f0,f1,f2',f3,f4,f5⟩:=f'
   show wpAny _ X.A (assign (.Name y py) X.env (.ref D')) _ _ _
   refine wpAny_assign_Name (Xle I' hN hi0 hy (v:=.ref D') rfl (fun s'' I'' ⟨a,sb,ha⟩=>?_) hf)
   have ne:C≠a:=by
     rcases ha with e | e
     · rw[e];exact f1
     · exact fun z=>f4 _ _ e z.symm
   exact⟨m,hn.sameBut sb ne,fun h' sb'=>⟨_,H',I''.turned (t':=s''.toks) (fun b o hb e=>(sb'.2 b hb).trans e) f0 f1 f3 f4 f5,q⟩⟩
theorem Xec {K:PySem.W.Frag}(hK:X.K=K):IxR X (rIxT K):=hK▸Xho
theorem Xjx {K:PySem.W.Frag}(hK:X.K=K):IxR X (rIxL K):=hK▸Xbe
theorem Xla {K:PySem.W.Frag}{es:List Expr}{k:Nat}{t:TGs}{n:Nat}{pos:Pos}(hK:X.K=K)(hc:X.calm=true)(h:PGs X es t)
   (hn:(assignEach es X.env).length=n:=by rfl) (hst:(assignEach es X.env).findIdx? (·.1)=none:=by rfl):PG X (.Tuple es k pos) (gTup K n t):=hK▸Xgp hc h hn hst
theorem Xdg {K:PySem.W.Frag}{a:Expr}{ta:TE}(hK:X.K=K)(ha:PE X a ta)(he:∀whole,isTrue a X.env whole=(do let v ←whole;standAt a.pos;holding [v] (truthy v))):PT X a (fun σ H Q=>ta σ H fun x H'=>∃k,TruV K x H' k∧Q k H'):=by
 subst hK
 exact Xdf ha he
theorem Xbw {scope:Scope}{env:Env}{y:Str}(hcell:∀z∈scope.names,z.2≠.cell)(h:(relabel scope env).names.lookup y=some .cell∨(relabel scope env).names.lookup y=some .free):∃z∈scope.names,z.1=y∧z.2 = .free:=by
 have key:∀(l:List (Str×NameKind)) (k:NameKind),l.lookup y=some k→(y,k)∈l:=by
   intro l k
   induction l with
   | nil=>intro e;cases e
   | cons p r ih =>
     intro e
     obtain⟨n,k'⟩:=p
     rw[List.lookup_cons] at e
     cases hb:y==n with
     | true =>
       rw[hb] at e
       cases e
       rw[eq_of_beq hb]
       exact List.mem_cons_self
     | false=>rw[hb] at e;exact List.mem_cons_of_mem _ (ih e)
 have fin:∀k,(relabel scope env).names.lookup y=some k→k = .cell∨k = .free→∃z∈scope.names,z.1=y∧z.2 = .free:=fun k e hk=>by
   obtain⟨z,hz,ez⟩:=List.mem_map.mp (key _ _ e)
   obtain⟨n,k0⟩:=z
   dsimp only at ez
   split at ez
   · rename_i hc
     simp only [Bool.and_eq_true,beq_iff_eq] at hc
     cases ez
     exact⟨(y,k0),hz,rfl,hc.1.1⟩
   · cases ez
     rcases hk with rfl | rfl
     · exact absurd rfl (hcell _ hz)
     · exact⟨_,hz,rfl,rfl⟩
 rcases h with h | h
 · exact fin _ h (.inl rfl)
 · exact fin _ h (.inr rfl)
theorem Xpf {scope:Scope}:Xhi X scope [] []:=⟨rfl,fun j y k e=>by simp at e⟩
theorem Xer {scope:Scope}{y:Str}{k:Nat}(h1:X.N[k]?=some y)(h2:X.env.kindOf y=some .cell)(h3:(relabel scope X.env).names.lookup y=some .cell):Xhi X scope [y] [k]:=⟨rfl,fun j z i e1 e2=>by
 cases j with
 | zero =>
   have g1:y=z:=by simpa using e1
   have g2:k=i:=by simpa using e2
   subst g1 g2
   exact⟨h1,h2,h3⟩
 | succ j=>simp at e1⟩
theorem Xjf {scope:Scope}{y y':Str}{k k':Nat}(h1:X.N[k]?=some y)(h1':X.N[k']?=some y')(h2:X.env.kindOf y=some .cell)(h2':X.env.kindOf y'=some .cell)(h3:(relabel scope X.env).names.lookup y=some .cell)(h3':(relabel scope X.env).names.lookup y'=some .cell) :
   Xhi X scope [y,y'] [k,k']:=⟨rfl,fun j z i e1 e2=>by
 match j with
 | 0 =>
   have g1:y=z:=by simpa using e1
   have g2:k=i:=by simpa using e2
   subst g1 g2
   exact⟨h1,h2,h3⟩
 | 1 =>
   have g1:y'=z:=by simpa using e1
   have g2:k'=i:=by simpa using e2
   subst g1 g2
   exact⟨h1',h2',h3'⟩
 | j+2=>simp at e1⟩
theorem Xha {scope:Scope}{n:Str}(h:∀y∈scope.names,y.2 = .free→y.1=n)(k:X.env.kindOf n=some .cell):∀y∈scope.names,y.2 = .free→X.env.kindOf y.1=some .cell:=fun y hy hf=>by rw[h y hy hf];exact k
theorem Xou {scope:Scope}{n m:Str}(h:∀y∈scope.names,y.2 = .free→y.1=n∨y.1=m)(k:X.env.kindOf n=some .cell)(k':X.env.kindOf m=some .cell):∀y∈scope.names,y.2 = .free→X.env.kindOf y.1=some .cell:=fun y hy hf=>by
 rcases h y hy hf with e | e
 · rw[e];exact k
 · rw[e];exact k'
theorem Xon {elt iter tg:Expr}{pos:Pos}{ifs:List Expr}{scope:Scope}{wi:TI}{g:TG}{tt:TT}{te:TE}(O:List Str)(hc:X.calm=true)(hi:PI X tg iter wi)
   (hG:∀cl C s₀ H₀ ex,PG (Cx.blockG X scope cl C (O++[]) s₀ H₀ ex) tg g) (hT:∀cl C s₀ H₀ ex,PTs (Cx.blockG X scope cl C (O++[]) s₀ H₀ ex) ifs tt) (hE:∀cl C s₀ H₀ ex,PE (Cx.blockG X scope cl C (O++[]) s₀ H₀ ex) elt te)
   (hfree:∀y∈scope.names,y.2≠.free:=by decide +kernel) (hkind:scope.kind = .function:=by rfl) (hcell:∀y∈scope.names,y.2≠.cell:=by decide +kernel)
   (hnames:∀y∈scope.names,y.2 = .local→scope.names.lookup y.1=some .local:=by decide +kernel) (hs:∀y,foldedSetIterable iter X.env y=pure y:=by intro _;rfl) :
   PE X (.ListComp elt [⟨tg,iter,ifs,0⟩] scope pos) (Xot O.length [] wi g tt te) :=
 Xfn O [] [] hc hi hG hT hE Xpf (fun y hy hf=>absurd hf (hfree y hy)) (fun y h=>Xbw hcell h) hkind hcell hnames hs
end
section
variable {K:PySem.W.Frag}{σ:L2.St}{H:Hp}{Q:VK}
theorem r_compG {n:Nat}{is:List Nat}{wi:TI}{g:TG}{tt:TT}{te:TE}(h:wi σ H fun J H1=>Xsd n (is.map fun k=>σ.getD k none) J g tt te Q H1):Xot n is wi g tt te σ H Q:=h
def Nx (n:Nat)(Pv:Addr→Nat→List V→Hp→Prop)(D:Addr)(i:Nat)(ys:List V)(H2:Hp):Prop:=∃m',m'<n-i∧m'=n-(i+1)∧i+1≤n∧Pv D (i+1) ys H2
theorem Xdo {n:Nat}{Pv:Addr→Nat→List V→Hp→Prop}{D:Addr}{i:Nat}{ys:List V}{H2:Hp}(hi:i<n)(p:Pv D (i+1) ys H2):Nx n Pv D i ys H2:=⟨_,by omega,rfl,hi,p⟩
theorem Xcl {a:Addr}{xs:List V}{n:Nat}{fs:L2.St}{g:TG}{tt:TT}{te:TE}(Pv:Addr→Nat→List V→Hp→Prop)(h0:∀D,H D=none→Pv D 0 [] (upd H D (.lst [])))
   (hl:∀D i ys H2,i≤xs.length→Pv D i ys H2→SqL K H2 a xs)
   (hs:∀D i x ys H2,H D=none→xs[i]?=some x→Pv D i ys H2→∀τ:L2.St,τ.length=n→g x (τ++fs) H2 fun σ1 H4=>(∃τ':L2.St,τ'.length=n∧σ1=τ'++fs)∧tt σ1 H4 fun b H5 =>
     if b=true then te σ1 H5 fun y H6=>H6 D=some (.lst ys)∧ys.length<sizeLine∧Nx xs.length Pv D i (ys++[y]) (upd H6 D (.lst (ys++[y]))) else Nx xs.length Pv D i ys H5)
   (hd:∀D ys H2,H D=none→Pv D xs.length ys H2→Q (.ref D) H2):Xsd n fs (Itl K a) g tt te Q H:=by
 intro D hD
 refine⟨fun i m ys H2=>m=xs.length-i∧i≤xs.length∧Pv D i ys H2,⟨_,rfl,Nat.zero_le _,h0 D hD⟩,?_⟩
 rintro i m ys H2 ⟨rfl,hi,p⟩
 have q:=hl D i ys H2 hi p
 by_cases hlt:i<xs.length
 · refine .inr ⟨⟨xs,xs[i],q,by simp [hlt]⟩,fun x H3 y τ hτ=>?_⟩
   obtain⟨e,y⟩:=y
   subst e
   have ex:=y xs q
   exact hs D i x ys _ hD ex p τ hτ
 · have e:i=xs.length:=by omega
   subst e
   exact .inl ⟨⟨xs,q,Nat.le_refl _⟩,hd D ys H2 hD p⟩
end
end Stow
namespace Stow
open PySem L2 PyProof.Rows
section
variable {prog:Program}{w:World}{A:Around}{R:Result→Shared→Prop}{I:Addr}{fp wr:List Addr}{n:Nat}{P:Nat→Value→Prop}{St:Nat→Heap→Prop}
def XHm (prog:Program)(w:World)(A:Around)(Kp:Heap→Prop)(P:Nat→Value→Prop)(bt:Nat→Nat→Bool):Prop :=
 ∀i j x y (t:Shared) (Q:Value→Shared→Prop) (E:Value→Shared→Prop),Kp t.heap→P i x→P j y→Q (.bool (bt i j)) t→wpAny (model prog w) A (richCompare .Lt x y) Q E t
theorem Xqz (W:Walks prog w A.in1 I fp wr n P St)(bt:Nat→Nat→Bool)(Kp:Heap→Prop)(cmp:XHm prog w A.in1 Kp P bt)(S:Addr)(sf:S ∉ fp)
   (kpk:∀h h',Kp h→(∀b o,b ∉ wr→b≠S→h.get? b=some o→h'.get? b=some o)→Kp h') :
   ∀(k j:Nat) (t:Shared) (vb:Value) (c:Nat),n-(j+1)=k→j+1≤n→St (j+1) t.heap→Kp t.heap→P (argBest bt j) vb →
   t.heap.get? S=some { cls:=.type "list",dict:=none,data:=.seq #[vb,vb] c,slots:=#[] } →
   (∀v h' tk,P (argBest bt (n-1)) v→(∀b o,b ∉ wr→b≠S→t.heap.get? b=some o→h'.get? b=some o)→R (.ok (.ret v)) { t with heap:=h',toks:=tk }) →
   codeAny (model prog w) A (.builtin "min.loop" ⟨[.ref I,.none,.ref S],[]⟩) R t:=by
 have sw:S ∉ wr:=fun h=>sf (W.sub _ h)
 have nm:(toString "min"++toString ".loop":String)="min.loop":=by decide
 intro k
 induction k with
 | zero =>
   intro j t vb c hk hj st kp pb hS fin
   have en:j+1=n:=by omega
   refine codeAny_builtin F.entry_min_loop ?_
   rw[Around.under_plainId F.plain_min_loop _]
   show wpAny _ A.in1 (seqItems? (.ref S) >>= _) _ _ t
   refine wpAny_bind (wpAny_seqItems hS rfl ?_)
   show wpAny _ A.in1 (tryCatch (pyNext (.ref I)) _ >>= _) _ _ t
   refine wpAny_bind (wpAny_tryCatch (W.done t _ _ (en▸st) fun h' tk kk=>?_))
   have hS1:=kk S _ sw hS
   show wpAny _ A.in1 (updateSeq S (fun _=>#[]) >>= _) _ _ _
   refine wpAny_bind ?_
   refine wpAny_updateSeq hS1 rfl (wpAny_bind (wpAny_letGo (wpAny_pure ?_)))
   exact fin vb _ tk (by rw[←en];exact pb) fun b o bw bS e=>(Heap.get?_update_other _ _ (Ne.symm bS)).trans (kk b o bw e)
 | succ k ih =>
   intro j t vb c hk hj st kp pb hS fin
   have lt:j+1<n:=by omega
   refine codeAny_builtin F.entry_min_loop ?_
   rw[Around.under_plainId F.plain_min_loop _]
   show wpAny _ A.in1 (seqItems? (.ref S) >>= _) _ _ t
   refine wpAny_bind (wpAny_seqItems hS rfl ?_)
   show wpAny _ A.in1 (tryCatch (pyNext (.ref I)) _ >>= _) _ _ t
   refine wpAny_bind (wpAny_tryCatch (W.item (j+1) t _ _ lt st fun v h' tk pv st1 kk=>?_))
   have hS1:=kk S _ sw hS
   have kp1:Kp h':=kpk _ _ kp fun b o bw _ e=>kk b o bw e
   show wpAny _ A.in1 (tryCatch (holding [v,v] (richCompare .Lt v vb >>= _)) _ >>= _) _ _ _
   refine wpAny_bind (wpAny_tryCatch (wpAny_holding (wpAny_bind (cmp (j+1) (argBest bt j) v vb _ _ _ kp1 pv pb ?_))))
   refine wpAny_bind (wpAny_holding (wpAny_truthy_bool ?_))
   refine wpAny_bind (wpAny_letGo (wpAny_pure ?_))
   cases hb:bt (j+1) (argBest bt j) with
   | true =>
     simp only [if_true]
     refine wpAny_bind ?_
     refine wpAny_updateSeq hS1 rfl (wpAny_bind (wpAny_letGo ?_))
     rw[nm]
     refine wpAny_pure ⟨plainId_quiet F.plain_min_loop _,ih (j+1) _ v _ (by omega) lt (W.frame _ _ _ st1 fun b bf o e=>?_) (kpk _ _ kp1 fun b o _ bS e=>(Heap.get?_update_other _ _ (Ne.symm bS)).trans e) (by simp only [argBest,hb,if_true];exact pv) (Heap.get?_update_self _ hS1 rfl)
       fun v' h2 tk2 pv2 kk2=>?_⟩
     · exact(Heap.get?_update_other _ _ (fun z:S=b=>sf (by rw[z];exact bf))).trans e
     · exact fin v' h2 tk2 pv2 fun b o bw bS e=>kk2 b o bw bS ((Heap.get?_update_other _ _ (Ne.symm bS)).trans (kk b o bw e))
   | false =>
     simp only [Bool.false_eq_true,if_false]
     refine wpAny_bind (wpAny_letGo ?_)
     rw[nm]
     refine wpAny_pure ⟨plainId_quiet F.plain_min_loop _,ih (j+1) _ vb c (by omega) lt st1 kp1 (by simp only [argBest,hb,Bool.false_eq_true,if_false];exact pb) hS1 fun v' h2 tk2 pv2 kk2=>?_⟩
     exact fin v' h2 tk2 pv2 fun b o bw bS e=>kk2 b o bw bS (kk b o bw e)
theorem Xun (W:Walks prog w A.in1 I fp wr n P St)(bt:Nat→Nat→Bool)(Kp:Heap→Prop)(cmp:XHm prog w A.in1 Kp P bt)(S:Addr)(sf:S ∉ fp)
   (kpk:∀h h',Kp h→(∀b o,b ∉ wr→b≠S→h.get? b=some o→h'.get? b=some o)→Kp h') (hn:0<n) {t:Shared} {c:Nat} (st:St 0 t.heap) (kp:Kp t.heap)
   (hS:t.heap.get? S=some { cls:=.type "list",dict:=none,data:=.seq #[] c,slots:=#[] })
   (fin:∀v h' tk,P (argBest bt (n-1)) v→(∀b o,b ∉ wr→b≠S→t.heap.get? b=some o→h'.get? b=some o)→R (.ok (.ret v)) { t with heap:=h',toks:=tk }) :
   codeAny (model prog w) A (.builtin "min.loop" ⟨[.ref I,.none,.ref S],[]⟩) R t:=by
 have sw:S ∉ wr:=fun h=>sf (W.sub _ h)
 have nm:(toString "min"++toString ".loop":String)="min.loop":=by decide
 refine codeAny_builtin F.entry_min_loop ?_
 rw[Around.under_plainId F.plain_min_loop _]
 show wpAny _ A.in1 (seqItems? (.ref S) >>= _) _ _ t
 refine wpAny_bind (wpAny_seqItems hS rfl ?_)
 show wpAny _ A.in1 (tryCatch (pyNext (.ref I)) _ >>= _) _ _ t
 refine wpAny_bind (wpAny_tryCatch (W.item 0 t _ _ hn st fun v h' tk pv st1 kk=>?_))
 have hS1:=kk S _ sw hS
 have kp1:Kp h':=kpk _ _ kp fun b o bw _ e=>kk b o bw e
 show wpAny _ A.in1 (updateSeq S (fun _=>#[v,v]) >>= _) _ _ _
 refine wpAny_bind ?_
 refine wpAny_updateSeq hS1 rfl ?_
 rw[nm]
 refine wpAny_pure ⟨plainId_quiet F.plain_min_loop _,Xqz W bt Kp cmp S sf kpk _ 0 _ v _ rfl hn (W.frame _ _ _ st1 fun b bf o e=>?_) (kpk _ _ kp1 fun b o _ bS e=>(Heap.get?_update_other _ _ (Ne.symm bS)).trans e) pv (Heap.get?_update_self _ hS1 rfl) fun v' h2 tk2 pv2 kk2=>?_⟩
 · exact(Heap.get?_update_other _ _ (fun z:S=b=>sf (by rw[z];exact bf))).trans e
 · exact fin v' h2 tk2 pv2 fun b o bw bS e=>kk2 b o bw bS ((Heap.get?_update_other _ _ (Ne.symm bS)).trans (kk b o bw e))
end
section
variable {prog:Program}{w:World}{A:Around}{E:Value→Shared→Prop}{s:Shared}
theorem Xox {x:Value}{Q:Value→Shared→Prop}
   (h:wpAny (model prog w) A.in1 (pyIter x) (fun itv t=>∃I fp wr n P St bt Kp,itv = .ref I∧Walks prog w A.in1 I fp wr n P St∧St 0 t.heap∧Kp t.heap∧(∀b∈fp,b<t.heap.objs.size)∧0<n∧XHm prog w A.in1 Kp P bt ∧
     (∀h h',Kp h→(∀b o,b ∉ wr→b≠t.heap.objs.size→h.get? b=some o→h'.get? b=some o)→Kp h') ∧
     ∀v h' tk,P (argBest bt (n-1)) v→(∀b o,b ∉ wr→t.heap.get? b=some o→h'.get? b=some o)→Q v { t with heap:=h',toks:=tk }) E s) :
   wpAny (model prog w) A (call (.builtin "min") [x]) Q E s:=by
 have nm:(toString "min"++toString ".loop":String)="min.loop":=by decide
 refine call_function_tree F.kind_min F.plain_min F.entry_min (F.args_min1 _) ?_
 show wpAny _ A.in1 (Builtin.Builtins.bindParams "min" ["key","default"] 0 ⟨[],[]⟩ >>= _) _ _ s
 refine wpAny_bind (wpAny_of_eq (show Builtin.Builtins.bindParams "min" ["key","default"] 0 ⟨[],[]⟩=pure [none,none] from rfl) ?_)
 refine wpAny_bind (wpAny_pure ?_)
 refine wpAny_bind (wpAny_mono h (fun itv t ht=>?_) fun _ _ e=>e)
 obtain⟨I,fp,wr,n,P,St,bt,Kp,rfl,W,st,kp,hfp,hn,cmp,kpk,hQ⟩:=ht
 refine wpAny_bind (wpAny_newObj_type ?_)
 have sf:t.heap.objs.size ∉ fp:=fun hm=>Nat.lt_irrefl _ (hfp _ hm)
 rw[nm]
 refine wpAny_pure ⟨plainId_quiet F.plain_min_loop _,Xun W bt Kp cmp t.heap.objs.size sf kpk hn (W.frame _ _ _ st fun b _ o e=>Heap.get?_push_of_some _ e) (kpk _ _ kp fun b o _ _ e=>Heap.get?_push_of_some _ e) (Heap.get?_push_size _ rfl) fun v h' tk pv kk=>?_⟩
 exact hQ v h' tk pv fun b o bw e=>kk b o bw (Nat.ne_of_lt (Heap.lt_size e)) (Heap.get?_push_of_some _ e)
end
def Xfe (xs:List (List Int)):Nat→Nat
 | 0=>0
 | k+1=>if HT.lexLt (xs.getD (k+1) []) (xs.getD (Xfe xs k) []) then k+1 else Xfe xs k
theorem Xje (xs:List (List Int)):∀k,argBest (fun i j=>HT.lexLt (xs.getD i []) (xs.getD j [])) k=Xfe xs k
 | 0=>rfl
 | k+1=>by
   unfold argBest Xfe
   rw[Xje xs k]
theorem Xgw (xs:List (List Int)):∀k,Xfe xs k≤k
 | 0=>Nat.le_refl 0
 | k+1=>by
   unfold Xfe
   have:=Xgw xs k
   split <;> omega
section
variable {X:Cx}
theorem Xrc (hc:X.calm=true)(hu:X.A.units+64<cLine):Xgq X (.builtin "min") (fun vs H Q=>∃p us,∃xs:List (List Int),vs=[.ref p]∧H p=some (.lst us)∧Xcs H us (xs.map fun x=>x.map V.int)∧0<xs.length ∧
   ∀t,us[Xfe xs (xs.length-1)]?=some (.ref t)→H t=some (.tup ((xs.getD (Xfe xs (xs.length-1)) []).map V.int))→Q (.ref t) H):=by
 intro pins s σ H vs us' Q I r h
 obtain⟨p,us,xs,rfl,hp,ta,hn,q⟩:=h
 obtain⟨u,rfl,rx⟩:∃u,us'=[u]∧RelV (.ref p) u:=by
   cases r with
   | cons a b=>cases b;exact⟨_,rfl,a⟩
 cases rx
 obtain⟨its,r1,p1,_⟩:=I.list (SqL.of hp)
 have l1:=r1.length
 have l2:=ta.1
 rw[List.length_map] at l2
 have tups:∀i,i<xs.length→∃t its2,its[i]?=some (.ref t)∧us[i]?=some (.ref t)∧H t=some (.tup ((xs.getD i []).map V.int))∧s.heap.IsTuple t (List.toArray its2)∧IntsAre its2 (xs.getD i []):=fun i hi=>by
   obtain⟨t,e1,e2⟩:=ta.2 i ((xs[i]).map V.int) (by simp [hi])
   obtain⟨u1,g1,q1⟩:=r1.get e1
   cases q1
   obtain⟨its2,r2,p2,_⟩:=I.tuple (SqT.of e2)
   have ex:xs.getD i []=xs[i]:=by simp [hi]
   rw[ex]
   exact⟨t,its2,g1,e1,e2,p2,Xeq r2⟩
 have lt:p<s.heap.objs.size:=by obtain⟨_,e,_⟩:=p1.isList;exact Heap.lt_size e
 refine Xox (wpAny_pyIter_list p1.isList ?_)
 refine⟨s.heap.objs.size,[s.heap.objs.size,p],[s.heap.objs.size],its.toArray.size,fun i v=>its.toArray[i]?=some v,_,fun i j=>HT.lexLt (xs.getD i []) (xs.getD j []),fun (hh:Heap)=>∀(i:Nat) (t:Addr) (its2:List Value),its[i]?=some (Value.ref t)→s.heap.IsTuple t (List.toArray its2)→hh.IsTuple t (List.toArray its2),rfl,Walks.list (A:=X.A.in1) (I.ok.hd hc) _ p (Nat.ne_of_lt lt) its.toArray,
   ⟨⟨_,Heap.get?_push_size _ rfl,rfl,rfl⟩,p1.isList.push _⟩,?_,?_,?_,?_,?_,?_⟩
 · intro i t its2 _ ht
   exact ht.push _
 · intro b hb
   show b<(s.heap.push _).objs.size
   rw[Heap.size_push]
   rcases List.mem_cons.mp hb with z | z
   · rw[z];exact Nat.lt_succ_self _
   · have:b=p:=by simpa using z
     rw[this];exact Nat.lt_succ_of_lt lt
 · rw[List.size_toArray];omega
 · intro i j x y t Q' E' kp pi pj hq
   rw[List.getElem?_toArray] at pi pj
   have hi:i<xs.length:=by have:=(List.getElem?_eq_some_iff.mp pi).1;omega
   have hj:j<xs.length:=by have:=(List.getElem?_eq_some_iff.mp pj).1;omega
   obtain⟨t1,s1,a1,_,_,b1,c1⟩:=tups i hi
   obtain⟨t2,s2,a2,_,_,b2,c2⟩:=tups j hj
   rw[a1] at pi
   rw[a2] at pj
   cases pi
   cases pj
   exact HT.lt_tupInts (kp i t1 s1 a1 b1) (kp j t2 s2 a2 b2) c1 c2 (by show X.A.units+1<cLine;omega) hq
 · intro h h' kp kk i t its2 g ht
   have e0:=kp i t its2 g ht
   obtain⟨o,e,hcl,hd⟩:=ht
   obtain⟨o',e',r'⟩:=e0
   have lt':=Heap.lt_size e
   refine⟨o',kk t o' (fun z=>?_) (Nat.ne_of_lt ?_) e',r'⟩
   · have z':t=s.heap.objs.size:=by simpa using z
     rw[z'] at lt'
     exact Nat.lt_irrefl _ lt'
   · show t<(s.heap.push _).objs.size
     rw[Heap.size_push]
     exact Nat.lt_succ_of_lt lt'
 · intro v h' tk pv kk
   rw[List.size_toArray,←l1,l2,Xje,List.getElem?_toArray] at pv
   have hm:Xfe xs (xs.length-1)<xs.length:=by have:=Xgw xs (xs.length-1);omega
   obtain⟨t,its2,a1,a2,a3,_,_⟩:=tups _ hm
   rw[a1] at pv
   cases pv
   refine⟨.ref t,H,?_,rfl,q t a2 a3⟩
   refine I.kept (t':=tk) fun b o e=>kk b o (fun z=>?_) (Heap.get?_push_of_some _ e)
   have:=Heap.lt_size e
   have z':b=s.heap.objs.size:=by simpa using z
   rw[z'] at this
   exact Nat.lt_irrefl _ this
end
end Stow
namespace Stow
open PySem L2 PyProof.Rows
structure InsK (K:PySem.W.Frag)(C:Addr):Prop where
 cl:Cls K C
 ha:PySem.W.findIn K (.ref C) "__class__"=some (some (.builtin "object.__class__"))
 hn:PySem.W.specialIn K (.builtin "object.__class__") "__get__"=some (some (.builtin "getset_descriptor.__get__"))
 htk:PySem.W.takesIn K (.builtin "object.__class__")=some true
 hm:PySem.W.mroIn K C (.type "object")=some true
section
variable {X:Cx}
end
section
variable {K:PySem.W.Frag}{σ:L2.St}{H:Hp}{Q:VK}{D:Ends}
theorem r_sat {a C dx:Addr}{fs:List (Str×V)}{f:Str}{R:Addr→Addr→Addr→List (Str×V)→Prop}(h:H a=some (.ins C dx fs))(c:Cls K C)(n:Xcr K C f)(l:fs.length<1000)(q:R a C dx fs) :
   ∃a' C' dx' fs',V.ref a=V.ref a'∧H a'=some (.ins C' dx' fs')∧Cls K C'∧Xcr K C' f∧fs'.length<1000∧R a' C' dx' fs':=⟨a,C,dx,fs,rfl,h,c,n,l,q⟩
theorem r_make {C:Addr}{sp:Sp}{E:XK}{t:TA}(h:t σ H fun vs H1=>∀x dx,H1 x=none→H1 dx=none→dx≠x→sp (.ref x::vs) (upd (upd H1 dx (.own x)) x (.ins C dx [])) (fun v H2=>v = .non∧Q (.ref x) H2) E):Xxp C sp [] E t σ H Q:=by
 unfold Xxp
 simp only [List.append_nil]
 exact h
end
section
variable {X:Cx}
end
def Xbh (x:Addr)(H H':Hp):Prop:=∀b o,b≠x→H b=some o→H' b=some o
theorem Xbh.refl {x:Addr}{H:Hp}:Xbh x H H:=fun _ _ _ h=>h
theorem Xbh.of {x:Addr}{H H':Hp}(s:Same H H'):Xbh x H H':=fun b o _ h=>s b o h
theorem Xbh.trans {x:Addr}{H H' H'':Hp}(s:Xbh x H H')(t:Xbh x H' H''):Xbh x H H'':=fun b o n h=>t b o n (s b o n h)
theorem Xbh.put {x:Addr}{H H':Hp}{o:HO}(s:Xbh x H H'):Xbh x H (upd H' x o):=fun b o' n h=>look_ne n (s b o' n h)
end Stow
set_option Elab.async false
set_option linter.all false
set_option maxRecDepth 100000
set_option maxHeartbeats 4000000
namespace Stow
theorem Xkz (i:Nat):1≤(2:Int)^i:=by
 have:=Int.pow_pos (n:=2) (m:=i) (by decide)
 omega
def Xfh (k:Nat)(c:Int):Prop:=c≤2^k∧∀i,i<k→(2:Int)^i<c
theorem Xcm {i j:Nat}(h:i≤j):(2:Int)^i≤2^j:=by
 obtain⟨d,rfl⟩:=Nat.exists_eq_add_of_le h
 rw[Int.pow_add]
 have:=Xkz d
 have:=Int.mul_le_mul_of_nonneg_left this (show 0≤(2:Int)^i by have:=Xkz i;omega)
 omega
theorem Xlu {i j:Nat}(h:(2:Int)^i<2^j):i<j:=by
 rcases Nat.lt_or_ge i j with h1 | h1
 · exact h1
 · have:=Xcm h1
   omega
theorem Xfh.uniq {k k':Nat}{c:Int}(h:Xfh k c)(h':Xfh k' c):k=k':=by
 rcases Nat.lt_trichotomy k k' with g | g | g
 · have:=h'.2 k g
   have:=h.1
   omega
 · exact g
 · have:=h.2 k' g
   have:=h'.1
   omega
theorem Xjm {c:Nat}(h:1≤c):Xfh (c.log2+1) ((c:Int)+1):=by
 have h1:=Nat.lt_log2_self (n:=c)
 have h2:=Nat.log2_self_le (n:=c) (by omega)
 refine⟨?_,fun i hi=>?_⟩
 · have:((c+1:Nat):Int)≤((2^(c.log2+1):Nat):Int):=Int.ofNat_le.mpr h1
   rw[Int.natCast_pow] at this
   push_cast at this
   exact this
 · have:(2:Int)^i≤2^c.log2:=Xcm (by omega)
   have h3:((2^c.log2:Nat):Int)≤(c:Int):=Int.ofNat_le.mpr h2
   rw[Int.natCast_pow] at h3
   push_cast at h3
   omega
end Stow
namespace Stow
open PySem L2 PyProof.Rows
structure MethD (P:Program)(w:World)(K:PySem.W.Frag)(mg:Str→Option Value)(base:Heap)(C:Addr)(m:Str)(j:Nat)(ps:List Str)(dvs:List V)(sp:Sp):Prop where
 all:Methx P w K mg base C m j ps [] sp
 less:Methx P w K mg base C m j ps dvs sp
theorem MethD.made {P:Program}{w:World}{K:PySem.W.Frag}{mg:Str→Option Value}{base:Heap}{C:Addr}{m:Str}{j:Nat}{ps:List Str}{dvs:List V}{sp:Sp}{f:Addr}{fd:FuncData}{ds:List Value}
   (F:FnOk P w K mg base (CXe P w) j f fd ps sp) (M:Meth K C m f) (b:Xco K fd ps []) (b':Xco K fd ps ds) (v:Vals dvs ds) (c:Cls K C):MethD P w K mg base C m j ps dvs sp :=
 ⟨⟨⟨f,fd,[],F,M,b,.nil⟩,c⟩,⟨⟨f,fd,ds,F,M,b',v⟩,c⟩⟩
theorem FunD.bindsA {K:PySem.W.Frag}{x qual:Str}{st:Stmt}{T:Addr}{f:Addr}{fd:FuncData}{ps:List Str}{ds:List Value}{tc:Value}{td:Option Addr}{tn:Nat}{tsl:Array (Option Value)}(F:FunD K x qual st (.ref T) f fd)
   (lt:K.lookup T=some ⟨tc,td,.seq ds.toArray tn,tsl⟩)
   (h:∀(kV doc pm:Value) (an:Option Addr) (cdv ct:Value) (us:List Value),us.length=ps.length→∃k:Option (Array Value)→Sem (List (Str×Value)),
     bindArgs (PySem.W.fnOf x qual (Xbf st) (Xaz st) (Xad st) (.ref T) kV doc pm an cdv ct) ⟨us,[]⟩=seqItems? (.ref T) >>= k∧k (some ds.toArray)=pure (ps.zip us)):Xco K fd ps []:=by
 obtain⟨oc,od,kV,doc,pm,an,cdv,ct,osl,rfl,lk,hcd⟩:=F.ex
 intro s us X hl
 rw[List.append_nil] at hl ⊢
 obtain⟨k,h1,h2⟩:=h kV doc pm an cdv ct us hl
 exact .of_defaults rfl (X _ _ lt) rfl h1 h2
abbrev TXS:=Ends→XK→L2.St→Hp→Prop
section
variable {X:Cx}{e c:Expr}{t:TX}{tc:TT}{ta tb ts:TXS}{a b ss:List Stmt}{pos epos:Pos}{hs:List ExceptHandler}{th:TH}
end
section
variable {K:PySem.W.Frag}{σ:L2.St}{H:Hp}{Q:VK}{D:Ends}{EX:XK}
end
end Stow
set_option Elab.async false
set_option linter.all false
set_option maxRecDepth 100000
set_option maxHeartbeats 4000000
namespace Stow
def Xcn (s:Int)(j m:Nat):List Pc:=(List.range' j m).map fun i:Nat=>⟨s*(i:Int),s,false⟩
theorem Xfs (s:Int)(j m:Nat):Xcn s j (m+1)=⟨s*(j:Int),s,false⟩::Xcn s (j+1) m:=by
 unfold Xcn
 rw[List.range'_succ,List.map_cons]
theorem Xkv (s:Int)(j m:Nat):Xcn s j (m+1)=Xcn s j m++[⟨s*((j+m:Nat):Int),s,false⟩]:=by
 unfold Xcn
 rw[List.range'_concat,List.map_append,Nat.one_mul]
 rfl
theorem Xdn {s:Int}(hs:1≤s):∀(m j:Nat),Xas (s*(j:Int)) (Xcn s j m) (s*((j+m:Nat):Int))
 | 0,j=>rfl
 | m+1,j=>by
   rw[Xfs]
   refine⟨rfl,hs,(fun z=>by cases z),?_⟩
   have h:=Xdn hs m (j+1)
   rw[show j+1+m=j+(m+1) by omega] at h
   show Xas (s*(j:Int)+s) _ _
   rw[show s*(j:Int)+s=s*((j+1:Nat):Int) by rw[Int.natCast_add,Int.mul_add];omega]
   exact h
theorem Xat.app {cs ds:List Int}{ps qs:List Pc}(h0:Xds ps cs.length)(m:Xat cs ps)(h1:Xfc qs 0)(k:Xat ds qs) :
   Xat (cs++ds) (ps++qs.map fun q=>⟨q.a+cs.length,q.l,q.v⟩):=by
 intro p hp
 rcases List.mem_append.mp hp with h | h
 · obtain⟨a0,a1,a2⟩:=h0 p h
   obtain⟨m1,m2⟩:=m p h
   exact⟨by rw[List.getElem?_append_left (by omega)];exact m1,by rw[List.getElem?_append_left (by omega)];exact m2⟩
 · obtain⟨q,hq,rfl⟩:=List.mem_map.mp h
   obtain⟨b0,b1⟩:=h1 q hq
   obtain⟨m1,m2⟩:=k q hq
   constructor
   · show (cs++ds)[(q.a+cs.length).toNat]?=some (mkOf q.l q.v)
     rw[List.getElem?_append_right (by omega),show (q.a+cs.length).toNat-cs.length=q.a.toNat by omega]
     exact m1
   · show (cs++ds)[(q.a+cs.length+q.l-1).toNat]?=some (mkOf q.l q.v)
     rw[List.getElem?_append_right (by omega),show (q.a+cs.length+q.l-1).toNat-cs.length=(q.a+q.l-1).toNat by omega]
     exact m2
theorem Xfo {one:List Int}{s:Int}(hs:1≤s)(hl:(one.length:Int)=s)(m1:Xat one [⟨0,s,false⟩]):∀(m:Nat),Xat ((List.replicate m one).flatten) (Xcn s 0 m)∧(((List.replicate m one).flatten).length:Int)=s*(m:Int)
 | 0=>⟨Xat.nil _,by simp⟩
 | m+1=>by
   obtain⟨h1,h2⟩:=Xfo hs hl m1 m
   have e:(List.replicate (m+1) one).flatten=(List.replicate m one).flatten++one:=by
     rw[List.replicate_succ',List.flatten_append]
     simp
   rw[e]
   constructor
   · rw[Xkv]
     have ch:=(Xdn hs m 0).endBy (show (0:Int)≤s*((0:Nat):Int) by simp)
     rw[Nat.zero_add] at ch
     have:=Xat.app (ps:=Xcn s 0 m) (qs:=[⟨0,s,false⟩]) (by rw[h2];exact ch) h1 (fun p hp=>by
       have:p=⟨0,s,false⟩:=by simpa using hp
       subst this
       exact⟨Int.le_refl _,hs⟩) m1
     rw[h2] at this
     simpa using this
   · rw[List.length_append,Int.natCast_add,h2,hl,Int.natCast_add,Int.mul_add]
     omega
end Stow
namespace Stow
open PySem L2 PyProof.Rows
section
variable {X:Cx}
theorem Xmi {scope:Scope}{y y' y'':Str}{k k' k'':Nat}(h1:X.N[k]?=some y)(h1':X.N[k']?=some y')(h1'':X.N[k'']?=some y'')(h2:X.env.kindOf y=some .cell)(h2':X.env.kindOf y'=some .cell)(h2'':X.env.kindOf y''=some .cell)
   (h3:(relabel scope X.env).names.lookup y=some .cell) (h3':(relabel scope X.env).names.lookup y'=some .cell) (h3'':(relabel scope X.env).names.lookup y''=some .cell):Xhi X scope [y,y',y''] [k,k',k'']:=⟨rfl,fun j z i e1 e2=>by
 match j with
 | 0 =>
   have g1:y=z:=by simpa using e1
   have g2:k=i:=by simpa using e2
   subst g1 g2
   exact⟨h1,h2,h3⟩
 | 1 =>
   have g1:y'=z:=by simpa using e1
   have g2:k'=i:=by simpa using e2
   subst g1 g2
   exact⟨h1',h2',h3'⟩
 | 2 =>
   have g1:y''=z:=by simpa using e1
   have g2:k''=i:=by simpa using e2
   subst g1 g2
   exact⟨h1'',h2'',h3''⟩
 | j+3=>simp at e1⟩
theorem Xpe {scope:Scope}{n m o:Str}(h:∀y∈scope.names,y.2 = .free→y.1=n∨y.1=m∨y.1=o)(k:X.env.kindOf n=some .cell)(k':X.env.kindOf m=some .cell)(k'':X.env.kindOf o=some .cell):∀y∈scope.names,y.2 = .free→X.env.kindOf y.1=some .cell:=fun y hy hf=>by
 rcases h y hy hf with e | e | e
 · rw[e];exact k
 · rw[e];exact k'
 · rw[e];exact k''
end
def Its (lo c:Int)(n:Nat):It:=⟨fun i _=>i<n,fun i H x H'=>H'=H∧x = .int (lo+i*c),fun i _=>n≤i⟩
theorem Xqo {P:Program}{w:World}{K:PySem.W.Frag}{tg:Expr}(it:Addr)(lo c:Int)(n:Nat):Turn P w K tg (Its lo c n) [it] it (fun i h=>IsRangeIter h it (lo+(i:Nat)*c) ((n:Int)-(i:Nat)) c) where
 mem:=by simp
 obj:=fun i h st b hb=>by
   have e:b=it:=by simpa using hb
   subst e
   exact⟨_,st,fun v z=>by
     have z':Data.fields _=Data.cell v:=z
     cases z'⟩
 keep:=fun i h h' st k=>k it (by simp) _ st
 item:=by
   intro X hP hw hK hc i pins s σ H E I hf st hg
   subst hP hw hK
   obtain⟨f0,f1,f2,f3,f4,f5⟩:=hf it (by simp)
   have W:=Walks.range (prog:=X.prog) (w:=X.w) (I.ok.hd hc) it lo c n
   refine W.item i s _ _ hg st fun v h' tk hv st' kk=>?_
   obtain⟨t,rfl⟩:=hv
   have I1:Inv X pins σ H { s with heap:=h',toks:=tk }:=I.turned (fun b o hb e=>kk b o (by simpa using hb) e) f0 f1 f3 f4 f5
   exact⟨_,rfl,XDc (s:={ s with heap:=h',toks:=tk }) (n:="range_iterator") st' rfl rfl (by decide) ⟨.int (lo+i*c),H,I1,⟨t,rfl⟩,⟨rfl,rfl⟩,st',fun b hb=>(hf b hb).1⟩⟩
 done:=by
   intro X hP hw hK hc i pins s σ H E I hf st hg
   subst hP hw hK
   obtain⟨f0,f1,f2,f3,f4,f5⟩:=hf it (by simp)
   exact wpAny_pyNext_range_end (I.ok.hd hc) st (by have:n≤i:=hg;omega) fun h' eb=>⟨rfl,I.turned (t':=s.toks) (fun b o hb e=>eb b o hb e) f0 f1 f3 f4 f5⟩
 self:=fun _ _ _ _ _ st h=>wpAny_pyIter_rangeiter st h
section
variable {X:Cx}{tg:Expr}
theorem Xph {i j c:Int}(h0:0≤i)(hj:0≤j)(hj':j≤4000)(hc:1≤c):0≤Builtin.Range.rangeSize i j c∧Builtin.Range.rangeSize i j c≤4000∧(i<j→i+(Builtin.Range.rangeSize i j c-1)*c<j):=by
 unfold Builtin.Range.rangeSize
 rw[if_pos (by omega)]
 split
 · rename_i h
   have h1:0≤(j-i-1)/c:=Int.ediv_nonneg (by omega) (by omega)
   have h2:(j-i-1)/c*c≤j-i-1:=Int.ediv_mul_le _ (by omega)
   have h3:(j-i-1)/c≤(j-i-1)/c*c:=by
     have:=Int.mul_le_mul_of_nonneg_left hc h1
     omega
   refine⟨by omega,by omega,fun _=>?_⟩
   rw[show (j-i-1)/c+1-1=(j-i-1)/c by omega]
   omega
 · rename_i h
   exact⟨by omega,by omega,fun z=>absurd z h⟩
def XOa (ta:TA):TI:=fun σ H R=>ta σ H fun vs H1=>∃i j c:Int,vs=[.int i,.int j,.int c]∧(0≤i∧i≤4000∧0≤j∧j≤4000∧1≤c∧c≤4000)∧R (Its i c (Builtin.Range.rangeSize i j c).toNat) H1
theorem XHd {pins:List (Addr×Obj)}{σ:L2.St}{H:Hp}{s:Shared}{R:It→Hp→Prop}{E:Value→Shared→Prop}{lo hi c:Int}{t u v:Tok}{tk:Nat}(I:Inv X pins σ H s)(h1:0≤lo)(h2:lo≤4000)(h3:0≤hi)(h4:hi≤4000)(h5:1≤c)(h6:c≤4000)
   (q:R (Its lo c (Builtin.Range.rangeSize lo hi c).toNat) H):wpAny (model X.prog X.w) X.A (pyIter (.ref s.heap.objs.size)) (PIE X pins σ tg R) E { s with heap:=s.heap.push { cls:=.type "range",data:=.fields #[.int lo t,.int hi u,.int c v] },toks:=tk }:=by
 obtain⟨b1,b2,b3⟩:=Xph h1 h3 h4 h5
 have sm:Builtin.Range.small lo hi c=true:=by
   unfold Builtin.Range.small
   simp only [Builtin.Range.rangeFitsLong,Bool.and_eq_true,Bool.or_eq_true,decide_eq_true_eq,beq_iff_eq]
   generalize Builtin.Range.rangeSize lo hi c=n at b1 b2 b3
   rw[if_pos (show c>0 by omega)]
   simp only [Bool.and_eq_true,decide_eq_true_eq]
   omega
 refine wpAny_pyIter_range (IsRange.new ..) sm ?_
 have I1:Inv X pins σ H { s with heap:=s.heap.push { cls:=.type "range",data:=.fields #[.int lo t,.int hi u,.int c v] },toks:=tk }:=I.kept fun b o e=>Heap.get?_push_of_some _ e
 refine⟨(s.heap.push { cls:=.type "range",data:=.fields #[.int lo t,.int hi u,.int c v] }).objs.size,[(s.heap.push { cls:=.type "range",data:=.fields #[.int lo t,.int hi u,.int c v] }).objs.size],_,_,H,rfl,
   I1.kept (t':=tk) fun b o e=>Heap.get?_push_of_some _ e,Xqo _ lo c (Builtin.Range.rangeSize lo hi c).toNat,?_,fun b hb=>?_,q⟩
 · have e1:lo+((0:Nat):Int)*c=lo:=by simp
   have e2:(((Builtin.Range.rangeSize lo hi c).toNat:Nat):Int)-((0:Nat):Int)=Builtin.Range.rangeSize lo hi c:=by omega
   show IsRangeIter _ _ (lo+((0:Nat):Int)*c) ((((Builtin.Range.rangeSize lo hi c).toNat:Nat):Int)-((0:Nat):Int)) c
   rw[e1,e2]
   exact Heap.get?_push_size _ rfl
 · have e:b=(s.heap.push { cls:=.type "range",data:=.fields #[.int lo t,.int hi u,.int c v] }).objs.size:=by simpa using hb
   subst e
   exact I1.fpOk (Nat.le_refl _) (I1.hok.fresh (Nat.le_refl _))
theorem Xuc {a b c:Expr}{ta:TA}{p pos:Pos}(hg:Gl X "range")(hm:X.mg "range"=none)(ha:PA X [a,b,c] ta)(hs:starEach [a,b,c] X.env=[(false,eval a X.env),(false,eval b X.env),(false,eval c X.env)]:=by rfl)
   (hs2:starEach [b,c] X.env=[(false,eval b X.env),(false,eval c X.env)]:=by rfl):PI X tg (.Call (.Name "range" p) [a,b,c] [] pos) (XOa ta):=by
 intro pins s σ H R I h
 refine Call_ (Xml I hg hm PyProof.Rows.boot_range (PyProof.Rows.callWith_type1 (thn (ha pos pins s σ H _ I h) fun us s1 ⟨vs,H1,I1,r1,q1⟩=>?_) (by rw[hs,hs2]) (by rw[hs2];rfl)))
 obtain⟨i,j,c,e,⟨q1,q2,q3,q4,q5,q6⟩,q⟩:=q1
 subst e
 cases r1 with
 | cons r rr =>
   cases rr with
   | cons r' rr =>
     cases rr with
     | cons r'' rr =>
       cases rr
       obtain⟨t,rfl⟩:=r
       obtain⟨t',rfl⟩:=r'
       obtain⟨t'',rfl⟩:=r''
       exact call_range_3 (by omega) (XHd I1 q1 q2 q3 q4 q5 q6 q) (Or.inl (PyProof.noPylong_small (by omega)))
theorem Xrj (hc:X.calm=true):Xgq X (.builtin "any") (fun vs H Q=>∃p,∃bs:List Bool,vs=[.ref p]∧H p=some (.lst (bs.map V.bl))∧Q (.bl (bs.any id)) H):=by
 intro pins s σ H vs us' Q I r h
 obtain⟨p,bs,rfl,hp,q⟩:=h
 obtain⟨u,rfl,rx⟩:∃u,us'=[u]∧RelV (.ref p) u:=by
   cases r with
   | cons a b=>cases b;exact⟨_,rfl,a⟩
 cases rx
 obtain⟨its,r1,p1,_⟩:=I.list (SqL.of hp)
 have l1:=r1.length
 rw[List.length_map] at l1
 have lt:p<s.heap.objs.size:=by obtain⟨_,e,_⟩:=p1.isList;exact Heap.lt_size e
 refine call_any_walk (wpAny_pyIter_list p1.isList ?_)
 refine⟨s.heap.objs.size,[s.heap.objs.size,p],[s.heap.objs.size],its.toArray.size,fun i v=>its.toArray[i]?=some v,_,fun i=>bs.getD i false,rfl,Walks.list (A:=X.A.in1) (I.ok.hd hc) _ p (Nat.ne_of_lt lt) its.toArray,
   ⟨⟨_,Heap.get?_push_size _ rfl,rfl,rfl⟩,p1.isList.push _⟩,?_,?_⟩
 · intro i v s' Q' E' hv hq
   rw[List.getElem?_toArray] at hv
   have hi:i<bs.length:=by have:=(List.getElem?_eq_some_iff.mp hv).1;omega
   obtain⟨u1,g1,q1⟩:=r1.get (i:=i) (x:=V.bl bs[i]) (by simp [hi])
   cases q1
   rw[hv] at g1
   cases g1
   have e:bs.getD i false=bs[i]:=by simp [hi]
   have hq2:Q' (bs.getD i false) s':=hq
   rw[e] at hq2
   exact wpAny_pure hq2
 · intro h' tk kk
   have e:(List.range its.toArray.size).any (fun i=>bs.getD i false)=bs.any id:=by
     rw[List.size_toArray,←l1,Bool.eq_iff_iff,List.any_eq_true,List.any_eq_true]
     constructor
     · rintro⟨i,hi,h⟩
       have hi':=List.mem_range.mp hi
       exact⟨bs[i],List.getElem_mem hi',by simpa [hi'] using h⟩
     · rintro⟨b,hb,h⟩
       obtain⟨i,hi,rfl⟩:=List.mem_iff_getElem.mp hb
       exact⟨i,List.mem_range.mpr hi,by simpa [hi] using h⟩
   rw[e]
   refine⟨.bl _,H,?_,rfl,q⟩
   refine I.kept (t':=tk) fun b o e=>kk b o (fun z=>?_) (Heap.get?_push_of_some _ e)
   have:=Heap.lt_size e
   have z':b=s.heap.objs.size:=by simpa using z
   rw[z'] at this
   exact Nat.lt_irrefl _ this
end
theorem Xwz {lo c:Int}{n:Nat}{g:TG}{tb:TS}{D:Ends}{σ:L2.St}{H:Hp}(Pv:Nat→L2.St→Hp→Prop)(h0:Pv 0 σ H)
   (hs:∀i σ H,i<n→Pv i σ H→g (.int (lo+i*c)) σ H fun σ2 H2=>tb { D with nx:=Pv (i+1),ct:=Pv (i+1),bk:=D.nx } σ2 H2) (hd:∀σ H,Pv n σ H→D.nx σ H) :
   ∃W:Nat→Nat→L2.St→Hp→Prop,(∃m,W 0 m σ H)∧∀i m σ H,W i m σ H →
     ((Its lo c n).stop i H∧D.nx σ H)∨((Its lo c n).go i H∧∃N:L2.St→Hp→Prop,(∀σ' H',N σ' H'→∃m',m'<m∧W (i+1) m' σ' H')∧∀x H',(Its lo c n).yld i H x H'→g x σ H' fun σ2 H2=>tb { D with nx:=N,ct:=N,bk:=D.nx } σ2 H2):=by
 refine⟨fun i m σ H=>m=n-i∧i≤n∧Pv i σ H,⟨n,by simp,Nat.zero_le _,h0⟩,?_⟩
 rintro i m σ H ⟨rfl,hi,p⟩
 by_cases hlt:i<n
 · refine .inr ⟨hlt,Pv (i+1),fun σ' H' p'=>⟨n-(i+1),by omega,rfl,hlt,p'⟩,fun x H' y=>?_⟩
   obtain⟨e,y⟩:=y
   subst e y
   exact hs i σ _ hlt p
 · have e:i=n:=by omega
   subst e
   exact .inl ⟨Nat.le_refl _,hd σ H p⟩
theorem XTq {ta:TA}{σ:L2.St}{H:Hp}{R:It→Hp→Prop}(h:ta σ H fun vs H1=>∃i j c:Int,vs=[.int i,.int j,.int c]∧(0≤i∧i≤4000∧0≤j∧j≤4000∧1≤c∧c≤4000)∧R (Its i c (Builtin.Range.rangeSize i j c).toNat) H1):XOa ta σ H R:=h
theorem Xnd {H:Hp}{Q:VK}{lo:Int}{n k:Nat}{fs:L2.St}{g:TG}{tt:TT}{te:TE}(Pv:Addr→Nat→List V→Hp→Prop)(h0:∀D,H D=none→Pv D 0 [] (upd H D (.lst [])))
   (hs:∀D i ys H2,H D=none→i<n→Pv D i ys H2→∀τ:L2.St,τ.length=k→g (.int (lo+i)) (τ++fs) H2 fun σ1 H4=>(∃τ':L2.St,τ'.length=k∧σ1=τ'++fs)∧tt σ1 H4 fun b H5 =>
     if b=true then te σ1 H5 fun y H6=>H6 D=some (.lst ys)∧ys.length<sizeLine∧Nx n Pv D i (ys++[y]) (upd H6 D (.lst (ys++[y]))) else Nx n Pv D i ys H5)
   (hd:∀D ys H2,H D=none→Pv D n ys H2→Q (.ref D) H2):Xsd k fs (Itr lo n) g tt te Q H:=by
 intro D hD
 refine⟨fun i m ys H2=>m=n-i∧i≤n∧Pv D i ys H2,⟨_,rfl,Nat.zero_le _,h0 D hD⟩,?_⟩
 rintro i m ys H2 ⟨rfl,hi,p⟩
 by_cases hlt:i<n
 · refine .inr ⟨hlt,fun x H3 y τ hτ=>?_⟩
   obtain⟨e,y⟩:=y
   subst e y
   exact hs D i ys _ hD hlt p τ hτ
 · have e:i=n:=by omega
   subst e
   exact .inl ⟨Nat.le_refl _,hd D ys H2 hD p⟩
end Stow
set_option Elab.async false
set_option linter.all false
set_option maxRecDepth 100000
set_option maxHeartbeats 4000000
namespace Stow
open PySem L2 PyProof.Rows
def sumI (ns:List Int):Int:=ns.foldl (·+·) 0
section
variable {prog:Program}{w:World}{A:Around}{R:Result→Shared→Prop}{I:Addr}{fp wr:List Addr}{n:Nat}{P:Nat→Value→Prop}{St:Nat→Heap→Prop}{kw:List (Str×Value)}
end
section
variable {prog:Program}{w:World}{A:Around}{E:Value→Shared→Prop}{s:Shared}
end
section
variable {X:Cx}
end
end Stow
namespace Stow
open PySem L2 PyProof.Rows
section
variable {K:PySem.W.Frag}{σ:L2.St}{H:Hp}{Q:VK}
end
def Xpm (H:Hp)(v:V)(o:Option (List Int)):Prop:=match o with
 | none=>v = .non
 | some x=>∃t,v = .ref t∧H t=some (.tup (x.map V.int))
theorem Xpm.same {H H':Hp}{v:V}{o:Option (List Int)}(h:Xpm H v o)(s:Same H H'):Xpm H' v o:=by
 cases o with
 | none=>exact h
 | some x=>obtain⟨t,e1,e2⟩:=h;exact⟨t,e1,s t _ e2⟩
theorem Xpm.mono {H H':Hp}{v:V}{o:Option (List Int)}(h:Xpm H v o)(k:∀b xs,H b=some (.tup xs)→H' b=some (.tup xs)):Xpm H' v o:=by
 cases o with
 | none=>exact h
 | some x=>obtain⟨t,e1,e2⟩:=h;exact⟨t,e1,k t _ e2⟩
end Stow
namespace Stow
open PySem L2 PyProof.Rows
theorem Xbh.new {x t:Addr}{H H':Hp}{o:HO}(s:Xbh x H H')(ht:H' t=none):Xbh x H (upd H' t o):=fun b o' n h=>look_put ht (s b o' n h)
theorem Xbh.tups {x:Addr}{H H':Hp}{l us:List V}{xs:List (List V)}(s:Xbh x H H')(hx:H x=some (.lst l))(h:Xcs H us xs):Xcs H' us xs:=h.mono fun b ys e=>s b _ (fun z=>by rw[z,hx] at e;cases e) e
end Stow
set_option Elab.async false
set_option linter.all false
set_option maxRecDepth 100000
set_option maxHeartbeats 4000000
namespace Stow
open PySem L2 PyProof.Rows
end Stow
namespace Stow
open PySem L2 PyProof.Rows
theorem Xgd.app {X Y:List Pc}(hX:Xgd X)(hY:Xgd Y)(hj:∀x y,X.getLast?=some x→Y[0]?=some y→x.v=true∨y.v=true):Xgd (X++Y):=fun j y z h1 h2=>by
 by_cases e1:j+1<X.length
 · rw[List.getElem?_append_left (by omega)] at h1
   rw[List.getElem?_append_left e1] at h2
   exact hX j y z h1 h2
 · by_cases e2:j+1=X.length
   · rw[List.getElem?_append_left (by omega)] at h1
     rw[List.getElem?_append_right (by omega),show j+1-X.length=0 by omega] at h2
     refine hj y z ?_ h2
     rw[List.getLast?_eq_getElem?,show X.length-1=j by omega]
     exact h1
   · rw[List.getElem?_append_right (by omega)] at h1 h2
     rw[show j+1-X.length=(j-X.length)+1 by omega] at h2
     exact hY _ y z h1 h2
theorem Xgd.left {X Y:List Pc}(h:Xgd (X++Y)):Xgd X:=fun j y z h1 h2=>by
 have l1:=(List.getElem?_eq_some_iff.mp h1).1
 have l2:=(List.getElem?_eq_some_iff.mp h2).1
 exact h j y z (by rw[List.getElem?_append_left l1];exact h1) (by rw[List.getElem?_append_left l2];exact h2)
theorem Xgd.right {X Y:List Pc}(h:Xgd (X++Y)):Xgd Y:=fun j y z h1 h2=>h (X.length+j) y z (by rw[List.getElem?_append_right (by omega),show X.length+j-X.length=j by omega];exact h1) (by rw[List.getElem?_append_right (by omega),show X.length+j+1-X.length=j+1 by omega];exact h2)
theorem Xgh:∀{A B:List Pc} {s e:Int},Xas s (A++B) e→∃m,Xas s A m∧Xas m B e
 | [],B,s,e,c=>⟨s,rfl,c⟩
 | z::r,B,s,e,c=>by
   obtain⟨h1,h2,h3,h4⟩:=c
   obtain⟨m,g1,g2⟩:=Xgh h4
   exact⟨m,⟨h1,h2,h3,g1⟩,g2⟩
end Stow
set_option Elab.async false
set_option linter.all false
set_option maxRecDepth 100000
set_option maxHeartbeats 4000000
namespace Stow
open PySem L2 PyProof.Rows
theorem Xgg {ps:List Pc}{s e p:Int}{y z:Pc}(c:Xas s ps e)(hy:y∈ps)(hz:z∈ps)(h1:y.a≤p)(h2:p<y.a+y.l)(h3:z.a≤p)(h4:p<z.a+z.l):y=z:=by
 obtain⟨i,hi⟩:=List.getElem?_of_mem hy
 obtain⟨j,hj⟩:=List.getElem?_of_mem hz
 rcases Nat.lt_trichotomy i j with g | g | g
 · exfalso
   obtain⟨ds,rs,e1,e2,c1,c2⟩:=Xcu c hj
   subst e1 e2
   rw[List.getElem?_append_left (by omega)] at hi
   have:=(c1.mem y (List.mem_of_getElem? hi)).2.2.2
   omega
 · subst g
   exact Option.some.inj (hi.symm.trans hj)
 · exfalso
   obtain⟨ds,rs,e1,e2,c1,c2⟩:=Xcu c hi
   subst e1 e2
   rw[List.getElem?_append_left (by omega)] at hj
   have:=(c1.mem z (List.mem_of_getElem? hj)).2.2.2
   omega
section
variable {X:Cx}{e:Expr}{t:TX}{epos:Pos}
end
end Stow
set_option Elab.async false
set_option linter.all false
set_option maxRecDepth 100000
set_option maxHeartbeats 4000000
namespace Stow
open PySem L2 PyProof.Rows
theorem Xln {n m:Nat}(h:n+64<m):n+1<m:=by omega
theorem Xjb {α β:Type}{F:α→β→Prop}:∀{xs:List α} {us:List β} {i:Nat} {x:α},Paired F xs us→xs[i]?=some x→∃u,us[i]?=some u∧F x u
 | _,_,_,_,.nil,e=>by simp at e
 | _,_,0,_,.cons r _,e=>by simp at e;subst e;exact⟨_,rfl,r⟩
 | _,_,i+1,x,.cons _ t,e=>by
   obtain⟨u,h1,h2⟩:=Xjb (i:=i) (x:=x) t (by simpa using e)
   exact⟨u,by simpa using h1,h2⟩
theorem XPw {kvs:List (Key×V)}{vs:List (Key×Value)}(r:KV kvs vs){i:Nat}{k:Key}{v:V}(e:kvs[i]?=some (k,v)):∃u,vs[i]?=some (k,u):=by
 obtain⟨⟨k',u⟩,hq,h1,_⟩:=Xjb (show Paired _ kvs vs from r) e
 have h1:k=k':=h1
 subst h1
 exact⟨u,hq⟩
theorem XCt {P:Program}{w:World}{k:Key}{u:Value}(h:(Xbk P w).is k u=true):RelV (kV k) u:=by
 rcases Xbr (show Xmy k u=true from h) with ⟨i,t,rfl,rfl⟩ | ⟨x,t,rfl,rfl⟩
 · exact⟨t,rfl⟩
 · exact⟨t,rfl⟩
section
variable {X:Cx}{pins:List (Addr×Obj)}{σ:L2.St}{H:Hp}{s:Shared}{d:Addr}{kvs:List (Key×V)}{o:Obj}
end
section
variable {X:Cx}{tg:Expr}
end
section
variable {K:PySem.W.Frag}{σ:L2.St}{H:Hp}{Q:VK}{D:Ends}
theorem r_dget {td ty:TE}(h:td σ H fun x H1=>ty σ H1 fun y H2=>∃a v,x = .ref a∧DGet H2 a y (some v)∧Q v H2):XMx td ty σ H Q:=h
end
end Stow
namespace Stow
open PySem L2 PyProof.Rows
inductive W3
 | half | shel | row
def cF (C1 C2 C3:Addr):W3→Addr
 | .half=>C1
 | .shel=>C2
 | .row=>C3
def fsF:W3→Addr→Int→List (Str×V)
 | .shel,a,r=>[("room_cells",.ref a),("shelf",.int r)]
 | .half,a,_=>[("room_cells",.ref a)]
 | .row,a,_=>[("room_cells",.ref a)]
theorem fsF_cells {i:W3}{a:Addr}{r:Int}:(fsF i a r).lookup ("room_cells":Str)=some (.ref a):=by cases i <;> rfl
theorem fsF_few {i:W3}{a:Addr}{r:Int}:(fsF i a r).length<1000:=by cases i <;> (simp only [fsF,List.length_cons,List.length_nil];omega)
theorem fsF_none {i:W3}{a:Addr}{r:Int}{m:Str}(h1:(m==("room_cells":Str))=false)(h2:(m==("shelf":Str))=false):(fsF i a r).lookup m=none:=by
 cases i <;> simp only [fsF,List.lookup,h1,h2]
theorem Xwj {i:W3}{a b:Addr}{r:Int}:putF ("room_cells":Str) (.ref b) (fsF i a r)=fsF i b r:=by cases i <;> rfl
theorem Xio {C1 C2 C3:Addr}{Q:Addr→Prop}(h1:Q C1)(h2:Q C2)(h3:Q C3):∀i,Q (cF C1 C2 C3 i):=fun i=>by
 cases i
 · exact h1
 · exact h2
 · exact h3
def Xiu (P:Program)(w:World)(K:PySem.W.Frag)(mg:Str→Option Value)(base:Heap)(ok:W3→Prop)(C:W3→Addr)(m:Str)(j:Nat)(ps:List Str)(dvs:List V)(sp:W3→Sp):Prop:=∀i,ok i→Methx P w K mg base (C i) m j ps dvs (sp i)
def Xba (P:Program)(w:World)(K:PySem.W.Frag)(mg:Str→Option Value)(base:Heap)(C:W3→Addr)(m:Str)(j:Nat)(ps:List Str)(dvs:List V)(sp:W3→Sp):Prop:=∀i,Methx P w K mg base (C i) m j ps dvs (sp i)
structure MethFD (P:Program)(w:World)(K:PySem.W.Frag)(mg:Str→Option Value)(base:Heap)(C:W3→Addr)(m:Str)(j:Nat)(ps:List Str)(dvs:List V)(sp:W3→Sp):Prop where
 all:Xba P w K mg base C m j ps [] sp
 less:Xba P w K mg base C m j ps dvs sp
section
variable {P:Program}{w:World}{K:PySem.W.Frag}{mg:Str→Option Value}{base:Heap}{C:W3→Addr}{m:Str}{j k:Nat}{ps:List Str}{dvs:List V}{sp:W3→Sp}{ok ok':W3→Prop}{f:Addr}{fd:FuncData}{ds:List Value}
theorem Xiu.made (F:FnOk P w K mg base (CXe P w) j f fd ps (fun vs H Q E=>∃i,ok i∧sp i vs H Q E))(M:∀i,ok i→Meth K (C i) m f)(b:Xco K fd ps [])(c:∀i,Cls K (C i)):Xiu P w K mg base ok C m j ps [] sp :=
 fun i hi=>⟨⟨f,fd,[],F.imp fun _ _ _ _ h=>⟨i,hi,h⟩,M i hi,b,.nil⟩,c i⟩
theorem Xba.made (F:FnOk P w K mg base (CXe P w) j f fd ps (fun vs H Q E=>∃i,sp i vs H Q E))(M:∀i,Meth K (C i) m f)(b:Xco K fd ps [])(c:∀i,Cls K (C i)):Xba P w K mg base C m j ps [] sp :=
 fun i=>⟨⟨f,fd,[],F.imp fun _ _ _ _ h=>⟨i,h⟩,M i,b,.nil⟩,c i⟩
theorem MethFD.made (F:FnOk P w K mg base (CXe P w) j f fd ps (fun vs H Q E=>∃i,sp i vs H Q E))(M:∀i,Meth K (C i) m f)(b:Xco K fd ps [])(b':Xco K fd ps ds)(v:Vals dvs ds)(c:∀i,Cls K (C i)):MethFD P w K mg base C m j ps dvs sp :=
 ⟨fun i=>⟨⟨f,fd,[],F.imp fun _ _ _ _ h=>⟨i,h⟩,M i,b,.nil⟩,c i⟩,fun i=>⟨⟨f,fd,ds,F.imp fun _ _ _ _ h=>⟨i,h⟩,M i,b',v⟩,c i⟩⟩
theorem Methx.up {C₀:Addr}{sp₀:Sp}(D:Methx P w K mg base C₀ m j ps dvs sp₀)(h:j≤k):Methx P w K mg base C₀ m k ps dvs sp₀:=by
 obtain⟨f,fd,ds,F,M,b,v⟩:=D.ex
 exact⟨⟨f,fd,ds,F.mono h,M,b,v⟩,D.cl⟩
theorem Xnj {j1 j2:Nat}(D1:Xiu P w K mg base ok C m j1 ps dvs sp)(D2:Xiu P w K mg base ok' C m j2 ps dvs sp)(h1:j1≤k)(h2:j2≤k)(h:∀i,ok i∨ok' i):Xba P w K mg base C m k ps dvs sp:=fun i=>by
 rcases h i with h | h
 · exact(D1 i h).up h1
 · exact(D2 i h).up h2
structure MethSD (P:Program)(w:World)(K:PySem.W.Frag)(mg:Str→Option Value)(base:Heap)(ok:W3→Prop)(C:W3→Addr)(m:Str)(j:Nat)(ps:List Str)(dvs:List V)(sp:W3→Sp):Prop where
 all:Xiu P w K mg base ok C m j ps [] sp
 less:Xiu P w K mg base ok C m j ps dvs sp
theorem MethSD.made (F:FnOk P w K mg base (CXe P w) j f fd ps (fun vs H Q E=>∃i,ok i∧sp i vs H Q E))(M:∀i,ok i→Meth K (C i) m f)(b:Xco K fd ps [])(b':Xco K fd ps ds)(v:Vals dvs ds)(c:∀i,Cls K (C i)):MethSD P w K mg base ok C m j ps dvs sp :=
 ⟨fun i hi=>⟨⟨f,fd,[],F.imp fun _ _ _ _ h=>⟨i,hi,h⟩,M i hi,b,.nil⟩,c i⟩,fun i hi=>⟨⟨f,fd,ds,F.imp fun _ _ _ _ h=>⟨i,hi,h⟩,M i hi,b',v⟩,c i⟩⟩
theorem Xxq {j1 j2:Nat}(D1:MethSD P w K mg base ok C m j1 ps dvs sp)(D2:MethSD P w K mg base ok' C m j2 ps dvs sp)(h1:j1≤k)(h2:j2≤k)(h:∀i,ok i∨ok' i):MethFD P w K mg base C m k ps dvs sp:=⟨Xnj D1.all D2.all h1 h2 h,Xnj D1.less D2.less h1 h2 h⟩
theorem Xhn {C1 C2 C3:Addr}{j1 j2 j3:Nat}(D1:Methx P w K mg base C1 m j1 ps dvs (sp .half))(D2:Methx P w K mg base C2 m j2 ps dvs (sp .shel))(D3:Methx P w K mg base C3 m j3 ps dvs (sp .row))
   (h1:j1≤k) (h2:j2≤k) (h3:j3≤k):Xba P w K mg base (cF C1 C2 C3) m k ps dvs sp:=fun i=>by
 cases i
 · exact D1.up h1
 · exact D2.up h2
 · exact D3.up h3
theorem Xow {C1 C2 C3:Addr}{j1 j2 j3:Nat}(D1:MethD P w K mg base C1 m j1 ps dvs (sp .half))(D2:MethD P w K mg base C2 m j2 ps dvs (sp .shel))(D3:MethD P w K mg base C3 m j3 ps dvs (sp .row))
   (h1:j1≤k) (h2:j2≤k) (h3:j3≤k):MethFD P w K mg base (cF C1 C2 C3) m k ps dvs sp:=⟨Xhn D1.all D2.all D3.all h1 h2 h3,Xhn D1.less D2.less D3.less h1 h2 h3⟩
end
def Xme (C:W3→Addr)(m:Str)(sp:W3→Sp)(dvs:List V)(E:XK)(ta:TE)(t:TA):TE:=fun σ H Q=>ta σ H fun x H1=>∃i a dx fs,x = .ref a∧H1 a=some (.ins (C i) dx fs)∧fs.lookup m=none∧t σ H1 fun vs H2=>sp i (x::(vs++dvs)) H2 Q E
section
variable {X:Cx}{j k:Nat}{C:W3→Addr}{ps:List Str}{sp:W3→Sp}{dvs:List V}{m:Str}{pos apos:Pos}{e o:Expr}{es:List Expr}{to:TE}{t:TA}{E:XK}
theorem Xay {pl:Sem Bool}(D:Xba X.prog X.w X.K X.mg X.base C m j ps dvs sp)(hx:Xfd (CXe X.prog X.w) X E)(hr:Room k X.A)(ho:PE X o to)(ha:PA X (e::es) t)(hk:j≤k:=by decide)
   (hst:starEach (e::es) X.env=(false,eval e X.env)::starEach es X.env:=by rfl) (hpl:(backTo pos (starEach es X.env)).any (·.1)=false:=by rfl)
   (ht:eval (.Call (.Attribute o m apos) (e::es) [] pos) X.env=(do
     let ov ←eval o X.env
     standAt apos.atName
     let (f,first) ←holding [ov] (getMethod ov m pl)
     callWith pos f first (backTo pos (starEach (e::es) X.env)) (backToKw pos (keywordEach [] X.env))):=by rfl) :
   PE X (.Call (.Attribute o m apos) (e::es) [] pos) (Xme C m sp dvs E to t):=by
 intro pins s σ H Q I h
 refine PySem.W.methodCall_KW (pl:=pl) (thn (ho pins s σ H _ I h) fun u s1 ⟨x,H1,I1,rx,i,a,dx,fs,ex,ea,l,q⟩=>?_) ht
 subst ex
 obtain rfl:u=Value.ref a:=rx
 obtain⟨f,fd,ds,F,hm,hb,hd⟩:=(D i).ex
 refine Xgj I1 ea (D i).cl hm l ?_
 refine PySem.W.callWith_K (first:=[.ref a]) (h₀:=X.base) I.ok.mod.kin hm.kp (thn (ha pos pins s1 σ H1 _ I1 q) fun us s2 ⟨vs,H2,I2,r,q2⟩=>⟨I2.kIn,?_⟩) hst hpl
 exact Xnx (us:=.ref a::us) (vs:=.ref a::vs) F (hr.mono hk) hb hd hx I2 (.cons rfl r) q2
theorem Xbi {pl:Sem Bool}(D:Xba X.prog X.w X.K X.mg X.base C m j ps dvs sp)(hx:Xfd (CXe X.prog X.w) X E)(hr:Room k X.A)(ho:PE X o to)(hk:j≤k:=by decide)
   (ht:eval (.Call (.Attribute o m apos) [] [] pos) X.env=(do
     let ov ←eval o X.env
     standAt apos.atName
     let (f,first) ←holding [ov] (getMethod ov m pl)
     callWith pos f first (backTo pos (starEach [] X.env)) (backToKw pos (keywordEach [] X.env))):=by rfl) :
   PE X (.Call (.Attribute o m apos) [] [] pos) (Xme C m sp dvs E to tNil):=by
 intro pins s σ H Q I h
 refine PySem.W.methodCall_KW (pl:=pl) (thn (ho pins s σ H _ I h) fun u s1 ⟨x,H1,I1,rx,i,a,dx,fs,ex,ea,l,q⟩=>?_) ht
 subst ex
 obtain rfl:u=Value.ref a:=rx
 obtain⟨f,fd,ds,F,hm,hb,hd⟩:=(D i).ex
 refine Xgj I1 ea (D i).cl hm l ?_
 exact PySem.W.callWith_K0 (first:=[.ref a]) I1.kIn hm.kp (Xnx (us:=[.ref a]) (vs:=[.ref a]) F (hr.mono hk) hb hd hx I1 (.cons rfl .nil) q)
end
section
variable {K:PySem.W.Frag}{σ:L2.St}{H:Hp}{Q:VK}{EX:XK}{C:W3→Addr}{m:Str}{sp:W3→Sp}{E:XK}{ta:TE}{t:TA}{dvs:List V}
theorem r_methF (h:ta σ H fun x H1=>∃i a dx fs,x = .ref a∧H1 a=some (.ins (C i) dx fs)∧fs.lookup m=none∧t σ H1 fun vs H2=>sp i (x::vs) H2 Q E):Xme C m sp [] E ta t σ H Q:=by
 unfold Xme
 simp only [List.append_nil]
 exact h
theorem r_methFD (h:ta σ H fun x H1=>∃i a dx fs,x = .ref a∧H1 a=some (.ins (C i) dx fs)∧fs.lookup m=none∧t σ H1 fun vs H2=>sp i (x::(vs++dvs)) H2 Q E):Xme C m sp dvs E ta t σ H Q:=h
theorem r_matF {a dx:Addr}{i:W3}{fs:List (Str×V)}{R:W3→Prop}(h:H a=some (.ins (C i) dx fs))(l:fs.lookup m=none)(q:R i) :
   ∃i' a' dx' fs',V.ref a=V.ref a'∧H a'=some (.ins (C i') dx' fs')∧fs'.lookup m=none∧R i':=⟨i,a,dx,fs,rfl,h,l,q⟩
end
theorem decS {i j:Str}:decide (V.str i=V.str j)=decide (i=j):=by
 rw[Xnc,Bool.eq_iff_iff]
 simp
section
variable {H:Hp}{Q:VK}
theorem r_eqSS {i:Str}(h:Q (.bl true) H):rEq (.str i) (.str i) H Q:=⟨rfl,by rw[decide_eq_true rfl];exact h⟩
theorem r_neSS {i:Str}(h:Q (.bl false) H):rNe (.str i) (.str i) H Q:=⟨rfl,by rw[decide_eq_true rfl];exact h⟩
theorem r_eqSt {i j:Str}(h:Q (.bl (decide (i=j))) H):rEq (.str i) (.str j) H Q:=⟨rfl,by rw[decS];exact h⟩
theorem r_neSt {i j:Str}(h:Q (.bl (!decide (i=j))) H):rNe (.str i) (.str j) H Q:=⟨rfl,by rw[decS];exact h⟩
end
end Stow
namespace Stow
open PySem L2 PyProof.Rows
theorem Xum:∀{xs:List V} {us:List Value},us.length=xs.length→(∀(j:Nat) (v:V) (u:Value),xs[j]?=some v→us[j]?=some u→RelV v u)→Vals xs us
 | [],[],_,_=>.nil
 | x::xs,u::us,hl,h=>.cons (h 0 x u rfl rfl) (Xum (by simpa using hl) fun j v u' h1 h2=>h (j+1) v u' (by simpa using h1) (by simpa using h2))
section
variable {X:Cx}{a:Expr}{ta:TE}
end
section
variable {K:PySem.W.Frag}{σ:L2.St}{H:Hp}{Q:VK}
end
end Stow
namespace Stow
open PySem L2 PyProof.Rows
theorem apart {ps:List Pc}{s e:Int}{y z:Pc}{i:Int}(c:Xas s ps e)(hy:y∈ps)(hz:z∈ps)(hne:y≠z)(h1:z.a≤i)(h2:i<z.a+z.l):i<y.a∨y.a+y.l≤i:=by
 rcases Int.lt_or_le i y.a with g | g
 · exact .inl g
 · rcases Int.lt_or_le i (y.a+y.l) with g2 | g2
   · exact absurd (Xgg c hy hz g g2 h1 h2) hne
   · exact .inr g2
end Stow
namespace Stow
open PySem L2 PyProof.Rows
def eqP (y z:Pc):Bool:=decide (y.a=z.a∧y.l=z.l∧y.v=z.v)
theorem Xgb {y z:Pc}:eqP y z=true↔y=z:=by
 unfold eqP
 rw[decide_eq_true_iff]
 constructor
 · rintro⟨h1,h2,h3⟩
   obtain⟨a,l,v⟩:=y
   obtain⟨a',l',v'⟩:=z
   simp only at h1 h2 h3
   rw[h1,h2,h3]
 · rintro rfl
   exact⟨rfl,rfl,rfl⟩
theorem XFq (y z:Pc):eqVs [.int y.a,.int y.l,.bl y.v] [.int z.a,.int z.l,.bl z.v]=eqP y z:=by
 rw[Bool.eq_iff_iff,Xgb]
 constructor
 · intro h
   unfold eqVs at h
   have h:=List.all_eq_true.mp (Bool.and_eq_true_iff.mp h).1
   have h0:=h 0 (by simp)
   have h1:=h 1 (by simp)
   have h2:=h 2 (by simp)
   have e0:y.a=z.a:=by
     have:decide (y.a=z.a)=true:=h0
     simpa using this
   have e1:y.l=z.l:=by
     have:decide (y.l=z.l)=true:=h1
     simpa using this
   have e2:y.v=z.v:=by
     have g:eqV (.bl y.v) (.bl z.v)=true:=h2
     cases hy:y.v <;> cases hz:z.v <;> rw[hy,hz] at g <;> first | rfl | cases g
   exact Xgb.mp (by unfold eqP;exact decide_eq_true ⟨e0,e1,e2⟩)
 · rintro rfl
   exact Xlz rfl
open Classical in
theorem XNx {X:Cx}(hu:X.A.units+64<cLine):OpR X (compareOp .In) (fun x y H Q=>∃t p us ps z,x = .ref t∧y = .ref p∧H t=some (.tup [.int z.a,.int z.l,.bl z.v])∧H p=some (.lst us)∧Xbz H us ps∧Q (.bl (ps.any fun y=>eqP y z)) H):=by
 intro pins s σ H x y v u Q I rx ry h
 obtain⟨t,p,us,ps,z,rfl,rfl,ht,hp,pa,q⟩:=h
 cases rx
 cases ry
 obtain⟨its,r,pl,hz⟩:=I.list (SqL.of hp)
 have hl:=r.length
 have hpl:=pa.1
 have at':∀w∈its,∃t' z',w = .ref t'∧H t'=some (.tup [.int z'.a,.int z'.l,.bl z'.v])∧z'∈ps:=fun w hw=>by
   obtain⟨i,hi,rfl⟩:=List.mem_iff_getElem.mp hw
   have hip:i<ps.length:=by omega
   obtain⟨t',e1,e2⟩:=pa.2 i ps[i] (by simp [hip])
   obtain⟨u',g1,q1⟩:=r.get e1
   cases q1
   rw[List.getElem?_eq_getElem hi] at g1
   exact⟨t',ps[i],Option.some.inj g1,e2,List.getElem_mem hip⟩
 refine SeqAt.in_listAt (fun w=>decide (∃t' z',w=Value.ref t'∧H t'=some (.tup [.int z'.a,.int z'.l,.bl z'.v])∧eqP z' z=true)) pl.isList (fun w hw=>?_) ⟨.bl _,H,I,rfl,?_⟩
 · obtain⟨t',z',rfl,h1,_⟩:=at' w (by simpa using hw)
   have ev:decide (∃t'' z'',Value.ref t'=Value.ref t''∧H t''=some (.tup [.int z''.a,.int z''.l,.bl z''.v])∧eqP z'' z=true)=eqP z' z:=by
     rw[Bool.eq_iff_iff,decide_eq_true_iff]
     constructor
     · rintro⟨t'',z'',e,g1,g2⟩
       cases e
       rw[h1] at g1
       have e2:=HO.tup.inj (Option.some.inj g1)
       simp only [List.cons.injEq,V.int.injEq,V.bl.injEq,and_true] at e2
       have:z'=z'':=Xgb.mp (by unfold eqP;exact decide_eq_true e2)
       rw[this]
       exact g2
     · exact fun g=>⟨t',z',rfl,h1,g⟩
   rw[ev,←XFq]
   by_cases e:t'=t
   · subst e
     rw[h1] at ht
     rw[HO.tup.inj (Option.some.inj ht),Xlz rfl]
     exact SeqAt.EqAt.same _
   · exact SeqAt.EqAt.of_refs e (XGe (A:=X.A.in1) (by show X.A.units+1<cLine;omega) I (SqT.of h1) (SqT.of ht) rfl rfl)
 · have:its.toArray.any (fun w=>decide (∃t' z',w=Value.ref t'∧H t'=some (.tup [.int z'.a,.int z'.l,.bl z'.v])∧eqP z' z=true))=ps.any fun y=>eqP y z:=by
     rw[List.any_toArray,Bool.eq_iff_iff,List.any_eq_true,List.any_eq_true]
     constructor
     · rintro⟨w,hw,hd⟩
       obtain⟨t',z',e,g1,g2⟩:=of_decide_eq_true hd
       obtain⟨t2,z2,e2,g3,g4⟩:=at' w hw
       rw[e] at e2
       cases e2
       rw[g1] at g3
       have e2:=HO.tup.inj (Option.some.inj g3)
       simp only [List.cons.injEq,V.int.injEq,V.bl.injEq,and_true] at e2
       have:z'=z2:=Xgb.mp (by unfold eqP;exact decide_eq_true e2)
       exact⟨z2,g4,by rw[←this];exact g2⟩
     · rintro⟨y,hy,g⟩
       obtain⟨i,hi,rfl⟩:=List.mem_iff_getElem.mp hy
       obtain⟨t',e1,e2⟩:=pa.2 i ps[i] (by simp [hi])
       obtain⟨u',g1,q1⟩:=r.get e1
       cases q1
       exact⟨_,List.mem_of_getElem? g1,decide_eq_true ⟨t',ps[i],rfl,e2,g⟩⟩
   rw[this]
   exact q
theorem XBv {X:Cx}(hu:X.A.units+64<cLine):OpR X (compareOp .Eq) (fun x y H Q=>∃a b us,x = .ref a∧y = .ref b∧H a=some (.lst us)∧H b=some (.lst [])∧Q (.bl us.isEmpty) H):=by
 intro pins s σ H x y v u Q I rx ry h
 obtain⟨a,b,us,rfl,rfl,ha,hb,q⟩:=h
 cases rx
 cases ry
 obtain⟨its,r1,p1,_⟩:=I.list (SqL.of ha)
 obtain⟨its2,r2,p2,_⟩:=I.list (SqL.of hb)
 have l1:=r1.length
 have l2:=r2.length
 have key:SeqAt.RcAt X.A s (.ref a) (.ref b) us.isEmpty:=by
   cases us with
   | nil =>
     have:=SeqAt.RcAt.lists (A:=X.A) (s:=s) (e:=fun _=>true) p1.isList p2.isList (by rw[List.size_toArray,List.size_toArray];omega) (by omega) fun j h1 h2=>by
       rw[List.size_toArray] at h1
       rw[List.length_nil] at l1
       omega
     have e:((List.range its.toArray.size).all (fun _=>true))=true:=by simp
     rw[e] at this
     exact this
   | cons c r =>
     rw[List.length_cons] at l1
     rw[List.length_nil] at l2
     exact SeqAt.RcAt.lists_lengths p1.isList p2.isList (by rw[List.size_toArray,List.size_toArray];simp;omega) (by omega)
 exact key _ _ _ _ ⟨.bl _,H,I,rfl,q⟩
end Stow
namespace Stow
open PySem L2 PyProof.Rows
def Al (z:Pc):Prop:=∃m q:Nat,z.l=2^m∧z.a=2^m*(q:Int)
theorem pw1 (i:Nat):1≤(2:Int)^i:=Xkz i
theorem pw2 (i:Nat):(2:Int)^(i+1)=2^i+2^i:=by rw[Int.pow_succ];omega
def spl (a:Int)(B e:Nat):List Pc:=(List.range' B e).map fun i:Nat=>⟨a+2^i,2^i,false⟩
theorem Xns (a:Int)(B e:Nat):spl a B (e+1)=⟨a+2^B,2^B,false⟩::spl a (B+1) e:=by
 unfold spl
 rw[List.range'_succ]
 rfl
theorem Xfr (a:Int):∀(e B:Nat),Xas (a+2^B) (spl a B e) (a+2^(B+e))
 | 0,B=>rfl
 | e+1,B=>by
   rw[Xns]
   refine⟨rfl,pw1 B,(fun h=>by cases h),?_⟩
   have:=Xfr a e (B+1)
   rw[pw2,show a+(2^B+2^B)=a+2^B+2^B by omega,show B+1+e=B+(e+1) by omega] at this
   exact this
theorem XAo {a:Int}{B e:Nat}{z:Pc}(h:z∈spl a B e):∃i,B≤i∧i<B+e∧z=⟨a+2^i,2^i,false⟩:=by
 unfold spl at h
 obtain⟨i,hi,e'⟩:=List.mem_map.mp h
 obtain⟨h1,h2⟩:=List.mem_range'_1.mp hi
 exact⟨i,h1,h2,e'.symm⟩
theorem Xxb (i e:Nat):(2:Int)^(i+e)=2^i*2^e:=Int.pow_add 2 i e
theorem Xvd (e:Nat):((2^e:Nat):Int)=2^e:=by
 induction e with
 | zero=>rfl
 | succ e ih=>rw[Nat.pow_succ,Int.natCast_mul,ih,Int.pow_succ];rfl
theorem XAc {a:Int}{M i q:Nat}(h:a=2^M*(q:Int))(hi:i≤M):∃r:Nat,a=2^i*(r:Int):=by
 obtain⟨e,rfl⟩:∃e,M=i+e:=⟨M-i,by omega⟩
 refine⟨2^e*q,?_⟩
 rw[h,Xxb,Int.natCast_mul,Xvd,Int.mul_assoc]
theorem XPc {a:Int}{M B e q:Nat}(h:a=2^M*(q:Int))(hB:B+e≤M):∀z∈spl a B e,Al z:=fun z hz=>by
 obtain⟨i,h1,h2,rfl⟩:=XAo hz
 obtain⟨r,hr⟩:=XAc h (show i≤M by omega)
 refine⟨i,r+1,rfl,?_⟩
 show a+2^i=2^i*((r+1:Nat):Int)
 rw[hr,Int.natCast_add,Int.mul_add]
 simp
def hcP (a:Int)(B M:Nat):List Pc:=⟨a,2^B,true⟩::spl a B (M-B)
theorem Xrs {a:Int}{B M:Nat}(h2:2≤B)(h:B≤M):Xas a (hcP a B M) (a+2^M):=by
 have h3:(3:Int)≤2^B:=by
   have:=Xcm h2
   have e:(2:Int)^2=4:=by decide
   omega
 refine⟨rfl,pw1 B,fun _=>h3,?_⟩
 have:=Xfr a (M-B) B
 rw[show B+(M-B)=M by omega] at this
 exact this
theorem XDy {row:List Int}{ds rs:List Pc}{a:Int}{L e:Nat}(h0:0≤a)(hd:Xds ds a)(hr:Xfc rs (a+2^(L+1+e)))(hl:a+2^(L+1+e)≤row.length)(m:Xat row (ds++(spl a (L+1) e++rs))) :
   a+2^L+2^L≤row.length∧Xat (Xci row (a+2^L) (2^L) false) (ds++(spl a L (e+1)++rs)):=by
 have c:=Xfr a e (L+1)
 have hle:=c.le
 have p1:=pw1 L
 have p2:=pw2 L
 have hb:a+2^L+2^L≤row.length:=by omega
 refine⟨hb,?_⟩
 rw[Xns,List.cons_append]
 refine Xat.lay (by omega) p1 hb (hd.mono (by omega)) ?_ m
 intro p hp
 rcases List.mem_append.mp hp with g | g
 · have:=c.fromOn p g
   omega
 · have:=hr p g
   omega
theorem XFo {row:List Int}{ds rs:List Pc}{a:Int}{B e:Nat}(h0:0≤a)(hd:Xds ds a)(hr:Xfc rs (a+2^(B+e)))(hl:a+2^(B+e)≤row.length)(m:Xat row (ds++(spl a B e++rs))) :
   a+2^B≤row.length∧Xat (Xci row a (2^B) true) (ds++(⟨a,2^B,true⟩::(spl a B e++rs))):=by
 have c:=Xfr a e B
 have hle:=c.le
 have p1:=pw1 B
 have hb:a+2^B≤row.length:=by omega
 refine⟨hb,Xat.lay h0 p1 hb hd ?_ m⟩
 intro p hp
 rcases List.mem_append.mp hp with g | g
 · have:=c.fromOn p g
   omega
 · have:=hr p g
   omega
def Bst (b:Int)(ps:List Pc)(z:Pc):Prop:=z∈ps∧z.v=false∧b≤z.l∧∀y∈ps,y.v=false→b≤y.l→z.l<y.l∨(z.l=y.l∧z.a≤y.a)
theorem Bst.uniq {b n:Int}{ps:List Pc}{z y:Pc}(c:Xas 0 ps n)(h:Bst b ps z)(g:Bst b ps y):z=y:=by
 have h1:=h.2.2.2 y g.1 g.2.1 g.2.2.1
 have h2:=g.2.2.2 z h.1 h.2.1 h.2.2.1
 exact Xce c h.1 g.1 (by omega)
def bud (m q:Nat):Int:=if q%2=0 then 2^m*(q:Int)+2^m else 2^m*(q:Int)-2^m
inductive MgTo (ps:List Pc):List Pc→List Pc→Nat→Nat→List Pc→List Pc→Nat→Nat→Prop
 | stop {ds rs:List Pc} {m q:Nat} (h:(⟨bud m q,2^m,false⟩:Pc) ∉ ps):MgTo ps ds rs m q ds rs m q
 | right {ds rs:List Pc} {m q:Nat} {ds' rs':List Pc} {m' q':Nat} (hq:q%2=0) (h:(⟨bud m q,2^m,false⟩:Pc)∈ps) (k:MgTo ps ds rs (m+1) (q/2) ds' rs' m' q'):MgTo ps ds (⟨bud m q,2^m,false⟩::rs) m q ds' rs' m' q'
 | left {ds rs:List Pc} {m q:Nat} {ds' rs':List Pc} {m' q':Nat} (hq:q%2=1) (h:(⟨bud m q,2^m,false⟩:Pc)∈ps) (k:MgTo ps ds rs (m+1) (q/2) ds' rs' m' q'):MgTo ps (ds++[⟨bud m q,2^m,false⟩]) rs m q ds' rs' m' q'
structure Lie (N:Nat)(ps ds rs:List Pc)(m q:Nat):Prop where
 le:m≤N
 c1:Xas 0 ds (2^m*(q:Int))
 c2:Xas (2^m*(q:Int)+2^m) rs (2^N)
 is:∀z:Pc,(z.a+z.l≤2^m*(q:Int)∨2^m*(q:Int)+2^m≤z.a)→(z∈ps↔z∈ds∨z∈rs)
theorem XHj {m q:Nat}(hq:q%2=0):(2:Int)^(m+1)*((q/2:Nat):Int)=2^m*(q:Int):=by
 obtain⟨r,rfl⟩:∃r,q=2*r:=⟨q/2,by omega⟩
 rw[show 2*r/2=r by omega,Int.pow_succ,Int.natCast_mul,Int.mul_assoc]
 rfl
theorem XRx {m q:Nat}(hq:q%2=1):(2:Int)^(m+1)*((q/2:Nat):Int)=2^m*(q:Int)-2^m:=by
 obtain⟨r,rfl⟩:∃r,q=2*r+1:=⟨q/2,by omega⟩
 rw[show (2*r+1)/2=r by omega,Int.pow_succ,Int.natCast_add,Int.natCast_mul,Int.mul_add,Int.mul_assoc]
 simp
theorem Lie.right {N:Nat}{ps ds rs:List Pc}{m q:Nat}(L:Lie N ps ds rs m q)(hq:q%2=0)(h:(⟨bud m q,2^m,false⟩:Pc)∈ps):∃rs1,rs=⟨bud m q,2^m,false⟩::rs1∧Lie N ps ds rs1 (m+1) (q/2):=by
 have eb:bud m q=2^m*(q:Int)+2^m:=by unfold bud;rw[if_pos hq]
 have p1:=pw1 m
 have p2:=pw2 m
 have ea:=XHj (m:=m) hq
 have hin:(⟨bud m q,2^m,false⟩:Pc)∈rs:=by
   rcases(L.is ⟨bud m q,2^m,false⟩ (.inr (by show _≤bud m q;omega))).mp h with g | g
   · have:=(L.c1.mem _ g).2.2.2
     have:bud m q+2^m≤2^m*(q:Int):=this
     omega
   · exact g
 cases rs with
 | nil=>cases hin
 | cons y r =>
   obtain⟨h0,h1,h3,h4⟩:=L.c2
   have ey:(⟨bud m q,2^m,false⟩:Pc)=y:=Xce (ps:=y::r) ⟨h0,h1,h3,h4⟩ hin List.mem_cons_self (by show bud m q=y.a;omega)
   subst ey
   have h4:Xas (2^m*(q:Int)+2^m+2^m) r (2^N):=h4
   refine⟨r,rfl,?_,by rw[ea];exact L.c1,by rw[ea,p2,show (2:Int)^m*(q:Int)+(2^m+2^m)=2^m*(q:Int)+2^m+2^m by omega];exact h4,fun z hz=>?_⟩
   · have hle:=h4.le
     have hm:(2:Int)^m<2^N:=by
       have:0≤2^m*(q:Int):=Int.mul_nonneg (by omega) (by omega)
       omega
     exact Xlu hm
   · rw[ea,p2] at hz
     rw[L.is z (by omega)]
     constructor
     · rintro(g | g)
       · exact .inl g
       · rcases List.mem_cons.mp g with e | e
         · rw[e] at hz
           have hz:bud m q+2^m≤2^m*(q:Int)∨2^m*(q:Int)+(2^m+2^m)≤bud m q:=hz
           omega
         · exact .inr e
     · rintro(g | g)
       · exact .inl g
       · exact .inr (List.mem_cons_of_mem _ g)
theorem Lie.left {N:Nat}{ps ds rs:List Pc}{m q:Nat}(L:Lie N ps ds rs m q)(hq:q%2=1)(h:(⟨bud m q,2^m,false⟩:Pc)∈ps):∃ds1,ds=ds1++[⟨bud m q,2^m,false⟩]∧Lie N ps ds1 rs (m+1) (q/2):=by
 have eb:bud m q=2^m*(q:Int)-2^m:=by unfold bud;rw[if_neg (by omega)]
 have p1:=pw1 m
 have p2:=pw2 m
 have ea:=XRx (m:=m) hq
 have hin:(⟨bud m q,2^m,false⟩:Pc)∈ds:=by
   rcases(L.is ⟨bud m q,2^m,false⟩ (.inl (by show bud m q+2^m≤_;omega))).mp h with g | g
   · exact g
   · have:=(L.c2.mem _ g).1
     have:2^m*(q:Int)+2^m≤bud m q:=this
     omega
 obtain⟨i,hi⟩:=List.getElem?_of_mem hin
 obtain⟨d1,d2,e1,_,k1,k2⟩:=Xcu L.c1 hi
 have k2:Xas (bud m q+2^m) d2 (2^m*(q:Int)):=k2
 have k1:Xas 0 d1 (bud m q):=k1
 have e2:d2=[]:=by
   cases d2 with
   | nil=>rfl
   | cons y r =>
     have:=k2.le
     rw[List.length_cons] at this
     omega
 subst e2
 have hN:(2:Int)^m*(q:Int)+2^m≤2^N:=by have:=L.c2.le;omega
 refine⟨d1,e1,?_,by rw[ea,←eb];exact k1,by rw[ea,p2,show (2:Int)^m*(q:Int)-2^m+(2^m+2^m)=2^m*(q:Int)+2^m by omega];exact L.c2,fun z hz=>?_⟩
 · have hq1:(2:Int)^m≤2^m*(q:Int):=by
     have:=Int.mul_le_mul_of_nonneg_left (show (1:Int)≤(q:Int) by omega) (show (0:Int)≤2^m by omega)
     omega
   exact Xlu (show (2:Int)^m<2^N by omega)
 · rw[ea,p2] at hz
   rw[L.is z (by omega),e1]
   constructor
   · rintro(g | g)
     · rcases List.mem_append.mp g with e | e
       · exact .inl e
       · rw[List.mem_singleton.mp e] at hz
         have hz:bud m q+2^m≤2^m*(q:Int)-2^m∨2^m*(q:Int)-2^m+(2^m+2^m)≤bud m q:=hz
         omega
     · exact .inr g
   · rintro(g | g)
     · exact .inl (List.mem_append_left _ g)
     · exact .inr g
theorem MgTo.ex {N:Nat}{ps:List Pc}:∀(f:Nat) {ds rs:List Pc} {m q:Nat},N-m≤f→Lie N ps ds rs m q→∃ds' rs' m' q',MgTo ps ds rs m q ds' rs' m' q'∧Lie N ps ds' rs' m' q'
 | f,ds,rs,m,q,hf,L=>by
   by_cases h:(⟨bud m q,2^m,false⟩:Pc)∈ps
   · by_cases hq:q%2=0
     · obtain⟨rs1,e,L1⟩:=L.right hq h
       cases f with
       | zero=>have:=L1.le;omega
       | succ f =>
         obtain⟨ds',rs',m',q',k,L'⟩:=MgTo.ex f (by omega) L1
         exact⟨ds',rs',m',q',by rw[e];exact .right hq h k,L'⟩
     · obtain⟨ds1,e,L1⟩:=L.left (by omega) h
       cases f with
       | zero=>have:=L1.le;omega
       | succ f =>
         obtain⟨ds',rs',m',q',k,L'⟩:=MgTo.ex f (by omega) L1
         exact⟨ds',rs',m',q',by rw[e];exact .left (by omega) h k,L'⟩
   · exact⟨ds,rs,m,q,.stop h,L⟩
end Stow
namespace Stow
open PySem L2 PyProof.Rows
structure Sf where
 n:Int
 b:List Bool
def slP (n:Int):Int→List Bool→List Pc
 | _,[]=>[]
 | A,v::r=>⟨A,n,v⟩::slP n (A+n) r
def shP (s A:Int)(f:Sf):List Pc:=slP f.n A f.b++fr (A+f.n*(f.b.length:Int)) (A+s)
def alP (s:Int):Int→List Sf→List Pc
 | _,[]=>[]
 | A,f::r=>shP s A f++alP s (A+s) r
def SfW (s:Int)(f:Sf):Prop:=(f.n=0∧f.b=[])∨(3≤f.n∧f.n≤s∧f.n*(f.b.length:Int)≤s∧s<f.n*(f.b.length:Int)+f.n)
def SfOk (s:Int)(f:Sf):Prop:=SfW s f∧(f.n≠0→true∈f.b)
theorem Xcc (n:Int)(m:Nat):n*((m+1:Nat):Int)=n*(m:Int)+n:=by
 rw[Int.natCast_add,Int.mul_add]
 simp
theorem Xmt (n:Int):∀(b c:List Bool) (A:Int),slP n A (b++c)=slP n A b++slP n (A+n*(b.length:Int)) c
 | [],c,A=>by simp [slP]
 | v::r,c,A=>by
   have e:=Xcc n r.length
   show (⟨A,n,v⟩:Pc)::slP n (A+n) (r++c)=(⟨A,n,v⟩:Pc)::(slP n (A+n) r++slP n (A+n*((r.length+1:Nat):Int)) c)
   rw[Xmt n r c (A+n),e,show A+n+n*(r.length:Int)=A+(n*(r.length:Int)+n) by omega]
theorem Xlr {n:Int}(h:3≤n):∀(b:List Bool) (A:Int),Xas A (slP n A b) (A+n*(b.length:Int))
 | [],A=>by show A=_;simp
 | v::r,A=>by
   have e:=Xcc n r.length
   refine⟨rfl,by show 1≤n;omega,fun _=>h,?_⟩
   have:=Xlr h r (A+n)
   rw[show A+n+n*(r.length:Int)=A+n*((r.length+1:Nat):Int) by omega] at this
   exact this
theorem Xfu {s A:Int}{f:Sf}(h1:1≤s)(w:SfW s f):Xas A (shP s A f) (A+s):=by
 rcases w with ⟨e1,e2⟩ | ⟨h3,_,h4,_⟩
 · unfold shP
   rw[e1,e2]
   show Xas A (fr (A+0*((0:Nat):Int)) (A+s)) (A+s)
   rw[Int.zero_mul,Int.add_zero]
   exact Xgz (by omega)
 · exact(Xlr h3 f.b A).app (Xgz (by omega))
theorem Xdr {s:Int}(h1:1≤s):∀(fs:List Sf) (A:Int),(∀f∈fs,SfW s f)→Xas A (alP s A fs) (A+s*(fs.length:Int))
 | [],A,_=>by show A=_;simp
 | f::r,A,w=>by
   have e:=Xcc s r.length
   have:=Xdr h1 r (A+s) fun g hg=>w g (List.mem_cons_of_mem _ hg)
   rw[show A+s+s*(r.length:Int)=A+s*((r.length+1:Nat):Int) by omega] at this
   exact(Xfu h1 (w f List.mem_cons_self)).app this
theorem Xka (s:Int):∀(b c:List Sf) (A:Int),alP s A (b++c)=alP s A b++alP s (A+s*(b.length:Int)) c
 | [],c,A=>by simp [alP]
 | f::r,c,A=>by
   have e:=Xcc s r.length
   show shP s A f++alP s (A+s) (r++c)=(shP s A f++alP s (A+s) r)++alP s (A+s*((r.length+1:Nat):Int)) c
   rw[Xka s r c (A+s),e,show A+s+s*(r.length:Int)=A+(s*(r.length:Int)+s) by omega,List.append_assoc]
theorem Xej {α:Type}{xs:List α}{j:Nat}{x:α}(h:xs[j]?=some x):xs=xs.take j++x::xs.drop (j+1)∧(xs.take j).length=j∧∀y,xs.set j y=xs.take j++y::xs.drop (j+1):=by
 obtain⟨hj,hx⟩:=List.getElem?_eq_some_iff.mp h
 have e:xs=xs.take j++x::xs.drop (j+1):=by
   rw[←hx,←List.drop_eq_getElem_cons hj,List.take_append_drop]
 have l:(xs.take j).length=j:=by rw[List.length_take];omega
 refine⟨e,l,fun y=>?_⟩
 have:(xs.take j++x::xs.drop (j+1)).set j y=xs.take j++y::xs.drop (j+1):=by
   rw[List.set_append_right _ _ (by omega),l,Nat.sub_self,List.set_cons_zero]
 rw[←e] at this
 exact this
theorem Xie {α:Type}{xs:List α}{j:Nat}{x:α}(h:xs[j]?=some x):xs.set j x=xs:=by
 obtain⟨e,_,g⟩:=Xej h
 rw[g x]
 exact e.symm
theorem Xes {s:Int}{fs:List Sf}{j:Nat}{f:Sf}(h1:1≤s)(w:∀f∈fs,SfW s f)(h:fs[j]?=some f):∃ds rs,(∀g,alP s 0 (fs.set j g)=ds++(shP s (s*(j:Int)) g++rs))∧Xas 0 ds (s*(j:Int))∧Xas (s*(j:Int)+s) rs (s*(fs.length:Int)):=by
 obtain⟨e,l,g⟩:=Xej h
 have hj:j<fs.length:=(List.getElem?_eq_some_iff.mp h).1
 refine⟨alP s 0 (fs.take j),alP s (s*(j:Int)+s) (fs.drop (j+1)),fun y=>?_,?_,?_⟩
 · rw[g y,Xka,l,Int.zero_add]
   rfl
 · have:=Xdr h1 (fs.take j) 0 fun f hf=>w f (List.mem_of_mem_take hf)
   rw[l,Int.zero_add] at this
   exact this
 · have:=Xdr h1 (fs.drop (j+1)) (s*(j:Int)+s) fun f hf=>w f (List.mem_of_mem_drop hf)
   rw[List.length_drop] at this
   have e2:s*(j:Int)+s+s*((fs.length-(j+1):Nat):Int)=s*(fs.length:Int):=by
     rw[←Xcc,←Int.mul_add,←Int.natCast_add,show j+1+(fs.length-(j+1))=fs.length by omega]
   rw[e2] at this
   exact this
theorem Xhh {s:Int}{fs:List Sf}{j:Nat}{f:Sf}(h:fs[j]?=some f):alP s 0 (fs.set j f)=alP s 0 fs:=by rw[Xie h]
theorem Xmu {n A:Int}{b:List Bool}{i:Nat}{v0:Bool}(h:b[i]?=some v0):∃ds rs,∀v,slP n A (b.set i v)=ds++⟨A+n*(i:Int),n,v⟩::rs:=by
 obtain⟨_,l,g⟩:=Xej h
 refine⟨slP n A (b.take i),slP n (A+n*(i:Int)+n) (b.drop (i+1)),fun v=>?_⟩
 rw[g v,Xmt,l]
 rfl
theorem XBl {s:Int}{fs:List Sf}{j i:Nat}{n:Int}{b:List Bool}{v0:Bool}(h1:1≤s)(w:∀f∈fs,SfW s f)(h:fs[j]?=some ⟨n,b⟩)(hb:b[i]?=some v0):∃ds rs,∀v,alP s 0 (fs.set j ⟨n,b.set i v⟩)=ds++⟨s*(j:Int)+n*(i:Int),n,v⟩::rs:=by
 obtain⟨ds,rs,e,_,_⟩:=Xes h1 w h
 obtain⟨d2,r2,e2⟩:=Xmu (n:=n) (A:=s*(j:Int)) hb
 refine⟨ds++d2,r2++fr (s*(j:Int)+n*(b.length:Int)) (s*(j:Int)+s)++rs,fun v=>?_⟩
 rw[e ⟨n,b.set i v⟩]
 unfold shP
 show ds++((slP n (s*(j:Int)) (b.set i v)++fr (s*(j:Int)+n*((b.set i v).length:Int)) (s*(j:Int)+s))++rs)=_
 rw[e2 v,List.length_set]
 simp [List.append_assoc]
theorem Xep {s:Int}{fs:List Sf}{j i:Nat}{n:Int}{b:List Bool}{v0:Bool}(h:fs[j]?=some ⟨n,b⟩)(hb:b[i]?=some v0):alP s 0 (fs.set j ⟨n,b.set i v0⟩)=alP s 0 fs:=by rw[Xie hb,Xie h]
theorem XHy {s:Int}{fs:List Sf}{j:Nat}{g:Sf}(w:∀f∈fs,SfW s f)(hg:SfW s g):∀f∈fs.set j g,SfW s f:=fun f hf=>by
 rcases List.mem_or_eq_of_mem_set hf with h | h
 · exact w f h
 · rw[h];exact hg
theorem Xkt {s:Int}{n:Int}{b:List Bool}{i:Nat}{v:Bool}(w:SfW s ⟨n,b⟩)(hb:i<b.length):SfW s ⟨n,b.set i v⟩:=by
 rcases w with ⟨e1,e2⟩ | h
 · have e2:b=[]:=e2
   rw[e2] at hb
   exact absurd hb (Nat.not_lt_zero _)
 · right
   show 3≤n∧n≤s∧n*((b.set i v).length:Int)≤s∧s<n*((b.set i v).length:Int)+n
   rw[List.length_set]
   exact h
theorem Xoq {s:Int}{fs:List Sf}{cs:List Int}{j i:Nat}{n:Int}{b:List Bool}{v0 v:Bool}(h1:1≤s)(w:∀f∈fs,SfW s f)(h:fs[j]?=some ⟨n,b⟩)(hb:b[i]?=some v0)(hl:(cs.length:Int)=s*(fs.length:Int))(m:Xat cs (alP s 0 fs)) :
   0≤s*(j:Int)+n*(i:Int)∧3≤n∧s*(j:Int)+n*(i:Int)+n≤cs.length∧(⟨s*(j:Int)+n*(i:Int),n,v0⟩:Pc)∈alP s 0 fs∧Xat (Xci cs (s*(j:Int)+n*(i:Int)) n v) (alP s 0 (fs.set j ⟨n,b.set i v⟩)):=by
 obtain⟨ds,rs,e⟩:=XBl h1 w h hb
 have c:=Xdr h1 fs 0 w
 rw[Int.zero_add,←hl,←Xep h hb,e v0] at c
 rw[←Xep h hb,e v0] at m
 have hib:i<b.length:=(List.getElem?_eq_some_iff.mp hb).1
 have n3:3≤n:=by
   rcases w _ (List.mem_of_getElem? h) with ⟨_,e2⟩ | g
   · have e2:b=[]:=e2
     rw[e2] at hib
     exact absurd hib (Nat.not_lt_zero _)
   · exact g.1
 have hm:=c.mem ⟨s*(j:Int)+n*(i:Int),n,v0⟩ (List.mem_append_right _ List.mem_cons_self)
 obtain⟨k,c1,c2⟩:=Xgh c
 obtain⟨ea,_,_,c3⟩:=c2
 have ea:s*(j:Int)+n*(i:Int)=k:=ea
 have c3:Xas (k+n) rs cs.length:=c3
 refine⟨hm.1,n3,hm.2.2.2,?_,?_⟩
 · rw[←Xep h hb,e v0]
   exact List.mem_append_right _ List.mem_cons_self
 rw[e v,ea]
 refine Xat.lay (by omega) (by omega) (by have:=hm.2.2.2;show k+n≤cs.length;rw[←ea];exact this) (c1.endBy (Int.le_refl 0)) c3.fromOn (m.sub fun p hp=>?_)
 rcases List.mem_append.mp hp with g | g
 · exact List.mem_append_left _ g
 · exact List.mem_append_right _ (List.mem_cons_of_mem _ g)
theorem Xdq {s A:Int}(h1:1≤s):shP s A ⟨0,[]⟩=[⟨A,s,false⟩]:=by
 unfold shP
 show []++fr (A+0*((0:Nat):Int)) (A+s)=_
 rw[Int.zero_mul,Int.add_zero,List.nil_append]
 unfold fr
 rw[if_neg (by omega),show A+s-A=s by omega]
theorem Xmk {s:Int}{fs:List Sf}{cs:List Int}{j:Nat}{f:Sf}(h1:1≤s)(w:∀f∈fs,SfW s f)(h:fs[j]?=some f)(hl:(cs.length:Int)=s*(fs.length:Int))(m:Xat cs (alP s 0 fs)) :
   0≤s*(j:Int)∧s*(j:Int)+s≤cs.length∧Xat (Xci cs (s*(j:Int)) s false) (alP s 0 (fs.set j ⟨0,[]⟩)):=by
 obtain⟨ds,rs,e,c1,c2⟩:=Xes h1 w h
 have l1:=c1.le
 have l2:=c2.le
 rw[←Xhh h,e f] at m
 refine⟨by omega,by omega,?_⟩
 rw[e,Xdq h1]
 exact Xat.lay (by omega) h1 (by omega) (c1.endBy (Int.le_refl 0)) c2.fromOn (m.sub fun p hp=>by
   rcases List.mem_append.mp hp with g | g
   · exact List.mem_append_left _ g
   · exact List.mem_append_right _ (List.mem_append_right _ g))
def ctP (A e k:Int)(i:Nat):List Pc:=(List.range i).map fun j:Nat=>⟨A+k*(j:Int),min k (e-(A+k*(j:Int))),false⟩
theorem Xgt (A e k:Int)(i:Nat):ctP A e k (i+1)=ctP A e k i++[⟨A+k*(i:Int),min k (e-(A+k*(i:Int))),false⟩]:=by
 unfold ctP
 rw[List.range_succ,List.map_append]
 rfl
theorem XHe (k A:Int)(i:Nat):slP k A (List.replicate (i+1) false)=slP k A (List.replicate i false)++[⟨A+k*(i:Int),k,false⟩]:=by
 rw[List.replicate_succ',Xmt,List.length_replicate]
 rfl
theorem Xju {A s k:Int}(h1:1≤k):∀i:Nat,k*(i:Int)≤s→ctP A (A+s) k i=slP k A (List.replicate i false)
 | 0,_=>rfl
 | i+1,h=>by
   rw[Xcc] at h
   rw[Xgt,XHe,Xju h1 i (by omega),show min k (A+s-(A+k*(i:Int)))=k by omega]
theorem XEd {A s k:Int}{n q:Nat}(h1:1≤k)(hq1:k*(q:Int)≤s)(hq2:s<k*(q:Int)+k)(hn:n=q+(if k*(q:Int)=s then 0 else 1)):ctP A (A+s) k n=shP s A ⟨k,List.replicate q false⟩:=by
 unfold shP
 show _=slP k A (List.replicate q false)++fr (A+k*((List.replicate q false).length:Int)) (A+s)
 rw[List.length_replicate]
 unfold fr
 by_cases e:k*(q:Int)=s
 · rw[if_pos e,Nat.add_zero] at hn
   rw[hn,Xju h1 q hq1,if_pos (by omega),List.append_nil]
 · rw[if_neg e] at hn
   rw[hn,Xgt,Xju h1 q hq1,if_neg (by omega),show min k (A+s-(A+k*(q:Int)))=A+s-(A+k*(q:Int)) by omega]
theorem Xoe {A e k:Int}(h0:0≤A)(h1:1≤k):∀i:Nat,(∀j:Nat,j<i→A+k*(j:Int)<e)→Xds (ctP A e k i) (A+k*(i:Int))
 | 0,_=>fun p hp=>by cases hp
 | i+1,h=>fun p hp=>by
   rw[Xgt] at hp
   have e1:=Xcc k i
   have k0:0≤k*(i:Int):=Int.mul_nonneg (by omega) (by omega)
   rcases List.mem_append.mp hp with g | g
   · have:=Xoe h0 h1 i (fun j hj=>h j (by omega)) p g
     omega
   · rw[List.mem_singleton.mp g]
     have:=h i (by omega)
     show 0≤A+k*(i:Int)∧1≤min k (e-(A+k*(i:Int)))∧A+k*(i:Int)+min k (e-(A+k*(i:Int)))≤A+k*((i+1:Nat):Int)
     omega
theorem XEa {cs:List Int}{ds rs:List Pc}{A e k:Int}{i:Nat}(h0:0≤A)(h1:1≤k)(hd:Xds ds A)(hr:Xfc rs e)(hl:e≤cs.length)(hi:∀j:Nat,j<i+1→A+k*(j:Int)<e)(m:Xat cs (ds++ctP A e k i++rs)) :
   0≤A+k*(i:Int)∧1≤min k (e-(A+k*(i:Int)))∧A+k*(i:Int)+min k (e-(A+k*(i:Int)))≤cs.length∧Xat (Xci cs (A+k*(i:Int)) (min k (e-(A+k*(i:Int)))) false) (ds++ctP A e k (i+1)++rs):=by
 have k0:0≤k*(i:Int):=Int.mul_nonneg (by omega) (by omega)
 have hii:=hi i (by omega)
 refine⟨by omega,by omega,by omega,?_⟩
 rw[Xgt,←List.append_assoc,List.append_assoc _ [_] rs]
 exact Xat.lay (by omega) (by omega) (by omega) ((hd.mono (by omega)).app (Xoe h0 h1 i fun j hj=>hi j (by omega))) (fun p hp=>by have:=hr p hp;omega) m
end Stow
namespace Stow
open PySem L2 PyProof.Rows
def fitF (ps:List Pc)(k:Int):List Int:=(ps.filter fun z=>!z.v&&decide (z.l=k)).map (·.a)
def Xew (cs:List Int)(ps:List Pc)(k s:Int):List Int:=(fitF ps k).filter fun a=>decide (cs.getD (a-a%s).toNat 0/2=k)
theorem Xfp (p q:List Pc)(k:Int):fitF (p++q) k=fitF p k++fitF q k:=by unfold fitF;rw[List.filter_append,List.map_append]
theorem Xhm (cs:List Int)(p q:List Pc)(k s:Int):Xew cs (p++q) k s=Xew cs p k s++Xew cs q k s:=by unfold Xew;rw[Xfp,List.filter_append]
theorem Xlp {ps:List Pc}{k:Int}{i:Nat}(h:i<ps.length):fitF (ps.take (i+1)) k=fitF (ps.take i) k++(if (!ps[i].v&&decide (ps[i].l=k))=true then [ps[i].a] else []):=by
 unfold fitF
 rw[List.take_add_one,List.getElem?_eq_getElem h,List.filter_append,List.map_append]
 congr 1
 simp only [Option.toList_some,List.filter_cons,List.filter_nil]
 split <;> rfl
theorem Xkj {ps:List Pc}{k a:Int}(h:a∈fitF ps k):∃z∈ps,z.v=false∧z.l=k∧z.a=a:=by
 unfold fitF at h
 obtain⟨z,hz,e⟩:=List.mem_map.mp h
 obtain⟨h1,h2⟩:=List.mem_filter.mp hz
 obtain⟨h3,h4⟩:=Bool.and_eq_true_iff.mp h2
 exact⟨z,h1,by simpa using h3,of_decide_eq_true h4,e⟩
theorem Xmg {ps:List Pc}{k:Int}(h:∀z∈ps,z.v=false→z.l≠k):fitF ps k=[]:=by
 cases e:fitF ps k with
 | nil=>rfl
 | cons a r =>
   obtain⟨z,h1,h2,h3,_⟩:=Xkj (show a∈fitF ps k by rw[e];exact List.mem_cons_self)
   exact absurd h3 (h z h1 h2)
theorem XDb {ps:List Pc}{k e:Int}{a:Int}(c:Xas 0 ps e)(h:a∈fitF ps k):0≤a∧a<e:=by
 obtain⟨z,hz,_,_,rfl⟩:=Xkj h
 obtain⟨h1,h2,_,h3⟩:=c.mem z hz
 omega
theorem Xwm {a s:Int}(h:0≤a)(hs:1≤s):0≤a-a%s∧a-a%s≤a:=by
 have h1:=Int.emod_nonneg a (show s≠0 by omega)
 have h2:=Int.mul_ediv_add_emod a s
 have h3:0≤s*(a/s):=Int.mul_nonneg (by omega) (Int.ediv_nonneg h (by omega))
 omega
theorem Xko {a s:Int}{j:Nat}(h1:s*(j:Int)≤a)(h2:a<s*(j:Int)+s):a-a%s=s*(j:Int)∧a/s=(j:Int)∧a%s=a-s*(j:Int):=by
 have hs:0<s:=by omega
 have e:a%s=a-s*(j:Int):=by
   have:=Int.add_mul_emod_self_left (a-s*(j:Int)) s (j:Int)
   rw[Int.sub_add_cancel] at this
   rw[this]
   exact Int.emod_eq_of_lt (by omega) (by omega)
 refine⟨by omega,?_,e⟩
 have h3:=Int.mul_ediv_add_emod a s
 rw[e] at h3
 have h4:s*(a/s)=s*(j:Int):=by omega
 exact Int.eq_of_mul_eq_mul_left (by omega) h4
theorem Xnl {n:Int}:∀{b:List Bool} {A:Int} {z:Pc},z∈slP n A b→z.l=n∧z.v∈b
 | v::r,A,z,h=>by
   rcases List.mem_cons.mp h with e | g
   · rw[e]
     exact⟨rfl,List.mem_cons_self⟩
   · obtain⟨h1,h2⟩:=Xnl g
     exact⟨h1,List.mem_cons_of_mem _ h2⟩
theorem Xqx {b e:Int}{z:Pc}(h:z∈fr b e):z.a=b∧z.l=e-b∧z.v=false:=by
 unfold fr at h
 split at h
 · cases h
 · rw[List.mem_singleton.mp h]
   exact⟨rfl,rfl,rfl⟩
def flS (s:Int)(f:Sf):Int:=if f.n=0 then s else f.n
theorem Xqk {s A:Int}{f:Sf}(h1:1≤s)(w:SfW s f):∃v r,shP s A f=⟨A,flS s f,v⟩::r:=by
 rcases w with ⟨e1,e2⟩ | ⟨h3,hn,h4,h5⟩
 · obtain⟨n,b⟩:=f
   have e1:n=0:=e1
   have e2:b=[]:=e2
   subst e1 e2
   exact⟨false,[],by rw[Xdq h1];rfl⟩
 · obtain⟨n,b⟩:=f
   cases b with
   | nil =>
     have h5:s<n*((0:Nat):Int)+n:=h5
     have hn:n≤s:=hn
     simp at h5
     omega
   | cons v r =>
     have h3:3≤n:=h3
     refine⟨v,slP n (A+n) r++fr (A+n*(((v::r).length:Nat):Int)) (A+s),?_⟩
     unfold flS
     rw[if_neg (show n≠0 by omega)]
     rfl
theorem Xik {s k:Int}{f:Sf}{cs:List Int}{j:Nat}(h1:1≤s)(w:SfW s f)(m:Xat cs (shP s (s*(j:Int)) f)):Xew cs (shP s (s*(j:Int)) f) k s=if flS s f=k then fitF (shP s (s*(j:Int)) f) k else []:=by
 obtain⟨v,r,e⟩:=Xqk (A:=s*(j:Int)) h1 w
 have hm:cs[(s*(j:Int)).toNat]?=some (mkOf (flS s f) v):=(m ⟨s*(j:Int),flS s f,v⟩ (by rw[e];exact List.mem_cons_self)).1
 have c:=Xfu (A:=s*(j:Int)) h1 w
 have hd:∀a∈fitF (shP s (s*(j:Int)) f) k,cs.getD (a-a%s).toNat 0/2=flS s f:=fun a ha=>by
   obtain⟨z,hz,_,_,rfl⟩:=Xkj ha
   obtain⟨c1,c2,_,c3⟩:=c.mem z hz
   rw[(Xko c1 (by omega)).1,Xeg hm]
   exact Xht _ _
 unfold Xew
 by_cases g:flS s f=k
 · rw[if_pos g]
   exact List.filter_eq_self.mpr fun a ha=>decide_eq_true (by rw[hd a ha];exact g)
 · rw[if_neg g]
   exact List.filter_eq_nil_iff.mpr fun a ha h=>g (by rw[←hd a ha];exact of_decide_eq_true h)
theorem Xpg {s k:Int}{f:Sf}{cs:List Int}{j:Nat}(h1:1≤s)(w:SfW s f)(m:Xat cs (shP s (s*(j:Int)) f))(hk:¬(f.n=k∧false∈f.b))(h0:¬(k=s∧f.n=0))(k1:1≤k):Xew cs (shP s (s*(j:Int)) f) k s=[]:=by
 rw[Xik h1 w m]
 split
 · rename_i g
   refine Xmg fun z hz hv hl=>?_
   unfold flS at g
   rcases w with ⟨e1,e2⟩ | ⟨h3,_,h4,h5⟩
   · rw[if_pos e1] at g
     exact h0 ⟨g.symm,e1⟩
   · rw[if_neg (by omega)] at g
     unfold shP at hz
     rcases List.mem_append.mp hz with q | q
     · obtain⟨_,q2⟩:=Xnl q
       rw[hv] at q2
       exact hk ⟨g,q2⟩
     · obtain⟨_,q2,_⟩:=Xqx q
       omega
 · rfl
theorem Xkb {s k:Int}{cs:List Int}(h1:1≤s)(k1:1≤k):∀{fs:List Sf} {j:Nat},(∀f∈fs,SfW s f)→Xat cs (alP s (s*(j:Int)) fs)→(∀f∈fs,¬(f.n=k∧false∈f.b)∧¬(k=s∧f.n=0))→Xew cs (alP s (s*(j:Int)) fs) k s=[]
 | [],_,_,_,_=>rfl
 | f::r,j,w,m,h=>by
   have m:Xat cs (shP s (s*(j:Int)) f++alP s (s*(j:Int)+s) r):=m
   show Xew cs (shP s (s*(j:Int)) f++alP s (s*(j:Int)+s) r) k s=[]
   obtain⟨g1,g2⟩:=h f List.mem_cons_self
   rw[Xhm,Xpg h1 (w f List.mem_cons_self) (m.sub fun p hp=>List.mem_append_left _ hp) g1 g2 k1,←Xcc,List.nil_append]
   exact Xkb h1 k1 (fun g hg=>w g (List.mem_cons_of_mem _ hg)) (by rw[Xcc];exact m.sub fun p hp=>List.mem_append_right _ hp) fun g hg=>h g (List.mem_cons_of_mem _ hg)
theorem Xsh {k:Int}:∀{b:List Bool} {A:Int} {i:Nat},b[i]?=some false→(∀i':Nat,i'<i→b[i']?≠some false)→∃r,fitF (slP k A b) k=(A+k*(i:Int))::r
 | v::r,A,0,h,_=>by
   have e:v=false:=Option.some.inj h
   subst e
   refine⟨fitF (slP k (A+k) r) k,?_⟩
   show ((⟨A,k,false⟩::slP k (A+k) r).filter fun z=>!z.v&&decide (z.l=k)).map (·.a)=_
   rw[List.filter_cons,if_pos (by simp)]
   simp [fitF]
 | v::r,A,i+1,h,g=>by
   have e:v=true:=by
     cases v with
     | true=>rfl
     | false=>exact absurd rfl (g 0 (Nat.succ_pos _))
   subst e
   obtain⟨q,hq⟩:=Xsh (k:=k) (b:=r) (A:=A+k) (i:=i) h fun i' hi=>g (i'+1) (by omega)
   refine⟨q,?_⟩
   show ((⟨A,k,true⟩::slP k (A+k) r).filter fun z=>!z.v&&decide (z.l=k)).map (·.a)=_
   rw[List.filter_cons,if_neg (by simp)]
   rw[Xcc,show A+(k*(i:Int)+k)=A+k+k*(i:Int) by omega]
   exact hq
theorem Xui {s k:Int}{cs:List Int}{fs:List Sf}{j i:Nat}{b:List Bool}(h1:1≤s)(k3:3≤k)(w:∀f∈fs,SfW s f)(m:Xat cs (alP s 0 fs))(h:fs[j]?=some ⟨k,b⟩)(hb:b[i]?=some false)(hi:∀i':Nat,i'<i→b[i']?≠some false)
   (hj:∀(j':Nat) (f:Sf),j'<j→fs[j']?=some f→¬(f.n=k∧false∈f.b)∧¬(k=s∧f.n=0)):∃r,Xew cs (alP s 0 fs) k s=(s*(j:Int)+k*(i:Int))::r:=by
 obtain⟨e,l,_⟩:=Xej h
 have wj:=w _ (List.mem_of_getElem? h)
 have ea:alP s 0 fs=alP s 0 (fs.take j)++(shP s (s*(j:Int)) ⟨k,b⟩++alP s (s*(j:Int)+s) (fs.drop (j+1))):=by
   have:=congrArg (alP s 0) e
   rw[Xka,l,Int.zero_add] at this
   exact this
 rw[ea] at m ⊢
 have n1:Xew cs (alP s 0 (fs.take j)) k s=[]:=by
   have:=Xkb (cs:=cs) (j:=0) h1 (by omega) (fs:=fs.take j) (k:=k) (fun f hf=>w f (List.mem_of_mem_take hf)) (by rw[show s*((0:Nat):Int)=0 by simp];exact m.sub fun p hp=>List.mem_append_left _ hp) fun f hf=>by
     obtain⟨j',hj'⟩:=List.getElem?_of_mem hf
     have hl:j'<j:=by
       have:=(List.getElem?_eq_some_iff.mp hj').1
       omega
     rw[List.getElem?_take_of_lt hl] at hj'
     exact hj j' f hl hj'
   rw[show s*((0:Nat):Int)=0 by simp] at this
   exact this
 obtain⟨r,hr⟩:=Xsh (k:=k) (A:=s*(j:Int)) hb hi
 rw[Xhm,n1,Xhm,Xik h1 wj (m.sub fun p hp=>List.mem_append_right _ (List.mem_append_left _ hp)),if_pos (show flS s ⟨k,b⟩=k by unfold flS;rw[if_neg (show k≠0 by omega)])]
 refine⟨r++fitF (fr (s*(j:Int)+k*(b.length:Int)) (s*(j:Int)+s)) k++Xew cs (alP s (s*(j:Int)+s) (fs.drop (j+1))) k s,?_⟩
 unfold shP
 rw[Xfp]
 show []++((fitF (slP k (s*(j:Int)) b) k++fitF (fr (s*(j:Int)+k*(b.length:Int)) (s*(j:Int)+s)) k)++_)=_
 rw[hr]
 simp [List.append_assoc]
theorem Xhr {s A:Int}{f:Sf}(h1:1≤s)(o:SfOk s f):fitF (shP s A f) s=if f.n=0 then [A] else []:=by
 obtain⟨w,t⟩:=o
 rcases w with ⟨e1,e2⟩ | ⟨h3,hn,h4,h5⟩
 · obtain⟨n,b⟩:=f
   have e1:n=0:=e1
   have e2:b=[]:=e2
   subst e1 e2
   rw[Xdq h1,if_pos rfl]
   unfold fitF
   rw[List.filter_cons,if_pos (by simp)]
   rfl
 · have h0:f.n≠0:=by omega
   rw[if_neg h0]
   refine Xmg fun z hz hv hl=>?_
   unfold shP at hz
   have tt:=t h0
   have hlen:1≤f.b.length:=by
     rcases hb:f.b with _ | ⟨v,r⟩
     · rw[hb] at tt;cases tt
     · simp
   rcases List.mem_append.mp hz with q | q
   · obtain⟨q1,q2⟩:=Xnl q
     have hns:f.n=s:=by omega
     rw[hns] at h4
     have hl1:f.b.length≤1:=by
       refine Nat.le_of_not_lt fun h=>?_
       have:s*(2:Int)≤s*(f.b.length:Int):=Int.mul_le_mul_of_nonneg_left (by omega) (by omega)
       omega
     rcases hb:f.b with _ | ⟨v,r⟩
     · rw[hb] at tt;cases tt
     · rw[hb,List.length_cons] at hl1
       have hr:r=[]:=List.length_eq_zero_iff.mp (by omega)
       rw[hb,hr] at tt q2
       have e1:=List.mem_singleton.mp tt
       have e2:=List.mem_singleton.mp q2
       rw[hv,←e1] at e2
       cases e2
   · obtain⟨_,q2,_⟩:=Xqx q
     have:f.n*(1:Int)≤f.n*(f.b.length:Int):=Int.mul_le_mul_of_nonneg_left (by omega) (by omega)
     omega
theorem Xni {s:Int}(h1:1≤s):∀{fs:List Sf} {A:Int},(∀f∈fs,SfOk s f)→(∀f∈fs,f.n≠0)→fitF (alP s A fs) s=[]
 | [],_,_,_=>rfl
 | f::r,A,o,h=>by
   show fitF (shP s A f++alP s (A+s) r) s=[]
   rw[Xfp,Xhr h1 (o f List.mem_cons_self),if_neg (h f List.mem_cons_self),List.nil_append]
   exact Xni h1 (fun g hg=>o g (List.mem_cons_of_mem _ hg)) fun g hg=>h g (List.mem_cons_of_mem _ hg)
theorem Xwe {s:Int}{fs:List Sf}{j:Nat}{f:Sf}(h1:1≤s)(o:∀f∈fs,SfOk s f)(h:fs[j]?=some f)(h0:f.n=0)(hj:∀(j':Nat) (f:Sf),j'<j→fs[j']?=some f→f.n≠0):∃r,fitF (alP s 0 fs) s=(s*(j:Int))::r:=by
 obtain⟨e,l,_⟩:=Xej h
 have ea:alP s 0 fs=alP s 0 (fs.take j)++(shP s (s*(j:Int)) f++alP s (s*(j:Int)+s) (fs.drop (j+1))):=by
   have:=congrArg (alP s 0) e
   rw[Xka,l,Int.zero_add] at this
   exact this
 have n1:fitF (alP s 0 (fs.take j)) s=[]:=Xni h1 (fun f hf=>o f (List.mem_of_mem_take hf)) fun f hf=>by
   obtain⟨j',hj'⟩:=List.getElem?_of_mem hf
   have hl:j'<j:=by
     have:=(List.getElem?_eq_some_iff.mp hj').1
     omega
   rw[List.getElem?_take_of_lt hl] at hj'
   exact hj j' f hl hj'
 rw[ea,Xfp,n1,Xfp,Xhr h1 (o f (List.mem_of_getElem? h)),if_pos h0]
 exact⟨_,rfl⟩
def NoGr (s k:Int)(fs:List Sf):Prop:=(∀f∈fs,¬(f.n=k∧false∈f.b))∧(s<k∨∀f∈fs,f.n≠0)
def Gs (s k:Int)(fs:List Sf)(j i:Nat)(b:List Bool)(fs1:List Sf):Prop :=
 fs1[j]?=some ⟨k,b⟩∧b[i]?=some false∧(∀i':Nat,i'<i→b[i']?≠some false)∧(∀(j':Nat) (f:Sf),j'<j→fs[j']?=some f→¬(f.n=k∧false∈f.b)) ∧
 (fs1=fs∨((∀f∈fs,¬(f.n=k∧false∈f.b))∧k≤s∧i=0∧b=List.replicate (s/k).toNat false∧(∃f,fs[j]?=some f∧f.n=0)∧(∀(j':Nat) (f:Sf),j'<j→fs[j']?=some f→f.n≠0)∧fs1=fs.set j ⟨k,b⟩))
theorem Xgi {s k:Int}(h1:1≤k)(h2:k≤s):k*((s/k).toNat:Int)≤s∧s<k*((s/k).toNat:Int)+k∧1≤(s/k).toNat:=by
 have a1:=Int.mul_ediv_add_emod s k
 have a2:=Int.emod_nonneg s (show k≠0 by omega)
 have a3:=Int.emod_lt_of_pos s (show 0<k by omega)
 have a4:1≤s/k:=Int.le_ediv_of_mul_le (by omega) (by omega)
 have a5:((s/k).toNat:Int)=s/k:=Int.toNat_of_nonneg (by omega)
 rw[a5]
 omega
theorem Xsn {s k:Int}{f:Sf}(h1:1≤s)(o:SfOk s f)(hk:f.n=k)(ks:k=s):false ∉ f.b:=fun hf=>by
 have h:=Xhr (A:=0) h1 o
 obtain⟨w,t⟩:=o
 rcases w with ⟨e1,e2⟩ | ⟨h3,hn,h4,h5⟩
 · rw[e2] at hf;cases hf
 · rw[if_neg (by omega)] at h
   obtain⟨i,hi⟩:=List.getElem?_of_mem hf
   have hm:(⟨0+f.n*(i:Int),f.n,false⟩:Pc)∈slP f.n 0 f.b:=by
     obtain⟨ds,rs,e⟩:=Xmu (n:=f.n) (A:=0) hi
     have:=e false
     rw[Xie hi] at this
     rw[this]
     exact List.mem_append_right _ List.mem_cons_self
   have:(0+f.n*(i:Int))∈fitF (shP s 0 f) s:=by
     unfold fitF shP
     exact List.mem_map.mpr ⟨_,List.mem_filter.mpr ⟨List.mem_append_left _ hm,by simp;omega⟩,rfl⟩
   rw[h] at this
   cases this
theorem Gs.W {s k:Int}{fs fs1:List Sf}{j i:Nat}{b:List Bool}(g:Gs s k fs j i b fs1)(k3:3≤k)(o:∀f∈fs,SfOk s f):∀f∈fs1,SfW s f:=by
 obtain⟨_,_,_,_,e | ⟨_,ks,_,eb,_,_,e⟩⟩:=g
 · rw[e]
   exact fun f hf=>(o f hf).1
 · rw[e]
   obtain⟨d1,d2,_⟩:=Xgi (show 1≤k by omega) ks
   refine XHy (fun f hf=>(o f hf).1) (.inr ⟨k3,ks,?_,?_⟩)
   · show k*(b.length:Int)≤s
     rw[eb,List.length_replicate]
     exact d1
   · show s<k*(b.length:Int)+k
     rw[eb,List.length_replicate]
     exact d2
theorem Gs.slot {s k:Int}{fs fs1:List Sf}{cs:List Int}{j i:Nat}{b:List Bool}(g:Gs s k fs j i b fs1)(h1:1≤s)(k3:3≤k)(o:∀f∈fs,SfOk s f)(m:Xat cs (alP s 0 fs1)):∃r,Xew cs (alP s 0 fs1) k s=(s*(j:Int)+k*(i:Int))::r:=by
 have w:=g.W k3 o
 obtain⟨g1,g2,g3,g4,g5⟩:=g
 refine Xui h1 k3 w m g1 g2 g3 fun j' f hj' hf=>?_
 rcases g5 with e | ⟨g6,ks,_,eb,_,g7,e⟩
 · rw[e] at hf
   refine⟨g4 j' f hj' hf,fun h=>?_⟩
   rw[e] at g1
   exact Xsn h1 (o _ (List.mem_of_getElem? g1)) rfl h.1 (List.mem_of_getElem? g2)
 · rw[e,List.getElem?_set_ne (by omega)] at hf
   exact⟨g4 j' f hj' hf,fun h=>g7 j' f hj' hf h.2⟩
theorem Gs.ok {s k:Int}{fs fs1:List Sf}{j i:Nat}{b:List Bool}(g:Gs s k fs j i b fs1)(k3:3≤k)(o:∀f∈fs,SfOk s f):∀f∈fs1.set j ⟨k,b.set i true⟩,SfOk s f:=fun f hf=>by
 have w:=g.W k3 o
 have hib:i<b.length:=(List.getElem?_eq_some_iff.mp g.2.1).1
 rcases List.mem_or_eq_of_mem_set hf with h | h
 · obtain⟨g1,g2,g3,g4,g5⟩:=g
   rcases g5 with e | ⟨g6,ks,i0,eb,_,g7,e⟩
   · rw[e] at h
     exact o f h
   · rw[e] at hf
     rw[List.set_set] at hf
     rcases List.mem_or_eq_of_mem_set hf with h | h
     · exact o f h
     · rw[h]
       exact⟨Xkt (w _ (List.mem_of_getElem? g1)) hib,fun _=>List.mem_of_getElem? (List.getElem?_set_self hib)⟩
 · rw[h]
   exact⟨Xkt (w _ (List.mem_of_getElem? g.1)) hib,fun _=>List.mem_of_getElem? (List.getElem?_set_self hib)⟩
end Stow
namespace Stow
open PySem L2 PyProof.Rows
theorem XQx {b:List Bool}{i:Nat}{v:Bool}(h:b[i]?=some v):(b.map V.bl)[i]?=some (V.bl v):=by rw[List.getElem?_map,h];rfl
theorem XFm {s:Int}{fs:List Sf}{j:Nat}{f:Sf}(h1:1≤s)(w:∀f∈fs,SfW s f)(h:fs[j]?=some f):((alP s 0 fs).any fun z=>decide (z.a-z.a%s=s*(j:Int))&&z.v)=f.b.any id:=by
 obtain⟨ds,rs,e,c1,c2⟩:=Xes h1 w h
 have c:=Xfu (A:=s*(j:Int)) h1 (w f (List.mem_of_getElem? h))
 have hp:∀{a:Int},a-a%s≤a∧a-s<a-a%s:=fun {a}=>by
   have:=Int.emod_nonneg a (show s≠0 by omega)
   have:=Int.emod_lt_of_pos a (show 0<s by omega)
   omega
 rw[←Xhh h,e f,List.any_append,List.any_append]
 have d1:(ds.any fun z=>decide (z.a-z.a%s=s*(j:Int))&&z.v)=false:=List.any_eq_false.mpr fun z hz=>by
   have:=c1.mem z hz
   have:=@hp z.a
   rw[decide_eq_false (by omega)]
   simp
 have d2:(rs.any fun z=>decide (z.a-z.a%s=s*(j:Int))&&z.v)=false:=List.any_eq_false.mpr fun z hz=>by
   have:=c2.mem z hz
   have:=@hp z.a
   rw[decide_eq_false (by omega)]
   simp
 have d3:∀z∈shP s (s*(j:Int)) f,decide (z.a-z.a%s=s*(j:Int))=true:=fun z hz=>by
   obtain⟨q1,q2,_,q3⟩:=c.mem z hz
   exact decide_eq_true (Xko q1 (by omega)).1
 rw[d1,d2,Bool.false_or,Bool.or_false]
 have hs:∀(b:List Bool) (A:Int),(slP f.n A b).any (fun z=>z.v)=b.any id:=fun b=>by
   induction b with
   | nil=>intro A;rfl
   | cons v r ih =>
     intro A
     show ((⟨A,f.n,v⟩:Pc)::slP f.n (A+f.n) r).any (fun z=>z.v)=_
     rw[List.any_cons,ih,List.any_cons]
     rfl
 have e1:((shP s (s*(j:Int)) f).any fun z=>decide (z.a-z.a%s=s*(j:Int))&&z.v)=(shP s (s*(j:Int)) f).any fun z=>z.v:=by
   rw[Bool.eq_iff_iff,List.any_eq_true,List.any_eq_true]
   constructor
   · rintro⟨z,hz,g⟩
     exact⟨z,hz,(Bool.and_eq_true_iff.mp g).2⟩
   · rintro⟨z,hz,g⟩
     exact⟨z,hz,Bool.and_eq_true_iff.mpr ⟨d3 z hz,g⟩⟩
 rw[e1]
 unfold shP
 rw[List.any_append,hs,show (fr (s*(j:Int)+f.n*(f.b.length:Int)) (s*(j:Int)+s)).any (fun z=>z.v)=false from List.any_eq_false.mpr fun z hz=>by rw[(Xqx hz).2.2];simp,Bool.or_false]
def giv (fs:List Sf)(j i:Nat)(n:Int)(b:List Bool):List Sf:=if (b.set i false).any id=true then fs.set j ⟨n,b.set i false⟩ else fs.set j ⟨0,[]⟩
theorem XHc (fs:List Sf)(j i:Nat)(n:Int)(b:List Bool):(giv fs j i n b).length=fs.length:=by unfold giv;split <;> exact List.length_set
theorem XQk {s:Int}{fs:List Sf}{j i:Nat}{n:Int}{b:List Bool}(o:∀f∈fs,SfOk s f)(h:fs[j]?=some ⟨n,b⟩)(hi:i<b.length):∀f∈giv fs j i n b,SfOk s f:=fun f hf=>by
 unfold giv at hf
 split at hf
 · rename_i g
   rcases List.mem_or_eq_of_mem_set hf with h' | h'
   · exact o f h'
   · rw[h']
     refine⟨Xkt (o _ (List.mem_of_getElem? h)).1 hi,fun _=>?_⟩
     obtain⟨x,hx,gx⟩:=List.any_eq_true.mp g
     have gx:x=true:=gx
     rw[gx] at hx
     exact hx
 · rcases List.mem_or_eq_of_mem_set hf with h' | h'
   · exact o f h'
   · rw[h']
     exact⟨.inl ⟨rfl,rfl⟩,fun h0=>absurd rfl h0⟩
end Stow
namespace Stow
open PySem L2 PyProof.Rows
def rowL (k:Int):List Int→List Pc
 | []=>[]
 | l::r=>⟨k,l,true⟩::rowL (k+l) r
theorem Xgc:∀(ls:List Int) (k:Int),ls.foldl (·+·) k=k+ls.foldl (·+·) 0
 | [],k=>by simp
 | l::r,k=>by
   rw[List.foldl_cons,List.foldl_cons,Xgc r (k+l),Xgc r (0+l)]
   omega
theorem Xhu (l:Int)(r:List Int):sumI (l::r)=l+sumI r:=by
 unfold sumI
 rw[List.foldl_cons,Xgc]
 omega
theorem Xdt (ls:List Int)(l:Int):sumI (ls++[l])=sumI ls+l:=by
 unfold sumI
 rw[List.foldl_append]
 rfl
theorem Xhw:∀(ls:List Int) (k l:Int),rowL k (ls++[l])=rowL k ls++[⟨k+sumI ls,l,true⟩]
 | [],k,l=>by
   show [(⟨k,l,true⟩:Pc)]=[⟨k+sumI [],l,true⟩]
   rw[show sumI []=0 from rfl,Int.add_zero]
 | m::r,k,l=>by
   show (⟨k,m,true⟩:Pc)::rowL (k+m) (r++[l])=⟨k,m,true⟩::(rowL (k+m) r++[⟨k+sumI (m::r),l,true⟩])
   rw[Xhw r,Xhu,Int.add_assoc]
theorem Xet:∀(ls:List Int) (k:Int),(∀l∈ls,3≤l)→Xas k (rowL k ls) (k+sumI ls)
 | [],k,_=>by
   show k=k+sumI []
   rw[show sumI []=0 from rfl,Int.add_zero]
 | m::r,k,h=>by
   have h3:=h m List.mem_cons_self
   refine⟨rfl,(show 1≤m by omega),fun _=>h3,?_⟩
   have:=Xet r (k+m) fun l hl=>h l (List.mem_cons_of_mem _ hl)
   rw[Xhu,←Int.add_assoc]
   exact this
theorem Xob:∀{ls:List Int} {i:Nat} {l:Int} (k:Int),ls[i]?=some l→(rowL k ls)[i]?=some ⟨k+sumI (ls.take i),l,true⟩
 | [],i,l,k,h=>by simp at h
 | m::r,0,l,k,h=>by
   have:m=l:=by simpa using h
   subst this
   show some (⟨k,m,true⟩:Pc)=some ⟨k+sumI [],m,true⟩
   rw[show sumI []=0 from rfl,Int.add_zero]
 | m::r,i+1,l,k,h=>by
   have h:r[i]?=some l:=by simpa using h
   show (rowL (k+m) r)[i]?=_
   rw[Xob (k+m) h,List.take_succ_cons,Xhu,Int.add_assoc]
def rwP (ls:List Int)(n:Int):List Pc:=rowL 0 ls++fr (sumI ls) n
theorem Xjd {ls:List Int}{n:Int}(h3:∀l∈ls,3≤l)(hn:sumI ls≤n):Xas 0 (rwP ls n) n:=by
 have:=Xet ls 0 h3
 rw[Int.zero_add] at this
 exact this.app (Xgz hn)
theorem Xvm (ls:List Int)(n L:Int):cutP (rowL 0 ls) [] (sumI ls) (n-sumI ls) (sumI ls) L=rwP (ls++[L]) n:=by
 unfold cutP rwP
 rw[Xhw,Xdt,Int.zero_add,show fr (sumI ls) (sumI ls)=[] from if_pos rfl,List.append_nil,List.nil_append,List.append_assoc,show sumI ls+(n-sumI ls)=n by omega]
 rfl
theorem Xeo {ls:List Int}{n:Int}(h:sumI ls<n):rwP ls n=rowL 0 ls++[⟨sumI ls,n-sumI ls,false⟩]:=by
 unfold rwP fr
 rw[if_neg (by omega)]
theorem Xuh {ls:List Int}{n:Int}(h:sumI ls=n):rwP ls n=rowL 0 ls:=by
 unfold rwP fr
 rw[if_pos h,List.append_nil]
theorem Xtx {cs ls:List Int}{n L:Int}(h3:∀l∈ls,3≤l)(hl:(cs.length:Int)=n)(h0:0≤sumI ls)(hL:1≤L)(hn:sumI ls+L≤n)(m:Xat cs (rwP ls n)) :
   Xat (cutO cs (sumI ls) (n-sumI ls) (sumI ls) L) (rwP (ls++[L]) n):=by
 rw[Xeo (by omega)] at m
 have c:=Xet ls 0 h3
 rw[Int.zero_add] at c
 have:=Xpn (z:=⟨sumI ls,n-sumI ls,false⟩) (s:=sumI ls) (L:=L) (rs:=[]) h0 hL (Int.le_refl _) (show sumI ls+L≤sumI ls+(n-sumI ls) by omega) (show sumI ls+(n-sumI ls)≤(cs.length:Int) by omega) (c.endBy (Int.le_refl 0)) (fun p hp=>by cases hp) m
 have e:=Xvm ls n L
 rw[←e]
 exact this
theorem Xfg {ls:List Int}(h3:∀l∈ls,3≤l):0≤sumI ls:=by
 have:=(Xet ls 0 h3).le
 omega
theorem Xwq {ls:List Int}{i:Nat}{l n:Int}(h:ls[i]?=some l):(⟨sumI (ls.take i),l,true⟩:Pc)∈rwP ls n:=by
 have:=List.mem_of_getElem? (Xob 0 h)
 rw[Int.zero_add] at this
 exact List.mem_append_left _ this
end Stow
namespace Stow
open PySem L2 PyProof.Rows
theorem Xem:∀{us:List Value} {ns:List Int},IntsAre us ns→Vals (ns.map V.int) us
 | _,_,.nil=>.nil
 | _,_,.cons n t h=>.cons ⟨t,rfl⟩ (Xem h)
theorem Xlg {X:Cx}(hc:X.calm=true):Xgq X (.builtin "sorted") (fun xs H Q=>∃d,∃kvs:List (Key×V),∃ns:List Int,xs=[.ref d]∧H d=some (.dK kvs)∧kvs.map (·.1)=ns.map Sum.inl∧ns.length<64∧∀D (ms:List Int),H D=none→ms.Perm ns→ms.Pairwise (·≤·)→Q (.ref D) (upd H D (.lst (ms.map V.int)))):=by
 intro pins s σ H xs us Q I r h
 obtain⟨d,kvs,ns,rfl,e,ek,h64,q⟩:=h
 obtain⟨u,rfl,rx⟩:=Xpd r
 cases rx
 obtain⟨hz,lo,vs,rk,hd⟩:=dk_of I.hok e
 obtain⟨ep,hat⟩:=hd.dictAt
 have hlen:=KV.length rk
 have hkl:kvs.length=ns.length:=by
   have:=congrArg List.length ek
   rwa [List.length_map,List.length_map] at this
 have ekv:(kvs.map fun kv=>kV kv.1)=ns.map V.int:=by
   have:(kvs.map fun kv=>kV kv.1)=(kvs.map (·.1)).map kV:=by rw[List.map_map];rfl
   rw[this,ek,List.map_map]
   rfl
 refine Calls.call_function_entry kind_sorted plain_sorted entry_sorted (args_sorted1 _) ?_
 unfold Builtin.«sorted»
 refine wpAny_bind (m:=checkCount "sorted" 1 1 _) (wpAny_pure ?_)
 refine wpAny_bind (PySem.W.kdu_collect (A:=X.A.in1) (PySem.W.kdl_dict (knd:=Xbk X.prog X.w) (kvs:=vs) (ep:=ep) lo) (I.ok.hd hc) hat (by rw[←hlen];exact hz) fun h' tk acc hk hacc=>?_)
 have hv:Vals (kvs.map fun kv=>kV kv.1) acc.toList:=Xum (by rw[List.length_map,Array.length_toList,hacc.1,hlen]) fun j v u h1 h2=>by
   obtain⟨k,x,hx,hkk⟩:=hacc.2 j u (by rw[←Array.getElem?_toList];exact h2)
   rw[List.getElem?_map] at h1
   obtain⟨kv,hkv,rfl⟩:=Option.map_eq_some_iff.mp h1
   obtain⟨u',hu'⟩:=XPw rk (i:=j) (k:=kv.1) (v:=kv.2) (by rw[hkv])
   rw[hu'] at hx
   cases hx
   exact XCt hkk
 rw[ekv] at hv
 have hal:acc.toList.length=ns.length:=by rw[←hv.length,List.length_map]
 refine wpAny_bind (wpAny_newList ?_ (by rw[hal,sizeLine_eq];omega))
 have hoL:(h'.push (seqObj "list" acc.toList.toArray 0)).get? h'.objs.size=some (seqObj "list" acc.toList.toArray 0):=Heap.get?_push_size _ rfl
 refine wpAny_bind (wpAny_holding (wpAny_call_entry slot_list_sort (s:={ s with heap:=h'.push (seqObj "list" acc.toList.toArray 0),toks:=tk }) ⟨_,hoL,rfl⟩ entry_list_sort (list_sort_tree hoL (Xeq hv) (by omega) fun out ns' a1 a2 a3=>⟨_,rfl,?_⟩) (args_list_sort _)))
 obtain⟨c,hc'⟩:=sortedHeap_at (out:=out) hoL
 have kp:∀b o,h'.get? b=some o→(sortedHeap (h'.push (seqObj "list" acc.toList.toArray 0)) h'.objs.size acc.toList out).get? b=some o:=fun b o hb'=>by
   have hlt:=Heap.lt_size hb'
   have e1:=size_push' h' (seqObj "list" acc.toList.toArray 0)
   rw[sortedHeap_old (Nat.ne_of_lt hlt) (by rw[e1];exact Nat.lt_succ_of_lt hlt),Heap.get?_push_ne _ _ _ (Nat.ne_of_lt hlt)]
   exact hb'
 have I2:Inv X pins σ H { s with heap:=h',toks:=tk }:=I.kept (t':=tk) hk
 exact wpAny_pure ⟨_,rfl,.ref h'.objs.size,_,I2.laid (t':=tk) kp (Nat.le_refl _) (show Xct X.prog X.w _ _ _ (.lst (ns'.map V.int)) from ⟨by rw[List.length_map,a2.length_eq,←hkl];exact hz,out.toList,c,Xem a1,by rw[Array.toArray_toList];exact hc'⟩),rfl,q _ ns' (I2.hok.fresh (Nat.le_refl _)) a2 a3⟩
section
variable {X:Cx}
end
section
variable {K:PySem.W.Frag}{σ:L2.St}{H:Hp}{Q:VK}{D:Ends}
end
theorem Xnb:entryFor table "dict.update.loop"=some Builtin.«dict.update.loop»:=entryFor_of_fast (by kernel_rfl)
theorem Xfi:plainId "dict.update.loop"=true:=by decide +kernel
theorem Xix:typeLookup (.type "list") "keys"=pure none:=am_miss_of_fast (by decide +kernel)
theorem Xlc {prog:Program}{w:World}{A:Around}{E:Value→Shared→Prop}{s:Shared}{a:Addr}{xs:Array Value}{k:Nat}{Q:Option Value→Shared→Prop}
   (hx:s.heap.get? a=some { cls:=.type "list",data:=.seq xs k }) (hA:A.handled=none)
   (h:∀h' tk,(∀b o,s.heap.get? b=some o→h'.get? b=some o)→Q none { s with heap:=h',toks:=tk }) :
   wpAny (model prog w) A (getAttr? (.ref a) "keys") Q E s:=by
 obtain⟨hp,g,d,tk,os⟩:=s
 have hT:∀tk',(⟨hp,g,d,tk',os⟩:Shared).TypeIs (.ref a) "list":=fun _=>⟨_,hx,rfl⟩
 have f1:=sub_AttributeError
 have f3:=F.slot_list_getattribute.lookup
 have f4:=F.slot_list_getattribute.bind (.ref a)
 have f5:=am_list_getattr_none
 unfold getAttr? getAttrBy? getAttrBy
 repeat (any_goals (first | assumption | exact hT _ | ((with_reducible show wpAny _ _ (call (Value.builtin "list.__getattribute__") _ _) _ _ _);refine call_meets F.slot_list_getattribute (hT _) am_entry_list_getattribute (F.args_list_getattribute_2 _ _) (meets_getattribute_miss_list a xs k #[] "keys" _ Xix (by decide +kernel)) ⟨hx,hA,fun h' tk' e hx'=>?_⟩) | wp_step))
 obtain⟨t',u',he⟩:=hx'.there
 show wpAny _ _ (getattributeRaised _ _ _ _ _ _ _) _ _ _
 unfold getattributeRaised
 repeat (any_goals (first | assumption | wp_step))
 exact h _ _ hx'.keeps
section
variable {prog:Program}{w:World}{A:Around}{E:Value→Shared→Prop}{d it l:Addr}{items:Array Value}{ps:List (Key×Value)}
theorem Xlw {R:Result→Shared→Prop}(hA:A.handled=none)(hdl:d≠it)(hll:l≠it)(hdd:l≠d)(hz:ps.length≤sizeLine)(hn:(ps.map (·.1)).Nodup)(hps:items.size=ps.length):∀(n i:Nat) (s:Shared),ps.length-i=n→i≤ps.length →
   s.heap.IsListIter it l i→s.heap.IsList l items→s.heap.DictOf (Xbk prog w) d (ps.take i) →
   (∀(j:Nat) (q:Key×Value),ps[j]?=some q→∃(t:Addr) (key:Value),items[j]?=some (Value.ref t)∧t≠it∧t≠d∧s.heap.IsTuple t #[key,q.2]∧(Xbk prog w).is q.1 key=true) →
   (∀h' tk,(∀b o,b≠it→b≠d→s.heap.get? b=some o→h'.get? b=some o)→h'.DictOf (Xbk prog w) d ps→R (.ok (.ret .none)) { s with heap:=h',toks:=tk }) →
   codeAny (model prog w) A (.builtin "dict.update.loop" ⟨[.ref d,.ref it,rawInt i,.none],[]⟩) R s
 | n,i,s,e,hi,hit,hl,hd,tups,q=>by
   refine codeAny_builtin Xnb ?_
   rw[Around.under_plainId Xfi _]
   unfold Builtin.«dict.update.loop»
   refine wpAny_bind ?_
   by_cases hlt:i<ps.length
   · obtain⟨q0,hq0⟩:∃q0,ps[i]?=some q0:=⟨_,List.getElem?_eq_getElem hlt⟩
     obtain⟨t,key,hti,tn1,tn2,ht,hk⟩:=tups i q0 hq0
     refine wpAny_pyNext_list_item hit hl hti fun h1 st1 sb1=>?_
     have tup1:∀(j:Nat) (q:Key×Value),ps[j]?=some q→∃(t:Addr) (key:Value),items[j]?=some (Value.ref t)∧t≠it∧t≠d∧h1.IsTuple t #[key,q.2]∧(Xbk prog w).is q.1 key=true:=fun j q hq=>by
       obtain⟨t,key,g1,g2,g3,⟨o,g4,g5⟩,g6⟩:=tups j q hq
       exact⟨t,key,g1,g2,g3,⟨o,(sb1.2 t g2).trans g4,g5⟩,g6⟩
     have hd1:h1.DictOf (Xbk prog w) d (ps.take i):=hd.sameBut sb1 hdl
     have hl1:h1.IsList l items:=by
       obtain⟨o,g1,g2⟩:=hl
       exact⟨o,(sb1.2 l hll).trans g1,g2⟩
     have ht1:h1.IsTuple t #[key,q0.2]:=by
       obtain⟨o,g1,g2⟩:=ht
       exact⟨o,(sb1.2 t tn1).trans g1,g2⟩
     obtain⟨ot,ho,hoc,m,hod⟩:=ht1
     refine wpAny_bind (wpAny_holding (wpAny_bind (wpAny_tryCatch ?_)))
     unfold Builtin.Dict.pairItems
     refine wpAny_bind (wpAny_typeOf (T:="tuple") ⟨_,ho,hoc⟩ ?_)
     rw[if_pos (by decide)]
     refine wpAny_bind (wpAny_seqItems (s:={ s with heap:=h1 }) ho hod (wpAny_pure ?_))
     show wpAny _ _ (holding [key,q0.2] (dictSet d key q0.2)) _ _ _
     have hlen:(ps.take i).length≤sizeLine:=by rw[List.length_take];omega
     refine wpAny_holding (wpAny_dictSet_pairs (s:={ s with heap:=h1 }) hk hd1 (fun h2 hd2 sb2=>?_) hlen)
     have est:stored (ps.take i) q0.1 q0.2=ps.take (i+1):=by
       unfold stored
       rw[if_neg,List.take_add_one,hq0]
       · rfl
       · intro h
         obtain⟨kv,g1,g2⟩:=List.any_eq_true.mp h
         obtain⟨j,hj,ej⟩:=List.mem_take_iff_getElem.mp g1
         have:=(List.getElem?_inj (i:=j) (j:=i) (by rw[List.length_map];omega) hn).mp (by rw[List.getElem?_map,List.getElem?_map,hq0,List.getElem?_eq_getElem (by omega),ej];show some kv.1=some q0.1;rw[of_decide_eq_true g2])
         omega
     rw[est] at hd2
     refine wpAny_pure ⟨plainId_quiet Xfi _,?_⟩
     have kp:∀b o,b≠it→b≠d→s.heap.get? b=some o→h2.get? b=some o:=fun b o n1 n2 g=>(sb2.2 b n2).trans ((sb1.2 b n1).trans g)
     have:=Xlw (R:=R) hA hdl hll hdd hz hn hps (ps.length-(i+1)) (i+1) { s with heap:=h2,toks:=s.toks+1 } rfl hlt (by
       obtain⟨o,g1,g2⟩:=st1
       exact⟨o,(sb2.2 it (Ne.symm hdl)).trans g1,g2⟩) (by
       obtain⟨o,g1,g2⟩:=hl1
       exact⟨o,(sb2.2 l hdd).trans g1,g2⟩) hd2 (fun j q hq=>by
       obtain⟨t,key,g1,g2,g3,⟨o,g4,g5⟩,g6⟩:=tup1 j q hq
       exact⟨t,key,g1,g2,g3,⟨o,(sb2.2 t g3).trans g4,g5⟩,g6⟩) (fun h' tk k3 hd3=>q h' tk (fun b o n1 n2 g=>k3 b o n1 n2 (kp b o n1 n2 g)) hd3)
     exact this
   · have ei:i=ps.length:=by omega
     refine wpAny_pyNext_list_end hA hit hl (Array.getElem?_eq_none (by omega)) fun h1 eb=>?_
     show wpAny _ _ (Builtin.Dict.addKeywords d [] >>= _) _ _ _
     refine wpAny_bind (wpAny_pure (wpAny_pure ?_))
     rw[ei,List.take_length] at hd
     exact q h1 s.toks (fun b o n1 _ g=>eb b o n1 g) (hd.extBut eb hdl)
termination_by n i=>n
decreasing_by omega
end
theorem Xoa {F:Nat→Key×V→Value→Prop}:∀(ps:List (Key×V)) (n:Nat),(∀(j:Nat) (q:Key×V),ps[j]?=some q→∃u,RelV q.2 u∧F (n+j) q u)→∃pv:List (Key×Value),KV ps pv∧∀(j:Nat) (q':Key×Value),pv[j]?=some q'→∃q,ps[j]?=some q∧q'.1=q.1∧F (n+j) q q'.2
 | [],_,_=>⟨[],.nil,fun j q' h=>by simp at h⟩
 | p::r,n,h=>by
   obtain⟨u,hu,hF⟩:=h 0 p rfl
   obtain⟨pv,hkv,hp⟩:=Xoa r (n+1) fun j q hq=>by
     obtain⟨u',h1,h2⟩:=h (j+1) q (by simpa using hq)
     exact⟨u',h1,by rw[show n+1+j=n+(j+1) by omega];exact h2⟩
   refine⟨(p.1,u)::pv,.cons ⟨rfl,hu⟩ hkv,fun j q' hq=>?_⟩
   cases j with
   | zero =>
     have e:(p.1,u)=q':=by simpa using hq
     subst e
     exact⟨p,rfl,rfl,hF⟩
   | succ j =>
     obtain⟨q,g1,g2,g3⟩:=hp j q' (by simpa using hq)
     exact⟨q,by simpa using g1,g2,by rw[show n+(j+1)=n+1+j by omega];exact g3⟩
theorem Xtj:∀{ps:List (Key×V)} {pv:List (Key×Value)},KV ps pv→pv.map (·.1)=ps.map (·.1)
 | _,_,.nil=>rfl
 | _,_,.cons h t=>by rw[List.map_cons,List.map_cons,Xtj t,h.1]
theorem Xpu {X:Cx}(hc:X.calm=true):Xgq X (.type "dict") (fun xs H Q=>∃l,∃us:List V,∃ps:List (Key×V),xs=[.ref l]∧H l=some (.lst us)∧us.length=ps.length∧(∀(j:Nat) (q:Key×V),ps[j]?=some q→∃t,us[j]?=some (.ref t)∧H t=some (.tup [kV q.1,q.2]))∧(ps.map (·.1)).Nodup∧ps.length≤sizeLine∧∀D,H D=none→Q (.ref D) (upd H D (.dK ps))):=by
 intro pins s σ H xs us Q I r h
 obtain⟨l,vs,ps,rfl,hl,hlen,tups,hn,hz,q⟩:=h
 obtain⟨u,rfl,rx⟩:=Xpd r
 cases rx
 obtain⟨hzl,its,nn,r1,p1⟩:=(show Xct X.prog X.w H s.heap l (.lst vs) from I.hok l _ hl)
 have hil:=r1.length
 obtain⟨pv,hkv,hpv⟩:=Xoa (F:=fun j q u=>∃t key,its[j]?=some (Value.ref t)∧s.heap.IsTuple t #[key,u]∧(Xbk X.prog X.w).is q.1 key=true) ps 0 fun j q hq=>by
   obtain⟨t,g1,g2⟩:=tups j q hq
   obtain⟨u1,g3,g4⟩:=r1.get g1
   cases g4
   obtain⟨its2,r2,p2,_⟩:=I.tuple (SqT.of g2)
   obtain⟨key,v1,rfl,ra,rb⟩:=Xtt r2
   exact⟨v1,rb,t,key,by rw[Nat.zero_add];exact g3,p2,Xss ra⟩
 have hkl:=KV.length hkv
 have hkeys:=Xtj hkv
 have lt:∀{b o},s.heap.get? b=some o→b≠s.heap.objs.size:=fun h e=>absurd (Heap.lt_size h) (by rw[e];exact Nat.lt_irrefl _)
 refine callType_codes (Q₁:=fun obj s₁=>obj = .ref s.heap.objs.size∧s₁={ s with heap:=s.heap.push { cls:=.type "dict",data:=.dict #[] } }) F.kt_called_dict (F.kt_typeCall_dict_1 _) F.entry_dict_init (kt_code_dict_new _ ⟨rfl,rfl⟩) ?_
 rintro obj s₁ ⟨rfl,rfl⟩
 have hnew:(s.heap.push { cls:=.type "dict",data:=.dict #[] }).DictOf (Xbk X.prog X.w) s.heap.objs.size []:=Heap.DictOf.new s.heap
 have p2:(s.heap.push { cls:=.type "dict",data:=.dict #[] }).get? l=some { cls:=.type "list",data:=.seq its.toArray nn }:=Heap.get?_push_of_some _ p1
 refine⟨hnew.typeIs,F.args_dict_init_2 _ _,?_⟩
 unfold Builtin.«dict.__init__»
 refine wpAny_bind ?_
 unfold Builtin.Dict.selfAndRest
 refine wpAny_bind (wpAny_notOrdered_dict hnew.typeIs ?_)
 show wpAny _ _ (pure (s.heap.objs.size,[Value.ref l])) _ _ _
 refine wpAny_pure ?_
 show wpAny _ _ (Builtin.Dict.updateFrom "dict.__init__" s.heap.objs.size (.ref l) [] .none) _ _ _
 unfold Builtin.Dict.updateFrom
 refine wpAny_bind (wpAny_typeOf (T:="list") ⟨_,p2,rfl⟩ ?_)
 rw[if_pos (by decide)]
 refine wpAny_bind (Xlc p2 (I.ok.hd hc) fun h1 tk k1=>?_)
 rw[if_pos (by rfl)]
 refine wpAny_bind (wpAny_rule ?_)
 have p3:=k1 l _ p2
 refine wpAny_bind (wpAny_pyIter_list (items:=its.toArray) ⟨_,p3,rfl,_,rfl⟩ ?_)
 have hd1:h1.DictOf (Xbk X.prog X.w) s.heap.objs.size []:=by
   obtain⟨o,es,ep,g1,g2⟩:=hnew
   exact⟨o,es,ep,k1 _ _ g1,g2⟩
 have hdi:s.heap.objs.size≠h1.objs.size:=fun e=>by
   obtain⟨o,es,ep,g1,g2⟩:=hd1
   exact absurd (Heap.lt_size g1) (by rw[e];exact Nat.lt_irrefl _)
 have hli:l≠h1.objs.size:=fun e=>absurd (Heap.lt_size p3) (by rw[e];exact Nat.lt_irrefl _)
 refine wpAny_pure ⟨plainId_quiet Xfi _,?_⟩
 have key:∀R:Result→Shared→Prop,(∀h' tk',(∀b o,s.heap.get? b=some o→h'.get? b=some o)→h'.DictOf (Xbk X.prog X.w) s.heap.objs.size pv→R (.ok (.ret .none)) { s with heap:=h',toks:=tk' }) →
     codeAny (model X.prog X.w) X.A.in1 (.builtin "dict.update.loop" ⟨[.ref s.heap.objs.size,.ref h1.objs.size,rawInt ((0:Nat):Int),.none],[]⟩) R { s with heap:=h1.push { cls:=.type "list_iterator",data:=.fields #[.ref l,.int 0 0] },toks:=tk }:=fun R hR=>by
   refine Xlw (A:=X.A.in1) (d:=s.heap.objs.size) (it:=h1.objs.size) (l:=l) (items:=its.toArray) (ps:=pv) (I.ok.hd hc) hdi hli (lt p1) (by omega) (by rw[hkeys];exact hn) (by rw[List.size_toArray];omega) pv.length 0 { s with heap:=h1.push { cls:=.type "list_iterator",data:=.fields #[.ref l,.int 0 0] },toks:=tk } rfl (Nat.zero_le _) ⟨_,Heap.get?_push_size _ rfl,rfl,rfl⟩ ⟨_,Heap.get?_push_of_some _ p3,rfl,_,rfl⟩ (hd1.push _) (fun j q' hq=>?_) fun h' tk' k3 hd3=>hR h' tk' (fun b o hb=>?_) hd3
   · obtain⟨q,g0,e1,t,key,g1,⟨o,g2,g4⟩,g3⟩:=hpv j q' hq
     have g2':=k1 t o (Heap.get?_push_of_some _ g2)
     refine⟨t,key,by rw[Nat.zero_add] at g1;rw[List.getElem?_toArray];exact g1,fun e=>absurd (Heap.lt_size g2') (by rw[e];exact Nat.lt_irrefl _),lt g2,⟨o,Heap.get?_push_of_some _ g2',g4⟩,by rw[e1];exact g3⟩
   · have g:=k1 b o (Heap.get?_push_of_some _ hb)
     exact k3 b o (fun e=>absurd (Heap.lt_size g) (by rw[e];exact Nat.lt_irrefl _)) (lt hb) (Heap.get?_push_of_some _ g)
 have hsys:(s.heap.objs.size==sysModules)=false:=beq_eq_false_iff_ne.mpr (fun e=>absurd I.big (by rw[e];exact Nat.lt_irrefl _))
 exact key _ fun h' tk' kp hd3=>⟨rfl,.ref s.heap.objs.size,_,I.laid (t':=tk') kp (Nat.le_refl _) (show Xct X.prog X.w _ _ _ (.dK ps) from ⟨hz,hsys,pv,hkv,hd3⟩),rfl,q _ (I.hok.fresh (Nat.le_refl _))⟩
theorem r_chain {σ:L2.St}{H:Hp}{Q:VK}{r r':R2}{ta tb tc:TE}(h:ta σ H fun x H1=>tb σ H1 fun y H2=>r x y H2 fun z H3=>∃k,z = .bl k∧(if k=true then tc σ H3 fun w' H4=>r' y w' H4 Q else Q (.bl false) H3)):Xze r r' ta tb tc σ H Q:=h
end Stow
namespace Stow
open PySem L2 PyProof.Rows
theorem Xng {b:List Bool}(h:false∈b):∃i,b[i]?=some false∧∀i':Nat,i'<i→b[i']?≠some false:=by
 induction b with
 | nil=>cases h
 | cons v r ih =>
   cases v with
   | false=>exact⟨0,rfl,fun i' hi=>absurd hi (Nat.not_lt_zero _)⟩
   | true =>
     have:false∈r:=by
       rcases List.mem_cons.mp h with e | e
       · cases e
       · exact e
     obtain⟨i,h1,h2⟩:=ih this
     refine⟨i+1,h1,fun i' hi=>?_⟩
     cases i' with
     | zero=>intro e;cases e
     | succ i'=>exact h2 i' (by omega)
theorem Xmm {s:Int}{fs:List Sf}{j:Nat}{f:Sf}{z:Pc}(h1:1≤s)(w:∀f∈fs,SfW s f)(h:fs[j]?=some f)(hz:z∈shP s (s*(j:Int)) f):z∈alP s 0 fs:=by
 obtain⟨ds,rs,e,_⟩:=Xes h1 w h
 rw[←Xhh h,e f]
 exact List.mem_append_right _ (List.mem_append_left _ hz)
theorem XBr {s n:Int}{fs:List Sf}{j i:Nat}{b:List Bool}{v:Bool}(hs:1≤s)(W:∀f∈fs,SfW s f)(hj:fs[j]?=some ⟨n,b⟩)(hi:b[i]?=some v):3≤n∧s*(j:Int)+n*(i:Int)+n≤s*(j:Int)+s∧s*(j:Int)+n*(i:Int)-(s*(j:Int)+n*(i:Int))%s=s*(j:Int)∧(s*(j:Int)+n*(i:Int))/s=(j:Int)∧(s*(j:Int)+n*(i:Int))%s/n=(i:Int):=by
 have hib:i<b.length:=(List.getElem?_eq_some_iff.mp hi).1
 have n3:3≤n:=by
   rcases W _ (List.mem_of_getElem? hj) with ⟨_,e2⟩ | g
   · have e2:b=[]:=e2
     rw[e2] at hib
     exact absurd hib (Nat.not_lt_zero _)
   · exact g.1
 have hm:(⟨s*(j:Int)+n*(i:Int),n,v⟩:Pc)∈shP s (s*(j:Int)) ⟨n,b⟩:=by
   obtain⟨d2,r2,e2⟩:=Xmu (n:=n) (A:=s*(j:Int)) hi
   have:=e2 v
   rw[Xie hi] at this
   unfold shP
   show _∈slP n (s*(j:Int)) b++_
   rw[this]
   exact List.mem_append_left _ (List.mem_append_right _ List.mem_cons_self)
 obtain⟨q1,_,_,q4⟩:=(Xfu (A:=s*(j:Int)) hs (W _ (List.mem_of_getElem? hj))).mem _ hm
 have q1:s*(j:Int)≤s*(j:Int)+n*(i:Int):=q1
 have q4:s*(j:Int)+n*(i:Int)+n≤s*(j:Int)+s:=q4
 obtain⟨r1,r2,r3⟩:=Xko (j:=j) q1 (by omega)
 refine⟨n3,q4,r1,r2,?_⟩
 rw[r3,show s*(j:Int)+n*(i:Int)-s*(j:Int)=n*(i:Int) by omega]
 exact Int.mul_ediv_cancel_left _ (by omega)
theorem Gs.fs1 {s k n:Int}{fs fs1:List Sf}{j i j1 i1:Nat}{b b1:List Bool}(g:Gs s k fs j i b fs1)(h:fs[j1]?=some ⟨n,b1⟩)(hb:b1[i1]?=some true)(W:∀f∈fs,SfW s f):fs1[j1]?=some ⟨n,b1⟩:=by
 obtain⟨_,_,_,_,e | ⟨_,_,_,_,⟨f0,c8,c9⟩,_,e⟩⟩:=g
 · rw[e];exact h
 · rw[e,List.getElem?_set_ne]
   · exact h
   · intro w
     rw[w,h] at c8
     have e0:=Option.some.inj c8
     rw[←e0] at c9
     have c9:n=0:=c9
     rcases W _ (List.mem_of_getElem? h) with ⟨_,e2⟩ | ⟨h3,_⟩
     · have e2:b1=[]:=e2
       rw[e2] at hb
       simp at hb
     · have h3:3≤n:=h3
       omega
end Stow
namespace Stow
open PySem L2 PyProof.Rows
theorem Xsr {i j:Nat}(h:(2:Int)^i=2^j):i=j:=by
 rcases Nat.lt_trichotomy i j with g | g | g
 · have:=Xcm (show i+1≤j by omega)
   have:=pw2 i
   have:=pw1 i
   omega
 · exact g
 · have:=Xcm (show j+1≤i by omega)
   have:=pw2 j
   have:=pw1 j
   omega
theorem lex2 (l1 a1 l2 a2:Int):HT.lexLt [l1,a1] [l2,a2]=if l1=l2 then decide (a1<a2) else decide (l1<l2):=by
 by_cases h:l1=l2
 · rw[if_pos h];simp [HT.lexLt,h];omega
 · rw[if_neg h];simp [HT.lexLt,h]
theorem Xhj {xs:List (List Int)}(h2:∀k,k<xs.length→∃l a:Int,xs.getD k []=[l,a]):∀j,j<xs.length→∀k,k≤j→HT.lexLt (xs.getD k []) (xs.getD (Xfe xs j) [])=false
 | 0,h,k,hk=>by
   have:k=0:=by omega
   subst this
   obtain⟨l,a,e⟩:=h2 0 h
   show HT.lexLt (xs.getD 0 []) (xs.getD 0 [])=false
   rw[e]
   simp [HT.lexLt]
 | j+1,h,k,hk=>by
   have hm:=Xgw xs j
   obtain⟨l1,a1,e1⟩:=h2 (j+1) h
   obtain⟨l2,a2,e2⟩:=h2 (Xfe xs j) (by omega)
   obtain⟨l3,a3,e3⟩:=h2 k (by omega)
   unfold Xfe
   by_cases hl:HT.lexLt (xs.getD (j+1) []) (xs.getD (Xfe xs j) [])=true
   · rw[if_pos hl]
     by_cases e:k=j+1
     · rw[e,e1]
       simp [HT.lexLt]
     · have ih:=Xhj h2 j (by omega) k (by omega)
       rw[e2,e3] at ih
       rw[e1,e2] at hl
       rw[e1,e3]
       rw[lex2] at ih hl ⊢
       by_cases c1:l3=l2
       · rw[if_pos c1] at ih
         have ih:=of_decide_eq_false ih
         by_cases c2:l1=l2
         · rw[if_pos c2] at hl
           have hl:=of_decide_eq_true hl
           rw[if_pos (by omega)]
           exact decide_eq_false (by omega)
         · rw[if_neg c2] at hl
           have hl:=of_decide_eq_true hl
           rw[if_neg (by omega)]
           exact decide_eq_false (by omega)
       · rw[if_neg c1] at ih
         have ih:=of_decide_eq_false ih
         by_cases c2:l1=l2
         · rw[if_pos c2] at hl
           rw[if_neg (by omega)]
           exact decide_eq_false (by omega)
         · rw[if_neg c2] at hl
           have hl:=of_decide_eq_true hl
           rw[if_neg (by omega)]
           exact decide_eq_false (by omega)
   · rw[if_neg hl]
     by_cases e:k=j+1
     · rw[e]
       simpa using hl
     · exact Xhj h2 j (by omega) k (by omega)
def Gh (B:Nat)(ps ds rs:List Pc)(b:Int)(M:Nat):Prop:=ps=ds++⟨b,2^M,false⟩::rs∧Bst (2^B) ps ⟨b,2^M,false⟩
def NoH (B:Nat)(ps:List Pc):Prop:=∀z∈ps,z.v=false→z.l<2^B
theorem Xls {i j:Nat}(h:(2:Int)^i≤2^j):i≤j:=by
 rcases Nat.lt_or_ge j i with g | g
 · have:=Xcm (show j+1≤i from g)
   have:=pw1 j
   have:=pw2 j
   omega
 · exact g
theorem Gh.lie {B N M:Nat}{ps ds rs:List Pc}{b:Int}(g:Gh B ps ds rs b M)(hB:2≤B)(hc:Xas 0 ps (2^N))(al:∀z∈ps,Al z) :
   B≤M∧M≤N∧0≤b∧Xas 0 ds b∧Xas (b+2^M) rs (2^N)∧Xas 0 (ds++(hcP b B M++rs)) (2^N)∧(∀z∈ds++(hcP b B M++rs),Al z)∧(⟨b,2^B,true⟩:Pc)∈ds++(hcP b B M++rs):=by
 obtain⟨e,h1,h2,h3,h4⟩:=g
 have hBM:B≤M:=Xls h3
 rw[e] at hc
 obtain⟨k,c1,c2⟩:=Xgh hc
 obtain⟨ea,_,_,c3⟩:=c2
 have ea:b=k:=ea
 subst ea
 have c3:Xas (b+2^M) rs (2^N):=c3
 have l1:=c1.le
 have l3:=c3.le
 have hMN:M≤N:=Xls (by omega)
 obtain⟨m0,q0,e1,e2⟩:=al _ h1
 have e1:(2:Int)^M=2^m0:=e1
 have e2:b=2^m0*(q0:Int):=e2
 rw[←Xsr e1] at e2
 obtain⟨r,hr⟩:=XAc e2 hBM
 refine⟨hBM,hMN,by omega,c1,c3,c1.app ((Xrs hB hBM).app c3),fun z hz=>?_,List.mem_append_right _ (List.mem_append_left _ List.mem_cons_self)⟩
 rcases List.mem_append.mp hz with g | g
 · exact al z (by rw[e];exact List.mem_append_left _ g)
 · rcases List.mem_append.mp g with g | g
   · rcases List.mem_cons.mp g with w | w
     · rw[w]
       exact⟨B,r,rfl,hr⟩
     · exact XPc e2 (show B+(M-B)≤M by omega) z w
   · exact al z (by rw[e];exact List.mem_append_right _ (List.mem_cons_of_mem _ g))
theorem Xfh.two' {k:Nat}{c:Int}(h:Xfh k c)(h3:3≤c):2≤k:=by
 rcases Nat.lt_or_ge k 2 with g | g
 · have h1:=h.1
   rcases(show k=0∨k=1 by omega) with e | e
   · rw[e] at h1
     have:(2:Int)^0=1:=by decide
     omega
   · rw[e] at h1
     have:(2:Int)^1=2:=by decide
     omega
 · exact g
theorem Xzz {b:Int}:∀ps:List Pc,(∀z∈ps,z.v=false→z.l<b)∨∃z,Bst b ps z
 | []=>.inl fun z hz=>by cases hz
 | y::r=>by
   have mo:∀{z:Pc},Bst b r z→¬(y.v=false∧b≤y.l∧(y.l<z.l∨(y.l=z.l∧y.a<z.a)))→Bst b (y::r) z:=fun {z} h hn=>by
     refine⟨List.mem_cons_of_mem _ h.1,h.2.1,h.2.2.1,fun w hw hv hl=>?_⟩
     rcases List.mem_cons.mp hw with e | e
     · rw[e] at hv hl ⊢
       have:¬(y.l<z.l∨(y.l=z.l∧y.a<z.a)):=fun g=>hn ⟨hv,hl,g⟩
       omega
     · exact h.2.2.2 w e hv hl
   rcases Xzz (b:=b) r with h | ⟨z,h⟩
   · by_cases g:y.v=false∧b≤y.l
     · refine .inr ⟨y,List.mem_cons_self,g.1,g.2,fun w hw hv hl=>?_⟩
       rcases List.mem_cons.mp hw with e | e
       · rw[e];exact .inr ⟨rfl,Int.le_refl _⟩
       · have:=h w e hv
         omega
     · refine .inl fun w hw hv=>?_
       rcases List.mem_cons.mp hw with e | e
       · rw[e] at hv ⊢
         have:¬b≤y.l:=fun g2=>g ⟨hv,g2⟩
         omega
       · exact h w e hv
   · by_cases g:y.v=false∧b≤y.l∧(y.l<z.l∨(y.l=z.l∧y.a<z.a))
     · refine .inr ⟨y,List.mem_cons_self,g.1,g.2.1,fun w hw hv hl=>?_⟩
       rcases List.mem_cons.mp hw with e | e
       · rw[e];exact .inr ⟨rfl,Int.le_refl _⟩
       · have:=h.2.2.2 w e hv hl
         omega
     · exact .inr ⟨z,mo h g⟩
theorem XTv {N:Nat}{ps:List Pc}(B:Nat)(hc:Xas 0 ps (2^N))(al:∀z∈ps,Al z):NoH B ps∨∃(ds rs:List Pc) (b:Int) (M:Nat),Gh B ps ds rs b M:=by
 rcases Xzz (b:=2^B) ps with h | ⟨z,h⟩
 · exact .inl h
 · obtain⟨M,q0,eM,ea0⟩:=al z h.1
   obtain⟨n0,hn0⟩:=List.getElem?_of_mem h.1
   obtain⟨ds,rs,eps,_,_,_⟩:=Xcu hc hn0
   obtain⟨b,lo,v1⟩:=z
   have ev:v1=false:=h.2.1
   have eM:lo=2^M:=eM
   subst ev eM
   exact .inr ⟨ds,rs,b,M,eps,h⟩
theorem Xoc (c:Int)(h:1≤c):∃k,Xfh k (c+2):=by
 have:=Xjm (c:=(c+1).toNat) (by omega)
 rw[show (((c+1).toNat:Nat):Int)+1=c+2 by omega] at this
 exact⟨_,this⟩
theorem Xhp {α:Type}(p:α→Prop)[DecidablePred p]:∀xs:List α,(∀x∈xs,¬p x)∨∃(j:Nat) (x:α),xs[j]?=some x∧p x∧∀(j':Nat) (x':α),j'<j→xs[j']?=some x'→¬p x'
 | []=>.inl fun x h=>by cases h
 | x::r=>by
   by_cases e:p x
   · exact .inr ⟨0,x,rfl,e,fun j' _ h=>absurd h (Nat.not_lt_zero _)⟩
   · rcases Xhp p r with h | ⟨j,y,h1,h2,h3⟩
     · refine .inl fun y hy=>?_
       rcases List.mem_cons.mp hy with g | g
       · rw[g];exact e
       · exact h y g
     · refine .inr ⟨j+1,y,h1,h2,fun j' x' hj hx=>?_⟩
       cases j' with
       | zero =>
         have:x=x':=by simpa using hx
         rw[←this];exact e
       | succ j'=>exact h3 j' x' (by omega) (by simpa using hx)
theorem XTl {s k:Int}{fs:List Sf}(k3:3≤k):NoGr s k fs∨∃(j i:Nat) (b:List Bool) (fs1:List Sf),Gs s k fs j i b fs1:=by
 rcases Xhp (fun f:Sf=>f.n=k∧false∈f.b) fs with hno | ⟨j,f,hj,⟨hn,hf⟩,hm⟩
 · by_cases ks:k≤s
   · rcases Xhp (fun f:Sf=>f.n=0) fs with h0 | ⟨j,f,hj,h0,hm⟩
     · exact .inl ⟨hno,.inr h0⟩
     · obtain⟨_,_,d3⟩:=Xgi (show 1≤k by omega) ks
       have hjl:j<fs.length:=(List.getElem?_eq_some_iff.mp hj).1
       refine .inr ⟨j,0,List.replicate (s/k).toNat false,fs.set j ⟨k,List.replicate (s/k).toNat false⟩,List.getElem?_set_self hjl,?_,fun i' h=>absurd h (Nat.not_lt_zero _),fun j' f' _ hf'=>hno f' (List.mem_of_getElem? hf'),.inr ⟨hno,ks,rfl,rfl,⟨f,hj,h0⟩,hm,rfl⟩⟩
       rw[List.getElem?_replicate,if_pos (by omega)]
   · exact .inl ⟨hno,.inl (by omega)⟩
 · obtain⟨i,h1,h2⟩:=Xng hf
   obtain⟨n,b⟩:=f
   have hn:n=k:=hn
   subst hn
   exact .inr ⟨j,i,b,fs,hj,h1,h2,hm,.inl rfl⟩
inductive St3
 | half (N:Nat) (ps:List Pc)
 | shel (s:Int) (fs:List Sf)
 | row (n:Int) (ls:List Int)
def St3.let3:St3→W3
 | .half _ _=>.half
 | .shel _ _=>.shel
 | .row _ _=>.row
def St3.ps:St3→List Pc
 | .half _ ps=>ps
 | .shel s fs=>alP s 0 fs
 | .row n ls=>rwP ls n
def St3.s:St3→Int
 | .half N _=>2^N
 | .shel s _=>s
 | .row n _=>n
def St3.n:St3→Int
 | .half N _=>2^N
 | .shel s fs=>s*(fs.length:Int)
 | .row n _=>n
def St3.ok:St3→Prop
 | .half N ps=>N≤8∧2≤N∧Xas 0 ps (2^N)∧∀z∈ps,Al z
 | .shel s fs=>3≤s∧1≤fs.length∧∀f∈fs,SfOk s f
 | .row n ls=>3≤n∧(∀l∈ls,3≤l)∧sumI ls≤n
theorem St3.ch {q:St3}(h:q.ok):Xas 0 q.ps q.n:=by
 cases q with
 | half N ps=>exact h.2.2.1
 | shel s fs =>
   have:=Xdr (show 1≤s by have:=h.1;omega) fs 0 (fun f hf=>(h.2.2 f hf).1)
   rw[Int.zero_add] at this
   exact this
 | row n ls=>exact Xjd h.2.1 h.2.2
theorem St3.s3 {q:St3}(h:q.ok):3≤q.s:=by
 cases q with
 | half N ps =>
   have:=Xcm h.2.1
   have e:(2:Int)^2=4:=by decide
   show 3≤(2:Int)^N
   omega
 | shel s fs=>exact h.1
 | row n ls=>exact h.1
theorem St3.sn {q:St3}(h:q.ok):q.s≤q.n:=by
 cases q with
 | half N ps=>exact Int.le_refl _
 | shel s fs =>
   have:=Int.mul_le_mul_of_nonneg_left (show (1:Int)≤(fs.length:Int) by have:=h.2.1;omega) (show 0≤s by have:=h.1;omega)
   show s≤s*(fs.length:Int)
   omega
 | row n ls=>exact Int.le_refl _
def No3 (c:Int):St3→Prop
 | .half _ ps=>∀B,Xfh B (c+2)→NoH B ps
 | .shel s fs=>NoGr s (c+2) fs
 | .row n ls=>n<sumI ls+(c+2)
inductive Ask3 (c:Int):St3→Int→St3→Prop
 | half {N B M:Nat} {ps ds rs:List Pc} {b:Int}:Xfh B (c+2)→Gh B ps ds rs b M→Ask3 c (.half N ps) (b+1) (.half N (ds++(hcP b B M++rs)))
 | shel {s:Int} {fs fs1:List Sf} {j i:Nat} {b:List Bool}:Gs s (c+2) fs j i b fs1→fs1.length=fs.length→Ask3 c (.shel s fs) (s*(j:Int)+(c+2)*(i:Int)+1) (.shel s (fs1.set j ⟨c+2,b.set i true⟩))
 | row {n:Int} {ls:List Int}:sumI ls+(c+2)≤n→Ask3 c (.row n ls) (sumI ls+1) (.row n (ls++[c+2]))
theorem Gs.len {s k:Int}{fs fs1:List Sf}{j i:Nat}{b:List Bool}(g:Gs s k fs j i b fs1):fs1.length=fs.length:=by
 obtain⟨_,_,_,_,e | ⟨_,_,_,_,_,_,e⟩⟩:=g
 · rw[e]
 · rw[e,List.length_set]
theorem XCd {q:St3}{c:Int}(h:q.ok)(hc:1≤c):No3 c q∨∃p q',Ask3 c q p q':=by
 cases q with
 | half N ps =>
   obtain⟨B,hB⟩:=Xoc c hc
   rcases XTv B h.2.2.1 h.2.2.2 with g | ⟨ds,rs,b,M,g⟩
   · exact .inl fun B' hB'=>by rw[hB'.uniq hB];exact g
   · exact .inr ⟨_,_,.half hB g⟩
 | shel s fs =>
   rcases XTl (s:=s) (fs:=fs) (show 3≤c+2 by omega) with g | ⟨j,i,b,fs1,g⟩
   · exact .inl g
   · exact .inr ⟨_,_,.shel g g.len⟩
 | row n ls =>
   by_cases g:sumI ls+(c+2)≤n
   · exact .inr ⟨_,_,.row g⟩
   · exact .inl (show n<sumI ls+(c+2) by omega)
theorem XDf {q q':St3}{c p:Int}(h:q.ok)(hc:1≤c)(g:Ask3 c q p q'):q'.ok∧q'.let3=q.let3∧q'.s=q.s∧q'.n=q.n:=by
 cases g with
 | half hB g =>
   obtain⟨_,_,_,_,_,c4,al4,_⟩:=g.lie (hB.two' (by omega)) h.2.2.1 h.2.2.2
   exact⟨⟨h.1,h.2.1,c4,al4⟩,rfl,rfl,rfl⟩
 | shel g e =>
   refine⟨⟨h.1,?_,g.ok (by omega) h.2.2⟩,rfl,rfl,?_⟩
   · rw[List.length_set,e];exact h.2.1
   · show _*_=_*_
     rw[List.length_set,e]
 | row g =>
   refine⟨⟨h.1,fun l hl=>?_,?_⟩,rfl,rfl,rfl⟩
   · rcases List.mem_append.mp hl with w | w
     · exact h.2.1 l w
     · rw[List.mem_singleton.mp w];omega
   · rw[Xdt];omega
theorem Xue {q:St3}{c:Int}(h:q.ok)(hc:q.s<c+2):No3 c q:=by
 cases q with
 | half N ps =>
   intro B hB z hz hv
   have h1:=(h.2.2.1.mem z hz)
   have h2:(2:Int)^N<c+2:=hc
   have:=hB.1
   omega
 | shel s fs =>
   have hc:s<c+2:=hc
   refine⟨fun f hf hh=>?_,.inl hc⟩
   rcases(h.2.2 f hf).1 with ⟨e1,e2⟩ | ⟨_,e3,_⟩
   · rw[e2] at hh
     cases hh.2
   · have:=hh.1
     omega
 | row n ls =>
   have hc:n<c+2:=hc
   have:=Xfg h.2.1
   show n<sumI ls+(c+2)
   omega
theorem Xpy {q:St3}(h:q.ok)(hw:∀z∈q.ps,z.v=false→z.l=q.s→z.a%q.s≠0):No3 (q.s-2) q:=by
 have s3:=St3.s3 h
 cases q with
 | half N ps =>
   intro B hB z hz hv
   have hB:Xfh B ((2:Int)^N-2+2):=hB
   rw[show (2:Int)^N-2+2=2^N by omega] at hB
   have h1:=h.2.2.1.mem z hz
   have hb:=hB.1
   by_cases e:z.l=2^N
   · have h0:z.a=0:=by omega
     exact absurd (by rw[h0];rfl) (hw z hz hv e)
   · omega
 | shel s fs =>
   have hw:∀z∈alP s 0 fs,z.v=false→z.l=s→z.a%s≠0:=hw
   have s3:3≤s:=s3
   have W:∀f∈fs,SfW s f:=fun f hf=>(h.2.2 f hf).1
   show NoGr s (s-2+2) fs
   rw[show s-2+2=s by omega]
   refine⟨fun f hf hh=>Xsn (by omega) (h.2.2 f hf) hh.1 rfl hh.2,.inr fun f hf h0=>?_⟩
   obtain⟨j,hj⟩:=List.getElem?_of_mem hf
   have e:f=⟨0,[]⟩:=by
     obtain⟨n,b⟩:=f
     rcases W _ hf with ⟨e1,e2⟩ | ⟨e3,_⟩
     · have e1:n=0:=e1
       have e2:b=[]:=e2
       rw[e1,e2]
     · omega
   exact hw ⟨s*(j:Int),s,false⟩ (Xmm (by omega) W hj (by rw[e,Xdq (by omega)];exact List.mem_singleton.mpr rfl)) rfl rfl (Int.mul_emod_right _ _)
 | row n ls =>
   have s3:3≤n:=s3
   have hw:∀z∈rwP ls n,z.v=false→z.l=n→z.a%n≠0:=hw
   have h0:=Xfg h.2.1
   show n<sumI ls+(n-2+2)
   by_cases e:sumI ls=0
   · refine absurd ?_ (hw ⟨sumI ls,n-sumI ls,false⟩ (by rw[Xeo (by omega)];exact List.mem_append_right _ (List.mem_singleton.mpr rfl)) rfl (by show n-sumI ls=n;omega))
     show sumI ls%n=0
     rw[e];rfl
   · omega
def Xev (m j:Nat):St3→St3
 | .half N _=>.half N [⟨0,2^N,decide (0<j)⟩]
 | .shel s _=>.shel s (List.replicate j ⟨s,[true]⟩++List.replicate (m-j) ⟨0,[]⟩)
 | .row n _=>.row n (List.replicate j n)
def Xby:St3→Nat
 | .half _ _=>1
 | .shel _ fs=>fs.length
 | .row _ _=>1
theorem XEo {α:Type}{a b:α}{j m i:Nat}{x:α}(h:(List.replicate j a++List.replicate m b)[i]?=some x):(i<j∧x=a)∨(j≤i∧i<j+m∧x=b):=by
 by_cases e:i<j
 · rw[List.getElem?_append_left (by rw[List.length_replicate];exact e),List.getElem?_replicate,if_pos e] at h
   exact .inl ⟨e,(Option.some.inj h).symm⟩
 · rw[List.getElem?_append_right (by rw[List.length_replicate];omega),List.length_replicate,List.getElem?_replicate] at h
   split at h
   · rename_i g
     exact .inr ⟨by omega,by omega,(Option.some.inj h).symm⟩
   · cases h
theorem Xnv {s:Int}{j m:Nat}(h:j<m):(List.replicate j (⟨s,[true]⟩:Sf)++List.replicate (m-j) ⟨0,[]⟩)[j]?=some ⟨0,[]⟩:=by
 rw[List.getElem?_append_right (by rw[List.length_replicate];exact Nat.le_refl _),List.length_replicate,Nat.sub_self,List.getElem?_replicate,if_pos (by omega)]
theorem Xxk {s:Int}{j m:Nat}(h:j<m)(f:Sf):(List.replicate j (⟨s,[true]⟩:Sf)++List.replicate (m-j) (⟨0,[]⟩:Sf)).set j f=List.replicate j ⟨s,[true]⟩++f::List.replicate (m-(j+1)) ⟨0,[]⟩:=by
 obtain⟨k,hk⟩:∃k,m-j=k+1:=⟨m-j-1,by omega⟩
 rw[List.set_append_right _ _ (by rw[List.length_replicate];exact Nat.le_refl _),List.length_replicate,Nat.sub_self,hk,List.replicate_succ,List.set_cons_zero,show m-(j+1)=k by omega]
theorem Xky {q:St3}{j:Nat}(h:q.ok)(hj:j<Xby q):Ask3 (q.s-2) (Xev (Xby q) j q) (q.s*(j:Int)+1) (Xev (Xby q) (j+1) q):=by
 have s3:=St3.s3 h
 cases q with
 | half N ps =>
   have hj:j<1:=hj
   obtain rfl:j=0:=by omega
   have hL:Xfh N ((2:Int)^N-2+2):=by
     rw[show (2:Int)^N-2+2=2^N by omega]
     refine⟨Int.le_refl _,fun i hi=>?_⟩
     have:=Xcm (show i+1≤N from hi)
     have:=pw2 i
     have:=pw1 i
     omega
   have:=Ask3.half (c:=(2:Int)^N-2) (N:=N) (B:=N) (M:=N) (ps:=[⟨0,2^N,false⟩]) (ds:=[]) (rs:=[]) (b:=0) hL ⟨rfl,List.mem_singleton.mpr rfl,rfl,Int.le_refl _,fun y hy _ _=>.inr (by rw[List.mem_singleton.mp hy];exact⟨rfl,Int.le_refl _⟩)⟩
   unfold hcP spl at this
   rw[Nat.sub_self] at this
   simp only [List.range'_zero,List.map_nil,List.nil_append,List.append_nil] at this
   show Ask3 (2^N-2) (.half N [⟨0,2^N,decide (0<0)⟩]) (2^N*((0:Nat):Int)+1) (.half N [⟨0,2^N,decide (0<0+1)⟩])
   simpa using this
 | shel s fs =>
   have s3:3≤s:=s3
   have hj:j<fs.length:=hj
   have e1:(s/s).toNat=1:=by rw[Int.ediv_self (by omega)];rfl
   have e2:s-2+2=s:=by omega
   have g:Gs s (s-2+2) (List.replicate j ⟨s,[true]⟩++List.replicate (fs.length-j) ⟨0,[]⟩) j 0 [false] ((List.replicate j (⟨s,[true]⟩:Sf)++List.replicate (fs.length-j) (⟨0,[]⟩:Sf)).set j ⟨s-2+2,[false]⟩):=by
     rw[e2]
     have hno:∀f∈(List.replicate j (⟨s,[true]⟩:Sf)++List.replicate (fs.length-j) ⟨0,[]⟩),¬(f.n=s∧false∈f.b):=fun f hf hh=>by
       rcases List.mem_append.mp hf with w | w
       · rw[(List.mem_replicate.mp w).2] at hh
         exact absurd hh.2 (show false ∉ _ by simp)
       · rw[(List.mem_replicate.mp w).2] at hh
         exact absurd hh.2 (show false ∉ _ by simp)
     refine⟨List.getElem?_set_self ((List.getElem?_eq_some_iff.mp (Xnv (s:=s) hj)).1),rfl,fun i' hi=>absurd hi (Nat.not_lt_zero _),fun j' f _ hf=>hno f (List.mem_of_getElem? hf),.inr ⟨hno,Int.le_refl _,rfl,by rw[e1];rfl,⟨_,Xnv hj,rfl⟩,fun j' f hj' hf h0=>?_,rfl⟩⟩
     rcases XEo hf with ⟨_,e⟩ | ⟨e,_⟩
     · rw[e] at h0
       have h0:s=0:=h0
       omega
     · omega
   have:=Ask3.shel (c:=s-2) g (by rw[List.length_set])
   rw[List.set_set,Xxk hj] at this
   show Ask3 (s-2) (.shel s (List.replicate j ⟨s,[true]⟩++List.replicate (fs.length-j) ⟨0,[]⟩)) (s*(j:Int)+1) (.shel s (List.replicate (j+1) ⟨s,[true]⟩++List.replicate (fs.length-(j+1)) ⟨0,[]⟩))
   have e3:List.replicate (j+1) (⟨s,[true]⟩:Sf)=List.replicate j ⟨s,[true]⟩++[⟨s,[true]⟩]:=List.replicate_succ'
   rw[e3,List.append_assoc]
   have e4:s*(j:Int)+(s-2+2)*((0:Nat):Int)+1=s*(j:Int)+1:=by simp
   rw[e4,e2] at this
   exact this
 | row n ls =>
   have s3:3≤n:=s3
   have hj:j<1:=hj
   obtain rfl:j=0:=by omega
   have:=Ask3.row (c:=n-2) (n:=n) (ls:=[]) (by show (0:Int)+(n-2+2)≤n;omega)
   show Ask3 (n-2) (.row n (List.replicate 0 n)) (n*((0:Nat):Int)+1) (.row n (List.replicate 1 n))
   have e2:n-2+2=n:=by omega
   rw[e2] at this
   have e0:sumI []=0:=rfl
   rw[e0] at this
   simpa using this
theorem XEp {q:St3}(h:q.ok):No3 (q.s-2) (Xev (Xby q) (Xby q) q):=by
 have s3:=St3.s3 h
 cases q with
 | half N ps =>
   intro B hB z hz hv
   rw[List.mem_singleton.mp hz] at hv
   cases hv
 | shel s fs =>
   have s3:3≤s:=s3
   show NoGr s (s-2+2) (List.replicate fs.length ⟨s,[true]⟩++List.replicate (fs.length-fs.length) ⟨0,[]⟩)
   rw[Nat.sub_self,List.replicate_zero,List.append_nil]
   refine⟨fun f hf hh=>?_,.inr fun f hf h0=>?_⟩
   · rw[(List.mem_replicate.mp hf).2] at hh
     exact absurd hh.2 (show false ∉ _ by simp)
   · rw[(List.mem_replicate.mp hf).2] at h0
     have h0:s=0:=h0
     omega
 | row n ls =>
   have s3:3≤n:=s3
   show n<sumI (List.replicate 1 n)+(n-2+2)
   have:sumI (List.replicate 1 n)=n:=by
     show sumI ([]++[n])=n
     rw[Xdt]
     show (0:Int)+n=n
     omega
   omega
inductive Giv3:St3→Int→St3→Prop
 | half {N:Nat}:Giv3 (.half N [⟨0,2^N,true⟩]) 1 (.half N [⟨0,2^N,false⟩])
 | shel {s n:Int} {fs:List Sf} {j i:Nat} {b:List Bool}:fs[j]?=some ⟨n,b⟩→b[i]?=some true→Giv3 (.shel s fs) (s*(j:Int)+n*(i:Int)+1) (.shel s (giv fs j i n b))
theorem Xjt {q:St3}{j:Nat}(h:q.ok)(hj:j≤Xby q):(Xev (Xby q) j q).ok∧(Xev (Xby q) j q).let3=q.let3∧(Xev (Xby q) j q).s=q.s∧(Xev (Xby q) j q).n=q.n:=by
 have s3:=St3.s3 h
 cases q with
 | half N ps =>
   obtain⟨h1,h2,h3,h4⟩:=h
   have p:=pw1 N
   refine⟨⟨h1,h2,⟨rfl,p,fun _=>s3,by show (0:Int)+2^N=2^N;omega⟩,fun z hz=>?_⟩,rfl,rfl,rfl⟩
   rw[List.mem_singleton.mp hz]
   exact⟨N,0,rfl,by simp⟩
 | shel s fs =>
   have hj:j≤fs.length:=hj
   have s3:3≤s:=s3
   have hlen:(List.replicate j (⟨s,[true]⟩:Sf)++List.replicate (Xby (St3.shel s fs)-j) (⟨0,[]⟩:Sf)).length=fs.length:=by
     rw[List.length_append,List.length_replicate,List.length_replicate]
     show j+(fs.length-j)=fs.length
     omega
   refine⟨⟨h.1,by show 1≤List.length _;rw[hlen];exact h.2.1,fun f hf=>?_⟩,rfl,rfl,by show s*((List.length _:Nat):Int)=s*(fs.length:Int);rw[hlen]⟩
   rcases List.mem_append.mp hf with w | w
   · rw[(List.mem_replicate.mp w).2]
     exact⟨.inr ⟨s3,Int.le_refl _,by show s*((1:Nat):Int)≤s;simp,by show s<s*((1:Nat):Int)+s;simp;omega⟩,fun _=>List.mem_singleton.mpr rfl⟩
   · rw[(List.mem_replicate.mp w).2]
     exact⟨.inl ⟨rfl,rfl⟩,fun h0=>absurd rfl h0⟩
 | row n ls =>
   have hj:j≤1:=hj
   have s3:3≤n:=s3
   refine⟨⟨h.1,fun l hl=>?_,?_⟩,rfl,rfl,rfl⟩
   · rw[(List.mem_replicate.mp hl).2];exact s3
   · match j,hj with
     | 0,_=>show (0:Int)≤n;omega
     | 1,_ =>
       show sumI ([]++[n])≤n
       rw[Xdt]
       show (0:Int)+n≤n
       omega
end Stow
def Stow.wA (l:List Lean.Name):Array (Lean.TSyntax ``Lean.Parser.Tactic.tacticSeq):=Lean.Unhygienic.run (l.toArray.mapM fun n=>`(tacticSeq| with_reducible refine $(Lean.mkIdent n) ?_))
local macro_rules
 | `(tactic| walk_at "set")=>`(tactic| first
   | exact Stow.set0_c
   | exact Stow.set0_1
   | exact Stow.set0_0
   | ((refine Stow.setS_c (r:=?r) ?h);(case h=>walk_at "set"))
   | ((refine Stow.setS_1 (r:=?r) ?h);(case h=>walk_at "set"))
   | ((refine Stow.setS_0 (r:=?r) ?h);(case h=>walk_at "set")))
local macro_rules
 | `(tactic| walk_at "look")=>`(tactic| first
   | with_reducible assumption
   | exact L2.upd_same
   | ((with_reducible refine Stow.look_ne ?a ?b);(case a=>(first | assumption | exact Ne.symm (by assumption)));(case b=>walk_at "look"))
   | ((with_reducible refine Stow.look_put ?a ?b);(case a=>(first | assumption | walk_at "look"));(case b=>walk_at "look"))
   | ((with_reducible refine Stow.look_tup (ys:=?ys) ?a ?b);(case a=>walk_at "look");(case b=>walk_at "look"))
   | assumption)
local macro_rules
 | `(tactic| walk_at "seq")=>`(tactic| first
   | with_reducible assumption
   | exact L2.SqL.of (by walk_at "look")
   | ((with_reducible refine Stow.seq_put ?a ?b);(case a=>assumption);(case b=>walk_at "seq"))
   | assumption)
local macro_rules
 | `(tactic| walk_at "num")=>`(tactic| first | assumption | omega | (simp only [List.length_map,List.length_set,List.length_append,List.length_cons,List.length_nil] <;> omega))
local macro_rules
 | `(tactic| walk_at "size")=>`(tactic| first | exact Stow.small4000 (by first | omega | (simp only [List.length_map,List.length_set,List.length_append,List.length_cons,List.length_nil] <;> omega)))
local macro_rules
 | `(tactic| walk_at "side")=>`(tactic| first
   | (show (0:Int)<_;first | decide | omega)
   | (show (0:Int)≤_;first | decide | omega)
   | exact Or.inr ⟨by decide,by decide⟩
   | exact Or.inl ⟨by decide,by decide⟩
   | exact⟨by decide,by decide⟩
   | exact⟨by decide,by decide,by decide⟩
   | exact⟨by decide,by decide,by assumption⟩
   | exact⟨by decide,by decide,by omega⟩
   | exact⟨by omega,by omega,by decide⟩
   | exact Or.inr ⟨by omega,by omega⟩
   | exact Or.inl ⟨by omega,by omega⟩
   | exact⟨by omega,by omega⟩)
local macro_rules
 | `(tactic| walk_at "ty")=>`(tactic| first | exact L2.TyOf.int _ | exact L2.TyOf.bl _ | exact L2.TyOf.non | ((refine L2.TyOf.lst (xs:=?xs) ?h);(case h=>walk_at "look")) | ((refine L2.TyOf.tup (xs:=?xs) ?h);(case h=>walk_at "look")) | exact L2.TyOf.str _)
local macro_rules
 | `(tactic| walk_at "kit")=>`(tactic| first | exact Stow.kit_ii | exact Stow.kit_ib | exact Stow.kit_bb | exact Stow.kit_ll | exact Stow.kit_tt)
local macro_rules
 | `(tactic| walk_at "sp")=>`(tactic| fail "no promise")
def Stow.wq0:=Stow.wA [`Stow.r_seq,`Stow.r_chain,`Stow.r_asg]
def Stow.wq1:=Stow.wA [`Stow.r_gname,`Stow.r_op,`Stow.r_cons,`Stow.r_nil,`Stow.r_c,`Stow.r_rI0,`Stow.r_call,`Stow.r_cb,`Stow.r_test,`Stow.r_tB,`Stow.r_bl,`Stow.r_ifS,`Stow.r_ret,`Stow.r_rt,`Stow.r_drop,`Stow.r_next,`Stow.r_not,`Stow.r_and,`Stow.r_or,`Stow.r_andV,`Stow.r_orV,`Stow.r_notV,`Stow.r_ifE,`Stow.r_ifN,`Stow.r_eqI,`Stow.r_neI,`Stow.r_isN,`Stow.r_int,`Stow.r_eqB,`Stow.r_neB,`Stow.r_tup,`Stow.r_lst,`Stow.r_bm,`Stow.r_bm0,`Stow.r_sl,`Stow.r_part,`Stow.r_nopart,`Stow.r_un,`Stow.r_rU,`Stow.r_intB,`Stow.r_intI,`Stow.r_truB,`Stow.r_gsub,`Stow.r_retN,`Stow.r_ct,`Stow.r_bk,`Stow.r_break,`Stow.r_cont,`L2.iteT,`L2.iteF]
def Stow.wq2:=Stow.wA [`Stow.r_raise,`Stow.r_raiseI,`Stow.r_tryAs,`Stow.r_try,`Stow.r_fldX,`Stow.r_for,`Stow.r_iL,`Stow.r_iR1,`Stow.r_iR2,`Stow.r_comp]
def Stow.wq3:=Stow.wA [`Stow.r_makeX,`Stow.r_makeI,`Stow.r_fldN]
def Stow.wq4:=Stow.wA [`Stow.r_tryE,`Stow.r_tryA,`Stow.r_xCall,`Stow.r_tryS,`Stow.r_xSet,`Stow.r_xIf,`Stow.r_xMeth,`Stow.r_xMethD,`Stow.r_xMake,`Stow.r_methD,`Stow.r_isB]
local macro_rules
 | `(tactic| walk_at "st")=>`(tactic| first
   | ((with_reducible refine Stow.r_var (v:=?v) ?e ?_);(case e=>exact rfl))
   $[| $(Stow.wq0):tacticSeq]*
   | ((with_reducible refine Stow.r_gnameN (σ':=?s) ?e ?_);(case e=>with_reducible (walk_at "set")))
   $[| $(Stow.wq1):tacticSeq]*
   | ((with_reducible refine Stow.r_rI ?c ?_);(case c=>walk_at "side"))
   | ((with_reducible refine Stow.r_tyL (xs:=?xs) ?h ?_);(case h=>walk_at "look"))
   | ((with_reducible refine Stow.r_appendI (ns:=?ns) ?h ?z ?_);(case h=>walk_at "look");(case z=>walk_at "size"))
   | ((with_reducible refine Stow.r_append (xs:=?xs) ?h ?z ?_);(case h=>walk_at "look");(case z=>walk_at "size"))
   | ((with_reducible refine Stow.r_gtup (xs:=?xs) ?h ?l ?_);(case h=>walk_at "look");(case l=>exact rfl))
   | (with_reducible refine Stow.r_gcons ?_)
   | (with_reducible refine Stow.r_gnil ?_)
   | ((with_reducible refine Stow.r_ixI (ns:=?ns) ?h ?a ?b ?_);(case h=>walk_at "seq");(case a=>walk_at "num");(case b=>walk_at "num"))
   | ((with_reducible refine Stow.r_ixT (xs:=?xs) (v:=?v) ?h ?e ?_);(case h=>walk_at "look");(case e=>exact rfl))
   | ((with_reducible refine Stow.r_setI (ns:=?ns) ?h ?a ?b ?_);(case h=>walk_at "look");(case a=>walk_at "num");(case b=>walk_at "num"))
   | ((with_reducible refine Stow.r_sllG (ns:=?ns) ?h ?_);(case h=>walk_at "seq"))
   | ((with_reducible refine Stow.r_sll (xs:=?xs) ?h ?_);(case h=>walk_at "seq"))
   | ((with_reducible refine Stow.r_lenI (ns:=?ns) ?h ?_);(case h=>walk_at "seq");(try rw[List.length_map]))
   | ((with_reducible refine Stow.r_lenL (xs:=?xs) ?h ?_);(case h=>walk_at "look"))
   | ((with_reducible refine Stow.r_lenT (xs:=?xs) ?h ?_);(case h=>walk_at "look"))
   | ((with_reducible refine Stow.r_listI (xs:=?xs) ?h ?_);(case h=>walk_at "seq"))
   | ((with_reducible refine Stow.r_isi (t:=?t) (b:=?b) ?y ?e ?_);(case y=>walk_at "ty");(case e=>walk_at "kit"))
   | ((with_reducible refine Stow.r_new ?h ?_);(case h=>(first | exact Nat.zero_le _ | simp)))
   | ((with_reducible refine Stow.r_truL (xs:=?xs) ?h ?_);(case h=>walk_at "seq"))
   | ((with_reducible refine Stow.r_ifdT ?c ?_);(case c=>(first | omega | exact rfl)))
   | ((with_reducible refine Stow.r_ifdF ?c ?_);(case c=>(first | omega | (intro h;cases h;done))))
   $[| $(Stow.wq2):tacticSeq]*
   | ((with_reducible refine Stow.r_isiX (C:=?C) (od:=?od) (b:=?b) ?h ?z ?e ?_);(case h=>walk_at "look");(case z=>assumption);(case e=>assumption))
   | ((with_reducible refine Stow.r_isiN (C:=?C) (od:=?od) (b:=?b) ?h ?z ?n ?e ?_);(case h=>walk_at "look");(case z=>assumption);(case n=>exact fun z=>nomatch z);(case e=>assumption))
   $[| $(Stow.wq3):tacticSeq]*
   | ((with_reducible refine Stow.r_catG (xs:=?xs) (zs:=?zs) ?h ?g ?z ?_);(case h=>walk_at "look");(case g=>walk_at "look");(case z=>walk_at "num"))
   | ((with_reducible refine Stow.r_cat (xs:=?xs) (zs:=?zs) ?h ?g ?z ?_);(case h=>walk_at "look");(case g=>walk_at "look");(case z=>(refine Nat.le_of_lt (L2.small1000 ?_);first | omega | simp)))
   | ((with_reducible refine Stow.r_slS ?h ?_);(case h=>decide))
   | (with_reducible refine Stow.r_max ?_)
   | (with_reducible refine Stow.r_fld ?_)
   | ((with_reducible refine Stow.r_at (C:=?C) (dx:=?dx) (fs:=?fs) (v:=?v) ?h ?c ?n ?l ?_);(case h=>walk_at "look");(case c=>assumption);(case n=>assumption);(case l=>exact rfl))
   | (with_reducible refine Stow.r_sfld ?_)
   | ((with_reducible refine Stow.r_sat (C:=?C) (dx:=?dx) (fs:=?fs) ?h ?c ?n ?l ?_);(case h=>walk_at "look");(case c=>assumption);(case n=>assumption);(case l=>(first | decide | simp)))
   | (with_reducible refine Stow.r_meth ?_)
   | ((with_reducible refine Stow.r_mat (dx:=?dx) (fs:=?fs) ?h ?l ?_);(case h=>walk_at "look");(case l=>exact rfl))
   | (with_reducible refine Stow.r_make ?_)
   | (with_reducible refine Stow.r_compG ?_)
   | ((with_reducible refine Stow.r_isiO (C:=?C) (dx:=?dx) (fs:=?fs) (b:=?b) ?h ?z ?e ?_);(case h=>walk_at "look");(case z=>assumption);(case e=>assumption))
   $[| $(Stow.wq4):tacticSeq]*
   | ((with_reducible refine Stow.r_notIn (xs:=?xs) ?h ?f ?g ?_);(case h=>walk_at "look");(case f=>exact rfl);(case g=>exact rfl))
   | (with_reducible refine Stow.r_nx ?_)
   | walk_at "sp")
local macro_rules
 | `(tactic| walk_at "go")=>`(tactic| repeat walk_at "st")
local macro_rules
 | `(tactic| walk_at "len")=>`(tactic| first | (rintro ⟨e,_⟩;exact congrArg List.length e) | (rintro ⟨_,h⟩;revert h;walk_at "len"))
local macro_rules
 | `(tactic| walk_at "gs")=>`(tactic| repeat (first | (with_reducible refine Stow.r_nx ?_) | ((fail_if_success (with_reducible refine Stow.r_isIf ?_));walk_at "st")))
local macro_rules
 | `(tactic| walk_at "ga")=>`(tactic| repeat ((fail_if_success (with_reducible refine Stow.r_isAnd ?_));(fail_if_success (with_reducible refine Stow.r_isOr ?_));walk_at "st"))
local macro_rules
 | `(tactic| walk_at "ge")=>`(tactic| repeat (first | (with_reducible refine Stow.r_nx ?_) | ((fail_if_success (with_reducible refine Stow.r_isSeq ?_));walk_at "st")))
local macro_rules
 | `(tactic| walk_at "g1")=>`(tactic| ((with_reducible refine Stow.r_seq ?_);walk_at "ge"))
def Stow.wq5:=Stow.wA [`Stow.r_dget,`Stow.r_dput,`Stow.r_forD,`Stow.r_forI,`Stow.r_dnew,`Stow.r_xExp]
local macro_rules
 | `(tactic| walk_at "st")=>`(tactic| first
   $[| $(Stow.wq5):tacticSeq]*
   | ((with_reducible refine Stow.r_tyD (kvs:=?kvs) ?h ?_);(case h=>walk_at "look")))
def Stow.wq6:=Stow.wA [`Stow.r_eqSS,`Stow.r_neSS,`Stow.r_eqSt,`Stow.r_neSt,`Stow.r_methF,`Stow.r_methFD,`Stow.r_xMethF,`Stow.r_xMethFD]
local macro_rules
 | `(tactic| walk_at "st")=>`(tactic| first
   | (with_reducible refine Stow.r_dIn ?_)
   | (with_reducible refine Stow.r_dPop ?_)
   | ((with_reducible refine Stow.r_truD (kvs:=?kvs) ?h ?_);(case h=>walk_at "look"))
   $[| $(Stow.wq6):tacticSeq]*
   | ((with_reducible refine Stow.r_matF (i:=?i) (dx:=?dx) (fs:=?fs) ?h ?l ?_);(case h=>walk_at "look");(case l=>(first | exact Stow.fsF_none (by decide) (by decide) | exact rfl)))
   | ((with_reducible refine Stow.r_at (C:=?C) (dx:=?dx) (fs:=?fs) (v:=?v) ?h ?c ?n ?l ?_);(case h=>walk_at "look");(case c=>assumption);(case n=>assumption);(case l=>exact Stow.fsF_cells))
   | ((with_reducible refine Stow.r_sat (C:=?C) (dx:=?dx) (fs:=?fs) ?h ?c ?n ?l ?_);(case h=>walk_at "look");(case c=>assumption);(case n=>assumption);(case l=>exact Stow.fsF_few)))
def Stow.wq7:=Stow.wA [`Stow.i_long,`Stow.i_live,`Stow.i_whole]
local macro_rules
 | `(tactic| walk_at "sp")=>`(tactic| first
   $[| $(Stow.wq7):tacticSeq]*
   | ((with_reducible refine Stow.i_cell (ns:=?ns) ?h ?a ?_);(case h=>walk_at "seq");(case a=>walk_at "nn"))
   | ((with_reducible refine Stow.i_can (ns:=?ns) ?h ?a ?b ?_);(case h=>walk_at "seq");(case a=>walk_at "num");(case b=>walk_at "num"))
   | ((with_reducible refine Stow.i_bad (ns:=?ns) ?h ?a ?b ?_);(case h=>walk_at "seq");(case a=>walk_at "num");(case b=>walk_at "num")))
local macro_rules
 | `(tactic| walk_at "nn")=>`(tactic| first | decide | omega | exact Int.emod_nonneg _ (by decide) | exact Int.emod_nonneg _ (by omega))
--GEN
namespace Stow
open PySem L2 PyProof.Rows
theorem fS {N Q:List Str}{sc:Scope}(a:sc.kind = .function:=by rfl)(b:sc.isCoroutine=false:=by rfl)(c:sc.isGenerator=false:=by rfl)(d:N.Nodup:=by decide +kernel)(e:N.take Q.length=Q:=by rfl)(f:∀x∈Q,sc.names.lookup x=some .local∨sc.names.lookup x=some .cell:=by decide +kernel)(g:∀y∈sc.names,y.2≠.free:=by decide +kernel):FnScope N Q sc:=⟨a,b,c,d,e,f,g⟩
abbrev Xsj:Stmt:=top 17
theorem XJg:FnScope ["count","bound"] ["count","bound"] (Xad Xsj):=fS
abbrev BiS (x q:Str)(s:Stmt)(ps:List Str):Prop:=∀(kV doc pm:Value) (an:Option Addr) (cdv ct:Value) (us:List Value),us.length=ps.length→bindArgs (PySem.W.fnOf x q (Xbf s) (Xaz s) (Xad s) .none kV doc pm an cdv ct) ⟨us,[]⟩=pure (ps.zip us)
theorem XIc:BiS "check_ask" "check_ask" Xsj ["count","bound"]:=fun _ _ _ _ _ _ us hl=>match us,hl with | [_,_],_=>rfl
abbrev s_Z3:Stmt:=top 18
theorem sc_Z3:FnScope ["count","bound"] ["count","bound"] (Xad s_Z3):=fS
theorem XUc:BiS "check_plain_ask" "check_plain_ask" s_Z3 ["count","bound"]:=fun _ _ _ _ _ _ us hl=>match us,hl with | [_,_],_=>rfl
abbrev Xsw:Stmt:=top 20
theorem XIx:FnScope ["long","live"] ["long","live"] (Xad Xsw):=fS
theorem XQd:BiS "mark_of" "mark_of" Xsw ["long","live"]:=fun _ _ _ _ _ _ us hl=>match us,hl with | [_,_],_=>rfl
abbrev Xti:Stmt:=top 21
theorem XPk:FnScope ["number"] ["number"] (Xad Xti):=fS
theorem XQz:BiS "long_of" "long_of" Xti ["number"]:=fun _ _ _ _ _ _ us hl=>match us,hl with | [_],_=>rfl
abbrev Xub:Stmt:=top 22
theorem XRs:FnScope ["number"] ["number"] (Xad Xub):=fS
theorem XIy:BiS "live_of" "live_of" Xub ["number"]:=fun _ _ _ _ _ _ us hl=>match us,hl with | [_],_=>rfl
abbrev Xug:Stmt:=top 25
theorem Xzb:FnScope ["cells","at","long"] ["cells","at"] (Xad Xug):=fS
theorem XMi:BiS "can_begin" "can_begin" Xug ["cells","at"]:=fun _ _ _ _ _ _ us hl=>match us,hl with | [_,_],_=>rfl
abbrev Xrk:Stmt:=top 26
theorem Xzm:FnScope ["cells","at","last"] ["cells","at"] (Xad Xrk):=fS
theorem XMz:BiS "bad_of_piece" "bad_of_piece" Xrk ["cells","at"]:=fun _ _ _ _ _ _ us hl=>match us,hl with | [_,_],_=>rfl
abbrev Xuv:Stmt:=top 27
theorem Xiz:FnScope ["cells","pieces","at","bad","long"] ["cells"] (Xad Xuv):=fS
theorem XNn:BiS "looked" "looked" Xuv ["cells"]:=fun _ _ _ _ _ _ us hl=>match us,hl with | [_],_=>rfl
abbrev Xsb:Stmt:=top 28
theorem Xzn:FnScope ["count","cells"] ["count"] (Xad Xsb):=fS
theorem XJl:BiS "fresh_room" "fresh_room" Xsb ["count"]:=fun _ _ _ _ _ _ us hl=>match us,hl with | [_],_=>rfl
abbrev Xrh:Stmt:=top 30
theorem Xzs:FnScope ["cells","at","long","live","row"] ["cells","at","long","live"] (Xad Xrh):=fS
theorem XLy:BiS "laid" "laid" Xrh ["cells","at","long","live"]:=fun _ _ _ _ _ _ us hl=>match us,hl with | [_,_,_,_],_=>rfl
abbrev Xqa:Stmt:=top 31
theorem XJv:FnScope ["cells","begin","end"] ["cells","begin","end"] (Xad Xqa):=fS
theorem XJp:BiS "laid_free" "laid_free" Xqa ["cells","begin","end"]:=fun _ _ _ _ _ _ us hl=>match us,hl with | [_,_,_],_=>rfl
abbrev Xsl:Stmt:=top 32
theorem Xzg:FnScope ["cells","at","piece"] ["cells","at"] (Xad Xsl):=fS
theorem XOi:BiS "piece_at" "piece_at" Xsl ["cells","at"]:=fun _ _ _ _ _ _ us hl=>match us,hl with | [_,_],_=>rfl
abbrev Xuf:Stmt:=top 33
theorem XAj:FnScope ["cells","at","piece"] ["cells","at"] (Xad Xuf):=fS
theorem XPe:BiS "live_at" "live_at" Xuf ["cells","at"]:=fun _ _ _ _ _ _ us hl=>match us,hl with | [_,_],_=>rfl
abbrev Xrm:Stmt:=top 34
theorem Xzh:FnScope ["cells","at","piece"] ["cells","at"] (Xad Xrm):=fS
theorem XLr:BiS "free_at" "free_at" Xrm ["cells","at"]:=fun _ _ _ _ _ _ us hl=>match us,hl with | [_,_],_=>rfl
abbrev Xqy:Stmt:=top 35
theorem Xij:FnScope ["cells","at","place","long","begin","free_long","live","end","row"] ["cells","at","place","long"] (Xad Xqy):=fS
theorem XKc:BiS "cut_out" "cut_out" Xqy ["cells","at","place","long"]:=fun _ _ _ _ _ _ us hl=>match us,hl with | [_,_,_,_],_=>rfl
abbrev Xvc:Stmt:=top 36
theorem sc_Z55:FnScope ["cells","source","goal","count","row"] ["cells","source","goal","count"] (Xad Xvc):=fS
theorem bi_Z55:BiS "carried" "carried" Xvc ["cells","source","goal","count"]:=fun _ _ _ _ _ _ us hl=>match us,hl with | [_,_,_,_],_=>rfl
abbrev Xqb:Stmt:=top 40
theorem XNd:FnScope ["number"] ["number"] (Xad Xqb):=fS
theorem XKp:BiS "is_power" "is_power" Xqb ["number"]:=fun _ _ _ _ _ _ us hl=>match us,hl with | [_],_=>rfl
abbrev Xtw:Stmt:=top 41
theorem XMq:FnScope ["need"] ["need"] (Xad Xtw):=fS
theorem XQe:BiS "block_for" "block_for" Xtw ["need"]:=fun _ _ _ _ _ _ us hl=>match us,hl with | [_],_=>rfl
abbrev Xqg:Stmt:=top 42
theorem Xol:FnScope ["pieces","block","fit","long","at"] ["pieces","block"] (Xad Xqg):=fS
theorem XKt:BiS "least_free" "least_free" Xqg ["pieces","block"]:=fun _ _ _ _ _ _ us hl=>match us,hl with | [_,_],_=>rfl
abbrev Xrz:Stmt:=top 43
theorem Xoo:FnScope ["cells","at","long","block","row"] ["cells","at","long","block"] (Xad Xrz):=fS
theorem XJz:BiS "cut_down" "cut_down" Xrz ["cells","at","long","block"]:=fun _ _ _ _ _ _ us hl=>match us,hl with | [_,_,_,_],_=>rfl
abbrev s_Z4:Stmt:=top 44
theorem XFc:FnScope ["pieces","at","long"] ["pieces","at","long"] (Xad s_Z4):=fS
theorem XSs:BiS "grown_together" "grown_together" s_Z4 ["pieces","at","long"]:=fun _ _ _ _ _ _ us hl=>match us,hl with | [_,_,_],_=>rfl
abbrev Xsm:Stmt:=top 49
theorem XRm:FnScope ["size","shelf"] ["size","shelf"] (Xad Xsm):=fS
theorem XJs:BiS "all_whole" "all_whole" Xsm ["size","shelf"]:=fun _ _ _ _ _ _ us hl=>match us,hl with | [_,_],_=>rfl
abbrev Xsv:Stmt:=top 50
theorem XIw:FnScope ["at","shelf"] ["at","shelf"] (Xad Xsv):=fS
theorem XPz:BiS "begin_of" "begin_of" Xsv ["at","shelf"]:=fun _ _ _ _ _ _ us hl=>match us,hl with | [_,_],_=>rfl
abbrev Xre:Stmt:=top 51
theorem XMl:FnScope ["cells","shelf"] ["cells","shelf"] (Xad Xre):=fS
theorem XLo:BiS "whole_ones" "whole_ones" Xre ["cells","shelf"]:=fun _ _ _ _ _ _ us hl=>match us,hl with | [_,_],_=>rfl
abbrev Xpz:Stmt:=top 52
theorem Xzt:FnScope ["cells","shelf","size","fit"] ["cells","shelf","size"] (Xad Xpz):=fS
theorem XMb:BiS "free_slots" "free_slots" Xpz ["cells","shelf","size"]:=fun _ _ _ _ _ _ us hl=>match us,hl with | [_,_,_],_=>rfl
abbrev Xrl:Stmt:=top 53
theorem Xmb:FnScope ["cells","begin","shelf","size","row","end","at"] ["cells","begin","shelf","size"] (Xad Xrl):=fS
theorem XPi:BiS "cut_for" "cut_for" Xrl ["cells","begin","shelf","size"]:=fun _ _ _ _ _ _ us hl=>match us,hl with | [_,_,_,_],_=>rfl
abbrev Xqn:Stmt:=top 54
theorem Xzj:FnScope ["cells","shelf","size","begins"] ["cells","shelf","size"] (Xad Xqn):=fS
theorem XNe:BiS "with_slot" "with_slot" Xqn ["cells","shelf","size"]:=fun _ _ _ _ _ _ us hl=>match us,hl with | [_,_,_],_=>rfl
abbrev Xtr:Stmt:=top 55
theorem XMd:FnScope ["cells","begin","shelf"] ["cells","begin","shelf"] (Xad Xtr):=fS
theorem XKk:BiS "has_live" "has_live" Xtr ["cells","begin","shelf"]:=fun _ _ _ _ _ _ us hl=>match us,hl with | [_,_,_],_=>rfl
abbrev Xuo:Stmt:=top 58
theorem XMg:FnScope ["_law_script","_law_k"] ["_law_script","_law_k"] (Xad Xuo):=fS
theorem XLa:BiS "_law_cell_at" "_law_cell_at" Xuo ["_law_script","_law_k"]:=fun _ _ _ _ _ _ us hl=>match us,hl with | [_,_],_=>rfl
abbrev Xrg:Stmt:=top 59
theorem XKr:FnScope ["_law_found"] ["_law_found"] (Xad Xrg):=fS
theorem XNa:BiS "_law_whole" "_law_whole" Xrg ["_law_found"]:=fun _ _ _ _ _ _ us hl=>match us,hl with | [_],_=>rfl
abbrev Xtk:Stmt:=top 60
theorem Xjj:FnScope ["_law_cells","_law_told","_law_at","_law_long","_law_live"] ["_law_cells"] (Xad Xtk):=fS
theorem XKj:BiS "_law_walk" "_law_walk" Xtk ["_law_cells"]:=fun _ _ _ _ _ _ us hl=>match us,hl with | [_],_=>rfl
abbrev Xtn:Stmt:=top 61
theorem Xrb:FnScope ["_law_flags","_law_words_here"] ["_law_flags"] (Xad Xtn):=fS
theorem XKe:BiS "_law_words" "_law_words" Xtn ["_law_flags"]:=fun _ _ _ _ _ _ us hl=>match us,hl with | [_],_=>rfl
abbrev Xtu:Stmt:=top 62
theorem XHs:FnScope ["_law_keeper","_law_which","_law_place","_law_count","_law_bound","_law_k"] ["_law_keeper","_law_which","_law_place","_law_count","_law_bound","_law_k"] (Xad Xtu):=fS
theorem XIk:BiS "_law_done" "_law_done" Xtu ["_law_keeper","_law_which","_law_place","_law_count","_law_bound","_law_k"]:=fun _ _ _ _ _ _ us hl=>match us,hl with | [_,_,_,_,_,_],_=>rfl
abbrev Xrw:Stmt:=top 63
theorem Xfb:FnScope ["_law_keeper","_law_which","_law_place","_law_count","_law_bound","_law_k","_law_flags","_law_told","e"] ["_law_keeper","_law_which","_law_place","_law_count","_law_bound","_law_k"] (Xad Xrw):=fS
theorem XKm:BiS "_law_call" "_law_call" Xrw ["_law_keeper","_law_which","_law_place","_law_count","_law_bound","_law_k"]:=fun _ _ _ _ _ _ us hl=>match us,hl with | [_,_,_,_,_,_],_=>rfl
abbrev Xrn:Stmt:=top 64
theorem XHv:FnScope ["_law_count","_law_bound"] ["_law_count","_law_bound"] (Xad Xrn):=fS
theorem XRf:BiS "_law_ask_due" "_law_ask_due" Xrn ["_law_count","_law_bound"]:=fun _ _ _ _ _ _ us hl=>match us,hl with | [_,_],_=>rfl
abbrev Xrx:Stmt:=top 65
theorem XQr:FnScope ["_law_kind","_law_which","_law_lives","_law_place","_law_count","_law_bound","_law_k","_law_most"] ["_law_kind","_law_which","_law_lives","_law_place","_law_count","_law_bound","_law_k","_law_most"] (Xad Xrx):=fS
theorem XMh:BiS "_law_due" "_law_due" Xrx ["_law_kind","_law_which","_law_lives","_law_place","_law_count","_law_bound","_law_k","_law_most"]:=fun _ _ _ _ _ _ us hl=>match us,hl with | [_,_,_,_,_,_,_,_],_=>rfl
abbrev Xus:Stmt:=top 66
theorem Xld:FnScope ["_law_cells","_law_lives","_law_cell","_law_places","_law_one","_law_frees","_law_some"] ["_law_cells","_law_lives","_law_cell"] (Xad Xus):=fS
theorem XKg:BiS "_law_place_by" "_law_place_by" Xus ["_law_cells","_law_lives","_law_cell"]:=fun _ _ _ _ _ _ us hl=>match us,hl with | [_,_,_],_=>rfl
abbrev Xuk:Stmt:=top 67
theorem Xdz:FnScope ["_law_keeper","_law_kind","_law_cell","_law_most","_law_cells","_law_lives","_law_which","_law_place","_law_count","_law_bound","_law_many","_law_k","_law_due_here","_law_words_here","_law_told"] ["_law_keeper","_law_kind","_law_cell","_law_most"] (Xad Xuk):=fS
theorem XLn:BiS "_law_step" "_law_step" Xuk ["_law_keeper","_law_kind","_law_cell","_law_most"]:=fun _ _ _ _ _ _ us hl=>match us,hl with | [_,_,_,_],_=>rfl
abbrev Xta:Stmt:=top 68
theorem Xjh:FnScope ["_law_keeper","_law_kind","_law_most","_law_cell","_law_pieces","_law_wholes","_law_count","_law_again"] ["_law_keeper","_law_kind","_law_most","_law_cell"] (Xad Xta):=fS
theorem XJm:BiS "_law_last" "_law_last" Xta ["_law_keeper","_law_kind","_law_most","_law_cell"]:=fun _ _ _ _ _ _ us hl=>match us,hl with | [_,_,_,_],_=>rfl
abbrev Xmr:Stmt:=top 69
theorem Xef:FnScope ["_law_script","_law_kind","_law_size","_law_keeper","_law_most","_law_cell"] ["_law_script"] (Xad Xmr):=fS
theorem bi_law:BiS "law" "law" Xmr ["_law_script"]:=fun _ _ _ _ _ _ us hl=>match us,hl with | [_],_=>rfl
abbrev Xdd:Stmt:=Xah (top 4) 0
theorem Xit:FnScope ["self","cell"] ["self","cell"] (Xad Xdd):=fS
theorem Xiy:BiS "__init__" "Broken.__init__" Xdd ["self","cell"]:=fun _ _ _ _ _ _ us hl=>match us,hl with | [_,_],_=>rfl
abbrev Xez:Stmt:=Xah (top 12) 0
theorem Xtl:FnScope ["self","line"] ["self","line"] (Xad Xez):=fS
theorem Xup:BiS "__init__" "BadLine.__init__" Xez ["self","line"]:=fun _ _ _ _ _ _ us hl=>match us,hl with | [_,_],_=>rfl
abbrev Xcq:Stmt:=Xah (top 38) 0
theorem Xfa:FnScope ["self","size"] ["self","size"] (Xad Xcq):=fS
theorem Xey:BiS "__init__" "Keeper.__init__" Xcq ["self","size"]:=fun _ _ _ _ _ _ us hl=>match us,hl with | [_,_],_=>rfl
abbrev Xde:Stmt:=Xah (top 45) 0
theorem Xiw:FnScope ["self","size"] ["self","size"] (Xad Xde):=fS
theorem Xiv:BiS "__init__" "Halves.__init__" Xde ["self","size"]:=fun _ _ _ _ _ _ us hl=>match us,hl with | [_,_],_=>rfl
abbrev Xcv:Stmt:=Xah (top 56) 0
theorem Xel:FnScope ["self","size","shelf","cells"] ["self","size","shelf"] (Xad Xcv):=fS
theorem Xhv:BiS "__init__" "Shelves.__init__" Xcv ["self","size","shelf"]:=fun _ _ _ _ _ _ us hl=>match us,hl with | [_,_,_],_=>rfl
abbrev s_Z1:Stmt:=Xah (top 38) 11
theorem XTr:FnScope ["self","cells"] ["self","cells"] (Xad s_Z1):=fS
theorem bi_Z1:BiS "room_begin" "Keeper.room_begin" s_Z1 ["self","cells"]:=fun _ _ _ _ _ _ us hl=>match us,hl with | [_,_],_=>rfl
abbrev Xvx:Stmt:=Xah (top 38) 3
theorem XRn:FnScope ["self","cells"] ["self","cells"] (Xad Xvx):=fS
theorem XLq:BiS "lay" "Keeper.lay" Xvx ["self","cells"]:=fun _ _ _ _ _ _ us hl=>match us,hl with | [_,_],_=>rfl
abbrev s_Z6:Stmt:=Xah (top 38) 2
theorem XTa:FnScope ["self"] ["self"] (Xad s_Z6):=fS
theorem XTe:BiS "pieces" "Keeper.pieces" s_Z6 ["self"]:=fun _ _ _ _ _ _ us hl=>match us,hl with | [_],_=>rfl
abbrev s_Z8:Stmt:=Xah (top 38) 1
theorem sc_Z8:FnScope ["self"] ["self"] (Xad s_Z8):=fS
theorem bi_Z8:BiS "cells" "Keeper.cells" s_Z8 ["self"]:=fun _ _ _ _ _ _ us hl=>match us,hl with | [_],_=>rfl
abbrev Xvt:Stmt:=Xah (top 38) 5
theorem Xnw:FnScope ["self","place","at","long","live"] ["self","place"] (Xad Xvt):=fS
theorem XRa:BiS "many" "Keeper.many" Xvt ["self","place"]:=fun _ _ _ _ _ _ us hl=>match us,hl with | [_,_],_=>rfl
abbrev s_Z0:Stmt:=Xah (top 38) 12
theorem XKs:FnScope ["self","place","k","many"] ["self","place","k"] (Xad s_Z0):=fS
theorem bi_Z0:BiS "room_cell_of" "Keeper.room_cell_of" s_Z0 ["self","place","k"]:=fun _ _ _ _ _ _ us hl=>match us,hl with | [_,_,_],_=>rfl
abbrev Xvw:Stmt:=Xah (top 38) 7
theorem Xzr:FnScope ["self","place","k","number","cell"] ["self","place","k","number"] (Xad Xvw):=fS
theorem XMy:BiS "put" "Keeper.put" Xvw ["self","place","k","number"]:=fun _ _ _ _ _ _ us hl=>match us,hl with | [_,_,_,_],_=>rfl
abbrev Xyd:Stmt:=Xah (top 38) 6
theorem XJa:FnScope ["self","place","k"] ["self","place","k"] (Xad Xyd):=fS
theorem XMt:BiS "get" "Keeper.get" Xyd ["self","place","k"]:=fun _ _ _ _ _ _ us hl=>match us,hl with | [_,_,_],_=>rfl
abbrev Xku:Stmt:=Xah (top 45) 1
theorem Xok:FnScope ["self","count","bound","block","at","long"] ["self","count","bound"] (Xad Xku):=fS
theorem XKx (T:Addr)(d1:Value)(kV doc pm:Value)(an:Option Addr)(cdv ct:Value)(us:List Value)(hl:us.length=["self","count","bound"].length):∃k:Option (Array Value)→Sem (List (Str×Value)),bindArgs (PySem.W.fnOf "ask" "Halves.ask" (Xbf Xku) (Xaz Xku) (Xad Xku) (.ref T) kV doc pm an cdv ct) ⟨us,[]⟩=seqItems? (.ref T) >>= k∧k (some [d1].toArray)=pure ((["self","count","bound"]:List Str).zip us):=match us,hl with | [_,_,_],_=>⟨_,rfl,rfl⟩
theorem XOo (T:Addr)(d1:Value)(kV doc pm:Value)(an:Option Addr)(cdv ct:Value)(us:List Value)(hl:(us++[d1]).length=["self","count","bound"].length):∃k:Option (Array Value)→Sem (List (Str×Value)),bindArgs (PySem.W.fnOf "ask" "Halves.ask" (Xbf Xku) (Xaz Xku) (Xad Xku) (.ref T) kV doc pm an cdv ct) ⟨us,[]⟩=seqItems? (.ref T) >>= k∧k (some [d1].toArray)=pure ((["self","count","bound"]:List Str).zip (us++[d1])):=match us,(show us.length=2 by simpa using hl) with | [_,_],_=>⟨_,rfl,rfl⟩
abbrev Xjs:Stmt:=Xah (top 56) 2
theorem Xor:FnScope ["self","count","bound","size","cells","at"] ["self","count","bound"] (Xad Xjs):=fS
theorem XNo (T:Addr)(d1:Value)(kV doc pm:Value)(an:Option Addr)(cdv ct:Value)(us:List Value)(hl:us.length=["self","count","bound"].length):∃k:Option (Array Value)→Sem (List (Str×Value)),bindArgs (PySem.W.fnOf "ask" "Shelves.ask" (Xbf Xjs) (Xaz Xjs) (Xad Xjs) (.ref T) kV doc pm an cdv ct) ⟨us,[]⟩=seqItems? (.ref T) >>= k∧k (some [d1].toArray)=pure ((["self","count","bound"]:List Str).zip us):=match us,hl with | [_,_,_],_=>⟨_,rfl,rfl⟩
theorem XOn (T:Addr)(d1:Value)(kV doc pm:Value)(an:Option Addr)(cdv ct:Value)(us:List Value)(hl:(us++[d1]).length=["self","count","bound"].length):∃k:Option (Array Value)→Sem (List (Str×Value)),bindArgs (PySem.W.fnOf "ask" "Shelves.ask" (Xbf Xjs) (Xaz Xjs) (Xad Xjs) (.ref T) kV doc pm an cdv ct) ⟨us,[]⟩=seqItems? (.ref T) >>= k∧k (some [d1].toArray)=pure ((["self","count","bound"]:List Str).zip (us++[d1])):=match us,(show us.length=2 by simpa using hl) with | [_,_],_=>⟨_,rfl,rfl⟩
abbrev Xjq:Stmt:=Xah (top 47) 0
theorem Xop:FnScope ["self","count","bound","at","long","live"] ["self","count","bound"] (Xad Xjq):=fS
theorem XQb (T:Addr)(d1:Value)(kV doc pm:Value)(an:Option Addr)(cdv ct:Value)(us:List Value)(hl:us.length=["self","count","bound"].length):∃k:Option (Array Value)→Sem (List (Str×Value)),bindArgs (PySem.W.fnOf "ask" "Row.ask" (Xbf Xjq) (Xaz Xjq) (Xad Xjq) (.ref T) kV doc pm an cdv ct) ⟨us,[]⟩=seqItems? (.ref T) >>= k∧k (some [d1].toArray)=pure ((["self","count","bound"]:List Str).zip us):=match us,hl with | [_,_,_],_=>⟨_,rfl,rfl⟩
theorem XPn (T:Addr)(d1:Value)(kV doc pm:Value)(an:Option Addr)(cdv ct:Value)(us:List Value)(hl:(us++[d1]).length=["self","count","bound"].length):∃k:Option (Array Value)→Sem (List (Str×Value)),bindArgs (PySem.W.fnOf "ask" "Row.ask" (Xbf Xjq) (Xaz Xjq) (Xad Xjq) (.ref T) kV doc pm an cdv ct) ⟨us,[]⟩=seqItems? (.ref T) >>= k∧k (some [d1].toArray)=pure ((["self","count","bound"]:List Str).zip (us++[d1])):=match us,(show us.length=2 by simpa using hl) with | [_,_],_=>⟨_,rfl,rfl⟩
abbrev Xwx:Stmt:=Xah (top 45) 2
theorem Xru:FnScope ["self","place","at","long"] ["self","place"] (Xad Xwx):=fS
theorem XQh:BiS "give" "Halves.give" Xwx ["self","place"]:=fun _ _ _ _ _ _ us hl=>match us,hl with | [_,_],_=>rfl
abbrev s_Z9:Stmt:=Xah (top 56) 3
theorem Xvj:FnScope ["self","place","cells","begin"] ["self","place"] (Xad s_Z9):=fS
theorem bi_Z9:BiS "give" "Shelves.give" s_Z9 ["self","place"]:=fun _ _ _ _ _ _ us hl=>match us,hl with | [_,_],_=>rfl
abbrev Xva:Stmt:=Xah (top 47) 1
theorem XMm:FnScope ["self","place"] ["self","place"] (Xad Xva):=fS
theorem XRy:BiS "give" "Row.give" Xva ["self","place"]:=fun _ _ _ _ _ _ us hl=>match us,hl with | [_,_],_=>rfl
abbrev s_Z7:Stmt:=Xah (top 38) 4
theorem sc_Z7:FnScope ["self"] ["self"] (Xad s_Z7):=fS
theorem bi_Z7:BiS "clear" "Keeper.clear" s_Z7 ["self"]:=fun _ _ _ _ _ _ us hl=>match us,hl with | [_],_=>rfl
abbrev s_Z5:Stmt:=Xah (top 56) 1
theorem sc_Z5:FnScope ["self"] ["self"] (Xad s_Z5):=fS
theorem bi_Z5:BiS "clear" "Shelves.clear" s_Z5 ["self"]:=fun _ _ _ _ _ _ us hl=>match us,hl with | [_],_=>rfl
abbrev s_Z2:Stmt:=Xah (top 38) 13
theorem XRz:FnScope ["self","place","count","bound","goal"] ["self","place","count","bound"] (Xad s_Z2):=fS
theorem XTm:BiS "room_moved" "Keeper.room_moved" s_Z2 ["self","place","count","bound"]:=fun _ _ _ _ _ _ us hl=>match us,hl with | [_,_,_,_],_=>rfl
abbrev Xkx:Stmt:=Xah (top 38) 10
theorem Xzk:FnScope ["self","place","count","bound","had"] ["self","place","count","bound"] (Xad Xkx):=fS
theorem XIv (T:Addr)(d1:Value)(kV doc pm:Value)(an:Option Addr)(cdv ct:Value)(us:List Value)(hl:us.length=["self","place","count","bound"].length):∃k:Option (Array Value)→Sem (List (Str×Value)),bindArgs (PySem.W.fnOf "grow" "Keeper.grow" (Xbf Xkx) (Xaz Xkx) (Xad Xkx) (.ref T) kV doc pm an cdv ct) ⟨us,[]⟩=seqItems? (.ref T) >>= k∧k (some [d1].toArray)=pure ((["self","place","count","bound"]:List Str).zip us):=match us,hl with | [_,_,_,_],_=>⟨_,rfl,rfl⟩
theorem XLv (T:Addr)(d1:Value)(kV doc pm:Value)(an:Option Addr)(cdv ct:Value)(us:List Value)(hl:(us++[d1]).length=["self","place","count","bound"].length):∃k:Option (Array Value)→Sem (List (Str×Value)),bindArgs (PySem.W.fnOf "grow" "Keeper.grow" (Xbf Xkx) (Xaz Xkx) (Xad Xkx) (.ref T) kV doc pm an cdv ct) ⟨us,[]⟩=seqItems? (.ref T) >>= k∧k (some [d1].toArray)=pure ((["self","place","count","bound"]:List Str).zip (us++[d1])):=match us,(show us.length=3 by simpa using hl) with | [_,_,_],_=>⟨_,rfl,rfl⟩
abbrev Xkk:Stmt:=Xah (top 47) 2
theorem XQc:FnScope ["self","place","count","bound"] ["self","place","count","bound"] (Xad Xkk):=fS
theorem XKl (T:Addr)(d1:Value)(kV doc pm:Value)(an:Option Addr)(cdv ct:Value)(us:List Value)(hl:us.length=["self","place","count","bound"].length):∃k:Option (Array Value)→Sem (List (Str×Value)),bindArgs (PySem.W.fnOf "grow" "Row.grow" (Xbf Xkk) (Xaz Xkk) (Xad Xkk) (.ref T) kV doc pm an cdv ct) ⟨us,[]⟩=seqItems? (.ref T) >>= k∧k (some [d1].toArray)=pure ((["self","place","count","bound"]:List Str).zip us):=match us,hl with | [_,_,_,_],_=>⟨_,rfl,rfl⟩
theorem XMo (T:Addr)(d1:Value)(kV doc pm:Value)(an:Option Addr)(cdv ct:Value)(us:List Value)(hl:(us++[d1]).length=["self","place","count","bound"].length):∃k:Option (Array Value)→Sem (List (Str×Value)),bindArgs (PySem.W.fnOf "grow" "Row.grow" (Xbf Xkk) (Xaz Xkk) (Xad Xkk) (.ref T) kV doc pm an cdv ct) ⟨us,[]⟩=seqItems? (.ref T) >>= k∧k (some [d1].toArray)=pure ((["self","place","count","bound"]:List Str).zip (us++[d1])):=match us,(show us.length=3 by simpa using hl) with | [_,_,_],_=>⟨_,rfl,rfl⟩
abbrev nI (K:PySem.W.Frag)(m:Str)(f:Addr):Prop:=PySem.W.nsIn K mainGlobals m=some (some (.ref f))
abbrev fI (K:PySem.W.Frag)(C:Addr)(m:Str)(f:Addr):Prop:=PySem.W.findIn K (.ref C) m=some (some (.ref f))
abbrev cI (K:PySem.W.Frag)(c:Value)(m:Str):Prop:=PySem.W.codeIn K c m=true
abbrev kI (K:PySem.W.Frag)(f:Addr):Prop:=PySem.W.keepIn K (.ref f)=true
abbrev iI (K:PySem.W.Frag)(f:Addr):Prop:=PySem.W.isFn K (.ref f)=true
abbrev tI (K:PySem.W.Frag)(a b:Addr)(c:Bool):Prop:=PySem.W.kitOne K (.ref a) (.ref b)=some c
structure Txt (K:PySem.W.Frag)(mg:Str→Option Value)(Y0 Y12 Y14 Y6 Y10 Y1 Y4 Y9 Y16 Y3 Y13 Y2 Y11 Y15 Y8 Y7 Y17 Y5:Addr)(W0_:Tok)(W1_:Tok):Prop where
 zcF:mg "ValueError"=none
 n_any:mg "any"=none
 n_bool:mg "bool"=none
 n_dict:mg "dict"=none
 n_int:mg "int"=none
 n_isinstance:mg "isinstance"=none
 n_len:mg "len"=none
 n_list:mg "list"=none
 n_min:mg "min"=none
 n_range:mg "range"=none
 n_sorted:mg "sorted"=none
 n_tuple:mg "tuple"=none
 zbS:mg "LEAST_LIVE"=some (.int 3 W0_)
 zce:mg "MARKS"=some (.int 2 W1_)
 zcP:mg "StowError"=some (.ref Y0)
 zfg:mg "NoName"=some (.ref Y12)
 zfh:mg "NoSize"=some (.ref Y14)
 zfi:mg "Broken"=some (.ref Y6)
 zfj:mg "NoGive"=some (.ref Y10)
 zcR:mg "NoHandle"=some (.ref Y1)
 zdB:mg "NoPiece"=some (.ref Y4)
 zfk:mg "NoCell"=some (.ref Y9)
 zfU:mg "NoAsk"=some (.ref Y16)
 zdC:mg "NoBound"=some (.ref Y3)
 zfl:mg "NoRoom"=some (.ref Y13)
 zdD:mg "BadLine"=some (.ref Y2)
 zfm:mg "NoLine"=some (.ref Y11)
 zfn:mg "NoTurn"=some (.ref Y15)
 zfo:mg "Keeper"=some (.ref Y8)
 zfp:mg "Halves"=some (.ref Y7)
 c_Row:mg "Row"=some (.ref Y17)
 zdE:mg "Shelves"=some (.ref Y5)
 zfq:XSet K Y6 "cell"
 zcS:XCls K mg "NoSize" Y14
 zcm:XCls K mg "NoPiece" Y4
 zcn:XCls K mg "NoRoom" Y13
 zcT:XCls K mg "NoGive" Y10
 zfr:XCls K mg "NoCell" Y9
 zfV:XCls K mg "NoAsk" Y16
 zdF:XCls K mg "NoBound" Y3
 zcj:Cls K Y7
 zac:Xcr K Y7 "room_cells"
 zax:Cls K Y5
 zaa:Xcr K Y5 "room_cells"
 zab:Xcr K Y5 "shelf"
 cl_Row:Cls K Y17
 zad:Xcr K Y17 "room_cells"
 zfs:XK0 K Y10
 zdG:XK0 K Y4
 zft:XK0 K Y9
 zfW:XK0 K Y16
 zdH:XK0 K Y3
 zfu:XK0 K Y13
 zca:Fits K Y10 Y0 true
 zbV:Fits K Y4 Y0 true
 zcb:Fits K Y9 Y0 true
 zci:Fits K Y16 Y0 true
 zbW:Fits K Y3 Y0 true
 zcc:Fits K Y13 Y0 true
 zaZ:tI K Y10 Y12 false
 zba:tI K Y10 Y14 false
 zbb:tI K Y10 Y6 false
 zbc:tI K Y10 Y10 true
 zao:tI K Y10 Y1 false
 zay:tI K Y10 Y4 false
 zbd:tI K Y10 Y9 false
 zbC:tI K Y10 Y16 false
 zaz:tI K Y10 Y3 false
 zbe:tI K Y10 Y13 false
 zag:PySem.W.kitOne K (.ref Y10) (.type "ValueError")=some true
 zaA:tI K Y10 Y2 false
 zbf:tI K Y10 Y11 false
 zbg:tI K Y10 Y15 false
 zaB:tI K Y4 Y12 false
 zaC:tI K Y4 Y14 false
 zaD:tI K Y4 Y6 false
 zaE:tI K Y4 Y10 false
 zaj:tI K Y4 Y1 false
 zap:tI K Y4 Y4 true
 zaF:tI K Y4 Y9 false
 zbh:tI K Y4 Y16 false
 zaq:tI K Y4 Y3 false
 zaG:tI K Y4 Y13 false
 zae:PySem.W.kitOne K (.ref Y4) (.type "ValueError")=some true
 zar:tI K Y4 Y2 false
 zaH:tI K Y4 Y11 false
 zaI:tI K Y4 Y15 false
 zbi:tI K Y9 Y12 false
 zbj:tI K Y9 Y14 false
 zbk:tI K Y9 Y6 false
 zbl:tI K Y9 Y10 false
 zas:tI K Y9 Y1 false
 zaJ:tI K Y9 Y4 false
 zbm:tI K Y9 Y9 true
 zbD:tI K Y9 Y16 false
 zaK:tI K Y9 Y3 false
 zbn:tI K Y9 Y13 false
 zah:PySem.W.kitOne K (.ref Y9) (.type "ValueError")=some true
 zaL:tI K Y9 Y2 false
 zbo:tI K Y9 Y11 false
 zbp:tI K Y9 Y15 false
 zbE:tI K Y16 Y12 false
 zbF:tI K Y16 Y14 false
 zbG:tI K Y16 Y6 false
 zbH:tI K Y16 Y10 false
 zaM:tI K Y16 Y1 false
 zbq:tI K Y16 Y4 false
 zbI:tI K Y16 Y9 false
 zbO:tI K Y16 Y16 true
 zbr:tI K Y16 Y3 false
 zbJ:tI K Y16 Y13 false
 zak:PySem.W.kitOne K (.ref Y16) (.type "ValueError")=some true
 zbs:tI K Y16 Y2 false
 zbK:tI K Y16 Y11 false
 zbL:tI K Y16 Y15 false
 zaN:tI K Y3 Y12 false
 zaO:tI K Y3 Y14 false
 zaP:tI K Y3 Y6 false
 zaQ:tI K Y3 Y10 false
 zal:tI K Y3 Y1 false
 zat:tI K Y3 Y4 false
 zaR:tI K Y3 Y9 false
 zbt:tI K Y3 Y16 false
 zau:tI K Y3 Y3 true
 zaS:tI K Y3 Y13 false
 zaf:PySem.W.kitOne K (.ref Y3) (.type "ValueError")=some true
 zav:tI K Y3 Y2 false
 zaT:tI K Y3 Y11 false
 zaU:tI K Y3 Y15 false
 zbu:tI K Y13 Y12 false
 zbv:tI K Y13 Y14 false
 zbw:tI K Y13 Y6 false
 zbx:tI K Y13 Y10 false
 zaw:tI K Y13 Y1 false
 zaV:tI K Y13 Y4 false
 zby:tI K Y13 Y9 false
 zbM:tI K Y13 Y16 false
 zaW:tI K Y13 Y3 false
 zbz:tI K Y13 Y13 true
 zai:PySem.W.kitOne K (.ref Y13) (.type "ValueError")=some true
 zaX:tI K Y13 Y2 false
 zbA:tI K Y13 Y11 false
 zbB:tI K Y13 Y15 false
section
variable {K:PySem.W.Frag}{mg:Str→Option Value}{Y0 Y12 Y14 Y6 Y10 Y1 Y4 Y9 Y16 Y3 Y13 Y2 Y11 Y15 Y8 Y7 Y17 Y5:Addr}{W0_:Tok}{W1_:Tok}
theorem T_cl (T:Txt K mg Y0 Y12 Y14 Y6 Y10 Y1 Y4 Y9 Y16 Y3 Y13 Y2 Y11 Y15 Y8 Y7 Y17 Y5 W0_ W1_):∀i,Cls K ((cF Y7 Y5 Y17) i):=Xio T.zcj T.zax T.cl_Row
theorem T_na (T:Txt K mg Y0 Y12 Y14 Y6 Y10 Y1 Y4 Y9 Y16 Y3 Y13 Y2 Y11 Y15 Y8 Y7 Y17 Y5 W0_ W1_):∀i,Xcr K ((cF Y7 Y5 Y17) i) "room_cells":=Xio (Q:=fun C=>Xcr K C "room_cells") T.zac T.zaa T.zad
end
def Xqt:Sp:=fun vs H Q _=>∃(n:Int) (v:Bool),vs=[.int n,.bl v]∧n.natAbs<2^220∧Q (.int (n*2+if v then 1 else 0)) H
section
variable {P:Program}{w:World}{base:Heap}{K:PySem.W.Frag}{mg:Str→Option Value}{Y0 Y12 Y14 Y6 Y10 Y1 Y4 Y9 Y16 Y3 Y13 Y2 Y11 Y15 Y8 Y7 Y17 Y5:Addr}{W0_:Tok}{W1_:Tok}
variable (T:Txt K mg Y0 Y12 Y14 Y6 Y10 Y1 Y4 Y9 Y16 Y3 Y13 Y2 Y11 Y15 Y8 Y7 Y17 Y5 W0_ W1_)
include T in
theorem d_Z46 (S:Src K mg "mark_of" Xsw) :Defx P w K mg base "mark_of" 1 ["long","live"] (Xqt):=by
 refine S.okx XIx XQd (fun vs H Q E h=>by revert h;walk_at "len") (fun f cdv A outer s H vs Q E hr h=>?_)
 refine⟨_,PSs.nox (Xab (Xbd (Xdf (pv 1) (fun _=>rfl)) (Xae (Xal (Xak XSo (Xak Xmv (pv 0) Xaf) Xaf))) Xam) (Xae (Xal (Xak Xmv (pv 0) Xaf)))),?_⟩
 obtain⟨n,v,rfl,hn,q⟩:=h
 walk_at "go"
 refine Xei (fun hv=>?_) (fun hv=>?_)
 · walk_at "go"
   rw[two1,Xua]
   subst hv
   exact q
 · walk_at "go"
   rw[two1]
   subst hv
   rw[if_neg Bool.false_ne_true,Int.add_zero] at q
   exact q
include T in
theorem XTx (S:Src K mg "long_of" Xti) :Defx P w K mg base "long_of" 1 ["number"] (Xjk):=by
 refine S.okx XPk XQz (fun vs H Q E h=>by revert h;walk_at "len") (fun f cdv A outer s H vs Q E hr h=>?_)
 refine⟨_,PSs.nox (Xae (Xal (Xak XIr (pv 0) Xaf))),?_⟩
 obtain⟨n,rfl,q⟩:=h
 walk_at "go"
 rw[two1]
 exact q
include T in
theorem d_Z50 (S:Src K mg "live_of" Xub) :Defx P w K mg base "live_of" 1 ["number"] (Xnq):=by
 refine S.okx XRs XIy (fun vs H Q E h=>by revert h;walk_at "len") (fun f cdv A outer s H vs Q E hr h=>?_)
 refine⟨_,PSs.nox (Xae (Xal (Xch Xcd (Xak Xzy (pv 0) Xaf) Xaf (Xaj _)))),?_⟩
 obtain⟨n,rfl,q⟩:=h
 walk_at "go"
 rw[Xwb]
 exact q
include T in
theorem XUa (S:Src K mg "can_begin" Xug)(D_Z44:Defx P w K mg base "long_of" 1 ["number"] (Xjk))(D_Z50:Defx P w K mg base "live_of" 1 ["number"] (Xnq)):Defx P w K mg base "can_begin" 2 ["cells","at"] (XFn K):=by
 refine S.okx Xzb XMi (fun vs H Q E h=>by revert h;walk_at "len") (fun f cdv A outer s H vs Q E hr h=>?_)
 refine⟨_,PSs.nox (Xab (Xao (i:=2) Xzb.nd rfl (Or.inl rfl) (Xai D_Z44 hr (by rfl) (Xaa (Xbn Xbe (pv 0) (pv 1) (fun _ _=>rfl)) Xac))) (Xab (Xbd (PW.pt (Xge (Xag Xee (pv 2) Xaf (Xaj _)) (Xek (Xag Xke (Xak Xbg (pv 1) (pv 2)) (Xar Xbb (by rfl) T.n_len PySem.boot_len (Xaa (pv 0) Xac)) (Xaj _))))) (Xae (Xal Xdc)) Xam) (Xae (Xal (pe_or (Xch Xst (pv 2) (Xbt (v:=.int 3) (by rfl) T.zbS ⟨_,rfl⟩) (Xaj _)) (Xgm (XAa (Xai D_Z50 hr (by rfl) (Xaa (Xbn Xbe (pv 0) (pv 1) (fun _ _=>rfl)) Xac))))))))),?_⟩
 obtain⟨a,ns,k,rfl,hS,h0,h1,q⟩:=h
 have q':∀c,Xbs ns k=c→Q (.bl c) H:=fun c e=>e▸q
 walk_at "go"
 refine Xbj (fun hc=>?_) (fun hc=>?_)
 · walk_at "go"
   exact q' false (by unfold Xbs;rw[if_pos (Or.inl hc)])
 · walk_at "go"
   refine Xbj (fun hd=>?_) (fun hd=>?_)
   · walk_at "go"
     exact q' false (by unfold Xbs;rw[if_pos (Or.inr hd)])
   · walk_at "go"
     have ec:Xbs ns k=(decide (3≤ns.getD k.toNat 0/2)||!decide (ns.getD k.toNat 0%2=1)):=by
       unfold Xbs
       rw[if_neg (by omega)]
     refine Xei (fun he=>?_) (fun he=>?_)
     · walk_at "go"
       exact q' true (by rw[ec,he,Bool.true_or])
     · walk_at "go"
       exact q' _ (by rw[ec,he,Bool.false_or])
include T in
theorem d_Z10 (S:Src K mg "bad_of_piece" Xrk)(D_Z44:Defx P w K mg base "long_of" 1 ["number"] (Xjk))(D_Z33:Defx P w K mg base "can_begin" 2 ["cells","at"] (XFn K)):Defx P w K mg base "bad_of_piece" 3 ["cells","at"] (XDl K):=by
 refine S.okx Xzm XMz (fun vs H Q E h=>by revert h;walk_at "len") (fun f cdv A outer s H vs Q E hr h=>?_)
 refine⟨_,PSs.nox (Xab (Xbd (Xdb (Xhz (Xai D_Z33 hr (by rfl) (Xaa (pv 0) (Xaa (pv 1) Xac))))) (Xae (Xal (pv 1))) Xam) (Xab (Xao (i:=2) Xzm.nd rfl (Or.inl rfl) (Xak Xbo (Xak Xbg (pv 1) (Xai D_Z44 hr (by rfl) (Xaa (Xbn Xbe (pv 0) (pv 1) (fun _ _=>rfl)) Xac))) Xaf)) (Xab (Xbd (Xag Xkp (Xbn Xbe (pv 0) (pv 2) (fun _ _=>rfl)) (Xbn Xbe (pv 0) (pv 1) (fun _ _=>rfl)) (Xaj _)) (Xae (Xal (pv 2))) Xam) (Xae (Xal Xdu))))),?_⟩
 obtain⟨a,ns,k,rfl,hS,h0,h1,q⟩:=h
 have q':∀c,Xdm ns k=c→Q (optV c) H:=fun c e=>e▸q
 walk_at "go"
 refine Xei (fun hc=>?_) (fun hc=>?_)
 · obtain⟨b1,b2,_⟩:=(Xgk ns k).mp hc
   walk_at "go"
   refine Xbj (fun hd=>?_) (fun hd=>?_)
   · walk_at "go"
     exact q' none (Xyn hc hd)
   · walk_at "go"
     exact q' (some _) (Xvp hc hd)
 · walk_at "go"
   exact q' (some k) (XIp hc)
theorem Xvv {P:Program}{w:World}{base:Heap}{K:PySem.W.Frag}{mg:Str→Option Value}{Y6 Y0:Addr}{fI:Addr}{fd:FuncData}(F:Fun K "__init__" "Broken.__init__" Xdd fI fd)(XI:XIni K mg "Broken" Y6 Y0 fI)(Z:XSet K Y6 "cell"):DefI P w K mg base "Broken" Y6 Y0 1 ["self","cell"] (Xur Y6 "cell"):=by
 refine⟨fI,fd,XI,Xbq F Xit (fun vs H Q E h=>?_) (fun cdv A outer s H vs Q E hr h=>?_),F.binds Xiy⟩
 · obtain⟨y,v,rfl,_⟩:=h
   rfl
 · obtain⟨y,v,rfl,hy,q⟩:=h
   exact⟨_,PSs.nox (Xae (XCs (pv 0) (pv 1))),_,rfl,_,rfl,y,_,rfl,hy,Z,fun dx hd=>q dx hd⟩
def LkW (H:Hp)(a p:Addr)(ns:List Int)(m:Nat)(σ:L2.St)(H':Hp):Prop :=
 ∃(ds:List Pc) (us:List V) (k:Int) (x y:Option V),σ=[some (.ref a),some (.ref p),some (.int k),x,y]∧m=(ns.length-k).toNat∧0≤k∧k≤ns.length∧(ds.length:Int)≤k∧WPre ns ds k∧Same H H'∧H' p=some (.lst us)∧Xbz H' us ds
include T in
theorem d_Z63 (S:Src K mg "looked" Xuv)(D_Z44:Defx P w K mg base "long_of" 1 ["number"] (Xjk))(D_Z50:Defx P w K mg base "live_of" 1 ["number"] (Xnq))(D_Z10:Defx P w K mg base "bad_of_piece" 3 ["cells","at"] (XDl K))(D_Broken:DefI P w K mg base "Broken" Y6 Y0 1 ["self","cell"] (Xur Y6 "cell")):Defx P w K mg base "looked" 4 ["cells"] (Xdx K Y6):=by
 refine S.okx Xiz XNn (fun vs H Q E h=>by revert h;walk_at "len") (fun f cdv A outer s H vs Q E hr h=>?_)
 refine⟨_,(Xab (Xao (i:=1) Xiz.nd rfl (Or.inl rfl) (Xbu Xac)) (Xab (Xao (i:=2) Xiz.nd rfl (Or.inl rfl) Xaf) (Xab (Xfy PassesOwn.leaving (Xag Xee (pv 2) (Xar Xbb (by rfl) T.n_len PySem.boot_len (Xaa (pv 0) Xac)) (Xaj _)) (Xab (Xao (i:=3) Xiz.nd rfl (Or.inl rfl) (Xai D_Z10 hr (by rfl) (Xaa (pv 0) (Xaa (pv 2) Xac)))) (Xab (Xbd (Xag Xqw (pv 3) Xdu (Xaj _)) (Xae (Xtv D_Broken hr rfl (Xaa (pv 3) Xac))) Xam) (Xab (Xao (i:=4) Xiz.nd rfl (Or.inl rfl) (Xai D_Z44 hr (by rfl) (Xaa (Xbn Xbe (pv 0) (pv 2) (fun _ _=>rfl)) Xac))) (Xab (Xbx (XLl PySem.F.plainAttrs_list PySem.F.slot_list_append PySem.F.type_list_append Xhk (pv 1) (Xaa (Xeb (Xaa (pv 2) (Xaa (pv 4) (Xaa (Xai D_Z50 hr (by rfl) (Xaa (Xbn Xbe (pv 0) (pv 2) (fun _ _=>rfl)) Xac)) Xac)))) Xac))) (Xae (Xao (i:=2) Xiz.nd rfl (Or.inl rfl) (Xak Xbg (pv 2) (pv 4))))))))) (Xae (Xal (pv 1)))))),?_⟩
 obtain⟨a,ns,rfl,hS,hz,qe,q⟩:=h
 walk_at "go"
 intro p hp
 walk_at "go"
 refine⟨LkW H a p ns,⟨_,[],[],0,none,none,rfl,rfl,by omega,by omega,by decide,WPre.nil ns,Same.new hp,upd_same,Xbz.nil⟩,?_⟩
 rintro m σ H' ⟨ds,us,k,x,y,rfl,rfl,h0,hkl,hdl,w,s1,hp',pa⟩
 have hul:=pa.1
 have hS':SqL K H' a (ns.map V.int):=s1.seq hS
 walk_at "go"
 refine Xbj (fun hlt=>?_) (fun hlt=>?_)
 · refine⟨fun σ' H''=>∃m',m'<(ns.length-k).toNat∧LkW H a p ns m' σ' H'',fun σ' H'' hw=>hw,?_⟩
   walk_at "go"
   cases hb:Xdm ns k with
   | some b =>
     walk_at "go"
     refine XOb (fun dx hd=>?_)
     exact qe b (by rw[w.bad hlt hb]) dx _ (s1.put (s1.free hd)) upd_same
   | none =>
     obtain⟨b1,b2,b3⟩:=Xtq hb
     walk_at "go"
     intro t ht
     have hpt:p≠t:=Xap hp' ht
     walk_at "go"
     obtain⟨g1,g2⟩:=Xbz.push (z:=pcAt ns k) pa hp' ht
     dsimp only [pcAt] at g1 g2
     refine⟨_,?_,ds++[pcAt ns k],us++[.ref t],k+ns.getD k.toNat 0/2,_,_,rfl,rfl,by omega,by omega,?_,w.step hlt hb,(s1.put (s1.free ht)).put hp,g1,g2⟩
     · omega
     · rw[List.length_append,List.length_singleton]
       omega
 · walk_at "go"
   exact q (by rw[w.fin hlt]) p us H' hp s1 hp' (by rw[w.fin hlt];exact pa)
def Xbv (n:Int):List Int:=Xci (List.replicate n.toNat 0) 0 n false
theorem Xcf {n:Int}(h:0≤n):((Xbv n).length:Int)=n:=by
 unfold Xbv
 rw[Xbm,List.length_replicate]
 omega
theorem Xyr (n:Nat):(List.replicate n [V.int 0]).flatten=(List.replicate n (0:Int)).map V.int:=by
 induction n with
 | zero=>rfl
 | succ n ih=>rw[List.replicate_succ,List.flatten_cons,ih,List.replicate_succ,List.map_cons];rfl
def Xia (C:Addr):Sp:=fun vs H Q E=>∃n:Int,vs=[.int n]∧n≤4000∧(n<1→E (.ref C) none H)∧(1≤n→∀(p:Addr) (H':Hp),H p=none→Same H H'→H' p=some (.lst ((Xbv n).map V.int))→Q (.ref p) H')
include T in
theorem XSg (S:Src K mg "fresh_room" Xsb)(D_Z46:Defx P w K mg base "mark_of" 1 ["long","live"] (Xqt)):Defx P w K mg base "fresh_room" 2 ["count"] (Xia Y14):=by
 refine S.okx Xzn XJl (fun vs H Q E h=>by revert h;walk_at "len") (fun f cdv A outer s H vs Q E hr h=>?_)
 refine⟨_,(Xab (Xbd (Xag Xee (pv 0) Xaf (Xaj _)) (Xae (Xcb T.zcS hr.hd rfl (Xaa Xan Xac))) Xam) (Xab (Xao (i:=1) Xzn.nd rfl (Or.inl rfl) (Xak XAf (Xbu (Xaa Xaf Xac)) (pv 0))) (Xab (Xea (Xai D_Z46 hr (by rfl) (Xaa (pv 0) (Xaa Xdc Xac))) (Xlv (pv 1) Xaf Xfz)) (Xab (Xea (Xai D_Z46 hr (by rfl) (Xaa (pv 0) (Xaa Xdc Xac))) (Xlv (pv 1) (Xak Xbo (pv 0) Xaf) Xfz)) (Xae (Xal (pv 1))))))),?_⟩
 obtain⟨n,rfl,h4,qe,q⟩:=h
 walk_at "go"
 refine Xbj (fun hc=>?_) (fun hc=>?_)
 · walk_at "go"
   exact qe hc
 · have hn:n.natAbs<2^220:=Nat.lt_of_le_of_lt (show n.natAbs≤4000 by omega) (by decide)
   walk_at "go"
   intro l hl
   walk_at "go"
   refine⟨l,n,_,rfl,rfl,upd_same,by omega,by omega,(by show 1*n.toNat≤sizeLine;exact Nat.le_of_lt (small4000 (by omega))),fun p hp=>?_⟩
   rw[Xyr]
   have np:=(Same.new hl).free hp
   have s1:Same H (upd (upd H l (.lst [.int 0])) p (.lst ((List.replicate n.toNat (0:Int)).map V.int))):=(Same.new hl).put np
   have e1:upd (upd H l (.lst [.int 0])) p (.lst ((List.replicate n.toNat (0:Int)).map V.int)) p=some (.lst ((List.replicate n.toNat (0:Int)).map V.int)):=upd_same
   generalize upd (upd H l (.lst [.int 0])) p (.lst ((List.replicate n.toNat (0:Int)).map V.int))=H1 at s1 e1 ⊢
   have hlr:(List.replicate n.toNat (0:Int)).length=n.toNat:=List.length_replicate
   walk_at "go"
   refine⟨n,false,rfl,hn,?_⟩
   walk_at "go"
   refine⟨n,false,rfl,hn,?_⟩
   walk_at "go"
   refine q (by omega) p _ np ((s1.put np).put np) ?_
   unfold Xbv Xci
   rw[show (0:Int)+n-1=n-1 by omega]
   exact upd_same
def Xgn (K:PySem.W.Frag):Sp:=fun vs H Q _=>∃(a:Addr) (cs:List Int) (k l:Int) (v:Bool),vs=[.ref a,.int k,.int l,.bl v]∧SqL K H a (cs.map V.int)∧cs.length≤4000∧0≤k∧1≤l∧k+l≤cs.length ∧
 ∀(p:Addr) (H':Hp),H p=none→Same H H'→H' p=some (.lst ((Xci cs k l v).map V.int))→Q (.ref p) H'
include T in
theorem d_Z73 (S:Src K mg "laid" Xrh)(D_Z46:Defx P w K mg base "mark_of" 1 ["long","live"] (Xqt)):Defx P w K mg base "laid" 2 ["cells","at","long","live"] (Xgn K):=by
 refine S.okx Xzs XLy (fun vs H Q E h=>by revert h;walk_at "len") (fun f cdv A outer s H vs Q E hr h=>?_)
 refine⟨_,PSs.nox (Xab (Xao (i:=4) Xzs.nd rfl (Or.inl rfl) (Xcx Xck (by rfl) T.n_list PyProof.Rows.boot_list (Xaa (pv 0) Xac))) (Xab (Xea (Xai D_Z46 hr (by rfl) (Xaa (pv 2) (Xaa (pv 3) Xac))) (Xlv (pv 4) (pv 1) Xfz)) (Xab (Xea (Xai D_Z46 hr (by rfl) (Xaa (pv 2) (Xaa (pv 3) Xac))) (Xlv (pv 4) (Xak Xbo (Xak Xbg (pv 1) (pv 2)) Xaf) Xfz)) (Xae (Xal (pv 4)))))),?_⟩
 obtain⟨a,cs,k,l,v,rfl,hS,hz,h0,h1,hl,q⟩:=h
 have hn:l.natAbs<2^220:=Nat.lt_of_le_of_lt (show l.natAbs≤4000 by omega) (by decide)
 walk_at "go"
 intro p hp
 walk_at "go"
 refine⟨l,v,rfl,hn,?_⟩
 walk_at "go"
 refine⟨l,v,rfl,hn,?_⟩
 walk_at "go"
 refine q p _ hp (((Same.new hp).put hp).put hp) upd_same
def Xji (K:PySem.W.Frag):Sp:=fun vs H Q _=>∃(a:Addr) (cs:List Int) (b e:Int),vs=[.ref a,.int b,.int e]∧SqL K H a (cs.map V.int)∧cs.length≤4000∧0≤b∧b≤e∧e≤cs.length ∧
 ∀(p:Addr) (H':Hp),H p=none→Same H H'→H' p=some (.lst ((lfI cs b e).map V.int))→Q (.ref p) H'
include T in
theorem d_Z32 (S:Src K mg "laid_free" Xqa)(D_Z73:Defx P w K mg base "laid" 2 ["cells","at","long","live"] (Xgn K)):Defx P w K mg base "laid_free" 3 ["cells","begin","end"] (Xji K):=by
 refine S.okx XJv XJp (fun vs H Q E h=>by revert h;walk_at "len") (fun f cdv A outer s H vs Q E hr h=>?_)
 refine⟨_,PSs.nox (Xab (Xbd (Xag Xcd (pv 1) (pv 2) (Xaj _)) (Xae (Xal (Xcx Xck (by rfl) T.n_list PyProof.Rows.boot_list (Xaa (pv 0) Xac)))) Xam) (Xae (Xal (Xai D_Z73 hr (by rfl) (Xaa (pv 0) (Xaa (pv 1) (Xaa (Xak Xbo (pv 2) (pv 1)) (Xaa Xdc Xac)))))))),?_⟩
 obtain⟨a,cs,b,e,rfl,hS,hz,h0,h1,hl,q⟩:=h
 walk_at "go"
 refine Xbj (fun he=>?_) (fun he=>?_)
 · walk_at "go"
   intro p hp
   walk_at "go"
   refine q p _ hp (Same.new hp) ?_
   unfold lfI
   rw[if_pos he]
   exact upd_same
 · walk_at "go"
   refine⟨a,cs,b,e-b,false,rfl,hS,hz,h0,by omega,by omega,fun p H' hp s1 g1=>?_⟩
   walk_at "go"
   refine q p H' hp s1 ?_
   unfold lfI
   rw[if_neg he]
   exact g1
def Xhg (K:PySem.W.Frag)(C:Addr):Sp:=fun vs H Q E=>∃(a:Addr) (cs:List Int) (ps:List Pc) (k:Int),vs=[.ref a,.int k]∧SqL K H a (cs.map V.int)∧cs.length≤4000∧Xcy cs 0=(ps,none) ∧
 (∀z∈ps,z.a=k→∀(t:Addr) (H':Hp),Same H H'→H' t=some (.tup [.int z.a,.int z.l,.bl z.v])→Q (.ref t) H') ∧
 ((∀z∈ps,z.a≠k)→∀(H':Hp),Same H H'→E (.ref C) none H')
def PaW (f0 f1:Option V)(H1:Hp)(ps:List Pc)(k:Int)(i:Nat)(σ:L2.St)(H':Hp):Prop:=H1=H'∧∃x2:Option V,σ=[f0,f1,x2]∧∀z∈ps.take i,z.a≠k
include T in
theorem XSn (S:Src K mg "piece_at" Xsl)(D_Z63:Defx P w K mg base "looked" 4 ["cells"] (Xdx K Y6)):Defx P w K mg base "piece_at" 5 ["cells","at"] (Xhg K Y4):=by
 refine S.okx Xzg XOi (fun vs H Q E h=>by revert h;walk_at "len") (fun f cdv A outer s H vs Q E hr h=>?_)
 refine⟨_,(Xab (Xlh PassesOwn.leaving rfl (Xcz (Xcp D_Z63 hr (by rfl) (Xaa (pv 0) Xac))) (Xau (i:=2) Xzg.nd rfl (Or.inl rfl)) (Xae (Xbd (Xag Xcd (Xbn Xho (pv 2) Xaf (fun _ _=>rfl)) (pv 1) (Xaj _)) (Xae (Xal (pv 2))) Xam))) (Xae (Xcb T.zcm hr.hd rfl (Xaa Xan Xac)))),?_⟩
 obtain⟨a,cs,ps,k,rfl,hS,hz,hw,q,qe⟩:=h
 walk_at "go"
 refine⟨a,cs,rfl,hS,hz,(fun c hc=>by rw[hw] at hc;cases hc),fun _ lp us H1 nlp s1 hlp pa=>?_⟩
 have pa:Xbz H1 us ps:=by rw[hw] at pa;exact pa
 have hul:=pa.1
 refine⟨lp,rfl,⟨_,SqL.of hlp⟩,Xgx (K:=K) (a:=lp) (xs:=us) (PaW (some (.ref a)) (some (.int k)) H1 ps k) ⟨rfl,none,rfl,fun z hz=>by cases hz⟩ (fun i σ H2 _ ⟨h,_⟩=>h▸SqL.of hlp) ?_ ?_⟩
 · rintro i y σ H2 hi ⟨rfl,x2,rfl,hq⟩
   have hil:i<us.length:=(List.getElem?_eq_some_iff.mp hi).1
   have hip:i<ps.length:=by omega
   obtain⟨t,et,hT⟩:=pa.2 i ps[i] (by simp [hip])
   have ey:y = .ref t:=Option.some.inj (hi.symm.trans et)
   subst ey
   walk_at "go"
   refine Xbj (fun hk=>?_) (fun hk=>?_)
   · walk_at "go"
     exact q ps[i] (by simp) hk t _ s1 hT
   · walk_at "go"
     refine⟨rfl,_,rfl,fun z hz=>?_⟩
     rw[List.take_add_one,List.getElem?_eq_getElem hip] at hz
     rcases List.mem_append.mp hz with h | h
     · exact hq z h
     · have:z=ps[i]:=by simpa using h
       rw[this];exact hk
 · rintro σ H2 ⟨rfl,x2,rfl,hq⟩
   rw[List.take_of_length_le (by omega)] at hq
   walk_at "go"
   exact qe hq _ s1
def Xjr (K:PySem.W.Frag)(C:Addr)(v:Bool):Sp:=fun vs H Q E=>∃(a:Addr) (cs:List Int) (ps:List Pc) (k:Int),vs=[.ref a,.int k]∧SqL K H a (cs.map V.int)∧cs.length≤4000∧Xcy cs 0=(ps,none)∧Xas 0 ps cs.length ∧
 (∀z∈ps,z.a=k→z.v=v→∀(t:Addr) (H':Hp),Same H H'→H' t=some (.tup [.int z.a,.int z.l,.bl z.v])→Q (.ref t) H') ∧
 ((∀z∈ps,z.a=k→z.v≠v)→∀(H':Hp),Same H H'→E (.ref C) none H')
include T in
theorem XSy (S:Src K mg "live_at" Xuf)(D_Z38:Defx P w K mg base "piece_at" 5 ["cells","at"] (Xhg K Y4)):Defx P w K mg base "live_at" 6 ["cells","at"] (Xjr K Y4 true):=by
 refine S.okx XAj XPe (fun vs H Q E h=>by revert h;walk_at "len") (fun f cdv A outer s H vs Q E hr h=>?_)
 refine⟨_,(Xab (Xao (i:=2) XAj.nd rfl (Or.inl rfl) (Xcp D_Z38 hr (by rfl) (Xaa (pv 0) (Xaa (pv 1) Xac)))) (Xab (Xbd (Xdb (Xdf (Xbn Xho (pv 2) Xaf (fun _ _=>rfl)) (fun _=>rfl))) (Xae (Xcb T.zcm hr.hd rfl (Xaa Xan Xac))) Xam) (Xae (Xal (pv 2))))),?_⟩
 obtain⟨a,cs,ps,k,rfl,hS,hz,hw,hc,q,qe⟩:=h
 walk_at "go"
 refine⟨a,cs,ps,k,rfl,hS,hz,hw,fun z hm hk t H1 s1 ht=>?_,fun hn H1 s1=>qe (fun z hz hk=>absurd hk (hn z hz)) _ s1⟩
 walk_at "go"
 refine Xei (fun hv=>?_) (fun hv=>?_)
 · walk_at "go"
   exact q z hm hk hv t _ s1 ht
 · walk_at "go"
   refine qe (fun y hy hk2=>?_) _ s1
   rw[Xce hc hy hm (by omega),hv]
   exact fun z=>nomatch z
include T in
theorem XSu (S:Src K mg "free_at" Xrm)(D_Z38:Defx P w K mg base "piece_at" 5 ["cells","at"] (Xhg K Y4)):Defx P w K mg base "free_at" 6 ["cells","at"] (Xjr K Y4 false):=by
 refine S.okx Xzh XLr (fun vs H Q E h=>by revert h;walk_at "len") (fun f cdv A outer s H vs Q E hr h=>?_)
 refine⟨_,(Xab (Xao (i:=2) Xzh.nd rfl (Or.inl rfl) (Xcp D_Z38 hr (by rfl) (Xaa (pv 0) (Xaa (pv 1) Xac)))) (Xab (Xbd (Xdf (Xbn Xho (pv 2) Xaf (fun _ _=>rfl)) (fun _=>rfl)) (Xae (Xcb T.zcm hr.hd rfl (Xaa Xan Xac))) Xam) (Xae (Xal (pv 2))))),?_⟩
 obtain⟨a,cs,ps,k,rfl,hS,hz,hw,hc,q,qe⟩:=h
 walk_at "go"
 refine⟨a,cs,ps,k,rfl,hS,hz,hw,fun z hm hk t H1 s1 ht=>?_,fun hn H1 s1=>qe (fun z hz hk=>absurd hk (hn z hz)) _ s1⟩
 walk_at "go"
 refine Xei (fun hv=>?_) (fun hv=>?_)
 · walk_at "go"
   refine qe (fun y hy hk2=>?_) _ s1
   rw[Xce hc hy hm (by omega),hv]
   exact fun z=>nomatch z
 · walk_at "go"
   exact q z hm hk hv t _ s1 ht
def XQg (K:PySem.W.Frag)(CP CR:Addr):Sp:=fun vs H Q E=>∃(a:Addr) (cs:List Int) (ps:List Pc) (k s L:Int),vs=[.ref a,.int k,.int s,.int L]∧SqL K H a (cs.map V.int)∧cs.length≤4000∧Xas 0 ps cs.length∧Xat cs ps∧1≤L ∧
 (∀z∈ps,z.a=k→z.v=false→z.a≤s→s+L≤z.a+z.l→∀(p:Addr) (H':Hp),H p=none→Same H H'→H' p=some (.lst ((cutO cs z.a z.l s L).map V.int))→Q (.ref p) H') ∧
 (∀z∈ps,z.a=k→z.v=false→¬(z.a≤s∧s+L≤z.a+z.l)→∀(H':Hp),Same H H'→E (.ref CR) none H') ∧
 ((∀z∈ps,z.a=k→z.v≠false)→∀(H':Hp),Same H H'→E (.ref CP) none H')
include T in
theorem d_Z54 (S:Src K mg "cut_out" Xqy)(D_Z51:Defx P w K mg base "free_at" 6 ["cells","at"] (Xjr K Y4 false))(D_Z32:Defx P w K mg base "laid_free" 3 ["cells","begin","end"] (Xji K))(D_Z73:Defx P w K mg base "laid" 2 ["cells","at","long","live"] (Xgn K)):Defx P w K mg base "cut_out" 7 ["cells","at","place","long"] (XQg K Y4 Y13):=by
 refine S.okx Xij XKc (fun vs H Q E h=>by revert h;walk_at "len") (fun f cdv A outer s H vs Q E hr h=>?_)
 refine⟨_,(Xab (Xea (Xcp D_Z51 hr (by rfl) (Xaa (pv 0) (Xaa (pv 1) Xac))) (Xgp rfl (Xax (Xau (i:=4) Xij.nd rfl (Or.inl rfl)) (Xax (Xau (i:=5) Xij.nd rfl (Or.inl rfl)) (Xax (Xau (i:=6) Xij.nd rfl (Or.inl rfl)) Xdh))))) (Xab (Xao (i:=7) Xij.nd rfl (Or.inl rfl) (Xak Xbg (pv 4) (pv 5))) (Xab (Xbd (PW.pt (Xge (Xag Xee (pv 2) (pv 4) (Xaj _)) (Xek (Xag Xke (Xak Xbg (pv 2) (pv 3)) (pv 7) (Xaj _))))) (Xae (Xcb T.zcn hr.hd rfl (Xaa Xan Xac))) Xam) (Xab (Xao (i:=8) Xij.nd rfl (Or.inl rfl) (Xai D_Z32 hr (by rfl) (Xaa (pv 0) (Xaa (pv 4) (Xaa (pv 2) Xac))))) (Xab (Xao (i:=8) Xij.nd rfl (Or.inl rfl) (Xai D_Z73 hr (by rfl) (Xaa (pv 8) (Xaa (pv 2) (Xaa (pv 3) (Xaa Xdc Xac)))))) (Xae (Xal (Xai D_Z32 hr (by rfl) (Xaa (pv 8) (Xaa (Xak Xbg (pv 2) (pv 3)) (Xaa (pv 7) Xac))))))))))),?_⟩
 obtain⟨a,cs,ps,k,s,L,rfl,hS,hz,hc,mk,hL,q,qr,qe⟩:=h
 have hw:=Xaw hc mk
 walk_at "go"
 refine⟨a,cs,ps,k,rfl,hS,by omega,hw,hc,fun z hm hk hv t H1 s1 ht=>?_,fun hn H1 s1=>qe hn _ s1⟩
 obtain⟨z0,z1,_,z4⟩:=hc.mem z hm
 walk_at "go"
 refine Xbj (fun h1=>?_) (fun h1=>?_)
 · walk_at "go"
   exact qr z hm hk hv (by omega) _ s1
 · walk_at "go"
   refine Xbj (fun h2=>?_) (fun h2=>?_)
   · walk_at "go"
     exact qr z hm hk hv (by omega) _ s1
   · walk_at "go"
     refine⟨a,cs,z.a,s,rfl,s1.seq hS,hz,z0,by omega,by omega,fun p2 H2 n2 s2 g2=>?_⟩
     walk_at "go"
     refine⟨p2,lfI cs z.a s,s,L,true,rfl,SqL.of g2,by rw[Xen];exact hz,by omega,hL,by rw[Xen];omega,fun p3 H3 n3 s3 g3=>?_⟩
     walk_at "go"
     refine⟨p3,Xci (lfI cs z.a s) s L true,s+L,z.a+z.l,rfl,SqL.of g3,by rw[Xbm,Xen];exact hz,by omega,by omega,by rw[Xbm,Xen];omega,fun p4 H4 n4 s4 g4=>?_⟩
     walk_at "go"
     have s13:=(s1.trans s2).trans s3
     exact q z hm hk hv (by omega) (by omega) p4 H4 (s13.free n4) (s13.trans s4) g4
def Xtf (CA:Addr):Sp:=fun vs H Q E=>∃c b:Int,vs=[.int c,.int b]∧(c<1∨b<1→E (.ref CA) none H)∧(1≤c→1≤b→Q .non H)
include T in
theorem d_Z30 (S:Src K mg "check_ask" Xsj) :Defx P w K mg base "check_ask" 1 ["count","bound"] (Xtf Y16):=by
 refine S.okx XJg XIc (fun vs H Q E h=>by revert h;walk_at "len") (fun f cdv A outer s H vs Q E hr h=>?_)
 refine⟨_,(Xae (Xbd (PW.pt (Xge (Xag Xee (pv 0) Xaf (Xaj _)) (Xek (Xag Xee (pv 1) Xaf (Xaj _))))) (Xae (Xcb T.zfV hr.hd rfl (Xaa Xan Xac))) Xam)),?_⟩
 obtain⟨c,b,rfl,qe,q⟩:=h
 walk_at "go"
 refine Xbj (fun h1=>?_) (fun h1=>?_)
 · walk_at "go"
   exact qe (.inl h1)
 · walk_at "go"
   refine Xbj (fun h2=>?_) (fun h2=>?_)
   · walk_at "go"
     exact qe (.inr h2)
   · walk_at "go"
     exact q (by omega) (by omega)
def BgW (H1:Hp)(ps:List Pc)(s:Int)(D:Addr)(i:Nat)(ys:List V)(H2:Hp):Prop:=Same H1 H2∧H2 D=some (.lst ys)∧ys=(((ps.take i).filter fun z=>decide (z.a≤s)).map fun z=>V.int z.a)
def Xfk (CA CB:Addr):Sp:=fun vs H Q E=>∃c b:Int,vs=[.int c,.int b]∧(c<1∨b<1→E (.ref CA) none H)∧(1≤c→1≤b→b≠1→E (.ref CB) none H)∧(1≤c→b=1→Q .non H)
include T in
theorem d_Z3 (S:Src K mg "check_plain_ask" s_Z3)(D_Z30:Defx P w K mg base "check_ask" 1 ["count","bound"] (Xtf Y16)):Defx P w K mg base "check_plain_ask" 2 ["count","bound"] (Xfk Y16 Y3):=by
 refine S.okx sc_Z3 XUc (fun vs H Q E h=>by revert h;walk_at "len") (fun f cdv A outer s H vs Q E hr h=>?_)
 refine⟨_,(Xab (Xbx (Xcp D_Z30 hr (by rfl) (Xaa (pv 0) (Xaa (pv 1) Xac)))) (Xae (Xbd (Xag Xkp (pv 1) Xaf (Xaj _)) (Xae (Xcb T.zdF hr.hd rfl (Xaa Xan Xac))) Xam))),?_⟩
 obtain⟨c,b,rfl,qa,qb,q⟩:=h
 walk_at "go"
 refine⟨c,b,rfl,qa,fun h1 h2=>?_⟩
 walk_at "go"
 refine Xbj (fun h3=>?_) (fun h3=>?_)
 · walk_at "go"
   exact q h1 h3
 · walk_at "go"
   exact qb h1 h2 h3
structure BS (C:W3→Addr)(i:W3)(x dx a:Addr)(r:Int)(cs:List Int)(ps:List Pc)(H:Hp):Prop where
 hx:H x=some (.ins (C i) dx (fsF i a r))
 ha:H a=some (.lst (cs.map V.int))
 hz:cs.length≤1200
 hc:Xas 0 ps cs.length
 mm:Xat cs ps
structure KS (C:W3→Addr)(x dx a:Addr)(q:St3)(cs:List Int)(H:Hp):Prop where
 hx:H x=some (.ins (C q.let3) dx (fsF q.let3 a q.s))
 ha:H a=some (.lst (cs.map V.int))
 hl:(cs.length:Int)=q.n
 hz:cs.length≤1200
 ok:q.ok
 mm:Xat cs q.ps
section
variable {C:W3→Addr}{x dx a:Addr}{q:St3}{cs:List Int}{H H':Hp}
theorem KS.same (S:KS C x dx a q cs H)(s:Same H H'):KS C x dx a q cs H':=⟨s x _ S.hx,s a _ S.ha,S.hl,S.hz,S.ok,S.mm⟩
theorem KS.ch (S:KS C x dx a q cs H):Xas 0 q.ps cs.length:=by rw[S.hl];exact St3.ch S.ok
theorem KS.bs (S:KS C x dx a q cs H):BS C q.let3 x dx a q.s cs q.ps H:=⟨S.hx,S.ha,S.hz,S.ch,S.mm⟩
end
def XDz (C:W3→Addr):Sp:=fun vs H Q _=>∃(i:W3) (x dx:Addr) (n:Int),vs=[.ref x,.int n]∧H x=some (.ins (C i) dx [])∧1≤n∧n≤4000 ∧
 ∀(a:Addr) (H':Hp),H a=none→Xbh x H H'→H' x=some (.ins (C i) dx [("room_cells",.ref a)])→H' a=some (.lst ((Xbv n).map V.int))→Q .non H'
include T in
theorem d_Z43 {f₀:Addr}{fd₀:FuncData}(F:Fun K "__init__" "Keeper.__init__" Xcq f₀ fd₀)(M:ClsM K Y8 "__init__" f₀)(D_Z26:Defx P w K mg base "fresh_room" 2 ["count"] (Xia Y14)):Basex P w K mg base "Keeper" "__init__" 3 ["self","size"] (XDz (cF Y7 Y5 Y17)):=by
 refine⟨⟨Y8,f₀,fd₀,Xbq F Xfa (fun vs H Q E h=>by revert h;walk_at "len") (fun cdv A outer s H vs Q E hr h=>?_),M,F.binds Xey,T.zfo⟩⟩
 refine⟨_,PSs.nox (Xae (Xnr (pv 0) (Xai D_Z26 hr (by rfl) (Xaa (pv 1) Xac)) rfl)),?_⟩
 obtain⟨i,x,dx,n,rfl,hx,h1,h4,q⟩:=h
 have cl:=T_cl T i
 have na:=T_na T i
 walk_at "go"
 refine⟨n,rfl,h4,fun z=>absurd z (by omega),fun _ p H1 np s1 hp=>?_⟩
 have hx1:=s1 x _ hx
 have hne:p≠x:=fun z=>by rw[z,hx] at np;cases np
 walk_at "go"
 exact q p _ np (Xbh.of s1).put upd_same (look_ne hne hp)
def XKw (C:Addr):Sp:=fun vs H Q _=>∃(x dx:Addr) (n:Int),vs=[.ref x,.int n]∧H x=some (.ins C dx [])∧1≤n∧n≤4000 ∧
 ∀(a:Addr) (H':Hp),H a=none→Xbh x H H'→H' x=some (.ins C dx [("room_cells",.ref a)])→H' a=some (.lst ((Xbv n).map V.int))→Q .non H'
include T in
theorem XSq {f₀:Addr}{fd₀:FuncData}(F:Fun K "__init__" "Keeper.__init__" Xcq f₀ fd₀)(M:Mk K Y17 f₀)(D_Z26:Defx P w K mg base "fresh_room" 2 ["count"] (Xia Y14)):Makex P w K mg base "Row" Y17 3 ["self","size"] [] (XKw Y17):=by
 refine⟨⟨f₀,fd₀,[],Xbq F Xfa (fun vs H Q E h=>by revert h;walk_at "len") (fun cdv A outer s H vs Q E hr h=>?_),M,F.binds Xey,.nil⟩,T.c_Row⟩
 refine⟨_,PSs.nox (Xae (Xnr (pv 0) (Xai D_Z26 hr (by rfl) (Xaa (pv 1) Xac)) rfl)),?_⟩
 obtain⟨x,dx,n,rfl,hx,h1,h4,q⟩:=h
 have cl:=T.cl_Row
 have na:=T.zad
 walk_at "go"
 refine⟨n,rfl,h4,fun z=>absurd z (by omega),fun _ p H1 np s1 hp=>?_⟩
 have hx1:=s1 x _ hx
 have hne:p≠x:=fun z=>by rw[z,hx] at np;cases np
 walk_at "go"
 exact q p _ np (Xbh.of s1).put upd_same (look_ne hne hp)
def Xmq (K:PySem.W.Frag)(C:W3→Addr)(i:W3):Sp:=fun vs H Q _=>∃(r:Int) (x h dx a:Addr) (cs:List Int),vs=[.ref x,.ref h]∧H x=some (.ins (C i) dx (fsF i a r))∧SqL K H h (cs.map V.int) ∧
 ∀(a':Addr) (H':Hp),H a'=none→Xbh x H H'→H' x=some (.ins (C i) dx (fsF i a' r))→H' a'=some (.lst (cs.map V.int))→Q .non H'
include T in
theorem d_Z16 {f₀:Addr}{fd₀:FuncData}(F:Fun K "room_begin" "Keeper.room_begin" s_Z1 f₀ fd₀)(M:∀i,Meth K ((cF Y7 Y5 Y17) i) "room_begin" f₀) :Xba P w K mg base (cF Y7 Y5 Y17) "room_begin" 1 ["self","cells"] [] (Xmq K (cF Y7 Y5 Y17)):=by
 refine Xba.made (Xbq F XTr (fun vs H Q E h=>by obtain⟨_,h⟩:=h;revert h;walk_at "len") (fun cdv A outer s H vs Q E hr h=>?_)) M (F.binds bi_Z1) (T_cl T)
 refine⟨_,PSs.nox (Xae (Xnr (pv 0) (Xcx Xck (by rfl) T.n_list PyProof.Rows.boot_list (Xaa (pv 1) Xac)) rfl)),?_⟩
 obtain⟨i,r,x,h,dx,a,cs,rfl,hx,hS,q⟩:=h
 have cl:=T_cl T i
 have na:=T_na T i
 walk_at "go"
 intro p np
 have s1:Same H (upd H p (.lst (cs.map V.int))):=Same.new np
 have hx1:=s1 x _ hx
 have hp:upd H p (.lst (cs.map V.int)) p=some (.lst (cs.map V.int)):=upd_same
 have hne:p≠x:=fun z=>by rw[z,hx] at np;cases np
 generalize upd H p (.lst (cs.map V.int))=H1 at s1 hx1 hp ⊢
 walk_at "go"
 exact q p _ np (Xbh.of s1).put (by rw[upd_same,Xwj]) (look_ne hne hp)
def Xlt (K:PySem.W.Frag)(C:W3→Addr)(i:W3):Sp:=fun vs H Q _=>∃(r:Int) (x h dx a:Addr) (cs0 cs:List Int) (ps:List Pc),vs=[.ref x,.ref h]∧H x=some (.ins (C i) dx (fsF i a r))∧H a=some (.lst (cs0.map V.int))∧cs.length=cs0.length∧SqL K H h (cs.map V.int)∧cs.length≤4000∧Xcy cs 0=(ps,none) ∧
 ∀(a':Addr) (H':Hp),H a'=none→Xbh x H H'→H' x=some (.ins (C i) dx (fsF i a' r))→H' a'=some (.lst (cs.map V.int))→Q .non H'
include T in
theorem d_lay {f₀:Addr}{fd₀:FuncData}(F:Fun K "lay" "Keeper.lay" Xvx f₀ fd₀)(M:∀i,Meth K ((cF Y7 Y5 Y17) i) "lay" f₀)(D_Z63:Defx P w K mg base "looked" 4 ["cells"] (Xdx K Y6))(D_Z16:Xba P w K mg base (cF Y7 Y5 Y17) "room_begin" 1 ["self","cells"] [] (Xmq K (cF Y7 Y5 Y17))):Xba P w K mg base (cF Y7 Y5 Y17) "lay" 5 ["self","cells"] [] (Xlt K (cF Y7 Y5 Y17)):=by
 refine Xba.made (Xbq F XRn (fun vs H Q E h=>by obtain⟨_,h⟩:=h;revert h;walk_at "len") (fun cdv A outer s H vs Q E hr h=>?_)) M (F.binds XLq) (T_cl T)
 refine⟨_,PSs.nox (Xab (Xbd (Xag Xkp (Xar Xbb (by rfl) T.n_len PySem.boot_len (Xaa (pv 1) Xac)) (Xar Xbb (by rfl) T.n_len PySem.boot_len (Xaa (Xdp (pv 0) rfl) Xac)) (Xaj _)) (Xae Xfv) Xam) (Xab (Xbx (Xai D_Z63 hr (by rfl) (Xaa (pv 1) Xac))) (Xae (Xbx (Xay D_Z16 Xav hr (pv 0) (Xaa (pv 1) Xac)))))),?_⟩
 obtain⟨i,r,x,h,dx,a,cs0,cs,ps,rfl,hx,ha,hl,hS,hz,hw,q⟩:=h
 have cl:=T_cl T i
 have na:=T_na T i
 walk_at "go"
 refine⟨h,cs,rfl,hS,hz,(fun c hc=>by rw[hw] at hc;cases hc),fun _ lp us H1 nlp s1 hlp pa=>?_⟩
 have hx1:=s1 x _ hx
 walk_at "go"
 refine⟨r,x,h,dx,a,cs,rfl,hx1,s1.seq hS,fun a' H2 na2 k2 hx2 ha2=>?_⟩
 walk_at "go"
 exact q a' H2 (s1.free na2) ((Xbh.of s1).trans k2) hx2 ha2
def Xfl (C:W3→Addr)(i:W3):Sp:=fun vs H Q _=>∃(r:Int) (x dx a:Addr) (cs:List Int) (ps:List Pc),vs=[.ref x]∧BS C i x dx a r cs ps H ∧
 ∀(p:Addr) (us:List V) (H':Hp),H p=none→Same H H'→H' p=some (.lst us)→Xbz H' us ps→Q (.ref p) H'
include T in
theorem d_Z66 {f₀:Addr}{fd₀:FuncData}(F:Fun K "pieces" "Keeper.pieces" s_Z6 f₀ fd₀)(M:∀i,Meth K ((cF Y7 Y5 Y17) i) "pieces" f₀)(D_Z63:Defx P w K mg base "looked" 4 ["cells"] (Xdx K Y6)):Xba P w K mg base (cF Y7 Y5 Y17) "pieces" 5 ["self"] [] (Xfl (cF Y7 Y5 Y17)):=by
 refine Xba.made (Xbq F XTa (fun vs H Q E h=>by obtain⟨_,h⟩:=h;revert h;walk_at "len") (fun cdv A outer s H vs Q E hr h=>?_)) M (F.binds XTe) (T_cl T)
 refine⟨_,PSs.nox (Xae (Xal (Xai D_Z63 hr (by rfl) (Xaa (Xdp (pv 0) rfl) Xac)))),?_⟩
 obtain⟨i,r,x,dx,a,cs,ps,rfl,⟨hx,ha,hz,hc,mk⟩,q⟩:=h
 have cl:=T_cl T i
 have na:=T_na T i
 have hw:=Xaw hc mk
 walk_at "go"
 refine⟨a,cs,rfl,SqL.of ha,by omega,(fun c hc=>by rw[hw] at hc;cases hc),fun _ lp us H1 nlp s1 hlp pa=>?_⟩
 walk_at "go"
 exact q lp us H1 nlp s1 hlp (by rw[hw] at pa;exact pa)
def Xcw (C:W3→Addr)(k:W3):Sp:=fun vs H Q _=>∃(r:Int) (x dx a:Addr) (cs:List Int),vs=[.ref x]∧H x=some (.ins (C k) dx (fsF k a r))∧H a=some (.lst (cs.map V.int)) ∧
 ∀(p:Addr) (H':Hp),H p=none→Same H H'→H' p=some (.lst (cs.map V.int))→Q (.ref p) H'
include T in
theorem d_Z72 {f₀:Addr}{fd₀:FuncData}(F:Fun K "cells" "Keeper.cells" s_Z8 f₀ fd₀)(M:∀i,Meth K ((cF Y7 Y5 Y17) i) "cells" f₀) :Xba P w K mg base (cF Y7 Y5 Y17) "cells" 1 ["self"] [] (Xcw (cF Y7 Y5 Y17)):=by
 refine Xba.made (Xbq F sc_Z8 (fun vs H Q E h=>by obtain⟨_,h⟩:=h;revert h;walk_at "len") (fun cdv A outer s H vs Q E hr h=>?_)) M (F.binds bi_Z8) (T_cl T)
 refine⟨_,PSs.nox (Xae (Xal (Xcx Xck (by rfl) T.n_list PyProof.Rows.boot_list (Xaa (Xdp (pv 0) rfl) Xac)))),?_⟩
 obtain⟨k,r,x,dx,a,cs,rfl,hx,ha,q⟩:=h
 have cl:=T_cl T k
 have na:=T_na T k
 walk_at "go"
 intro p np
 walk_at "go"
 exact q p _ np (Same.new np) upd_same
def Xhe (C:W3→Addr)(CP:Addr)(k:W3):Sp:=fun vs H Q E=>∃(r:Int) (x dx a:Addr) (cs:List Int) (ps:List Pc) (pl:Int),vs=[.ref x,.int pl]∧BS C k x dx a r cs ps H∧((∀z∈ps,z.v=true→z.a+1≠pl)→∀H',Same H H'→E (.ref CP) none H') ∧
 (∀z∈ps,z.v=true→z.a+1=pl→∀(H':Hp),Same H H'→Q (.int (z.l-2)) H')
include T in
theorem d_Z74 {f₀:Addr}{fd₀:FuncData}(F:Fun K "many" "Keeper.many" Xvt f₀ fd₀)(M:∀i,Meth K ((cF Y7 Y5 Y17) i) "many" f₀)(D_Z42:Defx P w K mg base "live_at" 6 ["cells","at"] (Xjr K Y4 true)):Xba P w K mg base (cF Y7 Y5 Y17) "many" 7 ["self","place"] [] (Xhe (cF Y7 Y5 Y17) Y4):=by
 refine Xba.made (Xbq F Xnw (fun vs H Q E h=>by obtain⟨_,h⟩:=h;revert h;walk_at "len") (fun cdv A outer s H vs Q E hr h=>?_)) M (F.binds XRa) (T_cl T)
 refine⟨_,(Xab (Xea (Xcp D_Z42 hr (by rfl) (Xaa (Xdp (pv 0) rfl) (Xaa (Xak Xbo (pv 1) Xaf) Xac))) (Xgp rfl (Xax (Xau (i:=2) Xnw.nd rfl (Or.inl rfl)) (Xax (Xau (i:=3) Xnw.nd rfl (Or.inl rfl)) (Xax (Xau (i:=4) Xnw.nd rfl (Or.inl rfl)) Xdh))))) (Xae (Xal (Xak Xbo (pv 3) (Xbt (v:=.int 2) (by rfl) T.zce ⟨_,rfl⟩))))),?_⟩
 obtain⟨k,r,x,dx,a,cs,ps,pl,rfl,⟨hx,ha,hz,hc,mk⟩,qe,q⟩:=h
 have cl:=T_cl T k
 have na:=T_na T k
 have hw:=Xaw hc mk
 walk_at "go"
 refine⟨a,cs,ps,pl-1,rfl,SqL.of ha,by omega,hw,hc,fun y hy hk hv t H1 s1 ht=>?_,fun hn H1 s1=>qe (fun z hz hv hk=>hn z hz (by omega) hv) H1 s1⟩
 walk_at "go"
 exact q y hy hv (by omega) H1 s1
def Xjz (C:W3→Addr)(CP CC:Addr)(k:W3):Sp:=fun vs H Q E=>∃(r:Int) (x dx a:Addr) (cs:List Int) (ps:List Pc) (pl j:Int),vs=[.ref x,.int pl,.int j]∧BS C k x dx a r cs ps H∧((∀z∈ps,z.v=true→z.a+1≠pl)→∀H',Same H H'→E (.ref CP) none H') ∧
 (∀z∈ps,z.v=true→z.a+1=pl→j<0∨z.l-2≤j→∀(H':Hp),Same H H'→E (.ref CC) none H') ∧
 (∀z∈ps,z.v=true→z.a+1=pl→0≤j→j<z.l-2→∀(H':Hp),Same H H'→Q (.int (pl+j)) H')
include T in
theorem d_Z11 {f₀:Addr}{fd₀:FuncData}(F:Fun K "room_cell_of" "Keeper.room_cell_of" s_Z0 f₀ fd₀)(M:∀i,Meth K ((cF Y7 Y5 Y17) i) "room_cell_of" f₀)(D_Z74:Xba P w K mg base (cF Y7 Y5 Y17) "many" 7 ["self","place"] [] (Xhe (cF Y7 Y5 Y17) Y4)):Xba P w K mg base (cF Y7 Y5 Y17) "room_cell_of" 8 ["self","place","k"] [] (Xjz (cF Y7 Y5 Y17) Y4 Y9):=by
 refine Xba.made (Xbq F XKs (fun vs H Q E h=>by obtain⟨_,h⟩:=h;revert h;walk_at "len") (fun cdv A outer s H vs Q E hr h=>?_)) M (F.binds bi_Z0) (T_cl T)
 refine⟨_,(Xab (Xao (i:=3) XKs.nd rfl (Or.inl rfl) (Xay D_Z74 Xdk hr (pv 0) (Xaa (pv 1) Xac))) (Xab (Xbd (PW.pt (Xge (Xag Xee (pv 2) Xaf (Xaj _)) (Xek (Xag Xst (pv 2) (pv 3) (Xaj _))))) (Xae (Xcb T.zfr hr.hd rfl (Xaa Xan Xac))) Xam) (Xae (Xal (Xak Xbg (pv 1) (pv 2)))))),?_⟩
 obtain⟨k,r,x,dx,a,cs,ps,pl,j,rfl,S,qp,qc,q⟩:=h
 have hx:=S.hx
 walk_at "go"
 refine⟨r,x,dx,a,cs,ps,pl,rfl,S,qp,fun z hz hv hk H1 s1=>?_⟩
 walk_at "go"
 refine Xbj (fun h1=>?_) (fun h1=>?_)
 · walk_at "go"
   exact qc z hz hv hk (.inl h1) H1 s1
 · walk_at "go"
   refine Xbj (fun h2=>?_) (fun h2=>?_)
   · walk_at "go"
     exact qc z hz hv hk (.inr (by omega)) H1 s1
   · walk_at "go"
     exact q z hz hv hk (by omega) (by omega) H1 s1
theorem Xpk {cs:List Int}{ps:List Pc}{z:Pc}{n x k:Int}(c:Xas 0 ps n)(m:Xat cs ps)(hz:z∈ps)(hv:z.v=true)(k0:0≤k)(k1:k<z.l-2):Xat (cs.set (z.a+1+k).toNat x) ps:=fun p hp=>by
 obtain⟨z0,z1,z3,z4⟩:=c.mem z hz
 obtain⟨p0,p1,p3,p4⟩:=c.mem p hp
 obtain⟨m1,m2⟩:=m p hp
 have far:p.a≠z.a+1+k∧p.a+p.l-1≠z.a+1+k:=by
   by_cases e:p=z
   · subst e;omega
   · constructor
     · intro h
       exact e (Xgg c hp hz (Int.le_refl _) (by omega) (by omega) (by omega))
     · intro h
       exact e (Xgg c hp hz (p:=p.a+p.l-1) (by omega) (by omega) (by omega) (by omega))
 exact⟨by rw[List.getElem?_set_ne (by omega)];exact m1,by rw[List.getElem?_set_ne (by omega)];exact m2⟩
def XDs (C:W3→Addr)(CP CC:Addr)(k:W3):Sp:=fun vs H Q E=>∃(r:Int) (x dx a:Addr) (cs:List Int) (ps:List Pc) (pl j n:Int),vs=[.ref x,.int pl,.int j,.int n]∧BS C k x dx a r cs ps H∧((∀z∈ps,z.v=true→z.a+1≠pl)→∀H',Same H H'→E (.ref CP) none H') ∧
 (∀z∈ps,z.v=true→z.a+1=pl→j<0∨z.l-2≤j→∀(H':Hp),Same H H'→E (.ref CC) none H') ∧
 (∀z∈ps,z.v=true→z.a+1=pl→0≤j→j<z.l-2→∀(H':Hp),Xbh a H H'→BS C k x dx a r (cs.set (pl+j).toNat n) ps H'→Q .non H')
include T in
theorem d_put {f₀:Addr}{fd₀:FuncData}(F:Fun K "put" "Keeper.put" Xvw f₀ fd₀)(M:∀i,Meth K ((cF Y7 Y5 Y17) i) "put" f₀)(D_Z11:Xba P w K mg base (cF Y7 Y5 Y17) "room_cell_of" 8 ["self","place","k"] [] (Xjz (cF Y7 Y5 Y17) Y4 Y9)):Xba P w K mg base (cF Y7 Y5 Y17) "put" 9 ["self","place","k","number"] [] (XDs (cF Y7 Y5 Y17) Y4 Y9):=by
 refine Xba.made (Xbq F Xzr (fun vs H Q E h=>by obtain⟨_,h⟩:=h;revert h;walk_at "len") (fun cdv A outer s H vs Q E hr h=>?_)) M (F.binds XMy) (T_cl T)
 refine⟨_,(Xab (Xao (i:=4) Xzr.nd rfl (Or.inl rfl) (Xay D_Z11 Xdk hr (pv 0) (Xaa (pv 1) (Xaa (pv 2) Xac)))) (Xae (Xea (pv 3) (Xlv (Xdp (pv 0) rfl) (pv 4) Xfz)))),?_⟩
 obtain⟨k,r,x,dx,a,cs,ps,pl,j,n,rfl,S,qp,qc,q⟩:=h
 have hx:=S.hx
 have cl:=T_cl T k
 have na:=T_na T k
 walk_at "go"
 refine⟨r,x,dx,a,cs,ps,pl,j,rfl,S,qp,qc,fun z hz hv hk h0 h1 H1 s1=>?_⟩
 subst hk
 obtain⟨z0,z1,z3,z4⟩:=S.hc.mem z hz
 have hz2:=S.hz
 have hx1:=s1 x _ hx
 have ha1:=s1 a _ S.ha
 have hxa:x≠a:=fun e=>by rw[e,ha1] at hx1;cases hx1
 have ls:(cs.set (z.a+1+j).toNat n).length=cs.length:=List.length_set
 walk_at "go"
 exact q z hz hv rfl h0 h1 _ (Xbh.of s1).put ⟨look_ne hxa hx1,upd_same,by rw[ls];exact hz2,by rw[ls];exact S.hc,Xpk S.hc S.mm hz hv h0 h1⟩
def Xvz (C:W3→Addr)(CP CC:Addr)(k:W3):Sp:=fun vs H Q E=>∃(r:Int) (x dx a:Addr) (cs:List Int) (ps:List Pc) (pl j:Int),vs=[.ref x,.int pl,.int j]∧BS C k x dx a r cs ps H∧((∀z∈ps,z.v=true→z.a+1≠pl)→∀H',Same H H'→E (.ref CP) none H') ∧
 (∀z∈ps,z.v=true→z.a+1=pl→j<0∨z.l-2≤j→∀(H':Hp),Same H H'→E (.ref CC) none H') ∧
 (∀z∈ps,z.v=true→z.a+1=pl→0≤j→j<z.l-2→∀(H':Hp),Same H H'→Q (.int (cs.getD (pl+j).toNat 0)) H')
include T in
theorem d_get {f₀:Addr}{fd₀:FuncData}(F:Fun K "get" "Keeper.get" Xyd f₀ fd₀)(M:∀i,Meth K ((cF Y7 Y5 Y17) i) "get" f₀)(D_Z11:Xba P w K mg base (cF Y7 Y5 Y17) "room_cell_of" 8 ["self","place","k"] [] (Xjz (cF Y7 Y5 Y17) Y4 Y9)):Xba P w K mg base (cF Y7 Y5 Y17) "get" 9 ["self","place","k"] [] (Xvz (cF Y7 Y5 Y17) Y4 Y9):=by
 refine Xba.made (Xbq F XJa (fun vs H Q E h=>by obtain⟨_,h⟩:=h;revert h;walk_at "len") (fun cdv A outer s H vs Q E hr h=>?_)) M (F.binds XMt) (T_cl T)
 refine⟨_,(Xae (Xal (Xbn Xbe (Xdp (pv 0) rfl) (Xay D_Z11 Xdk hr (pv 0) (Xaa (pv 1) (Xaa (pv 2) Xac))) (fun _ _=>rfl)))),?_⟩
 obtain⟨k,r,x,dx,a,cs,ps,pl,j,rfl,S,qp,qc,q⟩:=h
 have hx:=S.hx
 have cl:=T_cl T k
 have na:=T_na T k
 walk_at "go"
 refine⟨r,x,dx,a,cs,ps,pl,j,rfl,S,qp,qc,fun z hz hv hk h0 h1 H1 s1=>?_⟩
 obtain⟨z0,z1,z3,z4⟩:=S.hc.mem z hz
 have hx1:=s1 x _ hx
 have ha1:=s1 a _ S.ha
 walk_at "go"
 exact q z hz hv hk h0 h1 H1 s1
/-! bit_length -/
def bl (n:Int):Int:=((Builtin.Int.intBits n:Nat):Int)
section
variable {X:Cx}
def XFh:V→List V→Hp→VK→Prop:=fun x xs H Q=>∃i,x = .int i∧xs=[]∧Q (.int (bl i)) H
theorem Xux:MtM X "int.bit_length" XFh:=by
 intro pins s σ H x xs v us Q I rx rs h
 obtain⟨i,rfl,rfl,q⟩:=h
 obtain⟨t,rfl⟩:=rx
 cases rs
 exact PyProof.Rows.call_int_bit_length ⟨.int (bl i),H,I.tok _,⟨_,rfl⟩,q⟩
end
theorem Xws {n:Int}{k:Nat}(h2:2≤n)(h3:n<2^220)(hk:Xfh k n):bl (n-1)=(k:Int)∧(k:Int)≤1000:=by
 have e0:(n-1).natAbs=(n-1).toNat:=by omega
 have h1:=Xjm (c:=(n-1).toNat) (by omega)
 have e1:(((n-1).toNat:Nat):Int)+1=n:=by omega
 rw[e1] at h1
 have e2:Builtin.Int.intBits (n-1)=(n-1).toNat.log2+1:=by
   unfold Builtin.Int.intBits
   rw[if_neg (by simp;omega),e0]
 have e3:=h1.uniq hk
 unfold bl
 rw[e2,e3]
 refine⟨rfl,?_⟩
 rcases Nat.lt_or_ge 220 k with g | g
 · have:=hk.2 220 g
   omega
 · omega
theorem Xfh.two {k:Nat}{c:Int}(h:Xfh k c)(hc:3≤c):2≤k:=by
 match k,h with
 | 0,h=>have:=h.1;simp at this;omega
 | 1,h=>have:=h.1;simp at this;omega
 | k+2,_=>omega
def XEq (n:Int):Bool:=decide (1≤n)&&decide (Builtin.bitAnd n (n-1)=0)
def XQw:Sp:=fun vs H Q _=>∃n:Int,vs=[.int n]∧Q (.bl (XEq n)) H
include T in
theorem d_Z35 (S:Src K mg "is_power" Xqb) :Defx P w K mg base "is_power" 1 ["number"] (XQw):=by
 refine S.okx XNd XKp (fun vs H Q E h=>by revert h;walk_at "len") (fun f cdv A outer s H vs Q E hr h=>?_)
 refine⟨_,PSs.nox (Xae (Xal (Xfq (Xch Xst (pv 0) Xaf (Xaj _)) (Xgm (Xch Xcd (Xak Xzy (pv 0) (Xak Xbo (pv 0) Xaf)) Xaf (Xaj _)))))),?_⟩
 obtain⟨n,rfl,q⟩:=h
 unfold XEq at q
 walk_at "go"
 refine Xbj (fun h1=>?_) (fun h1=>?_)
 · walk_at "go"
   rw[decide_eq_true h1,Bool.true_and] at q
   exact q
 · walk_at "go"
   rw[decide_eq_false h1,Bool.false_and] at q
   exact q
theorem Xsx:∀N:Nat,N≤8→XEq (2^N)=true:=by decide
def XOj (C:Addr):Sp:=fun vs H Q _=>∃(x dx:Addr) (N:Nat),vs=[.ref x,.int (2^N)]∧N≤8∧H x=some (.ins C dx []) ∧
 ∀(a:Addr) (H':Hp),H a=none→Xbh x H H'→H' x=some (.ins C dx [("room_cells",.ref a)])→H' a=some (.lst ((Xbv (2^N)).map V.int))→Q .non H'
include T in
theorem Xxi {f₀:Addr}{fd₀:FuncData}(F:Fun K "__init__" "Halves.__init__" Xde f₀ fd₀)(M:Mk K Y7 f₀)(D_Z35:Defx P w K mg base "is_power" 1 ["number"] (XQw))(D_Z43:Basex P w K mg base "Keeper" "__init__" 3 ["self","size"] (XDz (cF Y7 Y5 Y17))):Makex P w K mg base "Halves" Y7 4 ["self","size"] [] (XOj Y7):=by
 refine⟨⟨f₀,fd₀,[],Xbq F Xiw (fun vs H Q E h=>by revert h;walk_at "len") (fun cdv A outer s H vs Q E hr h=>?_),M,F.binds Xiv,.nil⟩,T.zfp⟩
 refine⟨_,PSs.nox (Xab (Xbd (Xdb (Xhz (Xai D_Z35 hr (by rfl) (Xaa (pv 1) Xac)))) (Xae Xfv) Xam) (Xae (Xbx (Xny D_Z43 Xav hr (by rfl) (Xaa (pv 0) (Xaa (pv 1) Xac)))))),?_⟩
 obtain⟨x,dx,N,rfl,hN,hx,q⟩:=h
 have hp:=Xsx N hN
 have p1:=pw1 N
 have p2:=Xcm hN
 have e8:(2:Int)^8=256:=by decide
 walk_at "go"
 refine⟨2^N,rfl,?_⟩
 rw[hp]
 walk_at "go"
 refine⟨W3.half,x,dx,2^N,rfl,hx,p1,by omega,fun a H1 na k1 hx1 ha1=>?_⟩
 walk_at "go"
 exact q a H1 na k1 hx1 ha1
def Xrp:Sp:=fun vs H Q _=>∃(n:Int) (k:Nat),vs=[.int n]∧2≤n∧n<2^220∧Xfh k n∧Q (.int (2^k)) H
include T in
theorem XTf (S:Src K mg "block_for" Xtw) :Defx P w K mg base "block_for" 1 ["need"] (Xrp):=by
 refine S.okx XMq XQe (fun vs H Q E h=>by revert h;walk_at "len") (fun f cdv A outer s H vs Q E hr h=>?_)
 refine⟨_,PSs.nox (Xae (Xal (Xak Xmv Xaf (XKn PySem.F.plainAttrs_int PySem.F.slot_int_bit_length PySem.F.type_int_bit_length Xux (Xak Xbo (pv 0) Xaf))))),?_⟩
 obtain⟨n,k,rfl,h2,h3,hk,q⟩:=h
 obtain⟨e,hb⟩:=Xws (n:=n) (k:=k) h2 h3 hk
 walk_at "go"
 refine⟨rfl,_,rfl,rfl,?_⟩
 rw[e]
 walk_at "go"
 rw[show (1:Int)*2^(k:Int).toNat=2^k by rw[Int.one_mul];rfl]
 exact q
def fitL (b:Int)(ps:List Pc):List (List Int):=(ps.filter fun z=>!z.v&&decide (b≤z.l)).map fun z=>[z.l,z.a]
theorem Xqf {ps:List Pc}{b:Int}{i:Nat}(h:i<ps.length):fitL b (ps.take (i+1))=fitL b (ps.take i)++(if (!ps[i].v&&decide (b≤ps[i].l))=true then [[ps[i].l,ps[i].a]] else []):=by
 unfold fitL
 rw[List.take_add_one,List.getElem?_eq_getElem h,List.filter_append,List.map_append]
 congr 1
 simp only [Option.toList_some,List.filter_cons,List.filter_nil]
 split <;> rfl
theorem Xkq {ps:List Pc}{b:Int}{k:Nat}(h:k<(fitL b ps).length):∃z∈ps,z.v=false∧b≤z.l∧(fitL b ps).getD k []=[z.l,z.a]:=by
 have e:(fitL b ps).getD k []=(fitL b ps)[k]:=by rw[List.getD_eq_getElem?_getD,List.getElem?_eq_getElem h];rfl
 have hm:(fitL b ps)[k]∈fitL b ps:=List.getElem_mem h
 rw[←e] at hm
 unfold fitL at hm
 obtain⟨z,hz,ez⟩:=List.mem_map.mp hm
 obtain⟨h1,h2⟩:=List.mem_filter.mp hz
 obtain⟨h3,h4⟩:=Bool.and_eq_true_iff.mp h2
 exact⟨z,h1,by simpa using h3,of_decide_eq_true h4,by unfold fitL;exact ez.symm⟩
theorem XFz {ps:List Pc}{b:Int}{z:Pc}(hz:z∈ps)(hv:z.v=false)(hl:b≤z.l):∃k,k<(fitL b ps).length∧(fitL b ps).getD k []=[z.l,z.a]:=by
 have:[z.l,z.a]∈fitL b ps:=by
   unfold fitL
   exact List.mem_map.mpr ⟨z,List.mem_filter.mpr ⟨hz,by rw[hv,decide_eq_true hl];rfl⟩,rfl⟩
 obtain⟨k,hk⟩:=List.getElem?_of_mem this
 exact⟨k,(List.getElem?_eq_some_iff.mp hk).1,by rw[List.getD_eq_getElem?_getD,hk];rfl⟩
theorem Xqm {ps:List Pc}{b:Int}{z:Pc}(h:Bst b ps z):0<(fitL b ps).length∧(fitL b ps).getD (Xfe (fitL b ps) ((fitL b ps).length-1)) []=[z.l,z.a]:=by
 obtain⟨h1,h2,h3,h4⟩:=h
 obtain⟨k,hk,ek⟩:=XFz h1 h2 h3
 have hm:=Xgw (fitL b ps) ((fitL b ps).length-1)
 obtain⟨y,hy,hyv,hyl,ey⟩:=Xkq (ps:=ps) (b:=b) (k:=Xfe (fitL b ps) ((fitL b ps).length-1)) (by omega)
 refine⟨by omega,?_⟩
 have hmin:=Xhj (xs:=fitL b ps) (fun k hk=>let ⟨z,_,_,_,e⟩:=Xkq hk;⟨_,_,e⟩) ((fitL b ps).length-1) (by omega) k (by omega)
 rw[ek,ey,lex2] at hmin
 rw[ey]
 rcases h4 y hy hyv hyl with g | ⟨g1,g2⟩
 · rw[if_neg (by omega)] at hmin
   exact absurd g (of_decide_eq_false hmin)
 · rw[if_pos g1] at hmin
   have:=of_decide_eq_false hmin
   rw[g1,show y.a=z.a by omega]
def Xnu (CN:Addr):Sp:=fun vs H Q E=>∃(p:Addr) (us:List V) (ps:List Pc) (b:Int),vs=[.ref p,.int b]∧H p=some (.lst us)∧Xbz H us ps∧ps.length≤1200 ∧
 (((∀z∈ps,z.v=false→z.l<b)∧∀(H':Hp),Same H H'→E (.ref CN) none H')∨(∃z,Bst b ps z∧∀(u:Addr) (H':Hp),Same H H'→H' u=some (.tup [.int z.a,.int z.l])→Q (.ref u) H'))
def LfW (H1:Hp)(ps:List Pc)(b:Int)(D:Addr)(i:Nat)(ys:List V)(H2:Hp):Prop:=Same H1 H2∧H1 D=none∧H2 D=some (.lst ys)∧Xcs H2 ys ((fitL b (ps.take i)).map fun x=>x.map V.int)∧ys.length≤i
include T in
theorem d_Z25 (S:Src K mg "least_free" Xqg) :Defx P w K mg base "least_free" 1 ["pieces","block"] (Xnu Y13):=by
 refine S.okx Xol XKt (fun vs H Q E h=>by revert h;walk_at "len") (fun f cdv A outer s H vs Q E hr h=>?_)
 refine⟨_,(Xab (Xff (i:=2) ["at","long","live"] ["block"] [1] Xol.nd rfl (Or.inl rfl) rfl (Xcz (pv 0)) (fun cl C s₀ H₀ ex=>(Xla (K:=K) (n:=3) rfl rfl (Xax (Xau (i:=0) (show ((["at","long","live"]:List Str)++(["block"]:List Str)).Nodup by decide +kernel) rfl (Or.inl rfl)) (Xax (Xau (i:=1) (show ((["at","long","live"]:List Str)++(["block"]:List Str)).Nodup by decide +kernel) rfl (Or.inl rfl)) (Xax (Xau (i:=2) (show ((["at","long","live"]:List Str)++(["block"]:List Str)).Nodup by decide +kernel) rfl (Or.inl rfl)) Xdh))))) (fun cl C s₀ H₀ ex=>(Xdy (PW.pt (Xdi (Xdb (Xdg (K:=K) rfl (pv 2) (fun _=>rfl))) (Xda (Xag Xst (pv 1) (pv 3) (Xaj _))))))) (fun cl C s₀ H₀ ex=>(Xeb (Xaa (pv 1) (Xaa (pv 0) Xac)))) (Xer rfl rfl rfl) (Xha (n:="block") (by decide +kernel) rfl) (fun y h=>Xbw (by decide +kernel) h)) (Xab (Xbd (Xdb (Xdf (pv 2) (fun _=>rfl))) (Xae (Xcb T.zcn hr.hd rfl (Xaa Xan Xac))) Xam) (Xab (Xea (Xar (Xrc rfl hr.units) (by rfl) T.n_min PyProof.Rows.boot_min (Xaa (pv 2) Xac)) (Xgp rfl (Xax (Xau (i:=3) Xol.nd rfl (Or.inl rfl)) (Xax (Xau (i:=4) Xol.nd rfl (Or.inl rfl)) Xdh)))) (Xae (Xal (Xeb (Xaa (pv 4) (Xaa (pv 3) Xac)))))))),?_⟩
 obtain⟨p,us,ps,b,rfl,hp,pa,hz,hq⟩:=h
 have hul:=pa.1
 walk_at "go"
 refine⟨p,rfl,⟨_,SqL.of hp⟩,Xcl (K:=K) (a:=p) (xs:=us) (LfW H ps b) (fun D hD=>⟨Same.new hD,hD,upd_same,Xcs.nil,Nat.le_refl _⟩) (fun D i ys H2 _ h=>SqL.of (h.1 p _ hp)) ?_ ?_⟩
 · rintro D i y ys H2 hD hi ⟨s2,_,hD2,ta,hyl⟩ τ hτ
   have hil:i<us.length:=(List.getElem?_eq_some_iff.mp hi).1
   have hip:i<ps.length:=by omega
   obtain⟨t,et,hT⟩:=pa.2 i ps[i] (by simp [hip])
   have ey:y = .ref t:=Option.some.inj (hi.symm.trans et)
   subst ey
   have hT2:=s2 t _ hT
   have ef:=Xqf (b:=b) hip
   generalize ps[i]=z at hT2 ef
   match τ,hτ with
   | [τ0,τ1,τ2],_ =>
     walk_at "go"
     refine⟨⟨[_,_,_],rfl,rfl⟩,?_⟩
     walk_at "go"
     refine Xei (fun hv=>?_) (fun hv=>?_)
     · walk_at "go"
       rw[if_neg (by rw[hv];simp),List.append_nil] at ef
       exact Xdo hil ⟨s2,hD,hD2,by rw[ef];exact ta,by omega⟩
     · walk_at "go"
       refine Xbj (fun hc=>?_) (fun hc=>?_)
       · walk_at "go"
         intro t2 ht2
         rw[if_pos (by rw[hv,decide_eq_true (show b≤z.l by omega)];rfl)] at ef
         refine⟨look_put ht2 hD2,small4000 (by omega),Xdo hil ⟨(s2.put (s2.free ht2)).put hD,hD,upd_same,?_,by rw[List.length_append,List.length_singleton];omega⟩⟩
         rw[ef,List.map_append]
         exact ta.push hD2 ht2
       · walk_at "go"
         rw[if_neg (by rw[decide_eq_false (show ¬b≤z.l by omega)];simp),List.append_nil] at ef
         exact Xdo hil ⟨s2,hD,hD2,by rw[ef];exact ta,by omega⟩
 · rintro D ys H2 hD ⟨s2,_,hD2,ta,hyl⟩
   rw[List.take_of_length_le (by omega)] at ta
   rcases hq with ⟨hno,qe⟩ | ⟨z,hb,q⟩
   · have e0:fitL b ps=[]:=by
       cases e:fitL b ps with
       | nil=>rfl
       | cons x r =>
         obtain⟨z,h1,h2,h3,_⟩:=Xkq (ps:=ps) (b:=b) (k:=0) (by rw[e];simp)
         have:=hno z h1 h2
         omega
     rw[e0] at ta
     have hys:ys=[]:=List.length_eq_zero_iff.mp ta.1
     subst hys
     walk_at "go"
     refine iteT ?_
     walk_at "go"
     exact qe H2 s2
   · obtain⟨f1,f2⟩:=Xqm hb
     have hyl2:=ta.1
     rw[List.length_map] at hyl2
     cases ys with
     | nil=>rw[List.length_nil] at hyl2;omega
     | cons y0 yr =>
       walk_at "go"
       refine iteF ?_
       walk_at "go"
       refine⟨D,y0::yr,fitL b ps,rfl,hD2,ta,f1,fun t' et ht'=>?_⟩
       rw[f2] at ht'
       have ht3:H2 t'=some (.tup [.int z.l,.int z.a]):=ht'
       clear ht'
       walk_at "go"
       intro w hw
       walk_at "go"
       exact q w _ (s2.put (s2.free hw)) upd_same
/-! a block is cut down -/
def XAi (K:PySem.W.Frag):Sp:=fun vs H Q _=>∃(a:Addr) (cs:List Int) (b:Int) (B M:Nat) (ds rs:List Pc),vs=[.ref a,.int b,.int (2^M),.int (2^B)]∧SqL K H a (cs.map V.int)∧cs.length≤1200∧B≤M∧0≤b∧Xds ds b∧Xfc rs (b+2^M)∧b+2^M≤cs.length∧Xat cs (ds++rs) ∧
 ∀(p:Addr) (cs':List Int) (H':Hp),H p=none→Same H H'→H' p=some (.lst (cs'.map V.int))→cs'.length=cs.length→Xat cs' (ds++(hcP b B M++rs))→Q (.ref p) H'
def CdW (a:Addr)(b:Int)(B M:Nat)(ds rs:List Pc)(n:Nat)(H:Hp)(k:Nat)(σ:L2.St)(H':Hp):Prop :=
 ∃(r:Addr) (cs':List Int),B+k≤M∧σ=[some (.ref a),some (.int b),some (.int (2^(B+k))),some (.int (2^B)),some (.ref r)]∧Same H H'∧H r=none∧H' r=some (.lst (cs'.map V.int))∧cs'.length=n∧Xat cs' (ds++(spl b (B+k) (M-(B+k))++rs))
include T in
theorem d_Z40 (S:Src K mg "cut_down" Xrz)(D_Z73:Defx P w K mg base "laid" 2 ["cells","at","long","live"] (Xgn K)):Defx P w K mg base "cut_down" 3 ["cells","at","long","block"] (XAi K):=by
 refine S.okx Xoo XJz (fun vs H Q E h=>by revert h;walk_at "len") (fun f cdv A outer s H vs Q E hr h=>?_)
 refine⟨_,PSs.nox (Xab (Xao (i:=4) Xoo.nd rfl (Or.inl rfl) (Xcx Xck (by rfl) T.n_list PyProof.Rows.boot_list (Xaa (pv 0) Xac))) (Xab (Xfy PassesOwn.never (Xag Xke (pv 2) (pv 3) (Xaj _)) (Xab (Xao (i:=2) Xoo.nd rfl (Or.inl rfl) (Xak Xii (pv 2) Xaf)) (Xae (Xao (i:=4) Xoo.nd rfl (Or.inl rfl) (Xai D_Z73 hr (by rfl) (Xaa (pv 4) (Xaa (Xak Xbg (pv 1) (pv 2)) (Xaa (pv 2) (Xaa Xdc Xac))))))))) (Xae (Xal (Xai D_Z73 hr (by rfl) (Xaa (pv 4) (Xaa (pv 1) (Xaa (pv 3) (Xaa Xdc Xac))))))))),?_⟩
 obtain⟨a,cs,b,B,M,ds,rs,rfl,hS,hz,hBM,h0,hd,hr,hl,mk0,q⟩:=h
 walk_at "go"
 intro r hr0
 walk_at "go"
 refine⟨CdW a b B M ds rs cs.length H,⟨M-B,r,cs,by omega,(by rw[show B+(M-B)=M by omega];rfl),Same.new hr0,hr0,upd_same,rfl,by rw[show B+(M-B)=M by omega,Nat.sub_self];exact mk0⟩,?_⟩
 rintro k σ H' ⟨r,cs',hk,rfl,s1,nr,hr',hl',mk⟩
 have pB:=pw1 B
 walk_at "go"
 refine Xbj (fun hlt=>?_) (fun hlt=>?_)
 · refine⟨fun σ' H''=>∃k',k'<k∧CdW a b B M ds rs cs.length H k' σ' H'',fun σ' H'' hw=>hw,?_⟩
   obtain⟨k1,rfl⟩:∃k1,k=k1+1:=⟨k-1,by
     cases k with
     | zero=>rw[Nat.add_zero] at hlt;omega
     | succ k=>rfl⟩
   have p2:=pw2 (B+k1)
   have p1:=pw1 (B+k1)
   have e1:(2:Int)^(B+(k1+1))/2=2^(B+k1):=by rw[show B+(k1+1)=B+k1+1 by omega,p2];omega
   obtain⟨g1,mk3⟩:=XDy (L:=B+k1) (e:=M-(B+(k1+1))) h0 hd (by rw[show B+k1+1+(M-(B+(k1+1)))=M by omega];exact hr) (by rw[show B+k1+1+(M-(B+(k1+1)))=M by omega];omega) mk
   walk_at "go"
   rw[e1]
   generalize hg:(2:Int)^(B+k1)=L at p1 g1
   walk_at "go"
   refine⟨r,cs',b+L,L,false,rfl,SqL.of hr',by omega,by omega,p1,g1,fun p H2 np s2 hp=>?_⟩
   walk_at "go"
   subst hg
   refine⟨k1,by omega,p,_,by omega,rfl,s1.trans s2,s1.free np,hp,by rw[Xbm];exact hl',?_⟩
   rw[show M-(B+k1)=M-(B+(k1+1))+1 by omega]
   exact mk3
 · have e0:k=0:=by
     cases k with
     | zero=>rfl
     | succ k =>
       have:=Xcm (show B+1≤B+(k+1) by omega)
       have:=pw2 B
       omega
   subst e0
   obtain⟨g1,mk3⟩:=XFo (B:=B) (e:=M-B) h0 hd (by rw[show B+(M-B)=M by omega];exact hr) (by rw[show B+(M-B)=M by omega];omega) mk
   walk_at "go"
   refine⟨r,cs',b,2^B,true,rfl,SqL.of hr',by omega,h0,pB,g1,fun p H2 np s2 hp=>?_⟩
   walk_at "go"
   exact q p _ H2 (s1.free np) (s1.trans s2) hp (by rw[Xbm];exact hl') mk3
def Xfm (C:W3→Addr)(CA CB CN:Addr)(i:W3):Sp:=fun vs H Q E=>∃(x dx a:Addr) (q:St3) (cs:List Int) (c b:Int),vs=[.ref x,.int c,.int b]∧i=q.let3∧KS C x dx a q cs H∧c+2<2^220∧(c<1∨b<1→∀H',Same H H'→E (.ref CA) none H')∧(1≤c→1≤b→b≠1→∀H',Same H H'→E (.ref CB) none H') ∧
 (1≤c→b=1→((No3 c q∧∀H',Same H H'→E (.ref CN) none H')∨∃p q',Ask3 c q p q'∧∀(a':Addr) (cs':List Int) (H':Hp),H a'=none→Xbh x H H'→cs'.length=cs.length→KS C x dx a' q' cs' H'→Q (.int p) H'))
include T in
theorem XTn {f₀ T₀:Addr}{fd₀:FuncData}{tk₀:Tok}{tc₀:Value}{td₀:Option Addr}{tn₀:Nat}{ts₀:Array (Option Value)}(F:FunD K "ask" "Halves.ask" Xku (.ref T₀) f₀ fd₀)(LT:K.lookup T₀=some ⟨tc₀,td₀,.seq [.int 1 tk₀].toArray tn₀,ts₀⟩)(M:Meth K Y7 "ask" f₀)(D_Z3:Defx P w K mg base "check_plain_ask" 2 ["count","bound"] (Xfk Y16 Y3))(D_Z31:Defx P w K mg base "block_for" 1 ["need"] (Xrp))(D_Z66:Xba P w K mg base (cF Y7 Y5 Y17) "pieces" 5 ["self"] [] (Xfl (cF Y7 Y5 Y17)))(D_Z25:Defx P w K mg base "least_free" 1 ["pieces","block"] (Xnu Y13))(D_Z72:Xba P w K mg base (cF Y7 Y5 Y17) "cells" 1 ["self"] [] (Xcw (cF Y7 Y5 Y17)))(D_Z40:Defx P w K mg base "cut_down" 3 ["cells","at","long","block"] (XAi K))(D_lay:Xba P w K mg base (cF Y7 Y5 Y17) "lay" 5 ["self","cells"] [] (Xlt K (cF Y7 Y5 Y17))):MethD P w K mg base Y7 "ask" 6 ["self","count","bound"] [.int 1] (Xfm (cF Y7 Y5 Y17) Y16 Y3 Y13 W3.half):=by
 refine MethD.made (fd:=fd₀) ?_ M (F.bindsA LT (XKx T₀ _)) (F.bindsD LT (XOo T₀ _)) (.cons ⟨tk₀,rfl⟩ .nil) T.zcj
 refine Xga F Xok (fun vs H Q E h=>by revert h;walk_at "len") (fun cdv A outer s H vs Q E hr h=>?_)
 refine⟨_,(Xab (Xbx (Xcp D_Z3 hr (by rfl) (Xaa (pv 1) (Xaa (pv 2) Xac)))) (Xab (Xao (i:=3) Xok.nd rfl (Or.inl rfl) (Xai D_Z31 hr (by rfl) (Xaa (Xak Xbg (pv 1) (Xbt (v:=.int 2) (by rfl) T.zce ⟨_,rfl⟩)) Xac))) (Xab (Xea (Xcp D_Z25 hr (by rfl) (Xaa (Xbi D_Z66 Xav hr (pv 0)) (Xaa (pv 3) Xac))) (Xgp rfl (Xax (Xau (i:=4) Xok.nd rfl (Or.inl rfl)) (Xax (Xau (i:=5) Xok.nd rfl (Or.inl rfl)) Xdh)))) (Xab (Xbx (Xay D_lay Xav hr (pv 0) (Xaa (Xai D_Z40 hr (by rfl) (Xaa (Xbi D_Z72 Xav hr (pv 0)) (Xaa (pv 4) (Xaa (pv 5) (Xaa (pv 3) Xac))))) Xac))) (Xae (Xal (Xak Xbg (pv 4) Xaf))))))),?_⟩
 obtain⟨x,dx,a,q3,cs,c,b0,rfl,hi,S,hc2,qa,qb,hq⟩:=h
 cases q3 with
 | shel _ _=>cases hi
 | row _ _=>cases hi
 | half N ps =>
 have hx:H x=some (.ins ((cF Y7 Y5 Y17) W3.half) dx (fsF W3.half a (2^N))):=S.hx
 have ha:=S.ha
 have hl:(cs.length:Int)=2^N:=S.hl
 obtain⟨hN,hN2,hc,al⟩:=id S.ok
 have mk:Xat cs ps:=S.mm
 have cl:=T.zcj
 have na:=T.zac
 have hz:=S.hz
 have hple:0+(ps.length:Int)≤cs.length:=S.ch.le
 walk_at "go"
 refine⟨c,b0,rfl,fun h=>qa h H (Same.refl _),fun h1 h2 h3=>qb h1 h2 h3 H (Same.refl _),fun hc1 hb1=>?_⟩
 obtain⟨B,hB⟩:=Xoc c hc1
 have B2:=hB.two' (by omega)
 walk_at "go"
 refine⟨c+2,B,rfl,by omega,hc2,hB,?_⟩
 walk_at "go"
 refine⟨2^N,x,dx,a,cs,ps,rfl,⟨hx,ha,hz,by rw[hl];exact hc,mk⟩,fun lp us H1 nlp s1 hlp pa=>?_⟩
 walk_at "go"
 refine⟨lp,us,ps,2^B,rfl,hlp,pa,by omega,?_⟩
 rcases hq hc1 hb1 with ⟨g,qe⟩ | ⟨p0,q0,G0,q⟩
 · exact .inl ⟨g B hB,fun H2 s2=>qe H2 (s1.trans s2)⟩
 cases G0 with
 | half hB' G =>
 rename_i B' M ds rs b
 have eB:=hB.uniq hB'
 subst eB
 refine .inr ⟨_,G.2,fun u H2 s2 hu=>?_⟩
 obtain⟨hBM,hMN,b0,c1,c3,c4,al4,_⟩:=G.lie B2 hc al
 have hu:H2 u=some (.tup [.int b,.int (2^M)]):=hu
 have s12:=s1.trans s2
 have hx2:=s12 x _ hx
 have ha2:=s12 a _ ha
 have l3:=c3.le
 walk_at "go"
 refine⟨2^N,x,dx,a,cs,rfl,hx2,ha2,fun p H3 np s3 hp=>?_⟩
 walk_at "go"
 refine⟨p,cs,b,B,M,ds,rs,rfl,SqL.of hp,by omega,hBM,b0,c1.endBy (Int.le_refl 0),c3.fromOn,by omega,mk.sub (fun y hy=>?_),fun p2 cs' H4 np2 s4 hp2 hl' mk'=>?_⟩
 · rw[G.1]
   rcases List.mem_append.mp hy with g | g
   · exact List.mem_append_left _ g
   · exact List.mem_append_right _ (List.mem_cons_of_mem _ g)
 have s34:=s3.trans s4
 have hw':=Xaw (by rw[hl',hl];exact c4) mk'
 walk_at "go"
 refine⟨2^N,x,p2,dx,a,cs,cs',_,rfl,s34 x _ hx2,s34 a _ ha2,hl',SqL.of hp2,by omega,hw',fun a' H5 na5 k5 hx5 ha5=>?_⟩
 walk_at "go"
 have s14:=s12.trans s34
 exact q a' cs' H5 (s14.free na5) ((Xbh.of s14).trans k5) hl' ⟨hx5,ha5,by rw[hl'];exact hl,by omega,⟨hN,hN2,c4,al4⟩,mk'⟩
/-! shelves -/
def rep1 (s:Int)(m:Nat):List Int:=(List.replicate m (Xbv s)).flatten
theorem Xic {s:Int}(h:1≤s):Xat (Xbv s) [⟨0,s,false⟩]:=by
 unfold Xbv
 exact Xat.lay (ds:=[]) (rs:=[]) (by omega) h (by rw[List.length_replicate];omega) (fun p hp=>by cases hp) (fun p hp=>by cases hp) (Xat.nil _)
theorem Xgs {s:Int}(h:1≤s)(m:Nat):((rep1 s m).length:Int)=s*(m:Int):=(Xfo h (Xcf (by omega)) (Xic h) m).2
theorem Xlo {s:Int}(h:1≤s)(m:Nat):Xcy (rep1 s m) 0=(Xcn s 0 m,none):=by
 obtain⟨h1,h2⟩:=Xfo h (Xcf (by omega)) (Xic h) m
 have c:=Xdn h m 0
 rw[show s*((0:Nat):Int)=0 by simp,Nat.zero_add] at c
 exact Xaw (by unfold rep1;rw[h2];exact c) h1
theorem Xuu (one:List Int):∀m:Nat,(List.replicate m (one.map V.int)).flatten=((List.replicate m one).flatten).map V.int
 | 0=>rfl
 | m+1=>by rw[List.replicate_succ,List.flatten_cons,Xuu one m,List.replicate_succ,List.flatten_cons,List.map_append]
def Xra (C:Addr):Sp:=fun vs H Q E=>∃(z s:Int),vs=[.int z,.int s]∧z≤4000∧s≤4000∧((z<1∨s<1∨(1≤s∧z%s≠0))→E (.ref C) none H) ∧
 (∀m:Nat,1≤s→1≤m→z=s*(m:Int)→∀(p:Addr) (H':Hp),H p=none→Same H H'→H' p=some (.lst ((rep1 s m).map V.int))→Q (.ref p) H')
include T in
theorem XSh (S:Src K mg "all_whole" Xsm)(D_Z26:Defx P w K mg base "fresh_room" 2 ["count"] (Xia Y14)):Defx P w K mg base "all_whole" 3 ["size","shelf"] (Xra Y14):=by
 refine S.okx XRm XJs (fun vs H Q E h=>by revert h;walk_at "len") (fun f cdv A outer s H vs Q E hr h=>?_)
 refine⟨_,(Xab (Xbd (PW.pt (Xge (Xag Xee (pv 0) Xaf (Xaj _)) (Xge (Xag Xee (pv 1) Xaf (Xaj _)) (Xek (Xag Xkp (Xak Xca (pv 0) (pv 1)) Xaf (Xaj _)))))) (Xae (Xcb T.zcS hr.hd rfl (Xaa Xan Xac))) Xam) (Xae (Xal (Xak XAf (Xcp D_Z26 hr (by rfl) (Xaa (pv 1) Xac)) (Xak Xii (pv 0) (pv 1)))))),?_⟩
 obtain⟨z,s,rfl,hz,hs,qe,q⟩:=h
 walk_at "go"
 refine Xbj (fun h1=>?_) (fun h1=>?_)
 · walk_at "go"
   exact qe (.inl h1)
 · walk_at "go"
   refine Xbj (fun h2=>?_) (fun h2=>?_)
   · walk_at "go"
     exact qe (.inr (.inl h2))
   · walk_at "go"
     refine Xbj (fun h3=>?_) (fun h3=>?_)
     · walk_at "go"
       obtain⟨m,em⟩:∃m:Nat,z=s*(m:Int):=⟨(z/s).toNat,by
         have h4:=Int.mul_ediv_add_emod z s
         have h5:0≤z/s:=Int.ediv_nonneg (by omega) (by omega)
         rw[Int.toNat_of_nonneg h5]
         omega⟩
       have m1:1≤m:=by
         cases m with
         | zero=>simp at em;omega
         | succ m=>omega
       have ed:z/s=(m:Int):=by rw[em];exact Int.mul_ediv_cancel_left _ (by omega)
       refine⟨s,rfl,hs,fun z=>absurd z (by omega),fun _ p1 H1 np s1 hp=>?_⟩
       walk_at "go"
       rw[ed]
       have hf:=Xcf (n:=s) (by omega)
       have hm4:(m:Int)≤4000:=by
         have h6:=Int.mul_le_mul_of_nonneg_right (show (1:Int)≤s by omega) (show (0:Int)≤(m:Int) by omega)
         omega
       have hsz:(Xbv s).length*m≤4000:=by
         have e2:(((Xbv s).length*m:Nat):Int)=z:=by rw[Int.natCast_mul,hf,em]
         omega
       refine⟨p1,(m:Int),_,rfl,rfl,hp,by omega,by omega,(by show ((Xbv s).map V.int).length*(m:Int).toNat≤sizeLine;rw[List.length_map,Int.toNat_natCast];exact Nat.le_of_lt (small4000 hsz)),fun p2 np2=>?_⟩
       rw[Int.toNat_natCast,Xuu]
       walk_at "go"
       exact q m (by omega) m1 em p2 _ (s1.free np2) (s1.put (s1.free np2)) upd_same
     · walk_at "go"
       exact qe (.inr (.inr ⟨by omega,h3⟩))
def Xyy:Sp:=fun vs H Q _=>∃(a s:Int),vs=[.int a,.int s]∧1≤s∧Q (.int (a-a%s)) H
include T in
theorem d_Z39 (S:Src K mg "begin_of" Xsv) :Defx P w K mg base "begin_of" 1 ["at","shelf"] (Xyy):=by
 refine S.okx XIw XPz (fun vs H Q E h=>by revert h;walk_at "len") (fun f cdv A outer s H vs Q E hr h=>?_)
 refine⟨_,PSs.nox (Xae (Xal (Xak Xbo (pv 0) (Xak Xca (pv 0) (pv 1))))),?_⟩
 obtain⟨a,s,rfl,hs,q⟩:=h
 walk_at "go"
 exact q
theorem turns {A s k:Int}(h1:1≤k)(h2:k≤s):(Builtin.Range.rangeSize A (A+s) k).toNat=(s/k).toNat+(if k*((s/k).toNat:Int)=s then 0 else 1):=by
 have h3:=Int.mul_ediv_add_emod s k
 have h4:=Int.emod_nonneg s (show k≠0 by omega)
 have h5:=Int.emod_lt_of_pos s (show 0<k by omega)
 have h6:1≤s/k:=(Int.le_ediv_iff_mul_le (by omega)).mpr (by omega)
 have e:((s/k).toNat:Int)=s/k:=Int.toNat_of_nonneg (by omega)
 rw[e]
 unfold Builtin.Range.rangeSize
 rw[if_pos (by omega),if_pos (by omega),show A+s-A-1=s-1 by omega]
 split
 · rename_i h
   have:(s-1)/k=s/k-1:=by
     have:s-1=(k-1)+k*(s/k-1):=by rw[Int.mul_sub];omega
     rw[this,Int.add_mul_ediv_left _ _ (by omega),Int.ediv_eq_zero_of_lt (by omega) (by omega)]
     omega
   rw[this]
   omega
 · rename_i h
   have:(s-1)/k=s/k:=by
     have:s-1=(s%k-1)+k*(s/k):=by omega
     rw[this,Int.add_mul_ediv_left _ _ (by omega),Int.ediv_eq_zero_of_lt (by omega) (by omega)]
     omega
   rw[this]
   omega
theorem Xtd {s:Int}(h:1≤s):∀(m j:Nat),alP s (s*(j:Int)) (List.replicate m ⟨0,[]⟩)=Xcn s j m
 | 0,j=>rfl
 | m+1,j=>by
   rw[Xfs,List.replicate_succ]
   show shP s (s*(j:Int)) ⟨0,[]⟩++alP s (s*(j:Int)+s) (List.replicate m ⟨0,[]⟩)=_
   rw[Xdq h,←Xcc,Xtd h m (j+1)]
   rfl
theorem Xfw {s:Int}{fs:List Sf}{cs:List Int}(hs:1≤s)(w:∀f∈fs,SfW s f)(hl:(cs.length:Int)=s*(fs.length:Int)):Xas 0 (alP s 0 fs) cs.length:=by
 have:=Xdr hs fs 0 w
 rw[Int.zero_add,←hl] at this
 exact this
def FtW (H1:Hp)(ps:List Pc)(k:Int)(D:Addr)(i:Nat)(ys:List V)(H2:Hp):Prop:=Same H1 H2∧H2 D=some (.lst ys)∧H1 D=none∧ys=(fitF (ps.take i) k).map V.int∧ys.length≤i
def Xos (K:PySem.W.Frag):Sp:=fun vs H Q _=>∃(c:Addr) (cs:List Int) (ps:List Pc) (k:Int),vs=[.ref c,.int k]∧SqL K H c (cs.map V.int)∧cs.length≤4000∧Xcy cs 0=(ps,none)∧ps.length≤4000 ∧
 ∀(p:Addr) (H':Hp),H p=none→Same H H'→H' p=some (.lst ((fitF ps k).map V.int))→Q (.ref p) H'
include T in
theorem d_Z20 (S:Src K mg "whole_ones" Xre)(D_Z63:Defx P w K mg base "looked" 4 ["cells"] (Xdx K Y6)):Defx P w K mg base "whole_ones" 5 ["cells","shelf"] (Xos K):=by
 refine S.okx XMl XLo (fun vs H Q E h=>by revert h;walk_at "len") (fun f cdv A outer s H vs Q E hr h=>?_)
 refine⟨_,PSs.nox (Xae (Xal (Xfn ["at","long","live"] ["shelf"] [1] rfl (Xcz (Xai D_Z63 hr (by rfl) (Xaa (pv 0) Xac))) (fun cl C s₀ H₀ ex=>(Xla (K:=K) (n:=3) rfl rfl (Xax (Xau (i:=0) (show ((["at","long","live"]:List Str)++(["shelf"]:List Str)).Nodup by decide +kernel) rfl (Or.inl rfl)) (Xax (Xau (i:=1) (show ((["at","long","live"]:List Str)++(["shelf"]:List Str)).Nodup by decide +kernel) rfl (Or.inl rfl)) (Xax (Xau (i:=2) (show ((["at","long","live"]:List Str)++(["shelf"]:List Str)).Nodup by decide +kernel) rfl (Or.inl rfl)) Xdh))))) (fun cl C s₀ H₀ ex=>(Xdy (PW.pt (Xdi (Xdb (Xdg (K:=K) rfl (pv 2) (fun _=>rfl))) (Xda (Xag Xcd (pv 1) (pv 3) (Xaj _))))))) (fun cl C s₀ H₀ ex=>(pv 0)) (Xer rfl rfl rfl) (Xha (n:="shelf") (by decide +kernel) rfl) (fun y h=>Xbw (by decide +kernel) h)))),?_⟩
 obtain⟨c,cs,ps,k,rfl,hS,hz,hw,hpz,q⟩:=h
 walk_at "go"
 refine⟨c,cs,rfl,hS,hz,(fun c hc=>by rw[hw] at hc;cases hc),fun _ lp us H1 nlp s1 hlp pa=>?_⟩
 have pa:Xbz H1 us ps:=by rw[hw] at pa;exact pa
 have hul:=pa.1
 walk_at "go"
 refine⟨lp,rfl,⟨_,SqL.of hlp⟩,Xcl (K:=K) (a:=lp) (xs:=us) (FtW H1 ps k) (fun D hD=>⟨Same.new hD,upd_same,hD,rfl,Nat.le_refl _⟩) (fun D i ys H2 _ h=>SqL.of (h.1 lp _ hlp)) ?_ ?_⟩
 · rintro D i y ys H2 hD hi ⟨s2,hD2,_,ey,hyl⟩ τ hτ
   have hil:i<us.length:=(List.getElem?_eq_some_iff.mp hi).1
   have hip:i<ps.length:=by omega
   obtain⟨t,et,hT⟩:=pa.2 i ps[i] (by simp [hip])
   have ey2:y = .ref t:=Option.some.inj (hi.symm.trans et)
   subst ey2
   have hT2:=s2 t _ hT
   have ef:=Xlp (k:=k) hip
   generalize ps[i]=z at hT2 ef
   match τ,hτ with
   | [τ0,τ1,τ2],_ =>
     walk_at "go"
     refine⟨⟨[_,_,_],rfl,rfl⟩,?_⟩
     walk_at "go"
     refine Xei (fun hv=>?_) (fun hv=>?_)
     · walk_at "go"
       rw[hv] at ef
       refine Xdo hil ⟨s2,hD2,hD,?_,by omega⟩
       rw[ey,ef]
       simp
     · walk_at "go"
       rw[hv] at ef
       refine Xbj (fun hl=>?_) (fun hl=>?_)
       · walk_at "go"
         rw[if_pos (by simp [hl])] at ef
         refine⟨hD2,small4000 (by omega),Xdo hil ⟨s2.put hD,upd_same,hD,?_,by rw[List.length_append,List.length_singleton];omega⟩⟩
         rw[ey,ef,List.map_append]
         rfl
       · walk_at "go"
         rw[if_neg (by simp [hl])] at ef
         exact Xdo hil ⟨s2,hD2,hD,by rw[ey,ef,List.append_nil],by omega⟩
 · rintro D ys H2 hD ⟨s2,hD2,_,ey,hyl⟩
   rw[List.take_of_length_le (by omega)] at ey
   walk_at "go"
   exact q D H2 (s1.free hD) (s1.trans s2) (by rw[hD2,ey])
def SlW (H1:Hp)(cs:List Int)(xs:List Int)(k s:Int)(D:Addr)(i:Nat)(ys:List V)(H2:Hp):Prop:=Same H1 H2∧H2 D=some (.lst ys)∧H1 D=none∧ys=((xs.take i).filter fun a=>decide (cs.getD (a-a%s).toNat 0/2=k)).map V.int∧ys.length≤i
def Xmp (K:PySem.W.Frag):Sp:=fun vs H Q _=>∃(c:Addr) (cs:List Int) (ps:List Pc) (s k:Int),vs=[.ref c,.int s,.int k]∧SqL K H c (cs.map V.int)∧cs.length≤4000∧Xcy cs 0=(ps,none)∧ps.length≤4000∧Xas 0 ps cs.length∧1≤s ∧
 ∀(p:Addr) (H':Hp),H p=none→Same H H'→H' p=some (.lst ((Xew cs ps k s).map V.int))→Q (.ref p) H'
include T in
theorem XUb (S:Src K mg "free_slots" Xpz)(D_Z63:Defx P w K mg base "looked" 4 ["cells"] (Xdx K Y6))(D_Z39:Defx P w K mg base "begin_of" 1 ["at","shelf"] (Xyy))(D_Z44:Defx P w K mg base "long_of" 1 ["number"] (Xjk)):Defx P w K mg base "free_slots" 5 ["cells","shelf","size"] (Xmp K):=by
 refine S.okx Xzt XMb (fun vs H Q E h=>by revert h;walk_at "len") (fun f cdv A outer s H vs Q E hr h=>?_)
 refine⟨_,PSs.nox (Xab (Xff (i:=3) ["at","long","live"] ["size"] [2] Xzt.nd rfl (Or.inl rfl) rfl (Xcz (Xai D_Z63 hr (by rfl) (Xaa (pv 0) Xac))) (fun cl C s₀ H₀ ex=>(Xla (K:=K) (n:=3) rfl rfl (Xax (Xau (i:=0) (show ((["at","long","live"]:List Str)++(["size"]:List Str)).Nodup by decide +kernel) rfl (Or.inl rfl)) (Xax (Xau (i:=1) (show ((["at","long","live"]:List Str)++(["size"]:List Str)).Nodup by decide +kernel) rfl (Or.inl rfl)) (Xax (Xau (i:=2) (show ((["at","long","live"]:List Str)++(["size"]:List Str)).Nodup by decide +kernel) rfl (Or.inl rfl)) Xdh))))) (fun cl C s₀ H₀ ex=>(Xdy (PW.pt (Xdi (Xdb (Xdg (K:=K) rfl (pv 2) (fun _=>rfl))) (Xda (Xag Xcd (pv 1) (pv 3) (Xaj _))))))) (fun cl C s₀ H₀ ex=>(pv 0)) (Xer rfl rfl rfl) (Xha (n:="size") (by decide +kernel) rfl) (fun y h=>Xbw (by decide +kernel) h)) (Xae (Xal (Xfn ["at"] ["size","cells","shelf"] [2,0,1] rfl (Xcz (pv 3)) (fun cl C s₀ H₀ ex=>(Xau (i:=0) (show ((["at"]:List Str)++(["size","cells","shelf"]:List Str)).Nodup by decide +kernel) rfl (Or.inl rfl))) (fun cl C s₀ H₀ ex=>(Xdy (Xag Xcd (Xai D_Z44 hr (by rfl) (Xaa (Xbn (Xjx (K:=K) rfl) (pv 2) (Xai D_Z39 hr (by rfl) (Xaa (pv 0) (Xaa (pv 3) Xac))) (fun _ _=>rfl)) Xac)) (pv 1) (Xaj _)))) (fun cl C s₀ H₀ ex=>(pv 0)) (Xmi rfl rfl rfl rfl rfl rfl rfl rfl rfl) (Xpe (n:="size") (m:="cells") (o:="shelf") (by decide +kernel) rfl rfl rfl) (fun y h=>Xbw (by decide +kernel) h))))),?_⟩
 obtain⟨c,cs,ps,s,k,rfl,hS,hz,hw,hpz,hc,hs,q⟩:=h
 walk_at "go"
 refine⟨c,cs,rfl,hS,hz,(fun c hc=>by rw[hw] at hc;cases hc),fun _ lp us H1 nlp s1 hlp pa=>?_⟩
 have pa:Xbz H1 us ps:=by rw[hw] at pa;exact pa
 have hul:=pa.1
 walk_at "go"
 refine⟨lp,rfl,⟨_,SqL.of hlp⟩,Xcl (K:=K) (a:=lp) (xs:=us) (FtW H1 ps k) (fun D hD=>⟨Same.new hD,upd_same,hD,rfl,Nat.le_refl _⟩) (fun D i ys H2 _ h=>SqL.of (h.1 lp _ hlp)) ?_ ?_⟩
 · rintro D i y ys H2 hD hi ⟨s2,hD2,_,ey,hyl⟩ τ hτ
   have hil:i<us.length:=(List.getElem?_eq_some_iff.mp hi).1
   have hip:i<ps.length:=by omega
   obtain⟨t,et,hT⟩:=pa.2 i ps[i] (by simp [hip])
   have ey2:y = .ref t:=Option.some.inj (hi.symm.trans et)
   subst ey2
   have hT2:=s2 t _ hT
   have ef:=Xlp (k:=k) hip
   generalize ps[i]=z at hT2 ef
   match τ,hτ with
   | [τ0,τ1,τ2],_ =>
     walk_at "go"
     refine⟨⟨[_,_,_],rfl,rfl⟩,?_⟩
     walk_at "go"
     refine Xei (fun hv=>?_) (fun hv=>?_)
     · walk_at "go"
       rw[hv] at ef
       refine Xdo hil ⟨s2,hD2,hD,?_,by omega⟩
       rw[ey,ef]
       simp
     · walk_at "go"
       rw[hv] at ef
       refine Xbj (fun hl=>?_) (fun hl=>?_)
       · walk_at "go"
         rw[if_pos (by simp [hl])] at ef
         refine⟨hD2,small4000 (by omega),Xdo hil ⟨s2.put hD,upd_same,hD,?_,by rw[List.length_append,List.length_singleton];omega⟩⟩
         rw[ey,ef,List.map_append]
         rfl
       · walk_at "go"
         rw[if_neg (by simp [hl])] at ef
         exact Xdo hil ⟨s2,hD2,hD,by rw[ey,ef,List.append_nil],by omega⟩
 · rintro D ys H2 hD ⟨s2,hD2,_,ey,hyl⟩
   rw[List.take_of_length_le (by omega)] at ey
   subst ey
   rw[List.length_map] at hyl
   have hS2:=(s1.trans s2).seq hS
   have hfi:∀a∈fitF ps k,0≤a∧a<cs.length:=fun a h=>XDb hc h
   have hsl:Xew cs ps k s=(fitF ps k).filter fun a=>decide (cs.getD (a-a%s).toNat 0/2=k):=rfl
   generalize fitF ps k=xs at hD2 hyl hfi hsl
   walk_at "go"
   refine⟨D,rfl,⟨_,SqL.of hD2⟩,Xcl (K:=K) (a:=D) (xs:=xs.map V.int) (SlW H2 cs xs k s) (fun D' hD'=>⟨Same.new hD',upd_same,hD',rfl,Nat.le_refl _⟩) (fun D' i ys H3 _ h=>SqL.of (h.1 D _ hD2)) ?_ ?_⟩
   · rintro D' i y ys H3 hD' hi ⟨s3,hD3,_,ey,hyl2⟩ τ hτ
     obtain⟨a,ea,rfl⟩:∃a,xs[i]?=some a∧y = .int a:=by
       rw[List.getElem?_map] at hi
       obtain⟨a,h1,h2⟩:=Option.map_eq_some_iff.mp hi
       exact⟨a,h1,h2.symm⟩
     have hil:i<xs.length:=(List.getElem?_eq_some_iff.mp ea).1
     have hil2:i<(xs.map V.int).length:=by rw[List.length_map];exact hil
     obtain⟨a0,a1⟩:=hfi a (List.mem_of_getElem? ea)
     obtain⟨b0,b1⟩:=Xwm a0 hs
     have hS3:=s3.seq hS2
     have et:xs.take (i+1)=xs.take i++[a]:=by rw[List.take_add_one,ea];rfl
     match τ,hτ with
     | [τ0],_ =>
       walk_at "go"
       refine⟨⟨[_],rfl,rfl⟩,?_⟩
       walk_at "go"
       refine⟨a,s,rfl,hs,?_⟩
       walk_at "go"
       refine Xbj (fun hl=>?_) (fun hl=>?_)
       · walk_at "go"
         refine⟨hD3,small4000 (by omega),Xdo hil2 ⟨s3.put hD',upd_same,hD',?_,by rw[List.length_append,List.length_singleton];omega⟩⟩
         rw[et,List.filter_append,List.map_append,ey,show ([a].filter fun a=>decide (cs.getD (a-a%s).toNat 0/2=k))=[a] by rw[List.filter_cons,if_pos (decide_eq_true hl)];rfl]
         rfl
       · walk_at "go"
         refine Xdo hil2 ⟨s3,hD3,hD',?_,by omega⟩
         rw[et,List.filter_append,List.map_append,ey,show ([a].filter fun a=>decide (cs.getD (a-a%s).toNat 0/2=k))=[] by rw[List.filter_cons,if_neg (fun z=>hl (of_decide_eq_true z))];rfl]
         simp
   · rintro D' ys H3 hD' ⟨s3,hD3,_,ey,hyl2⟩
     rw[List.length_map,List.take_of_length_le (Nat.le_refl _),←hsl] at ey
     walk_at "go"
     exact q D' H3 ((s1.trans s2).free hD') ((s1.trans s2).trans s3) (by rw[hD3,ey])
def Xzc (K:PySem.W.Frag):Sp:=fun vs H Q _=>∃(c:Addr) (cs:List Int) (A s k:Int) (ds rs:List Pc),vs=[.ref c,.int A,.int s,.int k]∧SqL K H c (cs.map V.int)∧cs.length≤1200∧0≤A∧A+s≤cs.length∧1≤k∧k≤s∧Xds ds A∧Xfc rs (A+s)∧Xat cs (ds++rs) ∧
 ∀(p:Addr) (cs':List Int) (H':Hp),H p=none→Same H H'→H' p=some (.lst (cs'.map V.int))→cs'.length=cs.length→Xat cs' (ds++(shP s A ⟨k,List.replicate (s/k).toNat false⟩++rs))→Q (.ref p) H'
def CfW (c:Addr)(A s k:Int)(ds rs:List Pc)(n:Nat)(H:Hp)(i:Nat)(σ:L2.St)(H':Hp):Prop :=
 ∃(r:Addr) (cs':List Int) (x6:Option V),σ=[some (.ref c),some (.int A),some (.int s),some (.int k),some (.ref r),some (.int (A+s)),x6]∧Same H H'∧H r=none∧H' r=some (.lst (cs'.map V.int))∧cs'.length=n∧Xat cs' (ds++ctP A (A+s) k i++rs)
include T in
theorem d_Z53 (S:Src K mg "cut_for" Xrl)(D_Z73:Defx P w K mg base "laid" 2 ["cells","at","long","live"] (Xgn K)):Defx P w K mg base "cut_for" 3 ["cells","begin","shelf","size"] (Xzc K):=by
 refine S.okx Xmb XPi (fun vs H Q E h=>by revert h;walk_at "len") (fun f cdv A outer s H vs Q E hr h=>?_)
 refine⟨_,PSs.nox (Xab (Xao (i:=4) Xmb.nd rfl (Or.inl rfl) (Xcx Xck (by rfl) T.n_list PyProof.Rows.boot_list (Xaa (pv 0) Xac))) (Xab (Xao (i:=5) Xmb.nd rfl (Or.inl rfl) (Xak Xbg (pv 1) (pv 2))) (Xab (Xlh PassesOwn.never rfl (Xuc (by rfl) T.n_range (Xaa (pv 1) (Xaa (pv 5) (Xaa (pv 3) Xac)))) (Xau (i:=6) Xmb.nd rfl (Or.inl rfl)) (Xae (Xao (i:=4) Xmb.nd rfl (Or.inl rfl) (Xai D_Z73 hr (by rfl) (Xaa (pv 4) (Xaa (pv 6) (Xaa (Xar (Xmh rfl) (by rfl) T.n_min PyProof.Rows.boot_min (Xaa (pv 3) (Xaa (Xak Xbo (pv 5) (pv 6)) Xac))) (Xaa Xdc Xac)))))))) (Xae (Xal (pv 4)))))),?_⟩
 obtain⟨c,cs,A,s,k,ds,rs,rfl,hS,hz,h0,hl,h1,h2,hd,hr,mk,q⟩:=h
 obtain⟨d1,d2,d3⟩:=Xgi h1 h2
 have ht:=turns (A:=A) h1 h2
 walk_at "go"
 intro r nr
 walk_at "go"
 refine XTq ?_
 walk_at "go"
 refine⟨A,A+s,k,rfl,⟨by omega,by omega,by omega,by omega,by omega,by omega⟩,?_⟩
 rw[ht]
 refine Xwz (CfW c A s k ds rs cs.length H) ⟨r,cs,none,rfl,Same.new nr,nr,upd_same,rfl,by show Xat cs (ds++[]++rs);rw[List.append_nil];exact mk⟩ ?_ ?_
 · rintro i σ H2 hi ⟨r2,cs2,x6,rfl,s2,nr2,hr2,hl2,mk2⟩
   have hlt:∀j:Nat,j<i+1→A+k*(j:Int)<A+s:=fun j hj=>by
     by_cases e:k*((s/k).toNat:Int)=s
     · rw[if_pos e] at hi
       have:=Int.mul_le_mul_of_nonneg_left (show ((j:Int)+1)≤((s/k).toNat:Int) by omega) (show 0≤k by omega)
       rw[Int.mul_add,Int.mul_one] at this
       omega
     · rw[if_neg e] at hi
       have:=Int.mul_le_mul_of_nonneg_left (show (j:Int)≤((s/k).toNat:Int) by omega) (show 0≤k by omega)
       omega
   obtain⟨l0,l1,l2,mk3⟩:=XEa h0 h1 hd hr (by omega) hlt mk2
   have ei:A+(i:Int)*k=A+k*(i:Int):=by rw[Int.mul_comm]
   rw[ei]
   have el:(if A+s-(A+k*(i:Int))<k then A+s-(A+k*(i:Int)) else k)=min k (A+s-(A+k*(i:Int))):=by omega
   walk_at "go"
   rw[el]
   generalize min k (A+s-(A+k*(i:Int)))=l at l1 l2 mk3 ⊢
   generalize A+k*(i:Int)=b at l0 l2 mk3 ⊢
   walk_at "go"
   refine⟨r2,cs2,b,l,false,rfl,SqL.of hr2,by omega,l0,l1,by omega,fun p H3 np s3 hp=>?_⟩
   walk_at "go"
   exact⟨p,_,_,rfl,s2.trans s3,s2.free np,hp,by rw[Xbm];exact hl2,mk3⟩
 · rintro σ H2 ⟨r2,cs2,x6,rfl,s2,nr2,hr2,hl2,mk2⟩
   walk_at "go"
   refine q r2 cs2 H2 nr2 s2 hr2 hl2 ?_
   rw[XEd (q:=(s/k).toNat) h1 d1 d2 rfl,List.append_assoc] at mk2
   exact mk2
def Xzd (K:PySem.W.Frag)(CN:Addr):Sp:=fun vs H Q E=>∃(c:Addr) (cs:List Int) (s k:Int) (fs:List Sf),vs=[.ref c,.int s,.int k]∧SqL K H c (cs.map V.int)∧cs.length≤1200∧(cs.length:Int)=s*(fs.length:Int)∧1≤s∧3≤k∧(∀f∈fs,SfOk s f)∧Xat cs (alP s 0 fs) ∧
 ((NoGr s k fs∧∀(H':Hp),Same H H'→E (.ref CN) none H') ∨
 (∃(j i:Nat) (b:List Bool) (fs1:List Sf),Gs s k fs j i b fs1∧∀(p:Addr) (cs':List Int) (H':Hp),Same H H'→SqL K H' p (cs'.map V.int)→cs'.length=cs.length→fs1.length=fs.length→Xat cs' (alP s 0 fs1)→Q (.ref p) H'))
include T in
theorem d_Z29 (S:Src K mg "with_slot" Xqn)(D_Z19:Defx P w K mg base "free_slots" 5 ["cells","shelf","size"] (Xmp K))(D_Z20:Defx P w K mg base "whole_ones" 5 ["cells","shelf"] (Xos K))(D_Z53:Defx P w K mg base "cut_for" 3 ["cells","begin","shelf","size"] (Xzc K)):Defx P w K mg base "with_slot" 6 ["cells","shelf","size"] (Xzd K Y13):=by
 refine S.okx Xzj XNe (fun vs H Q E h=>by revert h;walk_at "len") (fun f cdv A outer s H vs Q E hr h=>?_)
 refine⟨_,(Xab (Xbd (Xdf (Xai D_Z19 hr (by rfl) (Xaa (pv 0) (Xaa (pv 1) (Xaa (pv 2) Xac)))) (fun _=>rfl)) (Xae (Xal (pv 0))) Xam) (Xab (Xao (i:=3) Xzj.nd rfl (Or.inl rfl) (Xai D_Z20 hr (by rfl) (Xaa (pv 0) (Xaa (pv 1) Xac)))) (Xab (Xbd (PW.pt (Xge (Xag Xke (pv 2) (pv 1) (Xaj _)) (Xek (Xdb (Xdf (pv 3) (fun _=>rfl)))))) (Xae (Xcb T.zcn hr.hd rfl (Xaa Xan Xac))) Xam) (Xae (Xal (Xai D_Z53 hr (by rfl) (Xaa (pv 0) (Xaa (Xbn Xbe (pv 3) Xaf (fun _ _=>rfl)) (Xaa (pv 1) (Xaa (pv 2) Xac)))))))))),?_⟩
 obtain⟨c,cs,s,k,fs,rfl,hS,hz,hl,hs,hk,ok,mk,hq⟩:=h
 have W:∀f∈fs,SfW s f:=fun f hf=>(ok f hf).1
 have ch:=Xfw hs W hl
 have hw:=Xaw ch mk
 have hle:=ch.le
 walk_at "go"
 refine⟨c,cs,_,s,k,rfl,hS,by omega,hw,by omega,ch,hs,fun p H1 np s1 hp=>?_⟩
 have hS1:=s1.seq hS
 have none1:(∀f∈fs,¬(f.n=k∧false∈f.b))→¬(k=s∧∃f∈fs,f.n=0)→Xew cs (alP s 0 fs) k s=[]:=fun g1 g2=>by
   have:=Xkb (cs:=cs) (fs:=fs) (j:=0) hs (show 1≤k by omega) W (by rw[show s*((0:Nat):Int)=0 by simp];exact mk) (fun f hf=>⟨g1 f hf,fun h=>g2 ⟨h.1,f,hf,h.2⟩⟩)
   rw[show s*((0:Nat):Int)=0 by simp] at this
   exact this
 rcases hq with ⟨⟨g1,g2⟩,qe⟩ | ⟨j,i,b,fs1,G,q⟩
 · have esl:=none1 g1 (by
     rintro⟨e,f,hf,e0⟩
     rcases g2 with g2 | g2
     · omega
     · exact g2 f hf e0)
   rw[esl,List.map_nil] at hp
   walk_at "go"
   refine iteT ?_
   walk_at "go"
   refine⟨c,cs,_,s,rfl,hS1,by omega,hw,by omega,fun p2 H2 np2 s2 hp2=>?_⟩
   walk_at "go"
   refine Xbj (fun hlt=>?_) (fun hlt=>?_)
   · walk_at "go"
     exact qe H2 (s1.trans s2)
   · have ef:=Xni (A:=0) hs ok (g2.resolve_left (by omega))
     rw[ef,List.map_nil] at hp2
     walk_at "go"
     refine iteT ?_
     walk_at "go"
     exact qe H2 (s1.trans s2)
 · obtain⟨c1,c2,c3,c4,c5⟩:=id G
   rcases c5 with e | ⟨c6,ks,i0,eb,⟨f0,c8,c9⟩,c10,e⟩
   · obtain⟨ys,esl⟩:=G.slot (cs:=cs) hs hk ok (by rw[e];exact mk)
     rw[e] at esl
     rw[esl,List.map_cons] at hp
     walk_at "go"
     refine iteF ?_
     walk_at "go"
     exact q c cs H1 s1 hS1 rfl (by rw[e]) (by rw[e];exact mk)
   · have ln:fs1.length=fs.length:=by rw[e];exact List.length_set
     by_cases hsk:k=s
     · have e1:(s/s).toNat=1:=by rw[Int.ediv_self (by omega)];rfl
       have ea:alP s 0 fs1=alP s 0 fs:=by
         obtain⟨ds,rs,e3,_,_⟩:=Xes hs W c8
         have e4:=e3 f0
         rw[Xhh c8] at e4
         rw[e,e3,e4,eb,hsk,e1]
         have hf0:f0=⟨0,[]⟩:=by
           rcases(ok f0 (List.mem_of_getElem? c8)).1 with ⟨z1,z2⟩ | ⟨z3,_⟩
           · obtain⟨n0,b0⟩:=f0
             have z1:n0=0:=z1
             have z2:b0=[]:=z2
             rw[z1,z2]
           · omega
         rw[hf0,Xdq hs]
         unfold shP fr
         show ds++((⟨s*(j:Int),s,false⟩::slP s (s*(j:Int)+s) []++if s*(j:Int)+s*((1:Nat):Int)=s*(j:Int)+s then [] else [⟨s*(j:Int)+s*((1:Nat):Int),_,false⟩])++rs)=_
         rw[if_pos (by simp)]
         rfl
       obtain⟨ys,esl⟩:=G.slot (cs:=cs) hs hk ok (by rw[ea];exact mk)
       rw[ea] at esl
       rw[esl,List.map_cons] at hp
       walk_at "go"
       refine iteF ?_
       walk_at "go"
       exact q c cs H1 s1 hS1 rfl ln (by rw[ea];exact mk)
     · have esl:=none1 c6 (fun h=>hsk h.1)
       rw[esl,List.map_nil] at hp
       walk_at "go"
       refine iteT ?_
       walk_at "go"
       refine⟨c,cs,_,s,rfl,hS1,by omega,hw,by omega,fun p2 H2 np2 s2 hp2=>?_⟩
       obtain⟨zs,ef⟩:=Xwe hs ok c8 c9 c10
       rw[ef,List.map_cons] at hp2
       have hS2:=s2.seq hS1
       walk_at "go"
       refine iteF ?_
       walk_at "go"
       refine Xpq (v:=V.int (s*(j:Int))) (SqL.of hp2) (show atI (V.int _::_) ((0:Nat):Int)=some (V.int _) from Xid rfl) ?_
       walk_at "go"
       obtain⟨ds,rs,e3,k1,k2⟩:=Xes hs W c8
       have l1:=k1.le
       have l2:=k2.le
       have mk2:=mk
       rw[←Xhh c8,e3 f0] at mk2
       refine⟨c,cs,s*(j:Int),s,k,ds,rs,rfl,hS2,hz,by omega,by omega,by omega,by omega,k1.endBy (Int.le_refl 0),k2.fromOn,mk2.sub (fun p hp=>?_),fun p3 cs' H3 np3 s3 hp3 hl3 mk3=>?_⟩
       · rcases List.mem_append.mp hp with g | g
         · exact List.mem_append_left _ g
         · exact List.mem_append_right _ (List.mem_append_right _ g)
       walk_at "go"
       exact q p3 cs' H3 ((s1.trans s2).trans s3) (SqL.of hp3) hl3 ln (by rw[e,e3,eb];exact mk3)
def HvW (H1:Hp)(B s:Int)(ps:List Pc)(D:Addr)(i:Nat)(ys:List V)(H2:Hp):Prop:=Same H1 H2∧H2 D=some (.lst ys)∧H1 D=none∧ys.length≤i∧∃bs:List Bool,ys=bs.map V.bl∧bs.any id=(ps.take i).any fun z=>decide (z.a-z.a%s=B)&&z.v
def XMv (K:PySem.W.Frag):Sp:=fun vs H Q _=>∃(c:Addr) (cs:List Int) (ps:List Pc) (b s:Int),vs=[.ref c,.int b,.int s]∧SqL K H c (cs.map V.int)∧cs.length≤4000∧Xcy cs 0=(ps,none)∧ps.length≤4000∧1≤s∧∀(H':Hp),Same H H'→Q (.bl (ps.any fun z=>decide (z.a-z.a%s=b)&&z.v)) H'
include T in
theorem XTu (S:Src K mg "has_live" Xtr)(D_Z63:Defx P w K mg base "looked" 4 ["cells"] (Xdx K Y6))(D_Z39:Defx P w K mg base "begin_of" 1 ["at","shelf"] (Xyy)):Defx P w K mg base "has_live" 5 ["cells","begin","shelf"] (XMv K):=by
 refine S.okx XMd XKk (fun vs H Q E h=>by revert h;walk_at "len") (fun f cdv A outer s H vs Q E hr h=>?_)
 refine⟨_,PSs.nox (Xae (Xal (Xar (Xrj rfl) (by rfl) T.n_any PyProof.Rows.boot_any (Xaa (Xfn ["at","long","live"] ["begin","shelf"] [1,2] rfl (Xcz (Xai D_Z63 hr (by rfl) (Xaa (pv 0) Xac))) (fun cl C s₀ H₀ ex=>(Xla (K:=K) (n:=3) rfl rfl (Xax (Xau (i:=0) (show ((["at","long","live"]:List Str)++(["begin","shelf"]:List Str)).Nodup by decide +kernel) rfl (Or.inl rfl)) (Xax (Xau (i:=1) (show ((["at","long","live"]:List Str)++(["begin","shelf"]:List Str)).Nodup by decide +kernel) rfl (Or.inl rfl)) (Xax (Xau (i:=2) (show ((["at","long","live"]:List Str)++(["begin","shelf"]:List Str)).Nodup by decide +kernel) rfl (Or.inl rfl)) Xdh))))) (fun cl C s₀ H₀ ex=>(Xdy (Xag Xcd (Xai D_Z39 hr (by rfl) (Xaa (pv 0) (Xaa (pv 4) Xac))) (pv 3) (Xaj _)))) (fun cl C s₀ H₀ ex=>(pv 2)) (Xjf rfl rfl rfl rfl rfl rfl) (Xou (n:="begin") (m:="shelf") (by decide +kernel) rfl rfl) (fun y h=>Xbw (by decide +kernel) h)) Xac)))),?_⟩
 obtain⟨c,cs,ps,b,s,rfl,hS,hz,hw,hpz,hs,q⟩:=h
 walk_at "go"
 refine⟨c,cs,rfl,hS,hz,(fun c hc=>by rw[hw] at hc;cases hc),fun _ lp us H1 nlp s1 hlp pa=>?_⟩
 have pa:Xbz H1 us ps:=by rw[hw] at pa;exact pa
 have hul:=pa.1
 walk_at "go"
 refine⟨lp,rfl,⟨_,SqL.of hlp⟩,Xcl (K:=K) (a:=lp) (xs:=us) (HvW H1 b s ps) (fun D hD=>⟨Same.new hD,upd_same,hD,Nat.le_refl _,[],rfl,rfl⟩) (fun D i ys H2 _ h=>SqL.of (h.1 lp _ hlp)) ?_ ?_⟩
 · rintro D i y ys H2 hD hi ⟨s2,hD2,_,hyl,bs,ey,eb⟩ τ hτ
   have hil:i<us.length:=(List.getElem?_eq_some_iff.mp hi).1
   have hip:i<ps.length:=by omega
   obtain⟨t,et,hT⟩:=pa.2 i ps[i] (by simp [hip])
   have ey2:y = .ref t:=Option.some.inj (hi.symm.trans et)
   subst ey2
   have hT2:=s2 t _ hT
   have etk:ps.take (i+1)=ps.take i++[ps[i]]:=by rw[List.take_add_one,List.getElem?_eq_getElem hip];rfl
   generalize ps[i]=z at hT2 etk
   match τ,hτ with
   | [τ0,τ1,τ2],_ =>
     walk_at "go"
     refine⟨⟨[_,_,_],rfl,rfl⟩,?_⟩
     walk_at "go"
     refine⟨z.a,s,rfl,hs,?_⟩
     walk_at "go"
     refine Xbj (fun hl=>?_) (fun hl=>?_)
     · walk_at "go"
       refine⟨hD2,small4000 (by omega),Xdo hil ⟨s2.put hD,upd_same,hD,by rw[List.length_append,List.length_singleton];omega,bs++[z.v],by rw[ey,List.map_append];rfl,?_⟩⟩
       rw[etk,List.any_append,List.any_append,eb,List.any_cons,List.any_nil,List.any_cons,List.any_nil,decide_eq_true hl]
       simp
     · walk_at "go"
       refine Xdo hil ⟨s2,hD2,hD,by omega,bs,ey,?_⟩
       rw[etk,List.any_append,eb,List.any_cons,List.any_nil,decide_eq_false hl]
       simp
 · rintro D ys H2 hD ⟨s2,hD2,_,hyl,bs,ey,eb⟩
   subst ey
   rw[List.take_of_length_le (by omega)] at eb
   walk_at "go"
   refine⟨D,bs,rfl,hD2,?_⟩
   rw[eb]
   walk_at "go"
   exact q _ (s1.trans s2)
theorem Xbh.free {x a:Addr}{H H':Hp}(k:Xbh x H H')(hx:H' x≠none)(n:H' a=none):H a=none:=by
 cases e:H a with
 | none=>rfl
 | some o =>
   by_cases w:a=x
   · rw[w] at n
     exact absurd n hx
   · rw[k a o w e] at n
     cases n
def XQa (C:Addr):Sp:=fun vs H Q E=>∃(x dx:Addr) (s:Int) (m:Nat),vs=[.ref x,.int (s*(m:Int)),.int s]∧H x=some (.ins C dx [])∧s*(m:Int)≤1200∧1≤s∧1≤m ∧
 (∀(a:Addr) (H':Hp),H a=none→Xbh x H H'→H' x=some (.ins C dx [("room_cells",.ref a),("shelf",.int s)])→H' a=some (.lst ((rep1 s m).map V.int))→Q .non H')
theorem XAh {s:Int}(h:1≤s)(m:Nat):((rep1 s m).length:Int)=s*((List.replicate m (⟨0,[]⟩:Sf)).length:Int)∧(∀f∈List.replicate m (⟨0,[]⟩:Sf),SfOk s f)∧Xat (rep1 s m) (alP s 0 (List.replicate m ⟨0,[]⟩)):=by
 refine⟨by rw[List.length_replicate];exact Xgs h m,fun f hf=>?_,?_⟩
 · rw[(List.mem_replicate.mp hf).2]
   exact⟨.inl ⟨rfl,rfl⟩,fun h0=>absurd rfl h0⟩
 · have:=Xtd h m 0
   rw[show s*((0:Nat):Int)=0 by simp] at this
   rw[this]
   exact(Xfo h (Xcf (by omega)) (Xic h) m).1
include T in
theorem Xtz {f₀:Addr}{fd₀:FuncData}(F:Fun K "__init__" "Shelves.__init__" Xcv f₀ fd₀)(M:Mk K Y5 f₀)(D_Z34:Defx P w K mg base "all_whole" 3 ["size","shelf"] (Xra Y14))(D_Z43:Basex P w K mg base "Keeper" "__init__" 3 ["self","size"] (XDz (cF Y7 Y5 Y17)))(D_lay:Xba P w K mg base (cF Y7 Y5 Y17) "lay" 5 ["self","cells"] [] (Xlt K (cF Y7 Y5 Y17))):Makex P w K mg base "Shelves" Y5 6 ["self","size","shelf"] [] (XQa Y5):=by
 refine⟨⟨f₀,fd₀,[],Xbq F Xel (fun vs H Q E h=>by revert h;walk_at "len") (fun cdv A outer s H vs Q E hr h=>?_),M,F.binds Xhv,.nil⟩,T.zdE⟩
 refine⟨_,PSs.nox (Xab (Xao (i:=3) Xel.nd rfl (Or.inl rfl) (Xai D_Z34 hr (by rfl) (Xaa (pv 1) (Xaa (pv 2) Xac)))) (Xab (Xbx (Xny D_Z43 Xav hr (by rfl) (Xaa (pv 0) (Xaa (pv 1) Xac)))) (Xab (Xnr (pv 0) (pv 2) rfl) (Xae (Xbx (Xay D_lay Xav hr (pv 0) (Xaa (pv 3) Xac))))))),?_⟩
 obtain⟨x,dx,s,m,rfl,hx,hz,h1,m1,q⟩:=h
 have cl:=T.zax
 have na:=T.zaa
 have nb:=T.zab
 have z1:s≤s*(m:Int):=by
   have:=Int.mul_le_mul_of_nonneg_left (show (1:Int)≤(m:Int) by omega) (show 0≤s by omega)
   omega
 have em:(s*(m:Int))%s=0:=Int.mul_emod_right _ _
 generalize ez:s*(m:Int)=z at hz z1 em
 walk_at "go"
 refine⟨z,s,rfl,by omega,by omega,fun h=>absurd h (by omega),fun m' _ _ e p H1 np s1 hp=>?_⟩
 have emm:m'=m:=by
   have:=Int.eq_of_mul_eq_mul_left (show s≠0 by omega) (e.symm.trans ez.symm)
   omega
 subst emm
 have hx1:=s1 x _ hx
 have hpx:p≠x:=fun w=>by rw[w,hx] at np;cases np
 walk_at "go"
 refine⟨W3.shel,x,dx,z,rfl,hx1,by omega,by omega,fun a H2 na2 k2 hx2 ha2=>?_⟩
 have hx2:H2 x=some (.ins Y5 dx [("room_cells",.ref a)]):=hx2
 have hp2:=k2 p _ hpx hp
 have hax:a≠x:=fun w=>by rw[w,hx1] at na2;cases na2
 have e1:=Xgs h1 m'
 have hl1:(rep1 s m').length=(Xbv z).length:=by
   have e2:=Xcf (n:=z) (by omega)
   omega
 walk_at "go"
 have hxF:upd H2 x (.ins Y5 dx (putF "shelf" (.int s) [("room_cells",.ref a)])) x=some (.ins ((cF Y7 Y5 Y17) W3.shel) dx (fsF W3.shel a s)):=upd_same
 refine⟨W3.shel,x,dx,_,rfl,hxF,rfl,?_⟩
 walk_at "go"
 refine⟨s,x,p,dx,a,Xbv z,rep1 s m',_,rfl,hxF,look_ne hax ha2,hl1,SqL.of (look_ne hpx hp2),by omega,Xlo h1 m',fun a' H4 na4 k4 hx4 ha4=>?_⟩
 walk_at "go"
 exact q a' H4 (Xbh.free ((Xbh.of s1).trans k2).put (by rw[hxF];exact fun w=>nomatch w) na4) (((Xbh.of s1).trans k2).put.trans k4) hx4 ha4
include T in
theorem d_Z69 {f₀ T₀:Addr}{fd₀:FuncData}{tk₀:Tok}{tc₀:Value}{td₀:Option Addr}{tn₀:Nat}{ts₀:Array (Option Value)}(F:FunD K "ask" "Shelves.ask" Xjs (.ref T₀) f₀ fd₀)(LT:K.lookup T₀=some ⟨tc₀,td₀,.seq [.int 1 tk₀].toArray tn₀,ts₀⟩)(M:Meth K Y5 "ask" f₀)(D_Z3:Defx P w K mg base "check_plain_ask" 2 ["count","bound"] (Xfk Y16 Y3))(D_Z72:Xba P w K mg base (cF Y7 Y5 Y17) "cells" 1 ["self"] [] (Xcw (cF Y7 Y5 Y17)))(D_Z29:Defx P w K mg base "with_slot" 6 ["cells","shelf","size"] (Xzd K Y13))(D_Z19:Defx P w K mg base "free_slots" 5 ["cells","shelf","size"] (Xmp K))(D_Z73:Defx P w K mg base "laid" 2 ["cells","at","long","live"] (Xgn K))(D_lay:Xba P w K mg base (cF Y7 Y5 Y17) "lay" 5 ["self","cells"] [] (Xlt K (cF Y7 Y5 Y17))):MethD P w K mg base Y5 "ask" 7 ["self","count","bound"] [.int 1] (Xfm (cF Y7 Y5 Y17) Y16 Y3 Y13 W3.shel):=by
 refine MethD.made (fd:=fd₀) ?_ M (F.bindsA LT (XNo T₀ _)) (F.bindsD LT (XOn T₀ _)) (.cons ⟨tk₀,rfl⟩ .nil) T.zax
 refine Xga F Xor (fun vs H Q E h=>by revert h;walk_at "len") (fun cdv A outer s H vs Q E hr h=>?_)
 refine⟨_,(Xab (Xbx (Xcp D_Z3 hr (by rfl) (Xaa (pv 1) (Xaa (pv 2) Xac)))) (Xab (Xao (i:=3) Xor.nd rfl (Or.inl rfl) (Xak Xbg (pv 1) (Xbt (v:=.int 2) (by rfl) T.zce ⟨_,rfl⟩))) (Xab (Xao (i:=4) Xor.nd rfl (Or.inl rfl) (Xcp D_Z29 hr (by rfl) (Xaa (Xbi D_Z72 Xav hr (pv 0)) (Xaa (Xdp (pv 0) rfl) (Xaa (pv 3) Xac))))) (Xab (Xao (i:=5) Xor.nd rfl (Or.inl rfl) (Xbn Xbe (Xai D_Z19 hr (by rfl) (Xaa (pv 4) (Xaa (Xdp (pv 0) rfl) (Xaa (pv 3) Xac)))) Xaf (fun _ _=>rfl))) (Xab (Xbx (Xay D_lay Xav hr (pv 0) (Xaa (Xai D_Z73 hr (by rfl) (Xaa (pv 4) (Xaa (pv 5) (Xaa (pv 3) (Xaa Xdc Xac))))) Xac))) (Xae (Xal (Xak Xbg (pv 5) Xaf)))))))),?_⟩
 obtain⟨x,dx,a,q3,cs,c,b0,rfl,hi,S,hc2,qa,qb,hq⟩:=h
 cases q3 with
 | half _ _=>cases hi
 | row _ _=>cases hi
 | shel s fs =>
 have hx:H x=some (.ins ((cF Y7 Y5 Y17) W3.shel) dx (fsF W3.shel a s)):=S.hx
 have hx0:H x=some (.ins Y5 dx [("room_cells",.ref a),("shelf",.int s)]):=S.hx
 have ha:=S.ha
 have hl:(cs.length:Int)=s*(fs.length:Int):=S.hl
 have hz:=S.hz
 obtain⟨hs3,hf1,ok⟩:=id S.ok
 have hs:1≤s:=by omega
 have mk:Xat cs (alP s 0 fs):=S.mm
 have cl:=T.zax
 have na:=T.zaa
 have nb:=T.zab
 walk_at "go"
 refine⟨c,b0,rfl,fun h=>qa h H (Same.refl _),fun h1 h2 h3=>qb h1 h2 h3 H (Same.refl _),fun hc hb1=>?_⟩
 walk_at "go"
 refine⟨s,x,dx,a,cs,rfl,hx,ha,fun p H1 np s1 hp=>?_⟩
 have hx1:=s1 x _ hx
 have hx01:=s1 x _ hx0
 have ha1:=s1 a _ ha
 walk_at "go"
 refine⟨p,cs,s,c+2,fs,rfl,SqL.of hp,hz,hl,hs,by omega,ok,mk,?_⟩
 rcases hq hc hb1 with ⟨g,qe⟩ | ⟨p0,q0,G0,q⟩
 · exact .inl ⟨g,fun H2 s2=>qe H2 (s1.trans s2)⟩
 cases G0 with
 | shel G ln0 =>
 rename_i fs1 j i b
 refine .inr ⟨j,i,b,fs1,G,fun p2 cs2 H2 s2 hp2 hl2 ln mk2=>?_⟩
 have W1:=G.W (by omega) ok
 have hl3:(cs2.length:Int)=s*(fs1.length:Int):=by rw[hl2,ln];exact hl
 have ch2:=Xfw hs W1 hl3
 have hw2:=Xaw ch2 mk2
 have hle2:=ch2.le
 have hx2:=s2 x _ hx1
 have hx02:=s2 x _ hx01
 have ha2:=s2 a _ ha1
 obtain⟨ys,esl⟩:=G.slot hs (by omega) ok mk2
 walk_at "go"
 refine⟨p2,cs2,_,s,c+2,rfl,hp2,by omega,hw2,by omega,ch2,hs,fun p3 H3 np3 s3 hp3=>?_⟩
 rw[esl,List.map_cons] at hp3
 have hp23:=s3.seq hp2
 have hx3:=s3 x _ hx2
 have ha3:=s3 a _ ha2
 obtain⟨g0,_,g4,_,mk4⟩:=Xoq (v:=true) hs W1 G.1 G.2.1 hl3 mk2
 have ok4:=G.ok (by omega) ok
 walk_at "go"
 refine Xpq (SqL.of hp3) (show atI (V.int _::_) ((0:Nat):Int)=some (V.int _) from Xid rfl) ?_
 generalize eat:s*(j:Int)+(c+2)*(i:Int)=at0 at g0 g4 mk4 q
 walk_at "go"
 refine⟨p2,cs2,at0,c+2,true,rfl,hp23,by omega,g0,by omega,g4,fun p4 H4 np4 s4 hp4=>?_⟩
 have hl4:(Xci cs2 at0 (c+2) true).length=cs.length:=by rw[Xbm];exact hl2
 have hl5:((Xci cs2 at0 (c+2) true).length:Int)=s*((fs1.set j ⟨c+2,b.set i true⟩).length:Int):=by rw[Xbm,List.length_set];exact hl3
 have hw4:=Xaw (Xfw hs (fun f hf=>(ok4 f hf).1) hl5) mk4
 walk_at "go"
 refine⟨s,x,p4,dx,a,cs,_,_,rfl,s4 x _ hx3,s4 a _ ha3,hl4,SqL.of hp4,by omega,hw4,fun a' H5 na5 k5 hx5 ha5=>?_⟩
 walk_at "go"
 have s14:=((s1.trans s2).trans s3).trans s4
 exact q a' _ H5 (s14.free na5) ((Xbh.of s14).trans k5) hl4 ⟨hx5,ha5,hl5,by omega,⟨hs3,by rw[List.length_set,ln];exact hf1,ok4⟩,mk4⟩
theorem Xmf (l:List Int):l=[]∨∃D y,l=D++[y]:=by
 rcases List.eq_nil_or_concat l with h | ⟨D,y,h⟩
 · exact .inl h
 · exact .inr ⟨D,y,by simpa using h⟩
def KnW (kvs:List (Key×V))(cs:List Int)(s:Int):Prop:=∀p∈kvs,∃(i:Nat) (m:Int),p=(Sum.inl (i:Int),V.int m)∧cs[i]?=some m∧(i:Int)<s
include T in
theorem d_Z71 {f₀ T₀:Addr}{fd₀:FuncData}{tk₀:Tok}{tc₀:Value}{td₀:Option Addr}{tn₀:Nat}{ts₀:Array (Option Value)}(F:FunD K "ask" "Row.ask" Xjq (.ref T₀) f₀ fd₀)(LT:K.lookup T₀=some ⟨tc₀,td₀,.seq [.int 1 tk₀].toArray tn₀,ts₀⟩)(M:Meth K Y17 "ask" f₀)(D_Z3:Defx P w K mg base "check_plain_ask" 2 ["count","bound"] (Xfk Y16 Y3))(D_Z66:Xba P w K mg base (cF Y7 Y5 Y17) "pieces" 5 ["self"] [] (Xfl (cF Y7 Y5 Y17)))(D_Z72:Xba P w K mg base (cF Y7 Y5 Y17) "cells" 1 ["self"] [] (Xcw (cF Y7 Y5 Y17)))(D_Z54:Defx P w K mg base "cut_out" 7 ["cells","at","place","long"] (XQg K Y4 Y13))(D_lay:Xba P w K mg base (cF Y7 Y5 Y17) "lay" 5 ["self","cells"] [] (Xlt K (cF Y7 Y5 Y17))):MethD P w K mg base Y17 "ask" 8 ["self","count","bound"] [.int 1] (Xfm (cF Y7 Y5 Y17) Y16 Y3 Y13 W3.row):=by
 refine MethD.made (fd:=fd₀) ?_ M (F.bindsA LT (XQb T₀ _)) (F.bindsD LT (XPn T₀ _)) (.cons ⟨tk₀,rfl⟩ .nil) T.cl_Row
 refine Xga F Xop (fun vs H Q E h=>by revert h;walk_at "len") (fun cdv A outer s H vs Q E hr h=>?_)
 refine⟨_,(Xab (Xbx (Xcp D_Z3 hr (by rfl) (Xaa (pv 1) (Xaa (pv 2) Xac)))) (Xab (Xea (Xbn Xbe (Xbi D_Z66 Xav hr (pv 0)) (XTi XRq Xaf) (fun _ _=>rfl)) (Xgp rfl (Xax (Xau (i:=3) Xop.nd rfl (Or.inl rfl)) (Xax (Xau (i:=4) Xop.nd rfl (Or.inl rfl)) (Xax (Xau (i:=5) Xop.nd rfl (Or.inl rfl)) Xdh))))) (Xab (Xbd (Xdf (pv 5) (fun _=>rfl)) (Xae (Xcb T.zcn hr.hd rfl (Xaa Xan Xac))) Xam) (Xab (Xbx (Xay D_lay Xav hr (pv 0) (Xaa (Xcp D_Z54 hr (by rfl) (Xaa (Xbi D_Z72 Xav hr (pv 0)) (Xaa (pv 3) (Xaa (pv 3) (Xaa (Xak Xbg (pv 1) (Xbt (v:=.int 2) (by rfl) T.zce ⟨_,rfl⟩)) Xac))))) Xac))) (Xae (Xal (Xak Xbg (pv 3) Xaf))))))),?_⟩
 obtain⟨x,dx,a,q3,cs,c,b0,rfl,hi,S,hc2,qa,qb,hq⟩:=h
 cases q3 with
 | half _ _=>cases hi
 | shel _ _=>cases hi
 | row n ls =>
 have hl:(cs.length:Int)=n:=S.hl
 subst hl
 obtain⟨hn3,h3,hs⟩:=id S.ok
 have cl:=T.cl_Row
 have na:=T.zad
 have hx:H x=some (.ins ((cF Y7 Y5 Y17) W3.row) dx (fsF W3.row a cs.length)):=S.hx
 have ha:=S.ha
 have hz:=S.hz
 have hc:Xas 0 (rwP ls cs.length) cs.length:=S.ch
 have mk:Xat cs (rwP ls cs.length):=S.mm
 have h0:=Xfg h3
 walk_at "go"
 refine⟨c,b0,rfl,fun h=>qa h H (Same.refl _),fun h1 h2 h3=>qb h1 h2 h3 H (Same.refl _),fun h1 hb1=>?_⟩
 have qe:(cs.length:Int)<sumI ls+(c+2)→∀H',Same H H'→E (.ref Y13) none H':=fun hlt=>by
   rcases hq h1 hb1 with ⟨_,qe⟩ | ⟨p0,q0,G0,_⟩
   · exact qe
   · cases G0 with
     | row g=>omega
 have q:sumI ls+(c+2)≤cs.length→∀(a':Addr) (cs':List Int) (H':Hp),H a'=none→Xbh x H H'→cs'.length=cs.length→KS (cF Y7 Y5 Y17) x dx a' (.row cs.length (ls++[c+2])) cs' H'→Q (.int (sumI ls+1)) H':=fun hle=>by
   rcases hq h1 hb1 with ⟨g,_⟩ | ⟨p0,q0,G0,q⟩
   · have g:(cs.length:Int)<sumI ls+(c+2):=g
     omega
   · cases G0 with
     | row g=>exact q
 walk_at "go"
 refine⟨_,x,dx,a,cs,_,rfl,S.bs,fun lp us H1 nlp s1 hlp pa=>?_⟩
 have pa:Xbz H1 us (rwP ls cs.length):=pa
 have hx1:=s1 x _ hx
 have ha1:=s1 a _ ha
 by_cases hf:sumI ls<cs.length
 · rw[Xeo hf] at pa
   obtain⟨ui,t,rfl,pi,hT⟩:=pa.unsnoc
   have hT:H1 t=some (.tup [.int (sumI ls),.int (cs.length-sumI ls),.bl false]):=hT
   walk_at "go"
   refine Xom (SqL.of hlp) ?_
   walk_at "go"
   refine⟨_,x,dx,a,cs,rfl,hx1,ha1,fun p H2 np s2 hp=>?_⟩
   have hx2:=s2 x _ hx1
   have ha2:=s2 a _ ha1
   have s12:=s1.trans s2
   have hfm:(⟨sumI ls,cs.length-sumI ls,false⟩:Pc)∈rwP ls cs.length:=by rw[Xeo hf];simp
   walk_at "go"
   refine⟨p,cs,rwP ls cs.length,sumI ls,sumI ls,c+2,rfl,SqL.of hp,by omega,hc,mk,by omega,fun z hzm hk hv e1 e2 p2 H3 np2 s3 hp2=>?_,fun z hzm hk hv hno H3 s3=>?_,fun hno=>absurd rfl (hno _ hfm rfl)⟩
   · have ez:=Xce hc hzm hfm hk
     subst ez
     have e2:sumI ls+(c+2)≤sumI ls+(cs.length-sumI ls):=e2
     have hle:sumI ls+(c+2)≤cs.length:=by omega
     have hp2:H3 p2=some (.lst ((cutO cs (sumI ls) (cs.length-sumI ls) (sumI ls) (c+2)).map V.int)):=hp2
     have s13:=s12.trans s3
     have m2:=Xtx h3 rfl h0 (show 1≤c+2 by omega) hle mk
     have g3:∀l∈ls++[c+2],3≤l:=fun l hl=>(List.mem_append.mp hl).elim (h3 l) fun hl=>by rw[List.mem_singleton.mp hl];omega
     have c2:=Xjd g3 (show sumI (ls++[c+2])≤cs.length by rw[Xdt];omega)
     have lc:=Xwu cs (sumI ls) (cs.length-sumI ls) (sumI ls) (c+2)
     have c2':Xas 0 (rwP (ls++[c+2]) cs.length) (cutO cs (sumI ls) (cs.length-sumI ls) (sumI ls) (c+2)).length:=by rw[lc];exact c2
     have out:True:=trivial
     generalize cutO cs (sumI ls) (cs.length-sumI ls) (sumI ls) (c+2)=cs' at hp2 m2 lc c2'
     walk_at "go"
     refine⟨_,x,p2,dx,a,cs,cs',_,rfl,s3 x _ hx2,s3 a _ ha2,lc,SqL.of hp2,by omega,Xaw c2' m2,fun a' H4 na4 k4 hx4 ha4=>?_⟩
     walk_at "go"
     exact q hle a' cs' H4 (s13.free na4) ((Xbh.of s13).trans k4) lc ⟨hx4,ha4,by rw[lc];rfl,by omega,⟨hn3,g3,by rw[Xdt];omega⟩,m2⟩
   · have ez:=Xce hc hzm hfm hk
     subst ez
     have hno:¬(sumI ls≤sumI ls∧sumI ls+(c+2)≤sumI ls+(cs.length-sumI ls)):=hno
     exact qe (by omega) H3 (s12.trans s3)
 · have ef:sumI ls=cs.length:=by omega
   rw[Xuh ef] at pa
   rcases Xmf ls with e0 | ⟨D,l,e0⟩
   · rw[e0] at ef
     have:(0:Int)=cs.length:=ef
     omega
   · rw[e0,Xhw] at pa
     obtain⟨ui,t,rfl,pi,hT⟩:=pa.unsnoc
     have hT:H1 t=some (.tup [.int (0+sumI D),.int l,.bl true]):=hT
     walk_at "go"
     refine Xom (SqL.of hlp) ?_
     walk_at "go"
     exact qe (by omega) H1 s1
def Xed (C:W3→Addr)(CP CG:Addr)(i:W3):Sp:=fun vs H Q E=>∃(x dx a:Addr) (q:St3) (cs:List Int) (pl:Int),vs=[.ref x,.int pl]∧i=q.let3∧KS C x dx a q cs H ∧
 ((i = .row∧∀H',Same H H'→E (.ref CG) none H')∨(i≠.row∧(∀z∈q.ps,z.v=true→z.a+1≠pl)∧∀H',Same H H'→E (.ref CP) none H') ∨
  ∃q',Giv3 q pl q'∧∀(a':Addr) (cs':List Int) (H':Hp),H a'=none→Xbh x H H'→cs'.length=cs.length→KS C x dx a' q' cs' H'→Q .non H')
theorem XIb {ps:List Pc}{z:Pc}:(ps.any fun y=>eqP y z)=decide (z∈ps):=by
 rw[Bool.eq_iff_iff,List.any_eq_true,decide_eq_true_iff]
 constructor
 · rintro⟨y,hy,e⟩
   rw[←Xgb.mp e]
   exact hy
 · exact fun h=>⟨z,h,Xgb.mpr rfl⟩
def XJq:Sp:=fun vs H Q _=>∃(p:Addr) (us:List V) (N:Nat),vs=[.ref p,.int 0,.int (2^N)]∧N≤8∧H p=some (.lst us)∧Xbz H us [⟨0,2^N,true⟩]∧∀(t:Addr) (H':Hp),Same H H'→H' t=some (.tup [.int 0,.int (2^N)])→Q (.ref t) H'
include T in
theorem d_Z4 (S:Src K mg "grown_together" s_Z4) :Defx P w K mg base "grown_together" 1 ["pieces","at","long"] (XJq):=by
 refine S.okx XFc XSs (fun vs H Q E h=>by revert h;walk_at "len") (fun f cdv A outer s H vs Q E hr h=>?_)
 refine⟨_,PSs.nox (Xab (Xfy PassesOwn.never (Xag (XNx hr.units) (Xeb (Xaa (Xak Xzf (pv 1) (pv 2)) (Xaa (pv 2) (Xaa Xdc Xac)))) (pv 0) rfl) (Xab (Xao (i:=1) XFc.nd rfl (Or.inl rfl) (Xar (Xmh rfl) (by rfl) T.n_min PyProof.Rows.boot_min (Xaa (pv 1) (Xaa (Xak Xzf (pv 1) (pv 2)) Xac)))) (Xae (Xao (i:=2) XFc.nd rfl (Or.inl rfl) (Xak Xex (pv 2) Xaf))))) (Xae (Xal (Xeb (Xaa (pv 1) (Xaa (pv 2) Xac)))))),?_⟩
 obtain⟨p,us,N,rfl,hN,hp,pa,q⟩:=h
 walk_at "go"
 refine⟨fun m σ H'=>m=0∧Same H H'∧σ=[some (.ref p),some (.int 0),some (.int (2^N))],⟨0,rfl,Same.refl _,rfl⟩,?_⟩
 rintro m σ H1 ⟨rfl,s1,rfl⟩
 have hp1:=s1 p _ hp
 have pa1:=pa.same s1
 walk_at "go"
 intro t nt
 have s2:=s1.put (o:=.tup [.int (Builtin.bitXor 0 (2^N)),.int (2^N),.bl false]) (s1.free nt)
 have hp2:=(Same.new (o:=.tup [.int (Builtin.bitXor 0 (2^N)),.int (2^N),.bl false]) nt) p _ hp1
 have pa2:=pa1.same (Same.new (o:=.tup [.int (Builtin.bitXor 0 (2^N)),.int (2^N),.bl false]) nt)
 have ht2:upd H1 t (.tup [.int (Builtin.bitXor 0 (2^N)),.int (2^N),.bl false]) t=some (.tup [.int (Builtin.bitXor 0 (2^N)),.int (2^N),.bl false]):=upd_same
 generalize upd H1 t (.tup [.int (Builtin.bitXor 0 (2^N)),.int (2^N),.bl false])=H2 at s2 hp2 pa2 ht2 ⊢
 walk_at "go"
 refine⟨t,p,us,_,⟨Builtin.bitXor 0 (2^N),2^N,false⟩,rfl,rfl,ht2,hp2,pa2,?_⟩
 rw[XIb,decide_eq_false (fun h=>by cases (Pc.mk.inj (List.mem_singleton.mp h)).2.2)]
 walk_at "go"
 intro t2 nt2
 walk_at "go"
 exact q t2 _ (s2.put (s2.free nt2)) upd_same
include T in
theorem d_Z59 {f₀:Addr}{fd₀:FuncData}(F:Fun K "give" "Halves.give" Xwx f₀ fd₀)(M:Meth K Y7 "give" f₀)(D_Z66:Xba P w K mg base (cF Y7 Y5 Y17) "pieces" 5 ["self"] [] (Xfl (cF Y7 Y5 Y17)))(D_Z74:Xba P w K mg base (cF Y7 Y5 Y17) "many" 7 ["self","place"] [] (Xhe (cF Y7 Y5 Y17) Y4))(D_Z4:Defx P w K mg base "grown_together" 1 ["pieces","at","long"] (XJq))(D_Z72:Xba P w K mg base (cF Y7 Y5 Y17) "cells" 1 ["self"] [] (Xcw (cF Y7 Y5 Y17)))(D_Z73:Defx P w K mg base "laid" 2 ["cells","at","long","live"] (Xgn K))(D_lay:Xba P w K mg base (cF Y7 Y5 Y17) "lay" 5 ["self","cells"] [] (Xlt K (cF Y7 Y5 Y17))):Methx P w K mg base Y7 "give" 8 ["self","place"] [] (Xed (cF Y7 Y5 Y17) Y4 Y10 W3.half):=by
 refine⟨⟨f₀,fd₀,[],Xbq F Xru (fun vs H Q E h=>by revert h;walk_at "len") (fun cdv A outer s H vs Q E hr h=>?_),M,F.binds XQh,.nil⟩,T.zcj⟩
 refine⟨_,(Xab (Xea (Xai D_Z4 hr (by rfl) (Xaa (Xbi D_Z66 Xav hr (pv 0)) (Xaa (Xak Xbo (pv 1) Xaf) (Xaa (Xak Xbg (Xay D_Z74 Xdk hr (pv 0) (Xaa (pv 1) Xac)) (Xbt (v:=.int 2) (by rfl) T.zce ⟨_,rfl⟩)) Xac)))) (Xgp rfl (Xax (Xau (i:=2) Xru.nd rfl (Or.inl rfl)) (Xax (Xau (i:=3) Xru.nd rfl (Or.inl rfl)) Xdh)))) (Xae (Xbx (Xay D_lay Xav hr (pv 0) (Xaa (Xai D_Z73 hr (by rfl) (Xaa (Xbi D_Z72 Xav hr (pv 0)) (Xaa (pv 2) (Xaa (pv 3) (Xaa Xdc Xac))))) Xac))))),?_⟩
 obtain⟨x,dx,a,q3,cs,pl,rfl,hi,S,hq⟩:=h
 cases q3 with
 | shel _ _=>cases hi
 | row _ _=>cases hi
 | half N ps =>
 have hx:H x=some (.ins ((cF Y7 Y5 Y17) W3.half) dx (fsF W3.half a (2^N))):=S.hx
 have hz:=S.hz
 walk_at "go"
 refine⟨_,x,dx,a,cs,_,rfl,S.bs,fun lp us H1 nlp s1 hlp pa=>?_⟩
 have S1:=S.same s1
 have hx1:=s1 x _ hx
 walk_at "go"
 rcases hq with ⟨w,_⟩ | ⟨_,hno,qe⟩ | ⟨q',G,q⟩
 · cases w
 · exact⟨_,x,dx,a,cs,_,pl,rfl,S1.bs,fun _ H2 s2=>qe H2 (s1.trans s2),fun z hz hv he=>absurd he (hno z hz hv)⟩
 cases G with
 | half =>
 have mk:Xat cs [⟨0,2^N,true⟩]:=S.mm
 have hl:(cs.length:Int)=2^N:=S.hl
 obtain⟨hN,hN2,hc,al⟩:=id S.ok
 have p1:=pw1 N
 refine⟨_,x,dx,a,cs,_,1,rfl,S1.bs,fun hno=>absurd rfl (hno _ (List.mem_singleton.mpr rfl) rfl),fun z hz hv he H2 s2=>?_⟩
 have ez:z=⟨0,2^N,true⟩:=List.mem_singleton.mp hz
 subst ez
 have hx2:=s2 x _ hx1
 walk_at "go"
 refine⟨lp,us,N,by rw[show (2:Int)^N-2+2=2^N by omega];rfl,hN,s2 lp _ hlp,pa.same s2,fun t H3 s3 ht=>?_⟩
 have hx3:=s3 x _ hx2
 have s13:=(s1.trans s2).trans s3
 walk_at "go"
 refine⟨_,x,dx,a,cs,rfl,hx3,s13 a _ S.ha,fun p H4 np s4 hp=>?_⟩
 have hx4:=s4 x _ hx3
 walk_at "go"
 refine⟨p,cs,0,2^N,false,rfl,SqL.of hp,by omega,by omega,p1,by omega,fun p5 H5 np5 s5 hp5=>?_⟩
 have hl5:(Xci cs 0 (2^N) false).length=cs.length:=Xbm _ _ _ _
 have m5:Xat (Xci cs 0 (2^N) false) [⟨0,2^N,false⟩]:=Xat.lay (ds:=[]) (rs:=[]) (by omega) p1 (by omega) (fun p hp=>by cases hp) (fun p hp=>by cases hp) (Xat.nil _)
 have c5:Xas 0 [⟨0,2^N,false⟩] (2^N):=⟨rfl,p1,(fun h=>by cases h),by show (0:Int)+2^N=2^N;omega⟩
 have s15:=(s13.trans s4).trans s5
 walk_at "go"
 refine⟨_,x,p5,dx,a,cs,_,_,rfl,s5 x _ hx4,s15 a _ S.ha,hl5,SqL.of hp5,by omega,Xaw (by rw[hl5,hl];exact c5) m5,fun a' H6 na6 k6 hx6 ha6=>?_⟩
 walk_at "go"
 exact q a' _ H6 (s15.free na6) ((Xbh.of s15).trans k6) hl5 ⟨hx6,ha6,by rw[hl5];exact hl,by omega,⟨hN,hN2,c5,fun z hz=>by rw[List.mem_singleton.mp hz];exact⟨N,0,rfl,by simp⟩⟩,m5⟩
include T in
theorem XTs {f₀:Addr}{fd₀:FuncData}(F:Fun K "give" "Shelves.give" s_Z9 f₀ fd₀)(M:Meth K Y5 "give" f₀)(D_Z73:Defx P w K mg base "laid" 2 ["cells","at","long","live"] (Xgn K))(D_Z72:Xba P w K mg base (cF Y7 Y5 Y17) "cells" 1 ["self"] [] (Xcw (cF Y7 Y5 Y17)))(D_Z74:Xba P w K mg base (cF Y7 Y5 Y17) "many" 7 ["self","place"] [] (Xhe (cF Y7 Y5 Y17) Y4))(D_Z39:Defx P w K mg base "begin_of" 1 ["at","shelf"] (Xyy))(D_Z41:Defx P w K mg base "has_live" 5 ["cells","begin","shelf"] (XMv K))(D_lay:Xba P w K mg base (cF Y7 Y5 Y17) "lay" 5 ["self","cells"] [] (Xlt K (cF Y7 Y5 Y17))):Methx P w K mg base Y5 "give" 8 ["self","place"] [] (Xed (cF Y7 Y5 Y17) Y4 Y10 W3.shel):=by
 refine⟨⟨f₀,fd₀,[],Xbq F Xvj (fun vs H Q E h=>by revert h;walk_at "len") (fun cdv A outer s H vs Q E hr h=>?_),M,F.binds bi_Z9,.nil⟩,T.zax⟩
 refine⟨_,(Xab (Xao (i:=2) Xvj.nd rfl (Or.inl rfl) (Xai D_Z73 hr (by rfl) (Xaa (Xbi D_Z72 Xav hr (pv 0)) (Xaa (Xak Xbo (pv 1) Xaf) (Xaa (Xak Xbg (Xay D_Z74 Xdk hr (pv 0) (Xaa (pv 1) Xac)) (Xbt (v:=.int 2) (by rfl) T.zce ⟨_,rfl⟩)) (Xaa Xdc Xac)))))) (Xab (Xao (i:=3) Xvj.nd rfl (Or.inl rfl) (Xai D_Z39 hr (by rfl) (Xaa (Xak Xbo (pv 1) Xaf) (Xaa (Xdp (pv 0) rfl) Xac)))) (Xab (Xbd (Xdb (Xhz (Xai D_Z41 hr (by rfl) (Xaa (pv 2) (Xaa (pv 3) (Xaa (Xdp (pv 0) rfl) Xac)))))) (Xae (Xao (i:=2) Xvj.nd rfl (Or.inl rfl) (Xai D_Z73 hr (by rfl) (Xaa (pv 2) (Xaa (pv 3) (Xaa (Xdp (pv 0) rfl) (Xaa Xdc Xac))))))) Xam) (Xae (Xbx (Xay D_lay Xav hr (pv 0) (Xaa (pv 2) Xac))))))),?_⟩
 obtain⟨x,dx,a,q3,cs,pl,rfl,hi0,S,hq⟩:=h
 cases q3 with
 | half _ _=>cases hi0
 | row _ _=>cases hi0
 | shel s fs =>
 have hx:H x=some (.ins ((cF Y7 Y5 Y17) W3.shel) dx (fsF W3.shel a s)):=S.hx
 have hx0:H x=some (.ins Y5 dx [("room_cells",.ref a),("shelf",.int s)]):=S.hx
 have ha:=S.ha
 have hl:(cs.length:Int)=s*(fs.length:Int):=S.hl
 have hz:=S.hz
 obtain⟨hs3,hf1,ok⟩:=id S.ok
 have hs:1≤s:=by omega
 have mk:Xat cs (alP s 0 fs):=S.mm
 have cl:=T.zax
 have na:=T.zaa
 have nb:=T.zab
 have ch:Xas 0 (alP s 0 fs) cs.length:=S.ch
 have hw:=Xaw ch mk
 have W:∀f∈fs,SfW s f:=fun f hf=>(ok f hf).1
 rcases hq with ⟨w,_⟩ | ⟨_,hno,qe⟩ | ⟨q',G,q⟩
 · cases w
 · walk_at "go"
   refine⟨s,x,dx,a,cs,rfl,hx,ha,fun p H1 np s1 hp=>?_⟩
   have hx1:=s1 x _ hx
   walk_at "go"
   exact⟨s,x,dx,a,cs,_,pl,rfl,(S.same s1).bs,fun _ H2 s2=>qe H2 (s1.trans s2),fun z hz hv he=>absurd he (hno z hz hv)⟩
 cases G with
 | shel hj hi =>
 rename_i n j i b
 have hib:i<b.length:=(List.getElem?_eq_some_iff.mp hi).1
 obtain⟨g0,g3,g4,gm,mk3⟩:=Xoq (v:=false) hs W hj hi hl mk
 obtain⟨w0,w4,_⟩:=Xmk hs W hj hl mk
 have hfl:=(XBr hs W hj hi).2.2.1
 generalize eat:s*(j:Int)+n*(i:Int)=at0 at g0 g4 gm mk3 hfl
 walk_at "go"
 refine⟨s,x,dx,a,cs,rfl,hx,ha,fun p H1 np s1 hp=>?_⟩
 have hx1:=s1 x _ hx
 have ha1:=s1 a _ ha
 walk_at "go"
 refine⟨s,x,dx,a,cs,_,at0+1,rfl,(S.same s1).bs,fun hno=>absurd rfl (hno _ gm rfl),fun z hz hv he H2 s2=>?_⟩
 have ez:z=⟨at0,n,true⟩:=Xce ch hz gm (by show z.a=at0;omega)
 subst ez
 have hx2:=s2 x _ hx1
 have hx02:=(s1.trans s2) x _ hx0
 have ha2:=s2 a _ ha1
 have hp2:=s2 p _ hp
 walk_at "go"
 refine⟨p,cs,at0+1-1,n-2+2,false,rfl,SqL.of hp2,by omega,by omega,by omega,by omega,fun p3 H3 np3 s3 hp3=>?_⟩
 rw[show at0+1-1=at0 by omega,show n-2+2=n by omega] at hp3
 have hx3:=s3 x _ hx2
 have hx03:=s3 x _ hx02
 have ha3:=s3 a _ ha2
 walk_at "go"
 refine⟨at0+1-1,s,rfl,hs,?_⟩
 rw[show at0+1-1=at0 by omega,hfl]
 walk_at "go"
 have hl3:(Xci cs at0 n false).length=cs.length:=Xbm _ _ _ _
 have hl4:((Xci cs at0 n false).length:Int)=s*((fs.set j ⟨n,b.set i false⟩).length:Int):=by rw[hl3,List.length_set];exact hl
 have W3:∀f∈fs.set j ⟨n,b.set i false⟩,SfW s f:=XHy W (Xkt (W _ (List.mem_of_getElem? hj)) hib)
 have ch3:=Xfw hs W3 hl4
 have hw3:=Xaw ch3 mk3
 have hle3:=ch3.le
 have hj3:(fs.set j ⟨n,b.set i false⟩)[j]?=some ⟨n,b.set i false⟩:=List.getElem?_set_self (List.getElem?_eq_some_iff.mp hj).1
 have hany:=XFm hs W3 hj3
 have gok:=XQk ok hj hib
 have glen:=XHc fs j i n b
 refine⟨p3,_,_,s*(j:Int),s,rfl,SqL.of hp3,by omega,hw3,by omega,hs,fun H4 s4=>?_⟩
 rw[hany]
 have hp4:=s4 p3 _ hp3
 have hx4:=s4 x _ hx3
 have hx04:=s4 x _ hx03
 have ha4:=s4 a _ ha3
 have s14:=((s1.trans s2).trans s3).trans s4
 cases hb:(b.set i false).any id with
 | true =>
   have eg:giv fs j i n b=fs.set j ⟨n,b.set i false⟩:=by unfold giv;rw[if_pos hb]
   rw[eg] at gok q
   walk_at "go"
   refine⟨s,x,p3,dx,a,cs,_,_,rfl,hx4,ha4,hl3,SqL.of hp4,by omega,hw3,fun a' H6 na6 k6 hx6 ha6=>?_⟩
   walk_at "go"
   exact q a' _ H6 (s14.free na6) ((Xbh.of s14).trans k6) hl3 ⟨hx6,ha6,hl4,by omega,⟨hs3,by rw[List.length_set];exact hf1,gok⟩,mk3⟩
 | false =>
   have eg:giv fs j i n b=fs.set j ⟨0,[]⟩:=by unfold giv;rw[if_neg (by rw[hb];exact Bool.false_ne_true)]
   rw[eg] at gok q
   obtain⟨_,w5,mk5⟩:=Xmk hs W3 hj3 hl4 mk3
   rw[List.set_set] at mk5
   walk_at "go"
   refine⟨p3,_,s*(j:Int),s,false,rfl,SqL.of hp4,by omega,w0,hs,w5,fun p5 H5 np5 s5 hp5=>?_⟩
   have hl5:(Xci (Xci cs at0 n false) (s*(j:Int)) s false).length=cs.length:=by rw[Xbm];exact hl3
   have hl6:((Xci (Xci cs at0 n false) (s*(j:Int)) s false).length:Int)=s*((fs.set j ⟨0,[]⟩).length:Int):=by rw[hl5,List.length_set];exact hl
   have hw5:=Xaw (Xfw hs (fun f hf=>(gok f hf).1) hl6) mk5
   have hx5:=s5 x _ hx4
   have ha5:=s5 a _ ha4
   walk_at "go"
   refine⟨s,x,p5,dx,a,cs,_,_,rfl,hx5,ha5,hl5,SqL.of hp5,by omega,hw5,fun a' H6 na6 k6 hx6 ha6=>?_⟩
   walk_at "go"
   have s15:=s14.trans s5
   exact q a' _ H6 (s15.free na6) ((Xbh.of s15).trans k6) hl5 ⟨hx6,ha6,hl6,by omega,⟨hs3,by rw[List.length_set];exact hf1,gok⟩,mk5⟩
include T in
theorem d_Z61 {f₀:Addr}{fd₀:FuncData}(F:Fun K "give" "Row.give" Xva f₀ fd₀)(M:Meth K Y17 "give" f₀) :Methx P w K mg base Y17 "give" 1 ["self","place"] [] (Xed (cF Y7 Y5 Y17) Y4 Y10 W3.row):=by
 refine⟨⟨f₀,fd₀,[],Xbq F XMm (fun vs H Q E h=>by revert h;walk_at "len") (fun cdv A outer s H vs Q E hr h=>?_),M,F.binds XRy,.nil⟩,T.cl_Row⟩
 refine⟨_,(Xae (Xcb T.zcT hr.hd rfl (Xaa Xan Xac))),?_⟩
 obtain⟨x,dx,a,q3,cs,pl,rfl,hi0,S,hq⟩:=h
 rcases hq with ⟨_,qe⟩ | ⟨w,_⟩ | ⟨q',G,_⟩
 · walk_at "go"
   exact qe H (Same.refl _)
 · exact absurd rfl w
 · cases G <;> cases hi0
def Xgu (C:W3→Addr)(i:W3):Sp:=fun vs H Q _=>∃(x dx a:Addr) (q:St3) (cs:List Int),vs=[.ref x]∧i=q.let3∧KS C x dx a q cs H ∧
 ∀(a':Addr) (cs':List Int) (H':Hp),H a'=none→Xbh x H H'→cs'.length=cs.length→KS C x dx a' (Xev (Xby q) 0 q) cs' H'→Q .non H'
theorem Xfj {n:Int}(h:1≤n):Xas 0 [⟨0,n,false⟩] ((Xbv n).length:Int)∧Xat (Xbv n) [⟨0,n,false⟩]:=by
 have hl:=Xcf (show 0≤n by omega)
 refine⟨⟨rfl,h,(fun h=>by cases h),?_⟩,fun p hp=>?_⟩
 · show (0:Int)+n=_
   rw[hl];omega
 · rw[List.mem_singleton.mp hp]
   unfold Xbv at hl ⊢
   rw[Xbm] at hl
   exact⟨Xhc (Int.le_refl 0) h (by omega),Xjg (Int.le_refl 0) h (by omega)⟩
theorem Xzi {q:St3}(h:q.ok)(hi:q.let3≠W3.shel):Xat (Xbv q.n) (Xev (Xby q) 0 q).ps∧1≤q.n:=by
 have s3:=St3.s3 h
 cases q with
 | shel _ _=>exact absurd rfl hi
 | half N ps =>
   have p:=pw1 N
   exact⟨(Xfj p).2,p⟩
 | row n ls =>
   have s3:3≤n:=s3
   have h1:1≤n:=by omega
   refine⟨?_,h1⟩
   have e:rwP [] n=[⟨0,n,false⟩]:=by
     rw[Xeo (ls:=[]) (show sumI []<n from (by show (0:Int)<n;omega))]
     show [(⟨0,n-0,false⟩:Pc)]=_
     rw[Int.sub_zero]
   show Xat (Xbv n) (rwP [] n)
   rw[e]
   exact(Xfj h1).2
include T in
theorem d_Z48 {f₀:Addr}{fd₀:FuncData}(F:Fun K "clear" "Keeper.clear" s_Z7 f₀ fd₀)(M:∀i,(fun i=>i≠W3.shel) i→Meth K ((cF Y7 Y5 Y17) i) "clear" f₀)(D_Z26:Defx P w K mg base "fresh_room" 2 ["count"] (Xia Y14))(D_Z16:Xba P w K mg base (cF Y7 Y5 Y17) "room_begin" 1 ["self","cells"] [] (Xmq K (cF Y7 Y5 Y17))):Xiu P w K mg base (fun i=>i≠W3.shel) (cF Y7 Y5 Y17) "clear" 3 ["self"] [] (Xgu (cF Y7 Y5 Y17)):=by
 refine Xiu.made (Xbq F sc_Z7 (fun vs H Q E h=>by obtain⟨_,_,h⟩:=h;revert h;walk_at "len") (fun cdv A outer s H vs Q E hr h=>?_)) M (F.binds bi_Z7) (T_cl T)
 refine⟨_,PSs.nox (Xae (Xbx (Xay D_Z16 Xav hr (pv 0) (Xaa (Xai D_Z26 hr (by rfl) (Xaa (Xar Xbb (by rfl) T.n_len PySem.boot_len (Xaa (Xdp (pv 0) rfl) Xac)) Xac)) Xac)))),?_⟩
 obtain⟨i,hi,x,dx,a,q3,cs,rfl,rfl,S,q⟩:=h
 have hx:=S.hx
 have ha:=S.ha
 have cl:=T_cl T q3.let3
 have na:=T_na T q3.let3
 have hz:=S.hz
 have hl:=S.hl
 obtain⟨m3,n1⟩:=Xzi S.ok hi
 have fl:=Xcf (show 0≤q3.n by omega)
 obtain⟨o1,o2,o3,o4⟩:=Xjt (j:=0) S.ok (Nat.zero_le _)
 walk_at "go"
 rw[hl]
 refine⟨q3.n,rfl,by omega,fun z=>absurd z (by omega),fun _ p H1 np s1 hp=>?_⟩
 have hx1:=s1 x _ hx
 walk_at "go"
 refine⟨_,x,p,dx,a,_,rfl,hx1,SqL.of hp,fun a' H2 na2 k2 hx2 ha2=>?_⟩
 walk_at "go"
 exact q a' _ H2 (s1.free na2) ((Xbh.of s1).trans k2) (by omega) ⟨by rw[o2,o3];exact hx2,ha2,by rw[o4];exact fl,by omega,o1,m3⟩
include T in
theorem d_Z45 {f₀:Addr}{fd₀:FuncData}(F:Fun K "clear" "Shelves.clear" s_Z5 f₀ fd₀)(M:∀i,(fun i=>i=W3.shel) i→Meth K ((cF Y7 Y5 Y17) i) "clear" f₀)(D_Z34:Defx P w K mg base "all_whole" 3 ["size","shelf"] (Xra Y14))(D_Z72:Xba P w K mg base (cF Y7 Y5 Y17) "cells" 1 ["self"] [] (Xcw (cF Y7 Y5 Y17)))(D_lay:Xba P w K mg base (cF Y7 Y5 Y17) "lay" 5 ["self","cells"] [] (Xlt K (cF Y7 Y5 Y17))):Xiu P w K mg base (fun i=>i=W3.shel) (cF Y7 Y5 Y17) "clear" 6 ["self"] [] (Xgu (cF Y7 Y5 Y17)):=by
 refine Xiu.made (Xbq F sc_Z5 (fun vs H Q E h=>by obtain⟨_,_,h⟩:=h;revert h;walk_at "len") (fun cdv A outer s H vs Q E hr h=>?_)) M (F.binds bi_Z5) (T_cl T)
 refine⟨_,PSs.nox (Xae (Xbx (Xay D_lay Xav hr (pv 0) (Xaa (Xai D_Z34 hr (by rfl) (Xaa (Xar Xbb (by rfl) T.n_len PySem.boot_len (Xaa (Xbi D_Z72 Xav hr (pv 0)) Xac)) (Xaa (Xdp (pv 0) rfl) Xac))) Xac)))),?_⟩
 obtain⟨i,hi,x,dx,a,q3,cs,rfl,hq3,S,q⟩:=h
 have hi:i=W3.shel:=hi
 subst hi
 cases q3 with
 | half _ _=>cases hq3
 | row _ _=>cases hq3
 | shel s fs =>
 have hx:H x=some (.ins ((cF Y7 Y5 Y17) W3.shel) dx (fsF W3.shel a s)):=S.hx
 have hx0:H x=some (.ins Y5 dx [("room_cells",.ref a),("shelf",.int s)]):=S.hx
 have ha:=S.ha
 have hl:(cs.length:Int)=s*(fs.length:Int):=S.hl
 have hz:=S.hz
 obtain⟨hs3,m1,ok⟩:=id S.ok
 have hs:1≤s:=by omega
 have cl:=T.zax
 have na:=T.zaa
 have nb:=T.zab
 have z1:s≤s*(fs.length:Int):=St3.sn S.ok
 have em:(s*(fs.length:Int))%s=0:=Int.mul_emod_right _ _
 rw[←hl] at em
 walk_at "go"
 refine⟨s,x,dx,a,cs,rfl,hx,ha,fun p H1 np s1 hp=>?_⟩
 have hx1:=s1 x _ hx
 have hx01:=s1 x _ hx0
 have ha1:=s1 a _ ha
 walk_at "go"
 refine⟨(cs.length:Int),s,rfl,by omega,by omega,fun h=>absurd h (by omega),fun m' _ _ e p2 H2 np2 s2 hp2=>?_⟩
 have emm:m'=fs.length:=by
   have:=Int.eq_of_mul_eq_mul_left (show s≠0 by omega) (e.symm.trans hl)
   omega
 subst emm
 have e1:=Xgs hs fs.length
 have hx2:=s2 x _ hx1
 have ha2:=s2 a _ ha1
 obtain⟨o1,o2,o3,o4⟩:=Xjt (j:=0) S.ok (Nat.zero_le _)
 walk_at "go"
 refine⟨s,x,p2,dx,a,cs,rep1 s fs.length,_,rfl,hx2,ha2,by omega,SqL.of hp2,by omega,Xlo hs _,fun a' H4 na4 k4 hx4 ha4=>?_⟩
 walk_at "go"
 obtain⟨r1,r2,r3⟩:=XAh hs fs.length
 have s12:=s1.trans s2
 exact q a' _ H4 (s12.free na4) ((Xbh.of s12).trans k4) (by omega) ⟨hx4,ha4,by rw[o4];show ((rep1 s fs.length).length:Int)=s*(fs.length:Int);exact e1,by omega,o1,r3⟩
def Xnp (C:W3→Addr)(CN:Addr)(i:W3):Sp:=fun vs H _ E=>∃(x dx a:Addr) (q:St3) (cs:List Int) (pl c:Int),vs=[.ref x,.int pl,.int c,.int 1]∧i=q.let3∧KS C x dx a q cs H∧c+2<2^220∧1≤c∧q.s<c+2∧∀H',Same H H'→E (.ref CN) none H'
include T in
theorem XSx {f₀:Addr}{fd₀:FuncData}(F:Fun K "room_moved" "Keeper.room_moved" s_Z2 f₀ fd₀)(M:∀i,Meth K ((cF Y7 Y5 Y17) i) "room_moved" f₀)(D_ask:MethFD P w K mg base (cF Y7 Y5 Y17) "ask" 8 ["self","count","bound"] [.int 1] (Xfm (cF Y7 Y5 Y17) Y16 Y3 Y13)):Xba P w K mg base (cF Y7 Y5 Y17) "room_moved" 9 ["self","place","count","bound"] [] (Xnp (cF Y7 Y5 Y17) Y13):=by
 refine Xba.made (Xbq F XRz (fun vs H Q E h=>by obtain⟨_,h⟩:=h;revert h;walk_at "len") (fun cdv A outer s H vs Q E hr h=>?_)) M (F.binds XTm) (T_cl T)
 refine⟨_,(Xab (Xao (i:=4) XRz.nd rfl (Or.inl rfl) (Xay D_ask.all Xdk hr (pv 0) (Xaa (pv 2) (Xaa (pv 3) Xac)))) (Xab Xfv (Xab Xfv (Xae Xfv)))),?_⟩
 obtain⟨i,x,dx,a,q3,cs,pl,c,rfl,rfl,S,hc2,hc1,hb,qe⟩:=h
 have hx:=S.hx
 walk_at "go"
 exact⟨x,dx,a,q3,cs,c,1,rfl,rfl,S,hc2,fun h=>absurd h (by omega),fun _ _ h=>absurd rfl h,fun _ _=>.inl ⟨Xue S.ok hb,qe⟩⟩
def Xhy (C:W3→Addr)(CP CA CB CN CG:Addr)(i:W3):Sp:=fun vs H Q E=>∃(x dx a:Addr) (q:St3) (cs:List Int) (pl c b:Int),vs=[.ref x,.int pl,.int c,.int b]∧i=q.let3∧KS C x dx a q cs H∧c+2<2^220 ∧
 (i = .row→∀H',Same H H'→E (.ref CG) none H')∧(i≠.row→(∀z∈q.ps,z.v=true→z.a+1≠pl)→∀H',Same H H'→E (.ref CP) none H') ∧
 (i≠.row→∀z∈q.ps,z.v=true→z.a+1=pl→(c<1∨b<1→∀H',Same H H'→E (.ref CA) none H')∧(1≤c→1≤b→b≠1→∀H',Same H H'→E (.ref CB) none H')∧(1≤c→b=1→c≤z.l-2→∀H',Same H H'→Q (.int pl) H')∧(1≤c→b=1→z.l-2<c→q.s<c+2∧∀H',Same H H'→E (.ref CN) none H'))
include T in
theorem d_Z67 {f₀ T₀:Addr}{fd₀:FuncData}{tk₀:Tok}{tc₀:Value}{td₀:Option Addr}{tn₀:Nat}{ts₀:Array (Option Value)}(F:FunD K "grow" "Keeper.grow" Xkx (.ref T₀) f₀ fd₀)(LT:K.lookup T₀=some ⟨tc₀,td₀,.seq [.int 1 tk₀].toArray tn₀,ts₀⟩)(M:∀i,(fun i=>i≠W3.row) i→Meth K ((cF Y7 Y5 Y17) i) "grow" f₀)(D_Z74:Xba P w K mg base (cF Y7 Y5 Y17) "many" 7 ["self","place"] [] (Xhe (cF Y7 Y5 Y17) Y4))(D_Z3:Defx P w K mg base "check_plain_ask" 2 ["count","bound"] (Xfk Y16 Y3))(D_Z21:Xba P w K mg base (cF Y7 Y5 Y17) "room_moved" 9 ["self","place","count","bound"] [] (Xnp (cF Y7 Y5 Y17) Y13)):MethSD P w K mg base (fun i=>i≠W3.row) (cF Y7 Y5 Y17) "grow" 10 ["self","place","count","bound"] [.int 1] (Xhy (cF Y7 Y5 Y17) Y4 Y16 Y3 Y13 Y10):=by
 refine MethSD.made (fd:=fd₀) ?_ M (F.bindsA LT (XIv T₀ _)) (F.bindsD LT (XLv T₀ _)) (.cons ⟨tk₀,rfl⟩ .nil) (T_cl T)
 refine Xga F Xzk (fun vs H Q E h=>by obtain⟨_,_,h⟩:=h;revert h;walk_at "len") (fun cdv A outer s H vs Q E hr h=>?_)
 refine⟨_,(Xab (Xao (i:=4) Xzk.nd rfl (Or.inl rfl) (Xay D_Z74 Xdk hr (pv 0) (Xaa (pv 1) Xac))) (Xab (Xbx (Xcp D_Z3 hr (by rfl) (Xaa (pv 2) (Xaa (pv 3) Xac)))) (Xab (Xbd (Xag Xst (pv 4) (pv 2) (Xaj _)) (Xae (Xal (pv 1))) Xam) (Xae (Xal (Xay D_Z21 Xdk hr (pv 0) (Xaa (pv 1) (Xaa (pv 2) (Xaa (pv 3) Xac))))))))),?_⟩
 obtain⟨i,hi,x,dx,a,q3,cs,pl,c,b,rfl,rfl,S,hc2,_,qp,qz⟩:=h
 have hx:=S.hx
 have qp:=qp hi
 have qz:=qz hi
 walk_at "go"
 refine⟨_,x,dx,a,cs,_,pl,rfl,S.bs,qp,fun z hz hv he H1 s1=>?_⟩
 obtain⟨qa,qb,qs,qn⟩:=qz z hz hv he
 have S1:=S.same s1
 have hx1:=S1.hx
 walk_at "go"
 refine⟨c,b,rfl,fun h=>qa h H1 s1,fun h1 h2 h3=>qb h1 h2 h3 H1 s1,fun h1 hb=>?_⟩
 subst hb
 walk_at "go"
 refine Xbj (fun h3=>?_) (fun h3=>?_)
 · walk_at "go"
   exact qs h1 rfl (by omega) H1 s1
 · walk_at "go"
   obtain⟨w1,w2⟩:=qn h1 rfl (by omega)
   exact⟨x,dx,a,q3,cs,pl,c,rfl,rfl,S1,hc2,h1,w1,fun H2 s2=>w2 H2 (s1.trans s2)⟩
include T in
theorem XSl {f₀ T₀:Addr}{fd₀:FuncData}{tk₀:Tok}{tc₀:Value}{td₀:Option Addr}{tn₀:Nat}{ts₀:Array (Option Value)}(F:FunD K "grow" "Row.grow" Xkk (.ref T₀) f₀ fd₀)(LT:K.lookup T₀=some ⟨tc₀,td₀,.seq [.int 1 tk₀].toArray tn₀,ts₀⟩)(M:∀i,(fun i=>i=W3.row) i→Meth K ((cF Y7 Y5 Y17) i) "grow" f₀) :MethSD P w K mg base (fun i=>i=W3.row) (cF Y7 Y5 Y17) "grow" 1 ["self","place","count","bound"] [.int 1] (Xhy (cF Y7 Y5 Y17) Y4 Y16 Y3 Y13 Y10):=by
 refine MethSD.made (fd:=fd₀) ?_ M (F.bindsA LT (XKl T₀ _)) (F.bindsD LT (XMo T₀ _)) (.cons ⟨tk₀,rfl⟩ .nil) (T_cl T)
 refine Xga F XQc (fun vs H Q E h=>by obtain⟨_,_,h⟩:=h;revert h;walk_at "len") (fun cdv A outer s H vs Q E hr h=>?_)
 refine⟨_,(Xae (Xcb T.zcT hr.hd rfl (Xaa Xan Xac))),?_⟩
 obtain⟨i,hi,x,dx,a,q3,cs,pl,c,b,rfl,rfl,S,hc2,qg,_,_⟩:=h
 walk_at "go"
 exact qg hi H (Same.refl _)
inductive Er3
 | give | piece | cell | ask | bound | room
def cE3 (C1 C2 C3 C4 C5 C6:Addr):Er3→Addr
 | .give=>C1
 | .piece=>C2
 | .cell=>C3
 | .ask=>C4
 | .bound=>C5
 | .room=>C6
def wE3:Er3→Str
 | .give=>"give"
 | .piece=>"piece"
 | .cell=>"cell"
 | .ask=>"ask"
 | .bound=>"bound"
 | .room=>"room"
def nE3:Er3→Nat
 | .give=>3
 | .piece=>5
 | .cell=>6
 | .ask=>7
 | .bound=>8
 | .room=>9
def flE (e:Er3)(k:Nat):Bool:=decide (k=nE3 e)||decide (k=10)
section
variable {K:PySem.W.Frag}{mg:Str→Option Value}{Y0 Y12 Y14 Y6 Y10 Y1 Y4 Y9 Y16 Y3 Y13 Y2 Y11 Y15 Y8 Y7 Y17 Y5:Addr}{W0_:Tok}{W1_:Tok}
theorem T_ft (T:Txt K mg Y0 Y12 Y14 Y6 Y10 Y1 Y4 Y9 Y16 Y3 Y13 Y2 Y11 Y15 Y8 Y7 Y17 Y5 W0_ W1_):∀e,Fits K ((cE3 Y10 Y4 Y9 Y16 Y3 Y13) e) Y0 true:=fun e=>by
 cases e
 · exact T.zca
 · exact T.zbV
 · exact T.zcb
 · exact T.zci
 · exact T.zbW
 · exact T.zcc
theorem T_zx (T:Txt K mg Y0 Y12 Y14 Y6 Y10 Y1 Y4 Y9 Y16 Y3 Y13 Y2 Y11 Y15 Y8 Y7 Y17 Y5 W0_ W1_):∀e,XK0 K ((cE3 Y10 Y4 Y9 Y16 Y3 Y13) e):=fun e=>by
 cases e
 · exact T.zfs
 · exact T.zdG
 · exact T.zft
 · exact T.zfW
 · exact T.zdH
 · exact T.zfu
theorem T_i0 (T:Txt K mg Y0 Y12 Y14 Y6 Y10 Y1 Y4 Y9 Y16 Y3 Y13 Y2 Y11 Y15 Y8 Y7 Y17 Y5 W0_ W1_):∀e,PySem.W.kitOne K (.ref ((cE3 Y10 Y4 Y9 Y16 Y3 Y13) e)) (.ref Y12)=some (flE e 0):=fun e=>by
 cases e
 · exact T.zaZ
 · exact T.zaB
 · exact T.zbi
 · exact T.zbE
 · exact T.zaN
 · exact T.zbu
theorem T_i1 (T:Txt K mg Y0 Y12 Y14 Y6 Y10 Y1 Y4 Y9 Y16 Y3 Y13 Y2 Y11 Y15 Y8 Y7 Y17 Y5 W0_ W1_):∀e,PySem.W.kitOne K (.ref ((cE3 Y10 Y4 Y9 Y16 Y3 Y13) e)) (.ref Y14)=some (flE e 1):=fun e=>by
 cases e
 · exact T.zba
 · exact T.zaC
 · exact T.zbj
 · exact T.zbF
 · exact T.zaO
 · exact T.zbv
theorem T_i2 (T:Txt K mg Y0 Y12 Y14 Y6 Y10 Y1 Y4 Y9 Y16 Y3 Y13 Y2 Y11 Y15 Y8 Y7 Y17 Y5 W0_ W1_):∀e,PySem.W.kitOne K (.ref ((cE3 Y10 Y4 Y9 Y16 Y3 Y13) e)) (.ref Y6)=some (flE e 2):=fun e=>by
 cases e
 · exact T.zbb
 · exact T.zaD
 · exact T.zbk
 · exact T.zbG
 · exact T.zaP
 · exact T.zbw
theorem T_i3 (T:Txt K mg Y0 Y12 Y14 Y6 Y10 Y1 Y4 Y9 Y16 Y3 Y13 Y2 Y11 Y15 Y8 Y7 Y17 Y5 W0_ W1_):∀e,PySem.W.kitOne K (.ref ((cE3 Y10 Y4 Y9 Y16 Y3 Y13) e)) (.ref Y10)=some (flE e 3):=fun e=>by
 cases e
 · exact T.zbc
 · exact T.zaE
 · exact T.zbl
 · exact T.zbH
 · exact T.zaQ
 · exact T.zbx
theorem T_i4 (T:Txt K mg Y0 Y12 Y14 Y6 Y10 Y1 Y4 Y9 Y16 Y3 Y13 Y2 Y11 Y15 Y8 Y7 Y17 Y5 W0_ W1_):∀e,PySem.W.kitOne K (.ref ((cE3 Y10 Y4 Y9 Y16 Y3 Y13) e)) (.ref Y1)=some (flE e 4):=fun e=>by
 cases e
 · exact T.zao
 · exact T.zaj
 · exact T.zas
 · exact T.zaM
 · exact T.zal
 · exact T.zaw
theorem T_i5 (T:Txt K mg Y0 Y12 Y14 Y6 Y10 Y1 Y4 Y9 Y16 Y3 Y13 Y2 Y11 Y15 Y8 Y7 Y17 Y5 W0_ W1_):∀e,PySem.W.kitOne K (.ref ((cE3 Y10 Y4 Y9 Y16 Y3 Y13) e)) (.ref Y4)=some (flE e 5):=fun e=>by
 cases e
 · exact T.zay
 · exact T.zap
 · exact T.zaJ
 · exact T.zbq
 · exact T.zat
 · exact T.zaV
theorem T_i6 (T:Txt K mg Y0 Y12 Y14 Y6 Y10 Y1 Y4 Y9 Y16 Y3 Y13 Y2 Y11 Y15 Y8 Y7 Y17 Y5 W0_ W1_):∀e,PySem.W.kitOne K (.ref ((cE3 Y10 Y4 Y9 Y16 Y3 Y13) e)) (.ref Y9)=some (flE e 6):=fun e=>by
 cases e
 · exact T.zbd
 · exact T.zaF
 · exact T.zbm
 · exact T.zbI
 · exact T.zaR
 · exact T.zby
theorem T_i7 (T:Txt K mg Y0 Y12 Y14 Y6 Y10 Y1 Y4 Y9 Y16 Y3 Y13 Y2 Y11 Y15 Y8 Y7 Y17 Y5 W0_ W1_):∀e,PySem.W.kitOne K (.ref ((cE3 Y10 Y4 Y9 Y16 Y3 Y13) e)) (.ref Y16)=some (flE e 7):=fun e=>by
 cases e
 · exact T.zbC
 · exact T.zbh
 · exact T.zbD
 · exact T.zbO
 · exact T.zbt
 · exact T.zbM
theorem T_i8 (T:Txt K mg Y0 Y12 Y14 Y6 Y10 Y1 Y4 Y9 Y16 Y3 Y13 Y2 Y11 Y15 Y8 Y7 Y17 Y5 W0_ W1_):∀e,PySem.W.kitOne K (.ref ((cE3 Y10 Y4 Y9 Y16 Y3 Y13) e)) (.ref Y3)=some (flE e 8):=fun e=>by
 cases e
 · exact T.zaz
 · exact T.zaq
 · exact T.zaK
 · exact T.zbr
 · exact T.zau
 · exact T.zaW
theorem T_i9 (T:Txt K mg Y0 Y12 Y14 Y6 Y10 Y1 Y4 Y9 Y16 Y3 Y13 Y2 Y11 Y15 Y8 Y7 Y17 Y5 W0_ W1_):∀e,PySem.W.kitOne K (.ref ((cE3 Y10 Y4 Y9 Y16 Y3 Y13) e)) (.ref Y13)=some (flE e 9):=fun e=>by
 cases e
 · exact T.zbe
 · exact T.zaG
 · exact T.zbn
 · exact T.zbJ
 · exact T.zaS
 · exact T.zbz
theorem T_i10 (T:Txt K mg Y0 Y12 Y14 Y6 Y10 Y1 Y4 Y9 Y16 Y3 Y13 Y2 Y11 Y15 Y8 Y7 Y17 Y5 W0_ W1_):∀e,PySem.W.kitOne K (.ref ((cE3 Y10 Y4 Y9 Y16 Y3 Y13) e)) (.type "ValueError")=some (flE e 10):=fun e=>by
 cases e
 · exact T.zag
 · exact T.zae
 · exact T.zah
 · exact T.zak
 · exact T.zaf
 · exact T.zai
theorem T_i11 (T:Txt K mg Y0 Y12 Y14 Y6 Y10 Y1 Y4 Y9 Y16 Y3 Y13 Y2 Y11 Y15 Y8 Y7 Y17 Y5 W0_ W1_):∀e,PySem.W.kitOne K (.ref ((cE3 Y10 Y4 Y9 Y16 Y3 Y13) e)) (.ref Y2)=some (flE e 11):=fun e=>by
 cases e
 · exact T.zaA
 · exact T.zar
 · exact T.zaL
 · exact T.zbs
 · exact T.zav
 · exact T.zaX
theorem T_i12 (T:Txt K mg Y0 Y12 Y14 Y6 Y10 Y1 Y4 Y9 Y16 Y3 Y13 Y2 Y11 Y15 Y8 Y7 Y17 Y5 W0_ W1_):∀e,PySem.W.kitOne K (.ref ((cE3 Y10 Y4 Y9 Y16 Y3 Y13) e)) (.ref Y11)=some (flE e 12):=fun e=>by
 cases e
 · exact T.zbf
 · exact T.zaH
 · exact T.zbo
 · exact T.zbK
 · exact T.zaT
 · exact T.zbA
theorem T_i13 (T:Txt K mg Y0 Y12 Y14 Y6 Y10 Y1 Y4 Y9 Y16 Y3 Y13 Y2 Y11 Y15 Y8 Y7 Y17 Y5 W0_ W1_):∀e,PySem.W.kitOne K (.ref ((cE3 Y10 Y4 Y9 Y16 Y3 Y13) e)) (.ref Y15)=some (flE e 13):=fun e=>by
 cases e
 · exact T.zbg
 · exact T.zaI
 · exact T.zbp
 · exact T.zbL
 · exact T.zaU
 · exact T.zbB
end
def wds:List Str:=["name","size","broken","give","handle","piece","cell","ask","bound","room","base","bad","line","turn"]
def Xne (bs:List Bool)(i:Nat):List Str:=((List.range i).filter fun k=>bs.getD k false).map fun k=>wds.getD k ""
theorem Xpo (bs:List Bool)(i:Nat):Xne bs (i+1)=Xne bs i++(if bs.getD i false=true then [wds.getD i ""] else []):=by
 unfold Xne
 rw[List.range_succ,List.filter_append,List.map_append]
 congr 1
 simp only [List.filter_cons,List.filter_nil]
 split <;> rfl
theorem XJj (e:Er3):Xne ((List.range 14).map (flE e)) 14=[wE3 e,"base"]:=by cases e <;> rfl
def PwW (H1:Hp)(bs:List Bool)(D:Addr)(i:Nat)(ys:List V)(H2:Hp):Prop:=Same H1 H2∧H2 D=some (.lst ys)∧H1 D=none∧ys=(Xne bs i).map V.str∧ys.length≤i
theorem XJo {i:Nat}(h:i<14):(wds.map V.str)[i]?=some (.str (wds.getD i "")):=by
 rw[List.getElem?_map,List.getD_eq_getElem?_getD,List.getElem?_eq_getElem (show i<wds.length from h)]
 rfl
theorem Xqu {xs:List V}{i:Nat}{v:V}(h:xs[i]?=some v):atI xs (i:Int)=some v:=by
 have hl:i<xs.length:=(List.getElem?_eq_some_iff.mp h).1
 unfold atI
 rw[XAd (by omega) (by omega)]
 simpa using h
include T in
theorem d_Z27 (S:Src K mg "_law_cell_at" Xuo) :Defx P w K mg base "_law_cell_at" 1 ["_law_script","_law_k"] (Xrf K):=by
 refine S.okx XMg XLa (fun vs H Q E h=>by revert h;walk_at "len") (fun f cdv A outer s H vs Q E hr h=>?_)
 refine⟨_,PSs.nox (Xab (Xbd (Xag Xee (pv 1) (Xar Xbb (by rfl) T.n_len PySem.boot_len (Xaa (pv 0) Xac)) (Xaj _)) (Xae (Xal (Xbn Xbe (pv 0) (pv 1) (fun _ _=>rfl)))) Xam) (Xae (Xal Xaf))),?_⟩
 obtain⟨a,ns,k,rfl,hS,h0,q⟩:=h
 walk_at "go"
 refine Xbj (fun hc=>?_) (fun hc=>?_)
 · walk_at "go"
   exact q
 · walk_at "go"
   have e:ns.getD k.toNat 0=0:=by
     rw[List.getD_eq_getElem?_getD,List.getElem?_eq_none (by omega)]
     rfl
   rw[e] at q
   exact q
include T in
theorem d_Z49 (S:Src K mg "_law_whole" Xrg) :Defx P w K mg base "_law_whole" 1 ["_law_found"] (Xki):=by
 refine S.okx XKr XNa (fun vs H Q E h=>by revert h;walk_at "len") (fun f cdv A outer s H vs Q E hr h=>?_)
 refine⟨_,PSs.nox (Xae (Xal (Xfq (Xar Xkc (by rfl) T.n_isinstance PyProof.Rows.boot_isinstance (Xaa (pv 0) (Xaa (Xkg (v:=.ty "int") (by rfl) T.n_int PyProof.Rows.boot_int rfl) Xac))) (Xgm (XAa (Xar Xkc (by rfl) T.n_isinstance PyProof.Rows.boot_isinstance (Xaa (pv 0) (Xaa (Xkg (v:=.ty "bool") (by rfl) T.n_bool PyProof.Rows.boot_bool rfl) Xac)))))))),?_⟩
 obtain⟨n,rfl,q⟩:=h
 walk_at "go"
 exact q
def Xip (K:PySem.W.Frag):Sp:=fun vs H Q _=>∃(r:Addr) (cs:List Int) (ps:List Pc),vs=[.ref r]∧H r=some (.lst (cs.map V.int))∧Xas 0 ps cs.length∧Xat cs ps∧cs.length≤1200∧∀(p:Addr) (us:List V) (H':Hp),H p=none→Same H H'→H' p=some (.lst us)→Xbz H' us ps→Q (.ref p) H'
def WkW (r p:Addr)(n:Int)(ps:List Pc)(H:Hp)(m:Nat)(σ:L2.St)(H':Hp):Prop :=
 ∃(ds rs:List Pc) (us:List V) (k:Int) (x3 x4:Option V),σ=[some (.ref r),some (.ref p),some (.int k),x3,x4]∧m=(n-k).toNat∧ps=ds++rs∧Xas 0 ds k∧Xas k rs n∧Same H H'∧H' p=some (.lst us)∧Xbz H' us ds
include T in
theorem d_Z64 (S:Src K mg "_law_walk" Xtk)(D_Z49:Defx P w K mg base "_law_whole" 1 ["_law_found"] (Xki)):Defx P w K mg base "_law_walk" 2 ["_law_cells"] (Xip K):=by
 refine S.okx Xjj XKj (fun vs H Q E h=>by revert h;walk_at "len") (fun f cdv A outer s H vs Q E hr h=>?_)
 refine⟨_,PSs.nox (Xab (Xbd (Xdb (Xhz (Xar Xkc (by rfl) T.n_isinstance PyProof.Rows.boot_isinstance (Xaa (pv 0) (Xaa (Xkg (v:=.ty "list") (by rfl) T.n_list PyProof.Rows.boot_list rfl) Xac))))) (Xae (Xal Xdu)) Xam) (Xab (Xao (i:=1) Xjj.nd rfl (Or.inl rfl) (Xbu Xac)) (Xab (Xao (i:=2) Xjj.nd rfl (Or.inl rfl) Xaf) (Xab (Xfy PassesOwn.never (Xag Xee (pv 2) (Xar Xbb (by rfl) T.n_len PySem.boot_len (Xaa (pv 0) Xac)) (Xaj _)) (Xab (Xbd (Xdb (Xhz (Xai D_Z49 hr (by rfl) (Xaa (Xbn Xbe (pv 0) (pv 2) (fun _ _=>rfl)) Xac)))) (Xae (Xal Xdu)) Xam) (Xab (Xao (i:=3) Xjj.nd rfl (Or.inl rfl) (Xak Xii (Xbn Xbe (pv 0) (pv 2) (fun _ _=>rfl)) Xaf)) (Xab (Xao (i:=4) Xjj.nd rfl (Or.inl rfl) (Xch Xcd (Xak Xca (Xbn Xbe (pv 0) (pv 2) (fun _ _=>rfl)) Xaf) Xaf (Xaj _))) (Xab (Xbd (PW.pt (Xge (Xag Xee (pv 3) Xaf (Xaj _)) (Xge (Xag Xke (Xak Xbg (pv 2) (pv 3)) (Xar Xbb (by rfl) T.n_len PySem.boot_len (Xaa (pv 0) Xac)) (Xaj _)) (Xek (PW.pt (Xdi (Xdf (pv 4) (fun _=>rfl)) (Xda (Xag Xee (pv 3) Xaf (Xaj _))))))))) (Xae (Xal Xdu)) Xam) (Xab (Xbd (PW.pt (Xge (Xdb (Xhz (Xai D_Z49 hr (by rfl) (Xaa (Xbn Xbe (pv 0) (Xak Xbo (Xak Xbg (pv 2) (pv 3)) Xaf) (fun _ _=>rfl)) Xac)))) (Xek (Xag Xkp (Xbn Xbe (pv 0) (Xak Xbo (Xak Xbg (pv 2) (pv 3)) Xaf) (fun _ _=>rfl)) (Xbn Xbe (pv 0) (pv 2) (fun _ _=>rfl)) (Xaj _))))) (Xae (Xal Xdu)) Xam) (Xab (Xbx (XLl PySem.F.plainAttrs_list PySem.F.slot_list_append PySem.F.type_list_append Xhk (pv 1) (Xaa (Xeb (Xaa (pv 2) (Xaa (pv 3) (Xaa (pv 4) Xac)))) Xac))) (Xae (Xao (i:=2) Xjj.nd rfl (Or.inl rfl) (Xak Xbg (pv 2) (pv 3))))))))))) (Xae (Xal (pv 1))))))),?_⟩
 obtain⟨r,cs,ps,rfl,hR,hc,mk,hz,q⟩:=h
 walk_at "go"
 intro p hp
 walk_at "go"
 refine⟨WkW r p cs.length ps H,⟨_,[],ps,[],0,none,none,rfl,rfl,rfl,rfl,hc,Same.new hp,upd_same,Xbz.nil⟩,?_⟩
 rintro m σ H1 ⟨ds,rs,us,k,x3,x4,rfl,rfl,eps,c1,c2,s1,hp1,pu⟩
 have hul:=pu.1
 have hS1:SqL K H1 r (cs.map V.int):=SqL.of (s1 r _ hR)
 have k0:=c1.le
 walk_at "go"
 refine Xbj (fun hlt=>?_) (fun hlt=>?_)
 · refine⟨fun σ' H''=>∃m',m'<((cs.length:Int)-k).toNat∧WkW r p cs.length ps H m' σ' H'',fun σ' H'' hw=>hw,?_⟩
   cases rs with
   | nil =>
     have:k=cs.length:=c2
     omega
   | cons z r2 =>
     obtain⟨ea,z1,z3,c3⟩:=c2
     have hle:=c3.le
     obtain⟨m1,m2⟩:=mk z (by rw[eps];simp)
     have g1:=Xeg m1
     have g2:=Xeg m2
     rw[ea] at g1 g2
     have e1:cs.getD k.toNat 0=mkOf z.l z.v:=g1
     have e2:cs.getD (k+z.l-1).toNat 0=mkOf z.l z.v:=g2
     have hkl:ds.length≤1200:=by omega
     walk_at "g1"
     walk_at "g1"
     rw[e1,Xht]
     walk_at "g1"
     rw[e1,Xna]
     walk_at "go"
     refine Xei (fun hv=>?_) (fun hv=>?_)
     all_goals
       try have z3:=z3 hv
       walk_at "go"
       intro t ht
       walk_at "go"
       obtain⟨g1,g2⟩:=Xbz.push (z:=z) pu hp1 ht
       rw[ea] at g2
       refine⟨_,?_,ds++[z],r2,_,k+z.l,_,_,rfl,rfl,by rw[eps];simp,?_,c3,(s1.put (s1.free ht)).put hp,upd_same,g2⟩
       · omega
       · have:=Xas.snoc (p:=z) (by rw[ea];exact c1) z1 (fun h=>by first | exact z3 h | exact z3)
         rwa [ea] at this
 · have er:rs=[]:=by
     cases rs with
     | nil=>rfl
     | cons z r2 =>
       have:=c2.le
       rw[List.length_cons] at this
       omega
   rw[er,List.append_nil] at eps
   walk_at "go"
   rw[←eps] at pu
   exact q p us H1 hp s1 hp1 pu
def Xri:Sp:=fun vs H Q _=>∃(l:Addr) (bs:List Bool),vs=[.ref l]∧H l=some (.lst (bs.map V.bl))∧bs.length≤14∧∀(p:Addr) (H':Hp),Same H H'→H' p=some (.lst ((Xne bs bs.length).map V.str))→Q (.ref p) H'
seal L2.PSs L2.PS L2.PE L2.PA in
include T in
theorem XTz (S:Src K mg "_law_words" Xtn) :Defx P w K mg base "_law_words" 1 ["_law_flags"] (Xri):=by
 refine S.okx Xrb XKe (fun vs H Q E h=>by revert h;walk_at "len") (fun f cdv A outer s H vs Q E hr h=>?_)
 refine⟨_,PSs.nox (Xab (Xao (i:=1) Xrb.nd rfl (Or.inr rfl) (Xbu (Xaa Xan (Xaa Xan (Xaa Xan (Xaa Xan (Xaa Xan (Xaa Xan (Xaa Xan (Xaa Xan (Xaa Xan (Xaa Xan (Xaa Xan Xac))))))))))))) (Xab (Xao (i:=1) Xrb.nd rfl (Or.inr rfl) (Xak Xim (pv 1) (Xbu (Xaa Xan (Xaa Xan (Xaa Xan Xac)))))) (Xae (Xal (Xfn ["_law_k"] ["_law_words_here","_law_flags"] [1,0] rfl (Xrq (by rfl) T.n_range (Xaa (Xar Xbb (by rfl) T.n_len PySem.boot_len (Xaa (pv 0) Xac)) Xac)) (fun cl C s₀ H₀ ex=>(Xau (i:=0) (show ((["_law_k"]:List Str)++(["_law_words_here","_law_flags"]:List Str)).Nodup by decide +kernel) rfl (Or.inl rfl))) (fun cl C s₀ H₀ ex=>(Xdy (Xdg (K:=K) rfl (Xbn (Xjx (K:=K) rfl) (pv 2) (pv 0) (fun _ _=>rfl)) (fun _=>rfl)))) (fun cl C s₀ H₀ ex=>(Xbn (Xjx (K:=K) rfl) (pv 1) (pv 0) (fun _ _=>rfl))) (Xjf rfl rfl rfl rfl rfl rfl) (Xou (n:="_law_words_here") (m:="_law_flags") (by decide +kernel) rfl rfl) (fun y h=>Xbw (by decide +kernel) h)))))),?_⟩
 obtain⟨l,bs,rfl,hl,hb,q⟩:=h
 walk_at "go"
 intro p1 n1
 have s1:Same H (upd H p1 (.lst ((wds.take 11).map V.str))):=Same.new n1
 have h1:upd H p1 (.lst ((wds.take 11).map V.str)) p1=some (.lst ((wds.take 11).map V.str)):=upd_same
 generalize eH:upd H p1 _=H1
 have eH:upd H p1 (.lst ((wds.take 11).map V.str))=H1:=eH
 rw[eH] at s1 h1
 walk_at "go"
 intro p2 n2
 have s2:Same H1 (upd H1 p2 (.lst ((wds.drop 11).map V.str))):=Same.new n2
 have h2:upd H1 p2 (.lst ((wds.drop 11).map V.str)) p2=some (.lst ((wds.drop 11).map V.str)):=upd_same
 generalize eH2:upd H1 p2 _=H2
 have eH2:upd H1 p2 (.lst ((wds.drop 11).map V.str))=H2:=eH2
 rw[eH2] at s2 h2
 have h12:=s2 p1 _ h1
 refine r_cat h12 h2 (Nat.le_of_lt (small4000 (by decide))) (fun p3 n3=>?_)
 have s3:Same H2 (upd H2 p3 (.lst (wds.map V.str))):=Same.new n3
 have h3:upd H2 p3 (.lst (wds.map V.str)) p3=some (.lst (wds.map V.str)):=upd_same
 generalize eH3:upd H2 p3 _=H3
 have eH3:upd H2 p3 (.lst (wds.map V.str))=H3:=eH3
 rw[eH3] at s3 h3
 have s03:=(s1.trans s2).trans s3
 have hl3:=s03 l _ hl
 have hbl:(bs.map V.bl).length=bs.length:=List.length_map _
 walk_at "go"
 rw[hbl]
 refine⟨_,rfl,by omega,by omega,Xnd (fs:=[some (.ref p3),some (.ref l)]) (PwW H3 bs) (fun D hD=>⟨Same.new hD,upd_same,hD,rfl,Nat.le_refl _⟩) ?_ ?_⟩
 · rintro D2 i ys H5 hD hi ⟨s5,hD5,_,ey,hyl⟩ τ hτ
   rw[Int.zero_add]
   have hi:i<bs.length:=by omega
   have hl5:=s5 l _ hl3
   have h35:=s5 p3 _ h3
   have ef:=Xpo bs i
   have hbi:bs[i]?=some (bs.getD i false):=by rw[List.getD_eq_getElem?_getD,List.getElem?_eq_getElem hi];rfl
   match τ,hτ with
   | [τ0],_ =>
     walk_at "go"
     refine⟨⟨[_],rfl,rfl⟩,?_⟩
     walk_at "go"
     refine Xpq (SqL.of hl5) (Xqu (XQx hbi)) ?_
     walk_at "go"
     refine Xei (fun hv=>?_) (fun hv=>?_)
     · rw[if_pos hv] at ef
       walk_at "go"
       refine Xpq (SqL.of h35) (Xqu (XJo (by omega))) ?_
       walk_at "go"
       refine⟨hD5,small4000 (by omega),Xdo (by omega) ⟨s5.put hD,upd_same,hD,?_,by rw[List.length_append,List.length_singleton];omega⟩⟩
       rw[ey,ef,List.map_append]
       rfl
     · rw[if_neg (by rw[hv];exact Bool.false_ne_true),List.append_nil] at ef
       walk_at "go"
       exact Xdo (by omega) ⟨s5,hD5,hD,by rw[ey,ef],by omega⟩
 rintro D5 ys H5 hD5 ⟨s5,hD55,_,ey,hyl⟩
 rw[Int.toNat_natCast] at ey
 walk_at "go"
 exact q D5 H5 (s03.trans s5) (by rw[hD55,ey])
def Xuw (C:W3→Addr)(CA CB CN CP CC CG:Addr):Sp:=fun vs H Q E=>∃(x:Addr) (wh:Str) (pl c b k:Int),vs=[.ref x,.str wh,.int pl,.int c,.int b,.int k] ∧
 ((wh="ask"∧∃i,Xfm C CA CB CN i [.ref x,.int c,.int b] H Q E)∨(wh="give"∧∃i,Xed C CP CG i [.ref x,.int pl] H Q E)∨(wh="grow"∧∃i,Xhy C CP CA CB CN CG i [.ref x,.int pl,.int c,.int b] H Q E) ∨
  (wh="many"∧∃i,Xhe C CP i [.ref x,.int pl] H Q E)∨(wh="get"∧∃i,Xvz C CP CC i [.ref x,.int pl,.int k] H Q E)∨(wh="put"∧∃i,XDs C CP CC i [.ref x,.int pl,.int k,.int c] H Q E))
include T in
theorem XTb (S:Src K mg "_law_done" Xtu)(D_ask:MethFD P w K mg base (cF Y7 Y5 Y17) "ask" 8 ["self","count","bound"] [.int 1] (Xfm (cF Y7 Y5 Y17) Y16 Y3 Y13))(D_give:Xba P w K mg base (cF Y7 Y5 Y17) "give" 8 ["self","place"] [] (Xed (cF Y7 Y5 Y17) Y4 Y10))(D_grow:MethFD P w K mg base (cF Y7 Y5 Y17) "grow" 10 ["self","place","count","bound"] [.int 1] (Xhy (cF Y7 Y5 Y17) Y4 Y16 Y3 Y13 Y10))(D_Z74:Xba P w K mg base (cF Y7 Y5 Y17) "many" 7 ["self","place"] [] (Xhe (cF Y7 Y5 Y17) Y4))(D_get:Xba P w K mg base (cF Y7 Y5 Y17) "get" 9 ["self","place","k"] [] (Xvz (cF Y7 Y5 Y17) Y4 Y9))(D_put:Xba P w K mg base (cF Y7 Y5 Y17) "put" 9 ["self","place","k","number"] [] (XDs (cF Y7 Y5 Y17) Y4 Y9)):Defx P w K mg base "_law_done" 11 ["_law_keeper","_law_which","_law_place","_law_count","_law_bound","_law_k"] (Xuw (cF Y7 Y5 Y17) Y16 Y3 Y13 Y4 Y9 Y10):=by
 refine S.okx XHs XIk (fun vs H Q E h=>by revert h;walk_at "len") (fun f cdv A outer s H vs Q E hr h=>?_)
 refine⟨_,(Xab (Xbd (Xag Xcd (pv 1) Xan (Xaj _)) (Xae (Xal (Xay D_ask.all Xdk hr (pv 0) (Xaa (pv 3) (Xaa (pv 4) Xac))))) Xam) (Xab (Xbd (Xag Xcd (pv 1) Xan (Xaj _)) (Xae (Xal (Xay D_give Xdk hr (pv 0) (Xaa (pv 2) Xac)))) Xam) (Xab (Xbd (Xag Xcd (pv 1) Xan (Xaj _)) (Xae (Xal (Xay D_grow.all Xdk hr (pv 0) (Xaa (pv 2) (Xaa (pv 3) (Xaa (pv 4) Xac)))))) Xam) (Xab (Xbd (Xag Xcd (pv 1) Xan (Xaj _)) (Xae (Xal (Xay D_Z74 Xdk hr (pv 0) (Xaa (pv 2) Xac)))) Xam) (Xab (Xbd (Xag Xcd (pv 1) Xan (Xaj _)) (Xae (Xal (Xay D_get Xdk hr (pv 0) (Xaa (pv 2) (Xaa (pv 5) Xac))))) Xam) (Xae (Xal (Xay D_put Xdk hr (pv 0) (Xaa (pv 2) (Xaa (pv 5) (Xaa (pv 3) Xac))))))))))),?_⟩
 obtain⟨x,wh,pl,c,b,k,rfl,hc⟩:=h
 rcases hc with ⟨rfl,i,h⟩ | ⟨rfl,i,h⟩ | ⟨rfl,i,h⟩ | ⟨rfl,i,h⟩ | ⟨rfl,i,h⟩ | ⟨rfl,i,h⟩
 · obtain⟨x',dx,a,q,cs,c',b',e,hi,S,_⟩:=id h
   cases e
   subst hi
   have hx:=S.hx
   walk_at "go"
   exact h
 · obtain⟨x',dx,a,q,cs,pl',e,hi,S,_⟩:=id h
   cases e
   subst hi
   have hx:=S.hx
   walk_at "go"
   exact h
 · obtain⟨x',dx,a,q,cs,pl',c',b',e,hi,S,_⟩:=id h
   cases e
   subst hi
   have hx:=S.hx
   walk_at "go"
   exact h
 · obtain⟨r,x',dx,a,cs,ps,pl',e,S,_⟩:=id h
   cases e
   have hx:=S.hx
   walk_at "go"
   exact h
 · obtain⟨r,x',dx,a,cs,ps,pl',j,e,S,_⟩:=id h
   cases e
   have hx:=S.hx
   walk_at "go"
   exact h
 · obtain⟨r,x',dx,a,cs,ps,pl',j,n,e,S,_⟩:=id h
   cases e
   have hx:=S.hx
   walk_at "go"
   exact h
theorem Xhx:bootBuiltins "ValueError"=some (.type "ValueError"):=by decide +kernel
theorem XRv {K:PySem.W.Frag}{H:Hp}{x C:Addr}{n:String}{od:Option Addr}{b:Bool}{P:Bool→Prop}(h:H x=some (ExcO x C od))(z:XK0 K C)(e:PySem.W.kitOne K (.ref C) (.type n)=some b)(q:P b) :
   ∃x' C0 od' v b',[V.ref x,V.ty n]=[V.ref x',v]∧H x'=some (ExcO x' C0 od')∧XK0 K C0∧clsV v≠.none∧PySem.W.kitOne K (.ref C0) (clsV v)=some b'∧P b':=⟨x,C,od,.ty n,b,rfl,h,z,(fun z=>nomatch z),e,q⟩
theorem cat2 {H3:Hp}{p1 y:Addr}{xs ys:List V}{o:HO}{Q:VK}(h1:H3 p1=some (.lst xs))(hy:H3 y=some o)(hz:xs.length+ys.length≤4000)(q:∀p H',Same H3 H'→H' y=some o→H' p=some (.lst (xs++ys))→Q (.ref p) H'):∀p,H3 p=none→rCat (.ref p1) (.ref p) (upd H3 p (.lst ys)) Q:=fun p hp =>
 have s1:Same H3 (upd H3 p (.lst ys)):=Same.new hp
 r_cat (s1 p1 _ h1) upd_same (Nat.le_of_lt (small4000 hz)) fun p' hp'=>q p' _ (s1.trans (Same.new hp')) ((s1.trans (Same.new hp')) y _ hy) upd_same
def DnF (C:W3→Addr)(CA CB CN CP CC CG:Addr)(H:Hp)(vs:List V)(E0:Hp→XK→Prop)(Q0:Hp→VK→Prop):Prop:=∀H1,Same H H1→∀QV EX,E0 H1 EX→Q0 H1 QV→Xuw C CA CB CN CP CC CG vs H1 QV EX
def Xkn (C:W3→Addr)(CE:Er3→Addr)(CA CB CN CP CC CG:Addr):Sp:=fun vs H Q _=>∃(x a:Addr) (wh:Str) (pl c b k:Int),vs=[.ref x,.str wh,.int pl,.int c,.int b,.int k]∧(∃o,H x=some o)∧(∃o,H a=some o) ∧
 ((∃e,DnF C CA CB CN CP CC CG H vs (fun H1 EX=>∀H',Same H1 H'→EX (.ref (CE e)) none H') (fun _ _=>True)∧∀(t l:Addr) (H':Hp),Same H H'→H' t=some (.tup [.ref l,.non])→H' l=some (.lst [.str (wE3 e),.str "base"])→Q (.ref t) H') ∨
  ∃R:V→Hp→Prop,DnF C CA CB CN CP CC CG H vs (fun _ _=>True) (fun H1 QV=>∀v H2,R v H2→(∀d o,H1 d=some o→d≠x→d≠a→H2 d=some o)→QV v H2)∧∀v H2,R v H2→∀(t l:Addr) (H':Hp),Same H2 H'→H' t=some (.tup [.ref l,v])→H' l=some (.lst [])→Q (.ref t) H')
seal L2.PSs L2.PS L2.PE L2.PA in
include T in
theorem d_Z65 (S:Src K mg "_law_call" Xrw)(D_Z60:Defx P w K mg base "_law_done" 11 ["_law_keeper","_law_which","_law_place","_law_count","_law_bound","_law_k"] (Xuw (cF Y7 Y5 Y17) Y16 Y3 Y13 Y4 Y9 Y10))(D_Z47:Defx P w K mg base "_law_words" 1 ["_law_flags"] (Xri)):Defx P w K mg base "_law_call" 12 ["_law_keeper","_law_which","_law_place","_law_count","_law_bound","_law_k"] (Xkn (cF Y7 Y5 Y17) (cE3 Y10 Y4 Y9 Y16 Y3 Y13) Y16 Y3 Y13 Y4 Y9 Y10):=by
 refine S.okx Xfb XKm (fun vs H Q E h=>by revert h;walk_at "len") (fun f cdv A outer s H vs Q E hr h=>?_)
 refine⟨_,PSs.nox (Xab (Xao (i:=6) Xfb.nd rfl (Or.inl rfl) (Xbu Xac)) (Xab (Xao (i:=7) Xfb.nd rfl (Or.inl rfl) Xdu) (Xab (XGw (i:=7) Xfb.nd rfl (Or.inl rfl) (XGj D_Z60 hr (by rfl) (Xaa (pv 0) (Xaa (pv 1) (Xaa (pv 2) (Xaa (pv 3) (Xaa (pv 4) (Xaa (pv 5) Xac))))))) ⟨rfl,rfl⟩ (Xrd (i:=8) (by rfl) T.zcP Xfb.nd rfl rfl (fun x=>(Xab (Xao (i:=6) Xfb.nd rfl (Or.inl rfl) (Xbu (Xaa (Xar (Xbp PySem.F.attr_ValueError.ga) (by rfl) T.n_isinstance PyProof.Rows.boot_isinstance (Xaa (pv 8) (Xaa (Xbt (v:=.ref Y12) (by rfl) T.zfg rfl) Xac))) (Xaa (Xar (Xbp PySem.F.attr_ValueError.ga) (by rfl) T.n_isinstance PyProof.Rows.boot_isinstance (Xaa (pv 8) (Xaa (Xbt (v:=.ref Y14) (by rfl) T.zfh rfl) Xac))) (Xaa (Xar (Xbp PySem.F.attr_ValueError.ga) (by rfl) T.n_isinstance PyProof.Rows.boot_isinstance (Xaa (pv 8) (Xaa (Xbt (v:=.ref Y6) (by rfl) T.zfi rfl) Xac))) (Xaa (Xar (Xbp PySem.F.attr_ValueError.ga) (by rfl) T.n_isinstance PyProof.Rows.boot_isinstance (Xaa (pv 8) (Xaa (Xbt (v:=.ref Y10) (by rfl) T.zfj rfl) Xac))) Xac)))))) (Xab (Xao (i:=6) Xfb.nd rfl (Or.inl rfl) (Xak Xim (pv 6) (Xbu (Xaa (Xar (Xbp PySem.F.attr_ValueError.ga) (by rfl) T.n_isinstance PyProof.Rows.boot_isinstance (Xaa (pv 8) (Xaa (Xbt (v:=.ref Y1) (by rfl) T.zcR rfl) Xac))) (Xaa (Xar (Xbp PySem.F.attr_ValueError.ga) (by rfl) T.n_isinstance PyProof.Rows.boot_isinstance (Xaa (pv 8) (Xaa (Xbt (v:=.ref Y4) (by rfl) T.zdB rfl) Xac))) (Xaa (Xar (Xbp PySem.F.attr_ValueError.ga) (by rfl) T.n_isinstance PyProof.Rows.boot_isinstance (Xaa (pv 8) (Xaa (Xbt (v:=.ref Y9) (by rfl) T.zfk rfl) Xac))) Xac)))))) (Xab (Xao (i:=6) Xfb.nd rfl (Or.inl rfl) (Xak Xim (pv 6) (Xbu (Xaa (Xar (Xbp PySem.F.attr_ValueError.ga) (by rfl) T.n_isinstance PyProof.Rows.boot_isinstance (Xaa (pv 8) (Xaa (Xbt (v:=.ref Y16) (by rfl) T.zfU rfl) Xac))) (Xaa (Xar (Xbp PySem.F.attr_ValueError.ga) (by rfl) T.n_isinstance PyProof.Rows.boot_isinstance (Xaa (pv 8) (Xaa (Xbt (v:=.ref Y3) (by rfl) T.zdC rfl) Xac))) (Xaa (Xar (Xbp PySem.F.attr_ValueError.ga) (by rfl) T.n_isinstance PyProof.Rows.boot_isinstance (Xaa (pv 8) (Xaa (Xbt (v:=.ref Y13) (by rfl) T.zfl rfl) Xac))) Xac)))))) (Xab (Xao (i:=6) Xfb.nd rfl (Or.inl rfl) (Xak Xim (pv 6) (Xbu (Xaa (Xar (Xbp PySem.F.attr_ValueError.ga) (by rfl) T.n_isinstance PyProof.Rows.boot_isinstance (Xaa (pv 8) (Xaa (Xkg (v:=.ty "ValueError") (by rfl) T.zcF Xhx rfl) Xac))) (Xaa (Xar (Xbp PySem.F.attr_ValueError.ga) (by rfl) T.n_isinstance PyProof.Rows.boot_isinstance (Xaa (pv 8) (Xaa (Xbt (v:=.ref Y2) (by rfl) T.zdD rfl) Xac))) (Xaa (Xar (Xbp PySem.F.attr_ValueError.ga) (by rfl) T.n_isinstance PyProof.Rows.boot_isinstance (Xaa (pv 8) (Xaa (Xbt (v:=.ref Y11) (by rfl) T.zfm rfl) Xac))) Xac)))))) (Xae (Xao (i:=6) Xfb.nd rfl (Or.inl rfl) (Xak Xim (pv 6) (Xbu (Xaa (Xar (Xbp PySem.F.attr_ValueError.ga) (by rfl) T.n_isinstance PyProof.Rows.boot_isinstance (Xaa (pv 8) (Xaa (Xbt (v:=.ref Y15) (by rfl) T.zfn rfl) Xac))) Xac)))))))))) XHu)) (Xae (Xal (Xeb (Xaa (Xai D_Z47 hr (by rfl) (Xaa (pv 6) Xac)) (Xaa (pv 7) Xac)))))))),?_⟩
 obtain⟨x,a,wh,pl,c,b,k,rfl,⟨ox,hx⟩,⟨oa,ha⟩,hc⟩:=h
 walk_at "go"
 intro p0 n0
 have s0:Same H (upd H p0 (.lst [])):=Same.new n0
 have h0:upd H p0 (.lst []) p0=some (.lst []):=upd_same
 generalize upd H p0 (.lst [])=H0 at s0 h0 ⊢
 have hpx:p0≠x:=fun w=>by rw[w,hx] at n0;cases n0
 have hpa:p0≠a:=fun w=>by rw[w,ha] at n0;cases n0
 walk_at "go"
 rcases hc with ⟨e,hd,q⟩ | ⟨R,hd,q⟩
 · refine hd H0 s0 _ _ (fun H1 s1=>⟨_,rfl,fun y hy=>Or.inl ⟨T_ft T e,?_⟩⟩) trivial
   have s2:=s1.put (o:=ExcO y ((cE3 Y10 Y4 Y9 Y16 Y3 Y13) e) none) (s1.free hy)
   have hy2:upd H1 y (ExcO y ((cE3 Y10 Y4 Y9 Y16 Y3 Y13) e) none) y=some (ExcO y ((cE3 Y10 Y4 Y9 Y16 Y3 Y13) e) none):=upd_same
   generalize upd H1 y (ExcO y ((cE3 Y10 Y4 Y9 Y16 Y3 Y13) e) none)=H2 at s2 hy2 ⊢
   have x1:=T_zx T e
   have i0:=T_i0 T e
   have i1:=T_i1 T e
   have i2:=T_i2 T e
   have i3:=T_i3 T e
   have i4:=T_i4 T e
   have i5:=T_i5 T e
   have i6:=T_i6 T e
   have i7:=T_i7 T e
   have i8:=T_i8 T e
   have i9:=T_i9 T e
   have i10:=T_i10 T e
   have i11:=T_i11 T e
   have i12:=T_i12 T e
   have i13:=T_i13 T e
   walk_at "go"
   intro p1 m1
   have hy1:=(Same.new (o:=.lst [.bl (flE e 0),.bl (flE e 1),.bl (flE e 2),.bl (flE e 3)]) m1) y _ hy2
   have s3:Same H2 (upd H2 p1 (.lst [.bl (flE e 0),.bl (flE e 1),.bl (flE e 2),.bl (flE e 3)])):=Same.new m1
   have hp1:upd H2 p1 (.lst [.bl (flE e 0),.bl (flE e 1),.bl (flE e 2),.bl (flE e 3)]) p1=some (.lst [.bl (flE e 0),.bl (flE e 1),.bl (flE e 2),.bl (flE e 3)]):=upd_same
   generalize upd H2 p1 (.lst [.bl (flE e 0),.bl (flE e 1),.bl (flE e 2),.bl (flE e 3)])=H3 at hy1 s3 hp1 ⊢
   walk_at "go"
   refine cat2 hp1 hy1 (by simp) (fun p3 H4 s4 hy3 hp3=>?_)
   simp only [List.cons_append,List.nil_append] at hp3
   walk_at "go"
   refine cat2 hp3 hy3 (by simp) (fun p5 H5 s5 hy5 hp5=>?_)
   simp only [List.cons_append,List.nil_append] at hp5
   walk_at "go"
   refine XRv (C:=(cE3 Y10 Y4 Y9 Y16 Y3 Y13) e) (od:=none) hy5 x1 i10 ?_
   walk_at "go"
   refine cat2 hp5 hy5 (by simp) (fun p7 H6 s6 hy7 hp7=>?_)
   simp only [List.cons_append,List.nil_append] at hp7
   walk_at "go"
   refine cat2 hp7 hy7 (by simp) (fun p9 H7 s7 hy9 hp9=>?_)
   simp only [List.cons_append,List.nil_append] at hp9
   walk_at "go"
   refine⟨p9,(List.range 14).map (flE e),rfl,hp9,by simp,fun p H8 s8 hp=>?_⟩
   have hp:H8 p=some (.lst ((Xne ((List.range 14).map (flE e)) 14).map V.str)):=hp
   rw[XJj] at hp
   walk_at "go"
   intro t nt
   have sA:=(((((s0.trans s2).trans s3).trans s4).trans s5).trans (s6.trans s7)).trans s8
   exact q t p _ (sA.trans (Same.new nt)) upd_same ((Same.new nt) p _ hp)
 · refine hd H0 s0 _ _ trivial (fun v H2 hR fr=>?_)
   have h02:=fr p0 _ h0 hpx hpa
   walk_at "go"
   refine⟨p0,[],rfl,h02,Nat.zero_le _,fun p H3 s3 hp=>?_⟩
   walk_at "go"
   intro t nt
   exact q v H2 hR t p _ (s3.trans (Same.new nt)) upd_same ((Same.new nt) p _ hp)
def aduF (c b:Int):Str:=if c<1 then "ask" else if b<1 then "ask" else if b=1 then "" else "bound"
def Xzu:Sp:=fun vs H Q _=>∃c b:Int,vs=[.int c,.int b]∧Q (.str (aduF c b)) H
include T in
theorem XSj (S:Src K mg "_law_ask_due" Xrn) :Defx P w K mg base "_law_ask_due" 1 ["_law_count","_law_bound"] (Xzu):=by
 refine S.okx XHv XRf (fun vs H Q E h=>by revert h;walk_at "len") (fun f cdv A outer s H vs Q E hr h=>?_)
 refine⟨_,PSs.nox (Xab (Xbd (PW.pt (Xge (Xag Xee (pv 0) Xaf (Xaj _)) (Xek (Xag Xee (pv 1) Xaf (Xaj _))))) (Xae (Xal Xan)) Xam) (Xab (Xbd (Xag Xkp (pv 1) Xaf (Xaj _)) (Xae (Xal Xan)) Xam) (Xae (Xal Xan)))),?_⟩
 obtain⟨c,b,rfl,q⟩:=h
 unfold aduF at q
 walk_at "go"
 refine Xbj (fun h1=>?_) (fun h1=>?_)
 · rw[if_pos h1] at q
   walk_at "go"
   exact q
 · rw[if_neg h1] at q
   walk_at "go"
   refine Xbj (fun h2=>?_) (fun h2=>?_)
   · rw[if_pos h2] at q
     walk_at "go"
     exact q
   · rw[if_neg h2] at q
     walk_at "go"
     refine Xbj (fun h3=>?_) (fun h3=>?_)
     · rw[if_pos h3] at q
       walk_at "go"
       exact q
     · rw[if_neg h3] at q
       walk_at "go"
       exact q
theorem XMk {ty td:TE}{σ:L2.St}{H:Hp}{Q:VK}(h:ty σ H fun y H1=>td σ H1 fun x H2=>∃a o,x = .ref a∧DGet H2 a y o∧Q (.bl (!o.isSome)) H2):Xtb ty td σ H Q:=h
theorem beqS {w v:Str}:(v==w)=decide (w=v):=by
 rw[Bool.eq_iff_iff]
 exact⟨fun h=>decide_eq_true (eq_of_beq h).symm,fun h=>beq_iff_eq.mpr (of_decide_eq_true h).symm⟩
theorem in_2 {u v w:Str}:inV (.str w) [.str u,.str v]=(decide (w=u)||decide (w=v)):=by
 show ((u==w)||((v==w)||false))=_
 rw[Bool.or_false,beqS,beqS]
theorem or_t {p q:Prop}[Decidable p][Decidable q](h:(decide p||decide q)=true):p∨q:=(Bool.or_eq_true _ _▸h).imp of_decide_eq_true of_decide_eq_true
theorem or_f {p q:Prop}[Decidable p][Decidable q](h:(decide p||decide q)=false):¬(p∨q):=fun g =>
 have h:=Bool.or_eq_false_iff.mp h
 g.elim (of_decide_eq_false h.1) (of_decide_eq_false h.2)
def dueF (row:Prop)[Decidable row](wh:Str)(lv:Option Int)(c b k mo:Int):Str :=
 if wh="ask" then (if aduF c b="" then (if mo<c+2 then "room" else "") else aduF c b)
 else if row∧(wh="give"∨wh="grow") then "give"
 else match lv with
   | none=>"piece"
   | some m=>if (wh="get"∨wh="put")∧¬(0≤k∧k<m) then "cell"
     else if wh="grow" then (if aduF c b="" then (if m<c then (if mo<c+2 then "room" else "") else "") else aduF c b) else ""
def Xzq:Sp:=fun vs H Q _=>∃(kd:Addr) (kvs:List (Key×V)) (wh:Str) (lv:Option Int) (ki pl c b k mo:Int),vs=[.int ki,.str wh,.ref kd,.int pl,.int c,.int b,.int k,.int mo]∧H kd=some (.dK kvs)∧valV kvs (.inl pl)=lv.map V.int∧∀H',Same H H'→Q (.str (dueF (ki=2) wh lv c b k mo)) H'
include T in
theorem XTy (S:Src K mg "_law_due" Xrx)(D_Z28:Defx P w K mg base "_law_ask_due" 1 ["_law_count","_law_bound"] (Xzu)):Defx P w K mg base "_law_due" 2 ["_law_kind","_law_which","_law_lives","_law_place","_law_count","_law_bound","_law_k","_law_most"] (Xzq):=by
 refine S.okx XQr XMh (fun vs H Q E h=>by revert h;walk_at "len") (fun f cdv A outer s H vs Q E hr h=>?_)
 refine⟨_,PSs.nox (Xab (Xbd (Xag Xcd (pv 1) Xan (Xaj _)) (Xab (Xbd (PW.pt (Xdi (Xag Xcd (Xai D_Z28 hr (by rfl) (Xaa (pv 4) (Xaa (pv 5) Xac))) Xan (Xaj _)) (Xda (Xag Xke (Xak Xbg (pv 4) Xaf) (pv 7) (Xaj _))))) (Xae (Xal Xan)) Xam) (Xae (Xal (Xai D_Z28 hr (by rfl) (Xaa (pv 4) (Xaa (pv 5) Xac)))))) Xam) (Xab (Xbd (PW.pt (Xdi (Xag Xcd (pv 0) Xaf (Xaj _)) (Xda (Xag Xhl (pv 1) (Xeb (Xaa Xan (Xaa Xan Xac))) rfl)))) (Xae (Xal Xan)) Xam) (Xab (Xbd (XJb (Xto (Xln hr.units) (pv 3) (pv 2))) (Xae (Xal Xan)) Xam) (Xab (Xbd (PW.pt (Xdi (Xag Xhl (pv 1) (Xeb (Xaa Xan (Xaa Xan Xac))) rfl) (Xda (Xdb (Xvs XTg Xee Xaf (pv 6) (Xmn (Xln hr.units) (pv 2) (pv 3) (fun _ _=>rfl))))))) (Xae (Xal Xan)) Xam) (Xab (Xbd (Xag Xcd (pv 1) Xan (Xaj _)) (Xab (Xbd (PW.pt (Xdi (Xag Xcd (Xai D_Z28 hr (by rfl) (Xaa (pv 4) (Xaa (pv 5) Xac))) Xan (Xaj _)) (Xdi (Xag Xke (pv 4) (Xmn (Xln hr.units) (pv 2) (pv 3) (fun _ _=>rfl)) (Xaj _)) (Xda (Xag Xke (Xak Xbg (pv 4) Xaf) (pv 7) (Xaj _)))))) (Xae (Xal Xan)) Xam) (Xae (Xal (Xai D_Z28 hr (by rfl) (Xaa (pv 4) (Xaa (pv 5) Xac)))))) Xam) (Xae (Xal Xan))))))),?_⟩
 obtain⟨kd,kvs,wh,lv,ki,pl,c,b,k,mo,rfl,hkd,hlv,q⟩:=h
 unfold dueF at q
 walk_at "go"
 refine Xbj (fun h0=>?_) (fun h0=>?_)
 · rw[if_pos h0] at q
   walk_at "go"
   refine⟨c,b,rfl,?_⟩
   walk_at "go"
   refine Xbj (fun h1=>?_) (fun h1=>?_)
   · rw[if_pos h1] at q
     walk_at "go"
     refine Xbj (fun h2=>?_) (fun h2=>?_)
     · walk_at "go"
       rw[if_pos h2] at q
       exact q H (Same.refl _)
     · walk_at "go"
       refine⟨c,b,rfl,?_⟩
       walk_at "go"
       rw[if_neg h2] at q
       rw[h1]
       exact q H (Same.refl _)
   · rw[if_neg h1] at q
     walk_at "go"
     refine⟨c,b,rfl,?_⟩
     walk_at "go"
     exact q H (Same.refl _)
 rw[if_neg h0] at q
 walk_at "gs"
 refine Xjp (M:=fun σ' H'=>Same H H'∧¬(ki=2∧(wh="give"∨wh="grow"))∧σ'=[some (.int ki),some (.str wh),some (.ref kd),some (.int pl),some (.int c),some (.int b),some (.int k),some (.int mo)]) ?_ (fun nx hM=>?_)
 · rintro σ1 H1 ⟨s1,hn,rfl⟩
   rw[if_neg hn] at q
   have hkd1:=s1 kd _ hkd
   walk_at "go"
   refine XMk ?_
   walk_at "go"
   refine⟨kd,lv.map V.int,rfl,(by have:=DGet.k (k:=.inl pl) hkd1;rw[hlv] at this;exact this),?_⟩
   cases lv with
   | none =>
     refine⟨true,rfl,?_⟩
     walk_at "go"
     exact q H1 s1
   | some m =>
     dsimp only at q
     have dg:∀{H':Hp},H' kd=some (.dK kvs)→DGet H' kd (.int pl) (some (.int m)):=fun h=>by
       have:=DGet.k (k:=.inl pl) h
       rw[hlv] at this
       exact this
     refine⟨false,rfl,?_⟩
     walk_at "gs"
     refine Xjp (M:=fun σ' H'=>Same H H'∧¬((wh="get"∨wh="put")∧¬(0≤k∧k<m))∧σ'=[some (.int ki),some (.str wh),some (.ref kd),some (.int pl),some (.int c),some (.int b),some (.int k),some (.int mo)]) ?_ (fun nx hM=>?_)
     · rintro σ2 H2 ⟨s2,hn2,rfl⟩
       rw[if_neg hn2] at q
       have hkd2:=s2 kd _ hkd
       walk_at "go"
       refine Xbj (fun h3=>?_) (fun h3=>?_)
       · rw[if_pos h3] at q
         walk_at "go"
         refine⟨c,b,rfl,?_⟩
         walk_at "go"
         refine Xbj (fun h4=>?_) (fun h4=>?_)
         · rw[if_pos h4] at q
           walk_at "go"
           refine⟨kd,.int m,rfl,dg hkd2,?_⟩
           walk_at "go"
           refine Xbj (fun h5=>?_) (fun h5=>?_)
           · rw[if_pos h5] at q
             walk_at "go"
             refine Xbj (fun h6=>?_) (fun h6=>?_)
             · rw[if_pos h6] at q
               walk_at "go"
               exact q H2 s2
             · rw[if_neg h6] at q
               walk_at "go"
               refine⟨c,b,rfl,?_⟩
               walk_at "go"
               rw[h4]
               exact q H2 s2
           · rw[if_neg h5] at q
             walk_at "go"
             refine⟨c,b,rfl,?_⟩
             walk_at "go"
             rw[h4]
             exact q H2 s2
         · rw[if_neg h4] at q
           walk_at "go"
           refine⟨c,b,rfl,?_⟩
           walk_at "go"
           exact q H2 s2
       · rw[if_neg h3] at q
         walk_at "go"
         exact q H2 s2
     · walk_at "go"
       intro t nt
       have s2:Same H (upd H1 t (.tup [.str "get",.str "put"])):=s1.put (s1.free nt)
       have ht:upd H1 t (.tup [.str "get",.str "put"]) t=some (.tup [.str "get",.str "put"]):=upd_same
       generalize upd H1 t (.tup [.str "get",.str "put"])=H2 at s2 ht ⊢
       refine⟨t,_,rfl,.inr (SqT.of ht),rfl,rfl,?_⟩
       rw[if_neg Bool.false_ne_true,in_2]
       have hkd2:=s2 kd _ hkd
       refine⟨_,rfl,Xei (fun hv=>?_) (fun hv=>?_)⟩
       · have hv:=or_t hv
         walk_at "go"
         refine Xbj (fun k0=>?_) (fun k0=>?_)
         · walk_at "go"
           refine⟨kd,.int m,rfl,dg hkd2,?_⟩
           walk_at "go"
           refine Xbj (fun k1=>?_) (fun k1=>?_)
           · walk_at "go"
             exact hM _ _ ⟨s2,fun h=>h.2 ⟨k0,k1⟩,rfl⟩
           · walk_at "go"
             rw[if_pos ⟨hv,fun h=>k1 h.2⟩] at q
             exact q H2 s2
         · walk_at "go"
           rw[if_pos ⟨hv,fun h=>k0 h.1⟩] at q
           exact q H2 s2
       · walk_at "go"
         exact hM _ _ ⟨s2,fun h=>or_f hv h.1,rfl⟩
 · walk_at "go"
   refine Xbj (fun h1=>?_) (fun h1=>?_)
   · walk_at "go"
     intro t nt
     have s1:Same H (upd H t (.tup [.str "give",.str "grow"])):=Same.new nt
     have ht:upd H t (.tup [.str "give",.str "grow"]) t=some (.tup [.str "give",.str "grow"]):=upd_same
     generalize upd H t (.tup [.str "give",.str "grow"])=H1 at s1 ht ⊢
     refine⟨t,_,rfl,.inr (SqT.of ht),rfl,rfl,?_⟩
     rw[if_neg Bool.false_ne_true,in_2]
     refine⟨_,rfl,Xei (fun hv=>?_) (fun hv=>?_)⟩
     · walk_at "go"
       rw[if_pos ⟨h1,or_t hv⟩] at q
       exact q H1 s1
     · walk_at "go"
       exact hM _ _ ⟨s1,fun h=>or_f hv h.2,rfl⟩
   · walk_at "go"
     exact hM _ _ ⟨Same.refl _,fun h=>h1 h.1,rfl⟩
def lvK (ps:List Pc):List (Key×V):=(ps.filter fun z=>z.v).map fun z=>(.inl (z.a+1),.int (z.l-2))
def lvN (ps:List Pc):List Int:=(ps.filter fun z=>z.v).map fun z=>z.a+1
theorem Xoh (ps:List Pc):(lvK ps).map (·.1)=(lvN ps).map Sum.inl:=by
 unfold lvK lvN
 rw[List.map_map,List.map_map]
 rfl
theorem Xnf:∀{ps:List Pc} {a e:Int},Xas a ps e→3*((lvK ps).length:Int)≤e-a∧(∀n∈lvN ps,a<n)∧(lvN ps).Nodup
 | [],a,e,h=>by
   have h:a=e:=h
   exact⟨by show 3*((0:Nat):Int)≤_;omega,(fun n hn=>by cases hn),List.nodup_nil⟩
 | z::r,a,e,h=>by
   obtain⟨ea,z1,z3,c⟩:=h
   obtain⟨i1,i2,i3⟩:=Xnf c
   unfold lvK lvN at *
   rw[List.filter_cons]
   by_cases hv:z.v=true
   · rw[if_pos hv]
     have z3:=z3 hv
     refine⟨by rw[List.map_cons,List.length_cons];omega,fun n hn=>?_,?_⟩
     · rw[List.map_cons] at hn
       rcases List.mem_cons.mp hn with w | w
       · omega
       · have:=i2 n w
         omega
     · rw[List.map_cons]
       refine List.nodup_cons.mpr ⟨fun hm=>?_,i3⟩
       have:=i2 _ hm
       omega
   · rw[if_neg hv]
     exact⟨by omega,(fun n hn=>by have:=i2 n hn;omega),i3⟩
theorem XMa (pl:Int):∀ps:List Pc,(valV (lvK ps) (.inl pl)=none∧∀z∈ps,z.v=true→z.a+1≠pl)∨∃z∈ps,z.v=true∧z.a+1=pl∧valV (lvK ps) (.inl pl)=some (.int (z.l-2))
 | []=>.inl ⟨rfl,fun z hz=>by cases hz⟩
 | z::r=>by
   have ih:=XMa pl r
   unfold lvK at *
   rw[List.filter_cons]
   by_cases hv:z.v=true
   · rw[if_pos hv,List.map_cons]
     by_cases he:z.a+1=pl
     · exact .inr ⟨z,List.mem_cons_self,hv,he,by unfold valV;rw[List.find?_cons_of_pos (by simp [he])];rfl⟩
     · have e:∀l:List (Key×V),valV ((.inl (z.a+1),.int (z.l-2))::l) (.inl pl)=valV l (.inl pl):=fun l=>by
         unfold valV
         rw[List.find?_cons_of_neg (by simp [he])]
       rw[e]
       rcases ih with ⟨h1,h2⟩ | ⟨w,hw,h⟩
       · refine .inl ⟨h1,fun w hw=>?_⟩
         rcases List.mem_cons.mp hw with g | g
         · rw[g];exact fun _=>he
         · exact h2 w g
       · exact .inr ⟨w,List.mem_cons_of_mem _ hw,h⟩
   · rw[if_neg hv]
     rcases ih with ⟨h1,h2⟩ | ⟨w,hw,h⟩
     · refine .inl ⟨h1,fun w hw=>?_⟩
       rcases List.mem_cons.mp hw with g | g
       · rw[g];exact fun h=>absurd h hv
       · exact h2 w g
     · exact .inr ⟨w,List.mem_cons_of_mem _ hw,h⟩
def PbW (H1:Hp)(D:Addr)(i:Nat)(ys:List V)(H2:Hp):Prop:=Same H1 H2∧H2 D=some (.lst ys)∧H1 D=none∧∃ns:List Int,ys=ns.map V.int∧ns.length≤i
def Xry:Sp:=fun vs H Q _=>∃(a kd:Addr) (cs:List Int) (ps:List Pc) (c0:Int),vs=[.ref a,.ref kd,.int c0]∧H a=some (.lst (cs.map V.int))∧Xas 0 ps cs.length∧Xat cs ps∧cs.length≤64∧H kd=some (.dK (lvK ps))∧∀(pl:Int) (H':Hp),Same H H'→Q (.int pl) H'
include T in
theorem d_Z24 (S:Src K mg "_law_place_by" Xus)(D_Z64:Defx P w K mg base "_law_walk" 2 ["_law_cells"] (Xip K)):Defx P w K mg base "_law_place_by" 3 ["_law_cells","_law_lives","_law_cell"] (Xry):=by
 refine S.okx Xld XKg (fun vs H Q E h=>by revert h;walk_at "len") (fun f cdv A outer s H vs Q E hr h=>?_)
 refine⟨_,PSs.nox (Xab (Xao (i:=3) Xld.nd rfl (Or.inl rfl) (Xak Xim (Xar (Xlg rfl) (by rfl) T.n_sorted PyProof.Rows.boot_sorted (Xaa (pv 1) Xac)) (Xbu (Xaa (Xak Xbo Xaf Xaf) Xac)))) (Xab (Xao (i:=4) Xld.nd rfl (Or.inl rfl) (Xbn Xbe (pv 3) (Xak Xca (Xak Xca (Xak Xex (pv 2) Xaf) Xaf) (Xar Xbb (by rfl) T.n_len PySem.boot_len (Xaa (pv 3) Xac))) (fun _ _=>rfl))) (Xab (Xao (i:=5) Xld.nd rfl (Or.inl rfl) (Xak Xim (Xon ["_law_piece"] rfl (Xcz (Xai D_Z64 hr (by rfl) (Xaa (pv 0) Xac))) (fun cl C s₀ H₀ ex=>(Xau (i:=0) (show ((["_law_piece"]:List Str)++([]:List Str)).Nodup by decide +kernel) rfl (Or.inl rfl))) (fun cl C s₀ H₀ ex=>(Xdy (Xdb (Xdg (K:=K) rfl (Xbn (Xec (K:=K) rfl) (pv 0) Xaf (fun _ _=>rfl)) (fun _=>rfl))))) (fun cl C s₀ H₀ ex=>(Xak Xbg (Xbn (Xec (K:=K) rfl) (pv 0) Xaf (fun _ _=>rfl)) Xaf)) ) (Xbu (Xaa (Xak Xgl Xaf Xaf) Xac)))) (Xab (Xao (i:=6) Xld.nd rfl (Or.inl rfl) (Xbu (Xaa (pv 4) (Xaa (pv 4) (Xaa (pv 4) (Xaa (Xak Xbg (pv 4) Xaf) (Xaa (Xbn Xbe (pv 5) (Xak Xca (Xak Xca (Xak Xex (pv 2) Xaf) Xaf) (Xar Xbb (by rfl) T.n_len PySem.boot_len (Xaa (pv 5) Xac))) (fun _ _=>rfl)) (Xaa (Xak Xbo (Xak Xca (pv 2) Xaf) Xaf) (Xaa (Xak Xbo Xaf (Xak Xgl Xaf Xaf)) Xac))))))))) (Xae (Xal (Xbn Xbe (pv 6) (Xak Xca (Xak Xii (pv 2) Xaf) Xaf) (fun _ _=>rfl)))))))),?_⟩
 obtain⟨a,kd,cs,ps,c0,rfl,ha,hc,mk,hz,hkd,q⟩:=h
 obtain⟨f1,f2,f3⟩:=Xnf hc
 have hkl:(lvK ps).length=(lvN ps).length:=by unfold lvK lvN;rw[List.length_map,List.length_map]
 walk_at "go"
 refine⟨kd,lvK ps,lvN ps,rfl,hkd,Xoh ps,by omega,fun d1 ms nd1 p1 o1=>?_⟩
 have hml:=p1.length_eq
 walk_at "go"
 intro p np
 refine r_catG (xs:=ms) (zs:=[0-3]) ((Same.new np) d1 _ upd_same) upd_same (by rw[List.length_singleton];omega) (fun p3 H3 _ s3 hp3=>?_)
 have s3:Same H H3:=((Same.new nd1).trans (Same.new np)).trans s3
 generalize eN:ms++[0-3]=ns at hp3
 have hnl:ns.length=ms.length+1:=by rw[←eN,List.length_append,List.length_singleton]
 have i0:=Int.emod_nonneg (c0*48271%30011) (show (ns.length:Int)≠0 by omega)
 have i1:=Int.emod_lt_of_pos (c0*48271%30011) (show (0:Int)<(ns.length:Int) by omega)
 have hnm:(ns.map V.int).length=ns.length:=List.length_map _
 walk_at "go"
 refine⟨a,cs,ps,rfl,s3 a _ ha,hc,mk,by omega,fun lp us H4 nlp s4 hlp pa=>?_⟩
 have hp34:=s4 p3 _ hp3
 have hul:=pa.1
 walk_at "go"
 refine⟨lp,rfl,⟨_,SqL.of hlp⟩,Xcl (K:=K) (a:=lp) (xs:=us) (PbW H4) (fun D hD=>⟨Same.new hD,upd_same,hD,[],rfl,Nat.le_refl _⟩) (fun D i ys H2 _ h=>SqL.of (h.1 lp _ hlp)) ?_ ?_⟩
 · rintro D2 i y ys H6 hD hi ⟨s6,hD6,_,ns6,ey,hyl⟩ τ hτ
   have hil:i<us.length:=(List.getElem?_eq_some_iff.mp hi).1
   obtain⟨z,hzi⟩:∃z,ps[i]?=some z:=⟨_,List.getElem?_eq_getElem (by omega)⟩
   obtain⟨t,et,hT⟩:=pa.2 i z hzi
   have ey2:y = .ref t:=Option.some.inj (hi.symm.trans et)
   subst ey2
   have hT6:=s6 t _ hT
   have hple:=hc.le
   match τ,hτ with
   | [τ0],_ =>
     walk_at "go"
     refine⟨⟨[_],rfl,rfl⟩,?_⟩
     walk_at "go"
     refine Xei (fun hv=>?_) (fun hv=>?_)
     · walk_at "go"
       exact Xdo hil ⟨s6,hD6,hD,ns6,ey,by omega⟩
     · walk_at "go"
       refine⟨hD6,small4000 (by rw[ey,List.length_map];omega),Xdo hil ⟨s6.put hD,upd_same,hD,ns6++[z.a+1],?_,by rw[List.length_append,List.length_singleton];omega⟩⟩
       rw[List.map_append,ey]
       rfl
 rintro D1 ys H6 hD1 ⟨s6,hD16,_,ns6,ey,hyl⟩
 subst ey
 have hp36:=s6 p3 _ hp34
 have hple:=hc.le
 walk_at "go"
 intro p7 np7
 refine r_catG (xs:=ns6) (zs:=[10^Int.toNat 60]) ((Same.new np7) D1 _ hD16) upd_same (by rw[List.length_singleton];omega) (fun p8 H8 _ s8 hp8=>?_)
 have s8:Same H H8:=((s3.trans s4).trans s6).trans ((Same.new np7).trans s8)
 generalize eM:ns6++[10^Int.toNat 60]=ns8 at hp8
 have hnl8:ns8.length=ns6.length+1:=by rw[←eM,List.length_append,List.length_singleton]
 have j0:=Int.emod_nonneg (c0*40692%30011) (show (ns8.length:Int)≠0 by omega)
 have j1:=Int.emod_lt_of_pos (c0*40692%30011) (show (0:Int)<(ns8.length:Int) by omega)
 have hnm8:(ns8.map V.int).length=ns8.length:=List.length_map _
 generalize ns.getD (c0*48271%30011%(ns.length:Int)).toNat 0=one
 walk_at "go"
 intro p9 np9
 generalize ns8.getD (c0*40692%30011%(ns8.length:Int)).toNat 0=two
 have s9:Same H8 (upd H8 p9 (.lst (([one,one,one,one+1,two,c0%450-20,0-10^Int.toNat 60]:List Int).map V.int))):=Same.new np9
 have hp9:upd H8 p9 (.lst (([one,one,one,one+1,two,c0%450-20,0-10^Int.toNat 60]:List Int).map V.int)) p9=some (.lst (([one,one,one,one+1,two,c0%450-20,0-10^Int.toNat 60]:List Int).map V.int)):=upd_same
 generalize eH:upd H8 p9 _=H9
 have eH:upd H8 p9 (.lst (([one,one,one,one+1,two,c0%450-20,0-10^Int.toNat 60]:List Int).map V.int))=H9:=eH
 rw[eH] at s9 hp9
 walk_at "go"
 exact q _ H9 (s8.trans s9)
section
variable {X:Cx}{pins:List (Addr×Obj)}{σ:L2.St}{H:Hp}{s:Shared}{A:Around}
/-! ### lists of flat values compared: the same,or of other lengths -/
theorem Xoi (n:Nat):(List.range n).all (fun _=>true)=true:=by simp
theorem Xjn {a b:Addr}{xs:List V}(I:Inv X pins σ H s)(ha:H a=some (.lst xs))(hb:H b=some (.lst xs))(hf:xs.all Xdj=true) :
   ∃its its2:List Value,s.heap.IsList a its.toArray∧s.heap.IsList b its2.toArray∧its.length=xs.length∧its2.length=xs.length ∧
     ∀j (h1:j<its.toArray.size) (h2:j<its2.toArray.size),SeqAt.EqAt A s its.toArray[j] its2.toArray[j] true:=by
 obtain⟨its,r1,p1,_⟩:=I.list (SqL.of ha)
 obtain⟨its2,r2,p2,_⟩:=I.list (SqL.of hb)
 have l1:=r1.length
 have l2:=r2.length
 refine⟨its,its2,p1.isList,p2.isList,l1.symm,l2.symm,fun j h1 h2=>?_⟩
 rw[List.size_toArray] at h1 h2
 have hj:j<xs.length:=by omega
 obtain⟨u1,e1,q1⟩:=r1.get (i:=j) (x:=xs[j]) (by simp [hj])
 obtain⟨u2,e2,q2⟩:=r2.get (i:=j) (x:=xs[j]) (by simp [hj])
 obtain⟨g1,f1⟩:=List.getElem?_eq_some_iff.mp e1
 obtain⟨g2,f2⟩:=List.getElem?_eq_some_iff.mp e2
 have fl:Xdj xs[j]=true:=List.all_eq_true.mp hf _ (List.getElem_mem hj)
 have z:=Xqv (A:=A) (s:=s) q1 q2 fl fl
 rw[Xnz fl,←f1,←f2] at z
 simpa using z
theorem Xma {a b:Addr}{xs:List V}(hu:A.units<cLine)(I:Inv X pins σ H s)(ha:H a=some (.lst xs))(hb:H b=some (.lst xs))(hf:xs.all Xdj=true):SeqAt.RcAt A s (.ref a) (.ref b) true:=by
 obtain⟨its,its2,p1,p2,l1,l2,he⟩:=Xjn (A:=A.in1) I ha hb hf
 have key:=SeqAt.RcAt.lists (e:=fun _=>true) p1 p2 (by rw[List.size_toArray,List.size_toArray];omega) hu he
 rw[Xoi] at key
 exact key
theorem XPs {a b:Addr}{xs ys:List V}(hu:A.units<cLine)(I:Inv X pins σ H s)(ha:H a=some (.lst xs))(hb:H b=some (.lst ys))(hn:xs.length≠ys.length):SeqAt.RcAt A s (.ref a) (.ref b) false:=by
 obtain⟨its,r1,p1,_⟩:=I.list (SqL.of ha)
 obtain⟨its2,r2,p2,_⟩:=I.list (SqL.of hb)
 have l1:=r1.length
 have l2:=r2.length
 exact SeqAt.RcAt.lists_lengths p1.isList p2.isList (by rw[List.size_toArray,List.size_toArray];simp;omega) hu
end
section
variable {X:Cx}
theorem XBg (hu:X.A.units+64<cLine):OpR X (compareOp .Eq) (fun x y H Q=>∃a b xs,x = .ref a∧y = .ref b∧H a=some (.lst xs)∧H b=some (.lst xs)∧xs.all Xdj=true∧Q (.bl true) H):=by
 intro pins s σ H x y v u Q I rx ry h
 obtain⟨a,b,xs,rfl,rfl,ha,hb,hf,q⟩:=h
 cases rx
 cases ry
 exact Xma (A:=X.A) (by omega) I ha hb hf _ _ _ _ ⟨.bl true,H,I,rfl,q⟩
theorem Xnk (hu:X.A.units+64<cLine):OpR X (compareOp .NotEq) (fun x y H Q=>∃a b xs,x = .ref a∧y = .ref b∧H a=some (.lst xs)∧H b=some (.lst xs)∧xs.all Xdj=true∧Q (.bl false) H):=by
 intro pins s σ H x y v u Q I rx ry h
 obtain⟨a,b,xs,rfl,rfl,ha,hb,hf,q⟩:=h
 cases rx
 cases ry
 obtain⟨its,its2,p1,p2,l1,l2,he⟩:=Xjn (A:=X.A.in1) I ha hb hf
 have key:=SeqAt.RcNeAt.lists (A:=X.A) (e:=fun _=>true) p1 p2 (by rw[List.size_toArray,List.size_toArray];omega) (by omega) he
 rw[Xoi] at key
 exact key _ _ _ _ ⟨.bl false,H,I,rfl,q⟩
open Classical in
/-- a list that is one of two,the first of them empty -/
theorem Xpj (hu:X.A.units+64<cLine):OpR X (compareOp .NotIn) (fun x y H Q=>∃l t l0 l1 xs,x = .ref l∧y = .ref t∧H t=some (.tup [.ref l0,.ref l1])∧H l0=some (.lst [])∧H l1=some (.lst xs)∧xs.length≠0∧xs.all Xdj=true∧(H l=some (.lst [])∨H l=some (.lst xs))∧Q (.bl false) H):=by
 intro pins s σ H x y v u Q I rx ry h
 obtain⟨l,t,l0,l1,xs,rfl,rfl,ht,h0,h1,hn,hf,hl,q⟩:=h
 cases rx
 cases ry
 obtain⟨its,r,p,_⟩:=I.tuple (SqT.of ht)
 obtain⟨w0,w1,rfl,r0,r1⟩:=Xtt r
 cases r0
 cases r1
 have ne:l0≠l1:=fun e=>by
   rw[e,h1] at h0
   exact hn (by rw[HO.lst.inj (Option.some.inj h0)];rfl)
 have eqOf:∀{a:Addr} {ys:List V},H a=some (.lst ys)→ys.all Xdj=true→H l=some (.lst ys)→SeqAt.EqAt X.A.in1 s (.ref a) (.ref l) true:=fun {a ys} ha hy hh=>by
   by_cases e:a=l
   · rw[e]
     exact SeqAt.EqAt.same _
   · exact SeqAt.EqAt.of_refs e (Xma (A:=X.A.in1) (by show X.A.units+1<cLine;omega) I ha hh hy)
 have neOf:∀{a:Addr} {ys zs:List V},H a=some (.lst ys)→H l=some (.lst zs)→ys.length≠zs.length→SeqAt.EqAt X.A.in1 s (.ref a) (.ref l) false:=fun {a ys zs} ha hh hlen =>
   SeqAt.EqAt.of_refs (fun e=>by rw[e,hh] at ha;exact hlen (by rw[HO.lst.inj (Option.some.inj ha)])) (XPs (A:=X.A.in1) (by show X.A.units+1<cLine;omega) I ha hh hlen)
 have main:∃b:Bool,SeqAt.EqAt X.A.in1 s (.ref l0) (.ref l) b∧SeqAt.EqAt X.A.in1 s (.ref l1) (.ref l) (!b):=by
   rcases hl with hl | hl
   · exact⟨true,eqOf h0 rfl hl,neOf h1 hl hn⟩
   · exact⟨false,neOf h0 hl (fun e=>hn e.symm),eqOf h1 hf hl⟩
 obtain⟨b,e0,e1⟩:=main
 refine SeqAt.notIn_tupleAt (fun w=>if w = .ref l0 then b else !b) p (fun w hw=>?_) ⟨.bl _,H,I,rfl,?_⟩
 · have hw:w∈[Value.ref l0,Value.ref l1]:=by simpa using hw
   rcases List.mem_cons.mp hw with e | e
   · rw[e,if_pos rfl]
     exact e0
   · rw[List.mem_singleton.mp e,if_neg (fun h=>ne (Value.ref.inj h).symm)]
     exact e1
 · have:([Value.ref l0,Value.ref l1].toArray.any fun w=>if w = .ref l0 then b else !b)=true:=by
     rw[List.any_toArray,List.any_cons,List.any_cons,if_pos rfl,if_neg (fun h=>ne (Value.ref.inj h).symm)]
     cases b <;> rfl
   rw[this]
   exact q
end
theorem XAy {σ:L2.St}{H:Hp}{Q:VK}{td ty tx:TE}(h:td σ H fun x H1=>∃a,x = .ref a∧IsD H1 a∧ty σ H1 fun y H2=>tx σ H2 fun z H3=>∃o,DGet H3 a y o∧Q (o.getD z) H3):Xzp td ty tx σ H Q:=h
def PrA (H:Hp)(us:List V)(qs:List (Key×V)):Prop:=us.length=qs.length∧∀(j:Nat) (q:Key×V),qs[j]?=some q→∃t,us[j]?=some (.ref t)∧H t=some (.tup [kV q.1,q.2])
def PrW (H1:Hp)(ps:List Pc)(D:Addr)(i:Nat)(ys:List V)(H2:Hp):Prop:=Same H1 H2∧H2 D=some (.lst ys)∧H1 D=none∧PrA H2 ys (lvK (ps.take i))∧ys.length≤i
theorem PrA.snoc {H H':Hp}{us:List V}{qs:List (Key×V)}{t:Addr}{q:Key×V}(h:PrA H us qs)(k:∀b xs,H b=some (.tup xs)→H' b=some (.tup xs))(ht:H' t=some (.tup [kV q.1,q.2])):PrA H' (us++[.ref t]) (qs++[q]):=by
 refine⟨by rw[List.length_append,List.length_append,h.1];rfl,fun j q' hq=>?_⟩
 rcases Nat.lt_trichotomy j qs.length with g | g | g
 · rw[List.getElem?_append_left g] at hq
   obtain⟨t',h1,h2⟩:=h.2 j q' hq
   exact⟨t',by rw[List.getElem?_append_left (by rw[h.1];exact g)];exact h1,k _ _ h2⟩
 · subst g
   rw[List.getElem?_append_right (Nat.le_refl _),Nat.sub_self] at hq
   have e:q=q':=Option.some.inj hq
   subst e
   exact⟨t,by rw[List.getElem?_append_right (by rw[h.1];exact Nat.le_refl _),h.1,Nat.sub_self];rfl,ht⟩
 · rw[List.getElem?_eq_none (by rw[List.length_append,List.length_singleton];omega)] at hq
   cases hq
theorem Xya {ps:List Pc}{i:Nat}{z:Pc}(h:ps[i]?=some z):lvK (ps.take (i+1))=lvK (ps.take i)++(if z.v=true then [(.inl (z.a+1),.int (z.l-2))] else []):=by
 unfold lvK
 rw[List.take_add_one,h,List.filter_append,List.map_append]
 congr 1
 simp only [Option.toList_some,List.filter_cons,List.filter_nil]
 split <;> rfl
theorem Xsy {ns:List Int}(h:ns.Nodup):(ns.map (Sum.inl:Int→Key)).Nodup:=by
 induction ns with
 | nil=>exact List.nodup_nil
 | cons n r ih =>
   obtain⟨h1,h2⟩:=List.nodup_cons.mp h
   rw[List.map_cons]
   refine List.nodup_cons.mpr ⟨fun g=>?_,ih h2⟩
   obtain⟨m,g1,g2⟩:=List.mem_map.mp g
   rw[←Sum.inl.inj g2] at h1
   exact h1 g1
theorem Xyt {P:Int→Prop}{ns:List Int}(h0:P 0)(h:∀n∈ns,P n)(i:Nat):P (ns.getD i 0):=by
 rw[List.getD_eq_getElem?_getD]
 cases e:ns[i]? with
 | none=>exact h0
 | some n=>exact h n (List.mem_of_getElem? e)
def whs:List Str:=["ask","give","grow","many","get","put"]
theorem Xcg {H H':Hp}{p:Addr}{o:HO}(np:H p=none)(e:upd H p o=H'):Same H H'∧H' p=some o:=by
 subst e
 exact⟨Same.new np,upd_same⟩
theorem Xhs (c b:Int):(aduF c b="ask"∧(c<1∨b<1))∨(aduF c b="bound"∧1≤c∧1≤b∧b≠1)∨(aduF c b=""∧1≤c∧b=1):=by
 unfold aduF
 by_cases h1:c<1
 · rw[if_pos h1];exact .inl ⟨rfl,.inl h1⟩
 rw[if_neg h1]
 by_cases h2:b<1
 · rw[if_pos h2];exact .inl ⟨rfl,.inr h2⟩
 rw[if_neg h2]
 by_cases h3:b=1
 · rw[if_pos h3];exact .inr (.inr ⟨rfl,by omega,h3⟩)
 · rw[if_neg h3];exact .inr (.inl ⟨rfl,by omega,by omega,h3⟩)
def LvA (ps:List Pc)(pl:Int)(lv:Option Int):Prop:=(lv=none∧∀z∈ps,z.v=true→z.a+1≠pl)∨∃z∈ps,z.v=true∧z.a+1=pl∧lv=some (z.l-2)
def RsF (CE:Er3→Addr)(C:W3→Addr)(H:Hp)(vs:List V)(e:Er3):Prop:=DnF C (CE .ask) (CE .bound) (CE .room) (CE .piece) (CE .cell) (CE .give) H vs (fun H1 EX=>∀H',Same H1 H'→EX (.ref (CE e)) none H') (fun _ _=>True)
section
variable {C:W3→Addr}{CE:Er3→Addr}{x dx a:Addr}{q:St3}{cs:List Int}{H:Hp}{wh:Str}{lv:Option Int}{pl c b k:Int}
theorem Xjl (S:KS C x dx a q cs H)(hc:c+2<2^220)(e:Er3)(h:(e = .ask∧(c<1∨b<1))∨(e = .bound∧1≤c∧1≤b∧b≠1)∨(e = .room∧1≤c∧b=1∧No3 c q)):RsF CE C H [.ref x,.str "ask",.int pl,.int c,.int b,.int k] e:=by
 intro H1 s1 QV EX hE _
 refine⟨x,_,pl,c,b,k,rfl,.inl ⟨rfl,_,x,dx,a,q,cs,c,b,rfl,rfl,S.same s1,hc,?_⟩⟩
 rcases h with ⟨rfl,h⟩ | ⟨rfl,h1,h2,h3⟩ | ⟨rfl,h1,h2,h3⟩
 · exact⟨fun _=>hE,fun _ _ _=>by omega,fun _ _=>by omega⟩
 · exact⟨fun _=>by omega,fun _ _ _=>hE,fun _ _=>by omega⟩
 · exact⟨fun _=>by omega,fun _ _ _=>by omega,fun _ _=>.inl ⟨h3,hE⟩⟩
theorem Xqr (S:KS C x dx a q cs H)(hc:c+2<2^220){row:Prop}[Decidable row](hr:row↔q.let3 = .row)(hw:wh="ask"∨wh="give"∨wh="grow"∨wh="many"∨wh="get"∨wh="put")(hl:LvA q.ps pl lv)(hd:dueF row wh lv c b k q.s≠"") :
   ∃e,wE3 e=dueF row wh lv c b k q.s∧RsF CE C H [.ref x,.str wh,.int pl,.int c,.int b,.int k] e:=by
 unfold dueF at hd ⊢
 by_cases h0:wh="ask"
 · subst h0
   rw[if_pos rfl] at hd ⊢
   rcases Xhs c b with ⟨e,h⟩ | ⟨e,h⟩ | ⟨e,h1,h2⟩
   · rw[e,if_neg (by decide)]
     exact⟨.ask,rfl,Xjl S hc _ (.inl ⟨rfl,h⟩)⟩
   · rw[e,if_neg (by decide)]
     exact⟨.bound,rfl,Xjl S hc _ (.inr (.inl ⟨rfl,h⟩))⟩
   · rw[if_pos e] at hd ⊢
     by_cases h3:q.s<c+2
     · rw[if_pos h3]
       exact⟨.room,rfl,Xjl S hc _ (.inr (.inr ⟨rfl,h1,h2,Xue S.ok h3⟩))⟩
     · rw[if_neg h3] at hd
       exact absurd rfl hd
 rw[if_neg h0] at hd ⊢
 by_cases h1:row∧(wh="give"∨wh="grow")
 · rw[if_pos h1]
   refine⟨.give,rfl,fun H1 s1 QV EX hE _=>⟨x,_,pl,c,b,k,rfl,?_⟩⟩
   have hq:=hr.mp h1.1
   rcases h1.2 with rfl | rfl
   · exact .inr (.inl ⟨rfl,_,x,dx,a,q,cs,pl,rfl,rfl,S.same s1,.inl ⟨hq,hE⟩⟩)
   · exact .inr (.inr (.inl ⟨rfl,_,x,dx,a,q,cs,pl,c,b,rfl,rfl,S.same s1,hc,fun _=>hE,fun h=>absurd hq h,fun h=>absurd hq h⟩))
 rw[if_neg h1] at hd ⊢
 have hnr:wh="give"∨wh="grow"→q.let3≠.row:=fun h g=>h1 ⟨hr.mpr g,h⟩
 rcases hl with ⟨rfl,hno⟩ | ⟨z,hz,hv,hp,rfl⟩
 · refine⟨.piece,rfl,fun H1 s1 QV EX hE _=>⟨x,_,pl,c,b,k,rfl,?_⟩⟩
   rcases hw with rfl | rfl | rfl | rfl | rfl | rfl
   · exact absurd rfl h0
   · exact .inr (.inl ⟨rfl,_,x,dx,a,q,cs,pl,rfl,rfl,S.same s1,.inr (.inl ⟨hnr (.inl rfl),hno,hE⟩)⟩)
   · exact .inr (.inr (.inl ⟨rfl,_,x,dx,a,q,cs,pl,c,b,rfl,rfl,S.same s1,hc,fun h=>absurd h (hnr (.inr rfl)),fun _ _=>hE,fun _ z hz hv he=>absurd he (hno z hz hv)⟩))
   · exact .inr (.inr (.inr (.inl ⟨rfl,_,_,x,dx,a,cs,_,pl,rfl,(S.same s1).bs,fun _=>hE,fun z hz hv he=>absurd he (hno z hz hv)⟩)))
   · exact .inr (.inr (.inr (.inr (.inl ⟨rfl,_,_,x,dx,a,cs,_,pl,k,rfl,(S.same s1).bs,fun _=>hE,(fun z hz hv he=>absurd he (hno z hz hv)),fun z hz hv he=>absurd he (hno z hz hv)⟩))))
   · exact .inr (.inr (.inr (.inr (.inr ⟨rfl,_,_,x,dx,a,cs,_,pl,k,c,rfl,(S.same s1).bs,fun _=>hE,(fun z hz hv he=>absurd he (hno z hz hv)),fun z hz hv he=>absurd he (hno z hz hv)⟩))))
 dsimp only at hd ⊢
 have hz1:∀z1∈q.ps,z1.v=true→z1.a+1=pl→z1=z:=fun z1 h1 _ h2=>Xce S.ch h1 hz (by omega)
 by_cases h2:(wh="get"∨wh="put")∧¬(0≤k∧k<z.l-2)
 · rw[if_pos h2]
   refine⟨.cell,rfl,fun H1 s1 QV EX hE _=>⟨x,_,pl,c,b,k,rfl,?_⟩⟩
   have bad:∀z1∈q.ps,z1.v=true→z1.a+1=pl→0≤k→k<z1.l-2→False:=fun z1 g1 g2 g3 g4 g5=>by
     rw[hz1 z1 g1 g2 g3] at g5
     exact h2.2 ⟨g4,g5⟩
   rcases h2.1 with rfl | rfl
   · exact .inr (.inr (.inr (.inr (.inl ⟨rfl,_,_,x,dx,a,cs,_,pl,k,rfl,(S.same s1).bs,fun h=>absurd hp (h z hz hv),(fun _ _ _ _ _=>hE),fun z1 g1 g2 g3 g4 g5=>(bad z1 g1 g2 g3 g4 g5).elim⟩))))
   · exact .inr (.inr (.inr (.inr (.inr ⟨rfl,_,_,x,dx,a,cs,_,pl,k,c,rfl,(S.same s1).bs,fun h=>absurd hp (h z hz hv),(fun _ _ _ _ _=>hE),fun z1 g1 g2 g3 g4 g5=>(bad z1 g1 g2 g3 g4 g5).elim⟩))))
 rw[if_neg h2] at hd ⊢
 by_cases h3:wh="grow"
 · subst h3
   rw[if_pos rfl] at hd ⊢
   have hnr:=hnr (.inr rfl)
   have gr:∀e,((e = .ask∧(c<1∨b<1))∨(e = .bound∧1≤c∧1≤b∧b≠1)∨(e = .room∧1≤c∧b=1∧z.l-2<c∧q.s<c+2))→RsF CE C H [.ref x,.str "grow",.int pl,.int c,.int b,.int k] e:=fun e h H1 s1 QV EX hE _=>by
     refine⟨x,_,pl,c,b,k,rfl,.inr (.inr (.inl ⟨rfl,_,x,dx,a,q,cs,pl,c,b,rfl,rfl,S.same s1,hc,fun h=>absurd h hnr,fun _ h=>absurd hp (h z hz hv),fun _ z1 g1 g2 g3=>?_⟩))⟩
     rw[hz1 z1 g1 g2 g3]
     rcases h with ⟨rfl,h⟩ | ⟨rfl,h1,h2,h3⟩ | ⟨rfl,h1,h2,h3,h4⟩
     · exact⟨fun _=>hE,fun _ _ _=>by omega,fun _ _=>by omega,fun _ _=>by omega⟩
     · exact⟨fun _=>by omega,fun _ _ _=>hE,fun _ _=>by omega,fun _ _=>by omega⟩
     · exact⟨fun _=>by omega,fun _ _ _=>by omega,fun _ _ _=>by omega,fun _ _ _=>⟨h4,hE⟩⟩
   rcases Xhs c b with ⟨e,h⟩ | ⟨e,h⟩ | ⟨e,h1,h2⟩
   · rw[e,if_neg (by decide)]
     exact⟨.ask,rfl,gr _ (.inl ⟨rfl,h⟩)⟩
   · rw[e,if_neg (by decide)]
     exact⟨.bound,rfl,gr _ (.inr (.inl ⟨rfl,h⟩))⟩
   · rw[if_pos e] at hd ⊢
     by_cases h3:z.l-2<c
     · rw[if_pos h3] at hd ⊢
       by_cases h4:q.s<c+2
       · rw[if_pos h4]
         exact⟨.room,rfl,gr _ (.inr (.inr ⟨rfl,h1,h2,h3,h4⟩))⟩
       · rw[if_neg h4] at hd
         exact absurd rfl hd
     · rw[if_neg h3] at hd
       exact absurd rfl hd
 · rw[if_neg h3] at hd
   exact absurd rfl hd
theorem Xxz {row:Prop}[Decidable row]{ps:List Pc}{mo:Int}(hw:wh="ask"∨wh="give"∨wh="grow"∨wh="many"∨wh="get"∨wh="put")(hl:LvA ps pl lv)(hd:dueF row wh lv c b k mo="")(h1:wh≠"ask")(h2:wh≠"give")(h3:wh="grow"→∀m,lv=some m→c≤m) :
   ∃z∈ps,z.v=true∧z.a+1=pl∧lv=some (z.l-2)∧(wh="many"∨(wh="get"∧0≤k∧k<z.l-2)∨(wh="put"∧0≤k∧k<z.l-2)∨(wh="grow"∧¬row∧1≤c∧b=1∧c≤z.l-2)):=by
 unfold dueF at hd
 rw[if_neg h1] at hd
 by_cases g1:row∧(wh="give"∨wh="grow")
 · rw[if_pos g1] at hd
   cases hd
 rw[if_neg g1] at hd
 rcases hl with ⟨rfl,hno⟩ | ⟨z,hz,hv,hp,rfl⟩
 · cases hd
 dsimp only at hd
 refine⟨z,hz,hv,hp,rfl,?_⟩
 by_cases g2:(wh="get"∨wh="put")∧¬(0≤k∧k<z.l-2)
 · rw[if_pos g2] at hd
   cases hd
 rw[if_neg g2] at hd
 have gk:wh="get"∨wh="put"→0≤k∧k<z.l-2:=fun h=>by
   by_cases g:0≤k∧k<z.l-2
   · exact g
   · exact absurd ⟨h,g⟩ g2
 rcases hw with h | h | h | h | h | h
 · exact absurd h h1
 · exact absurd h h2
 · refine .inr (.inr (.inr ⟨h,fun g=>g1 ⟨g,.inr h⟩,?_⟩))
   rw[if_pos h] at hd
   rcases Xhs c b with ⟨e,_⟩ | ⟨e,_⟩ | ⟨e,h4,h5⟩
   · rw[e,if_neg (by decide)] at hd
     cases hd
   · rw[e,if_neg (by decide)] at hd
     cases hd
   · exact⟨h4,h5,h3 h _ rfl⟩
 · exact .inl h
 · exact .inr (.inl ⟨h,gk (.inl h)⟩)
 · exact .inr (.inr (.inl ⟨h,gk (.inr h)⟩))
end
theorem XLw {n:Nat}(h:n<6):(whs.map V.str)[n]?=some (.str (whs.getD n "")):=by
 rw[List.getElem?_map,List.getD_eq_getElem?_getD,List.getElem?_eq_getElem (show n<whs.length from h)]
 rfl
theorem XEy:∀{n:Nat},n<6→whs.getD n ""="ask"∨whs.getD n ""="give"∨whs.getD n ""="grow"∨whs.getD n ""="many"∨whs.getD n ""="get"∨whs.getD n ""="put"
 | 0,_=>.inl rfl
 | 1,_=>.inr (.inl rfl)
 | 2,_=>.inr (.inr (.inl rfl))
 | 3,_=>.inr (.inr (.inr (.inl rfl)))
 | 4,_=>.inr (.inr (.inr (.inr (.inl rfl))))
 | 5,_=>.inr (.inr (.inr (.inr (.inr rfl))))
def Xsq (C:W3→Addr):Sp:=fun vs H Q _=>∃(x dx a:Addr) (q:St3) (cs:List Int) (ki c0:Int),vs=[.ref x,.int ki,.int c0,.int q.s]∧(ki=2↔q.let3 = .row)∧KS C x dx a q cs H∧cs.length≤64 ∧
 ∀(cs':List Int) (H':Hp),Xbh a H H'→cs'.length=cs.length→KS C x dx a q cs' H'→Q (.bl true) H'
seal L2.PSs L2.PS L2.PE L2.PA in
include T in
theorem d_Z62 (S:Src K mg "_law_step" Xuk)(D_Z72:Xba P w K mg base (cF Y7 Y5 Y17) "cells" 1 ["self"] [] (Xcw (cF Y7 Y5 Y17)))(D_Z64:Defx P w K mg base "_law_walk" 2 ["_law_cells"] (Xip K))(D_Z24:Defx P w K mg base "_law_place_by" 3 ["_law_cells","_law_lives","_law_cell"] (Xry))(D_Z68:Defx P w K mg base "_law_due" 2 ["_law_kind","_law_which","_law_lives","_law_place","_law_count","_law_bound","_law_k","_law_most"] (Xzq))(D_Z65:Defx P w K mg base "_law_call" 12 ["_law_keeper","_law_which","_law_place","_law_count","_law_bound","_law_k"] (Xkn (cF Y7 Y5 Y17) (cE3 Y10 Y4 Y9 Y16 Y3 Y13) Y16 Y3 Y13 Y4 Y9 Y10))(D_Z49:Defx P w K mg base "_law_whole" 1 ["_law_found"] (Xki))(D_get:Xba P w K mg base (cF Y7 Y5 Y17) "get" 9 ["self","place","k"] [] (Xvz (cF Y7 Y5 Y17) Y4 Y9)):Defx P w K mg base "_law_step" 13 ["_law_keeper","_law_kind","_law_cell","_law_most"] (Xsq (cF Y7 Y5 Y17)):=by
 refine S.okx Xdz XLn (fun vs H Q E h=>by revert h;walk_at "len") (fun f cdv A outer s H vs Q E hr h=>?_)
 refine⟨_,PSs.nox (Xab (Xao (i:=4) Xdz.nd rfl (Or.inl rfl) (Xbi D_Z72 Xav hr (pv 0))) (Xab (Xbd (Xag Xlx (Xai D_Z64 hr (by rfl) (Xaa (pv 4) Xac)) Xdu (Xaj _)) (Xae (Xal Xdc)) Xam) (Xab (Xao (i:=5) Xdz.nd rfl (Or.inl rfl) (Xcx (Xpu rfl) (by rfl) T.n_dict PyProof.Rows.boot_dict (Xaa (Xon ["_law_piece"] rfl (Xcz (Xai D_Z64 hr (by rfl) (Xaa (pv 4) Xac))) (fun cl C s₀ H₀ ex=>(Xau (i:=0) (show ((["_law_piece"]:List Str)++([]:List Str)).Nodup by decide +kernel) rfl (Or.inl rfl))) (fun cl C s₀ H₀ ex=>(Xdy (Xdg (K:=K) rfl (Xbn (Xec (K:=K) rfl) (pv 0) Xaf (fun _ _=>rfl)) (fun _=>rfl)))) (fun cl C s₀ H₀ ex=>(Xeb (Xaa (Xak Xbg (Xbn (Xec (K:=K) rfl) (pv 0) Xaf (fun _ _=>rfl)) Xaf) (Xaa (Xak Xbo (Xbn (Xec (K:=K) rfl) (pv 0) Xaf (fun _ _=>rfl)) Xaf) Xac)))) ) Xac))) (Xab (Xao (i:=6) Xdz.nd rfl (Or.inl rfl) (Xbn Xbe (Xbu (Xaa Xan (Xaa Xan (Xaa Xan (Xaa Xan (Xaa Xan (Xaa Xan Xac))))))) (Xak Xca (pv 2) Xaf) (fun _ _=>rfl))) (Xab (Xao (i:=7) Xdz.nd rfl (Or.inl rfl) (Xai D_Z24 hr (by rfl) (Xaa (pv 4) (Xaa (pv 5) (Xaa (pv 2) Xac))))) (Xab (Xao (i:=8) Xdz.nd rfl (Or.inl rfl) (Xbn Xbe (Xbu (Xaa Xaf (Xaa Xaf (Xaa (Xak Xbo Xaf (Xak Xgl Xaf Xaf)) (Xaa (Xak Xbo (pv 3) Xaf) (Xaa (Xak Xbg (pv 3) (Xak Xca (pv 2) Xaf)) (Xaa (Xak Xgl Xaf Xaf) (Xaa Xaf Xac)))))))) (Xak Xca (Xak Xca (Xak Xex (pv 2) Xaf) Xaf) Xaf) (fun _ _=>rfl))) (Xab (Xao (i:=9) Xdz.nd rfl (Or.inl rfl) (Xbn Xbe (Xbu (Xaa Xaf (Xaa Xaf (Xaa Xaf (Xaa Xaf (Xaa Xaf (Xaa (Xak Xbo Xaf (Xak Xgl Xaf Xaf)) (Xaa (Xak Xgl Xaf Xaf) Xac)))))))) (Xak Xca (Xak Xca (Xak Xex (pv 2) Xaf) Xaf) Xaf) (fun _ _=>rfl))) (Xab (Xao (i:=10) Xdz.nd rfl (Or.inl rfl) (Xyl (Xln hr.units) (pv 5) (pv 7) Xaf ⟨rfl,rfl,rfl,rfl⟩)) (Xab (Xao (i:=11) Xdz.nd rfl (Or.inl rfl) (Xbn Xbe (Xbu (Xaa (Xak Xbo Xaf Xaf) (Xaa Xaf (Xaa (Xak Xbo (pv 10) Xaf) (Xaa (pv 10) (Xaa (Xak Xgl Xaf Xaf) (Xaa (Xak Xbo Xaf (Xak Xgl Xaf Xaf)) Xac))))))) (Xak Xca (Xak Xca (Xak Xex (pv 2) Xaf) Xaf) Xaf) (fun _ _=>rfl))) (Xab (Xao (i:=12) Xdz.nd rfl (Or.inl rfl) (Xai D_Z68 hr (by rfl) (Xaa (pv 1) (Xaa (pv 6) (Xaa (pv 5) (Xaa (pv 7) (Xaa (pv 8) (Xaa (pv 9) (Xaa (pv 11) (Xaa (pv 3) Xac)))))))))) (Xab (Xbd (PW.pt (Xge (PW.pt (Xdi (Xag Xcd (pv 12) Xan (Xaj _)) (Xda (Xag Xhl (pv 6) (Xeb (Xaa Xan (Xaa Xan Xac))) rfl)))) (Xek (PW.pt (Xdi (Xag Xcd (pv 12) Xan (Xaj _)) (Xdi (Xag Xcd (pv 6) Xan (Xaj _)) (Xda (Xag Xke (pv 8) (Xmn (Xln hr.units) (pv 5) (pv 7) (fun _ _=>rfl)) (Xaj _))))))))) (Xae (Xal Xdc)) Xam) (Xab (Xea (Xai D_Z65 hr (by rfl) (Xaa (pv 0) (Xaa (pv 6) (Xaa (pv 7) (Xaa (pv 8) (Xaa (pv 9) (Xaa (pv 11) Xac))))))) (Xgp rfl (Xax (Xau (i:=13) Xdz.nd rfl (Or.inl rfl)) (Xax (Xau (i:=14) Xdz.nd rfl (Or.inl rfl)) Xdh)))) (Xab (Xbd (Xag Xkp (pv 12) Xan (Xaj _)) (Xae (Xal (Xfq (Xch (XBg hr.units) (pv 13) (Xbu (Xaa (pv 12) (Xaa Xan Xac))) (Xaj _)) (Xgm (Xch (XAb hr.units) (Xbi D_Z72 Xav hr (pv 0)) (pv 4) (Xaj _)))))) Xam) (Xab (Xbd (Xag (Xnk hr.units) (pv 13) (Xbu Xac) (Xaj _)) (Xae (Xal Xdc)) Xam) (Xab (Xbd (Xag Xcd (pv 6) Xan (Xaj _)) (Xae (Xal (Xfq (Xch Xlx (pv 14) Xdu (Xaj _)) (Xfq (Xai D_Z49 hr (by rfl) (Xaa (Xay D_get Xav hr (pv 0) (Xaa (pv 7) (Xaa (pv 11) Xac))) Xac)) (Xgm (Xch Xcd (Xay D_get Xav hr (pv 0) (Xaa (pv 7) (Xaa (pv 11) Xac))) (pv 8) (Xaj _))))))) Xam) (Xab (Xbd (Xag Xcd (pv 6) Xan (Xaj _)) (Xae (Xal (Xfq (Xai D_Z49 hr (by rfl) (Xaa (pv 14) Xac)) (Xgm (Xch Xcd (pv 14) (Xbn Xbe (pv 4) (Xak Xbg (pv 7) (pv 11)) (fun _ _=>rfl)) (Xaj _)))))) Xam) (Xae (Xal (Xfq (Xai D_Z49 hr (by rfl) (Xaa (pv 14) Xac)) (Xfq (Xch Xcd (pv 14) (Xbn Xbe (Xbu (Xaa (pv 10) (Xaa (pv 7) Xac))) (Xcx Xrr (by rfl) T.n_int PyProof.Rows.boot_int (Xaa (Xch Xcd (pv 6) Xan (Xaj _)) Xac)) (fun _ _=>rfl)) (Xaj _)) (Xgm (Xch (XAb hr.units) (Xbi D_Z72 Xav hr (pv 0)) (pv 4) (Xaj _))))))))))))))))))))))),?_⟩
 obtain⟨x,dx,a,q3,cs,ki,c0,rfl,hki,S,hz,q⟩:=h
 have hx:=S.hx
 have ch:=S.ch
 have hple:=ch.le
 walk_at "go"
 refine⟨_,x,dx,a,cs,rfl,hx,S.ha,fun pc H1 npc s1 hpc=>?_⟩
 walk_at "go"
 refine⟨pc,cs,q3.ps,rfl,hpc,ch,S.mm,S.hz,fun lp0 us0 H2 nlp0 s2 hlp0 pa0=>?_⟩
 have hpc2:=s2 pc _ hpc
 walk_at "go"
 refine⟨pc,cs,q3.ps,rfl,hpc2,ch,S.mm,S.hz,fun lp us H3 nlp s3 hlp pa=>?_⟩
 have hul:=pa.1
 walk_at "go"
 refine⟨lp,rfl,⟨_,SqL.of hlp⟩,Xcl (K:=K) (a:=lp) (xs:=us) (PrW H3 q3.ps) (fun D hD=>⟨Same.new hD,upd_same,hD,⟨rfl,fun j q h=>by simp [lvK] at h⟩,Nat.le_refl _⟩) (fun D i ys H2 _ h=>SqL.of (h.1 lp _ hlp)) ?_ ?_⟩
 · rintro D2 i y ys H4 hD hi ⟨s4,hD4,_,pr,hyl⟩ τ hτ
   have hil:i<us.length:=(List.getElem?_eq_some_iff.mp hi).1
   obtain⟨z,hzi⟩:∃z,q3.ps[i]?=some z:=⟨_,List.getElem?_eq_getElem (by omega)⟩
   obtain⟨t,et,hT⟩:=pa.2 i z hzi
   have ey2:y = .ref t:=Option.some.inj (hi.symm.trans et)
   subst ey2
   have hT4:=s4 t _ hT
   have ef:=Xya hzi
   match τ,hτ with
   | [τ0],_ =>
     walk_at "go"
     refine⟨⟨[_],rfl,rfl⟩,?_⟩
     walk_at "go"
     refine Xei (fun hv=>?_) (fun hv=>?_)
     · walk_at "go"
       intro t2 nt2
       rw[if_pos hv] at ef
       refine⟨look_put nt2 hD4,small4000 (by omega),Xdo hil ⟨(s4.put (s4.free nt2)).put hD,upd_same,hD,?_,by rw[List.length_append,List.length_singleton];omega⟩⟩
       rw[ef]
       have hne:t2≠D2:=fun w=>by rw[w,hD4] at nt2;cases nt2
       exact pr.snoc (q:=(.inl (z.a+1),.int (z.l-2))) (fun b xs e=>look_ne (fun w=>by rw[w,hD4] at e;cases e) (look_ne (fun w=>by rw[w,nt2] at e;cases e) e)) (look_ne hne upd_same)
     · walk_at "go"
       rw[if_neg (by rw[hv];exact Bool.false_ne_true),List.append_nil] at ef
       exact Xdo hil ⟨s4,hD4,hD,by rw[ef];exact pr,by omega⟩
 rintro dl ys H4 hD ⟨s4,hD4,_,pr,hyl⟩
 rw[List.take_of_length_le (by omega)] at pr
 obtain⟨f1,_,f3⟩:=Xnf ch
 walk_at "go"
 refine⟨dl,ys,lvK q3.ps,rfl,hD4,pr.1,pr.2,by rw[Xoh];exact Xsy f3,Nat.le_of_lt (small4000 (by omega)),fun ld nld=>?_⟩
 have s5:Same H4 (upd H4 ld (.dK (lvK q3.ps))):=Same.new nld
 have hld:upd H4 ld (.dK (lvK q3.ps)) ld=some (.dK (lvK q3.ps)):=upd_same
 generalize upd H4 ld (.dK (lvK q3.ps))=H5 at s5 hld ⊢
 have s15:Same H1 H5:=((s2.trans s3).trans s4).trans s5
 have hpc5:=s15 pc _ hpc
 have s05:=s1.trans s15
 clear hlp0 pa0 hlp pa hul pr hyl hD4 hD s2 s3 s4 s5 s15 hpc2 hpc nlp nlp0 nld
 walk_at "go"
 intro wl nwl
 generalize eH:upd H5 wl _=H6
 obtain⟨s6,hwl⟩:=Xcg nwl eH
 have hwl:H6 wl=some (.lst (whs.map V.str)):=hwl
 clear eH
 walk_at "go"
 obtain⟨n,hn⟩:∃n:Nat,c0%6=n:=⟨(c0%6).toNat,by omega⟩
 have hn6:n<6:=by omega
 have hw:=XEy hn6
 rw[hn]
 refine Xpq (SqL.of hwl) (Xqu (XLw hn6)) ?_
 generalize whs.getD n ""=wh at hw ⊢
 have hpc6:=s6 pc _ hpc5
 have hld6:=s6 ld _ hld
 walk_at "go"
 refine⟨pc,ld,cs,q3.ps,c0,rfl,hpc6,ch,S.mm,hz,hld6,fun pl H7 s7=>?_⟩
 have s67:=s6.trans s7
 have hT:(10:Int)^Int.toNat 60+2<2^220:=by decide
 have hS:(1000:Int)<2^220:=by decide
 have hN:(0:Int)≤10^Int.toNat 60:=by decide
 have hqs:=St3.sn S.ok
 have hql:=S.hl
 generalize hG:(2:Int)^220=G2 at hT hS
 walk_at "go"
 intro cl ncl
 generalize eH:upd H7 cl _=H8
 obtain⟨s8,hcl⟩:=Xcg ncl eH
 have hcl:H8 cl=some (.lst (([0,1,0-10^Int.toNat 60,q3.s-1,q3.s+c0%97,10^Int.toNat 60,2]:List Int).map V.int)):=hcl
 clear eH
 walk_at "go"
 have hc:([0,1,0-10^Int.toNat 60,q3.s-1,q3.s+c0%97,10^Int.toNat 60,2]:List Int).getD (c0*16807%31337%7).toNat 0+2<G2:=by
   refine Xyt (P:=fun c=>c+2<G2) (by omega) (fun m hm=>?_) _
   simp only [List.mem_cons,List.not_mem_nil,or_false] at hm
   generalize (10:Int)^Int.toNat 60=T6 at hT hN hm
   omega
 generalize ([0,1,0-10^Int.toNat 60,q3.s-1,q3.s+c0%97,10^Int.toNat 60,2]:List Int).getD (c0*16807%31337%7).toNat 0=c at hc ⊢
 rw[←hG] at hc
 clear hT hS hG hcl hN
 intro bl nbl
 generalize eH:upd H8 bl _=H9
 obtain⟨s9,hbl⟩:=Xcg nbl eH
 have hbl:H9 bl=some (.lst (([1,1,1,0,2,0-10^Int.toNat 60,10^Int.toNat 60]:List Int).map V.int)):=hbl
 clear eH
 walk_at "go"
 generalize ([1,1,1,0,2,0-10^Int.toNat 60,10^Int.toNat 60]:List Int).getD (c0*69621%65521%7).toNat 0=b
 have s69:=s67.trans (s8.trans s9)
 have hld9:=s69 ld _ hld
 obtain⟨lv,hlv,hA⟩:∃lv:Option Int,valV (lvK q3.ps) (.inl pl)=lv.map V.int∧LvA q3.ps pl lv:=by
   rcases XMa pl q3.ps with ⟨e,h⟩ | ⟨z,hz,h1,h2,e⟩
   · exact⟨none,e,.inl ⟨rfl,h⟩⟩
   · exact⟨some (z.l-2),e,.inr ⟨z,hz,h1,h2,rfl⟩⟩
 have dg:∀{H':Hp},H' ld=some (.dK (lvK q3.ps))→DGet H' ld (.int pl) (lv.map V.int):=fun h=>by
   have:=DGet.k (k:=.inl pl) h
   rw[hlv] at this
   exact this
 refine XAy ?_
 walk_at "go"
 refine⟨ld,rfl,.inl ⟨_,.inl hld9⟩,?_⟩
 walk_at "go"
 refine⟨lv.map V.int,dg hld9,?_⟩
 have em:(lv.map V.int).getD (.int 1) = .int (lv.getD 1):=by cases lv <;> rfl
 rw[em]
 walk_at "go"
 intro kl nkl
 generalize eH:upd H9 kl _=H10
 obtain⟨s10,hkl⟩:=Xcg nkl eH
 have hkl:H10 kl=some (.lst (([0-1,0,lv.getD 1-1,lv.getD 1,10^Int.toNat 60,0-10^Int.toNat 60]:List Int).map V.int)):=hkl
 clear eH
 walk_at "go"
 generalize ([0-1,0,lv.getD 1-1,lv.getD 1,10^Int.toNat 60,0-10^Int.toNat 60]:List Int).getD (c0*40692%65519%6).toNat 0=k
 have hld10:=s10 ld _ hld9
 refine⟨ld,lvK q3.ps,wh,lv,ki,pl,c,b,k,q3.s,rfl,hld10,hlv,fun H11 s11=>?_⟩
 have s511:=s69.trans (s10.trans s11)
 have hld11:=s511 ld _ hld
 have hpc11:=s511 pc _ hpc5
 have s011:=s05.trans s511
 have S11:=S.same s011
 clear hbl hkl hwl hpc6 hld6 hld9 hld10 s6 s7 s67 s8 s9 s69 s10 s11 s511 nwl ncl nbl nkl hcl
 generalize hdu:dueF (ki=2) wh lv c b k q3.s=du
 walk_at "gs"
 refine Xjp (M:=fun σ' H'=>Same H11 H'∧(du=""→wh≠"ask"∧wh≠"give"∧(wh="grow"→∀m,lv=some m→c≤m))∧σ'=[some (.ref x),some (.int ki),some (.int c0),some (.int q3.s),some (.ref pc),some (.ref ld),some (.str wh),some (.int pl),some (.int c),some (.int b),some (.int (lv.getD 1)),some (.int k),some (.str du),none,none]) ?_ (fun nx hM=>?_)
 · rintro σ1 H12 ⟨s12,hdn,rfl⟩
   have S12:=S11.same s12
   have hx12:=S12.hx
   have hpc12:=s12 pc _ hpc11
   have s012:=s011.trans s12
   walk_at "go"
   by_cases hd0:du=""
   · obtain⟨g1,g2,g3⟩:=hdn hd0
     obtain⟨z,hzm,hv,hp,hlz,hcase⟩:=Xxz hw hA (hdu.trans hd0) g1 g2 g3
     have hz1:∀z1∈q3.ps,z1.v=true→z1.a+1=pl→z1=z:=fun z1 h1 _ h2=>Xce ch h1 hzm (by omega)
     have hnp:¬∀z∈q3.ps,z.v=true→z.a+1≠pl:=fun h=>h z hzm hv hp
     have fin:∀{H':Hp},Same H12 H'→Q (.bl true) H':=fun s=>q cs _ (Xbh.of (s012.trans s)) rfl (S12.same s)
     have hm:lv.getD 1=z.l-2:=by rw[hlz];rfl
     have hx13:∀{H':Hp},Same H12 H'→H' x=some (.ins ((cF Y7 Y5 Y17) q3.let3) dx (fsF q3.let3 a q3.s)):=fun s=>s x _ hx12
     subst hd0
     rw[hm]
     clear g1 g2 g3 hdu hdn hA hw hld11 hpc11 hpc5 S11 dg em
     obtain⟨z0,z2,z3,z4⟩:=ch.mem z hzm
     rcases hcase with rfl | ⟨rfl,k0,k1⟩ | ⟨rfl,k0,k1⟩ | ⟨rfl,hnr,c1,b1,cm⟩
     · refine⟨x,a,_,pl,c,b,k,rfl,⟨_,hx12⟩,⟨_,S12.ha⟩,.inr ⟨fun v H2=>v = .int (z.l-2)∧Same H12 H2,fun H1 s1 QV EX _ hQ=>⟨x,_,pl,c,b,k,rfl,.inr (.inr (.inr (.inl ⟨rfl,_,_,x,dx,a,cs,_,pl,rfl,(S12.same s1).bs,fun h=>absurd h hnp,fun z1 m1 v1 p1 H2 s2=>?_⟩)))⟩,fun v H2 hR t l H13 s13 ht hl=>?_⟩⟩
       · rw[hz1 z1 m1 v1 p1]
         exact hQ _ H2 ⟨rfl,s1.trans s2⟩ (fun d o hd _ _=>s2 d o hd)
       obtain⟨rfl,s2⟩:=hR
       have hx3:=hx13 (s2.trans s13)
       walk_at "go"
       intro p np
       generalize eH:upd H13 p _=H14
       obtain⟨s14,hp0⟩:=Xcg np eH
       clear eH
       refine⟨l,p,_,rfl,rfl,s14 l _ hl,hp0,rfl,?_⟩
       have s4:=(s2.trans s13).trans s14
       have hx4:=hx13 s4
       walk_at "go"
       intro p6 np6
       generalize eH:upd H14 p6 _=H15
       obtain⟨s15,hp6⟩:=Xcg np6 eH
       have hp6:H15 p6=some (.lst (([z.l-2,pl]:List Int).map V.int)):=hp6
       clear eH
       have s5:=s4.trans s15
       have hx5:=hx13 s5
       walk_at "go"
       refine⟨_,x,dx,a,cs,rfl,hx5,s5 a _ S12.ha,fun p7 H16 np7 s16 hp7=>?_⟩
       have s6:=s5.trans s16
       walk_at "go"
       refine⟨p7,pc,cs,cs,rfl,rfl,SqL.of hp7,SqL.of (s6 pc _ hpc12),?_⟩
       rw[decide_eq_true rfl]
       walk_at "go"
       exact fin s6
     · refine⟨x,a,_,pl,c,b,k,rfl,⟨_,hx12⟩,⟨_,S12.ha⟩,.inr ⟨fun v H2=>v = .int (cs.getD (pl+k).toNat 0)∧Same H12 H2,fun H1 s1 QV EX _ hQ=>⟨x,_,pl,c,b,k,rfl,.inr (.inr (.inr (.inr (.inl ⟨rfl,_,_,x,dx,a,cs,_,pl,k,rfl,(S12.same s1).bs,fun h=>absurd h hnp,(fun z1 m1 v1 p1 h=>absurd h (by rw[hz1 z1 m1 v1 p1];omega)),fun z1 m1 v1 p1 _ _ H2 s2=>hQ _ H2 ⟨rfl,s1.trans s2⟩ (fun d o hd _ _=>s2 d o hd)⟩))))⟩,fun v H2 hR t l H13 s13 ht hl=>?_⟩⟩
       obtain⟨rfl,s2⟩:=hR
       walk_at "go"
       intro p np
       generalize eH:upd H13 p _=H14
       obtain⟨s14,hp0⟩:=Xcg np eH
       clear eH
       refine⟨l,p,_,rfl,rfl,s14 l _ hl,hp0,rfl,?_⟩
       have s4:=(s2.trans s13).trans s14
       have hpc4:=s4 pc _ hpc12
       walk_at "go"
       rw[decide_eq_true rfl]
       exact fin s4
     · refine⟨x,a,_,pl,c,b,k,rfl,⟨_,hx12⟩,⟨_,S12.ha⟩,.inr ⟨fun v H2=>v = .non∧Xbh a H12 H2∧KS (cF Y7 Y5 Y17) x dx a q3 (cs.set (pl+k).toNat c) H2,fun H1 s1 QV EX _ hQ=>⟨x,_,pl,c,b,k,rfl,.inr (.inr (.inr (.inr (.inr ⟨rfl,_,_,x,dx,a,cs,_,pl,k,c,rfl,(S12.same s1).bs,fun h=>absurd h hnp,(fun z1 m1 v1 p1 h=>absurd h (by rw[hz1 z1 m1 v1 p1];omega)),fun z1 m1 v1 p1 _ _ H2 k2 B2=>hQ _ H2 ⟨rfl,(Xbh.of s1).trans k2,⟨B2.hx,B2.ha,by rw[List.length_set];exact S.hl,B2.hz,S.ok,B2.mm⟩⟩ (fun d o hd n1 n2=>?_)⟩))))⟩,fun v H2 hR t l H13 s13 ht hl=>?_⟩⟩
       · exact k2 d o n2 hd
       obtain⟨rfl,k2,S2⟩:=hR
       have hx3:=s13 x _ S2.hx
       walk_at "go"
       intro p np
       generalize eH:upd H13 p _=H14
       obtain⟨s14,hp0⟩:=Xcg np eH
       clear eH
       refine⟨l,p,_,rfl,rfl,s14 l _ hl,hp0,rfl,?_⟩
       have S4:=S2.same (s13.trans s14)
       have hx4:=S4.hx
       have eg:(cs.set (pl+k).toNat c).getD (pl+k).toNat 0=c:=by rw[List.getD_eq_getElem?_getD,List.getElem?_set_self (by omega)];rfl
       walk_at "go"
       refine⟨_,x,dx,a,_,_,pl,k,rfl,S4.bs,fun h=>absurd h hnp,(fun z1 m1 v1 p1 h=>absurd h (by rw[hz1 z1 m1 v1 p1];omega)),fun z1 m1 v1 p1 _ _ H15 s15=>?_⟩
       rw[eg]
       have S5:=S4.same s15
       have hx5:=S5.hx
       walk_at "go"
       refine⟨_,x,dx,a,_,_,pl,k,rfl,S5.bs,fun h=>absurd h hnp,(fun z1 m1 v1 p1 h=>absurd h (by rw[hz1 z1 m1 v1 p1];omega)),fun z1 m1 v1 p1 _ _ H16 s16=>?_⟩
       rw[eg]
       walk_at "go"
       rw[decide_eq_true rfl]
       exact q _ H16 (((Xbh.of s012).trans k2).trans (Xbh.of (((s13.trans s14).trans s15).trans s16))) (List.length_set) (S5.same s16)
     · refine⟨x,a,_,pl,c,b,k,rfl,⟨_,hx12⟩,⟨_,S12.ha⟩,.inr ⟨fun v H2=>v = .int pl∧Same H12 H2,fun H1 s1 QV EX _ hQ=>⟨x,_,pl,c,b,k,rfl,.inr (.inr (.inl ⟨rfl,_,x,dx,a,q3,cs,pl,c,b,rfl,rfl,S12.same s1,hc,fun h=>absurd (hki.mpr h) hnr,fun _ h=>absurd h hnp,fun _ z1 m1 v1 p1=>⟨fun h=>by omega,fun _ _ h=>absurd b1 h,fun _ _ _ H2 s2=>hQ _ H2 ⟨rfl,s1.trans s2⟩ (fun d o hd _ _=>s2 d o hd),fun _ _ h=>by rw[hz1 z1 m1 v1 p1] at h;omega⟩⟩))⟩,fun v H2 hR t l H13 s13 ht hl=>?_⟩⟩
       obtain⟨rfl,s2⟩:=hR
       have hx3:=hx13 (s2.trans s13)
       walk_at "go"
       intro p np
       generalize eH:upd H13 p _=H14
       obtain⟨s14,hp0⟩:=Xcg np eH
       clear eH
       refine⟨l,p,_,rfl,rfl,s14 l _ hl,hp0,rfl,?_⟩
       have s4:=(s2.trans s13).trans s14
       have hx4:=hx13 s4
       walk_at "go"
       intro p6 np6
       generalize eH:upd H14 p6 _=H15
       obtain⟨s15,hp6⟩:=Xcg np6 eH
       have hp6:H15 p6=some (.lst (([z.l-2,pl]:List Int).map V.int)):=hp6
       clear eH
       have s5:=s4.trans s15
       have hx5:=hx13 s5
       walk_at "go"
       refine⟨_,x,dx,a,cs,rfl,hx5,s5 a _ S12.ha,fun p7 H16 np7 s16 hp7=>?_⟩
       have s6:=s5.trans s16
       walk_at "go"
       refine⟨p7,pc,cs,cs,rfl,rfl,SqL.of hp7,SqL.of (s6 pc _ hpc12),?_⟩
       rw[decide_eq_true rfl]
       walk_at "go"
       exact fin s6
   · obtain⟨e,he,hR⟩:=Xqr (CE:=(cE3 Y10 Y4 Y9 Y16 Y3 Y13)) S12 hc hki hw hA (by rw[hdu];exact hd0)
     rw[hdu] at he
     refine⟨x,a,wh,pl,c,b,k,rfl,⟨_,hx12⟩,⟨_,S12.ha⟩,.inl ⟨e,hR,fun t l H13 s13 ht hl=>?_⟩⟩
     rw[he] at hl
     have hx13:=s13 x _ hx12
     walk_at "go"
     intro p np
     generalize eH:upd H13 p _=H14
     obtain⟨s14,hp⟩:=Xcg np eH
     clear eH
     refine⟨l,p,_,rfl,rfl,s14 l _ hl,hp,rfl,?_⟩
     have s1214:=s13.trans s14
     have hx14:=s14 x _ hx13
     walk_at "go"
     refine⟨_,x,dx,a,cs,rfl,hx14,s1214 a _ S12.ha,fun p5 H15 np5 s15 hp5=>?_⟩
     have s1215:=s1214.trans s15
     walk_at "go"
     refine⟨p5,pc,cs,cs,rfl,rfl,SqL.of hp5,SqL.of (s1215 pc _ hpc12),?_⟩
     rw[decide_eq_true rfl]
     walk_at "go"
     exact q cs H15 (Xbh.of (s012.trans s1215)) rfl (S12.same s1215)
 · walk_at "go"
   refine Xbj (fun h1=>?_) (fun h1=>?_)
   · subst h1
     walk_at "go"
     intro t nt
     generalize eH:upd H11 t _=H12
     obtain⟨s12,ht⟩:=Xcg nt eH
     clear eH
     refine⟨t,_,rfl,.inr (SqT.of ht),rfl,rfl,?_⟩
     rw[if_neg Bool.false_ne_true,in_2]
     refine⟨_,rfl,Xei (fun hv=>?_) (fun hv=>?_)⟩
     · walk_at "go"
       exact q cs H12 (Xbh.of (s011.trans s12)) rfl (S11.same s12)
     · have hv:=or_f hv
       walk_at "go"
       refine Xbj (fun hg=>?_) (fun hg=>?_)
       · obtain⟨m,rfl⟩:∃m,lv=some m:=by
           cases lv with
           | some m=>exact⟨m,rfl⟩
           | none =>
             unfold dueF at hdu
             rw[if_neg (fun h=>hv (.inl h))] at hdu
             split at hdu <;> cases hdu
         walk_at "go"
         refine⟨ld,.int m,rfl,dg (s12 ld _ hld11),?_⟩
         walk_at "go"
         refine Xbj (fun h2=>?_) (fun h2=>?_)
         · walk_at "go"
           exact q cs H12 (Xbh.of (s011.trans s12)) rfl (S11.same s12)
         · walk_at "go"
           exact hM _ _ ⟨s12,fun _=>⟨fun h=>hv (.inl h),fun h=>hv (.inr h),fun _ m' e=>by cases e;omega⟩,rfl⟩
       · walk_at "go"
         exact hM _ _ ⟨s12,fun _=>⟨fun h=>hv (.inl h),fun h=>hv (.inr h),fun h=>absurd h hg⟩,rfl⟩
   · walk_at "go"
     exact hM _ _ ⟨Same.refl _,fun h=>absurd h h1,rfl⟩
theorem XQt {q:St3}:q.n=q.s*(Xby q:Int):=by
 cases q with
 | half N ps=>exact(Int.mul_one _).symm
 | shel s fs=>rfl
 | row n ls=>exact(Int.mul_one _).symm
theorem Xvi {q:St3}(h:q.ok):0<Xby q:=by
 cases q with
 | half N ps=>exact Nat.zero_lt_one
 | shel s fs=>exact h.2.1
 | row n ls=>exact Nat.zero_lt_one
def Sm (q q':St3):Prop:=q'.let3=q.let3∧q'.s=q.s∧q'.n=q.n
theorem XCm {q q':St3}(h:q.ok)(s:Sm q q'):Xby q'=Xby q∧∀m j,Xev m j q'=Xev m j q:=by
 obtain⟨s1,s2,s3⟩:=s
 cases q with
 | half N ps =>
   cases q' with
   | half N' ps' =>
     have e:N'=N:=Xsr s2
     subst e
     exact⟨rfl,fun _ _=>rfl⟩
   | shel _ _=>cases s1
   | row _ _=>cases s1
 | shel s fs =>
   cases q' with
   | half _ _=>cases s1
   | shel s' fs' =>
     have e:s'=s:=s2
     subst e
     have s3:s'*(fs'.length:Int)=s'*(fs.length:Int):=s3
     have:=Int.eq_of_mul_eq_mul_left (show s'≠0 by have:=h.1;omega) s3
     exact⟨by show fs'.length=fs.length;omega,fun _ _=>rfl⟩
   | row _ _=>cases s1
 | row n ls =>
   cases q' with
   | half _ _=>cases s1
   | shel _ _=>cases s1
   | row n' ls' =>
     have e:n'=n:=s2
     subst e
     exact⟨rfl,fun _ _=>rfl⟩
theorem Xvk {q:St3}(h:q.ok)(hr:q.let3≠.row):∃q1 q2,Giv3 (Xev (Xby q) (Xby q) q) 1 q1∧Ask3 (q.s-2) q1 1 q2:=by
 have s3:=St3.s3 h
 cases q with
 | row n ls=>exact absurd rfl hr
 | half N ps =>
   have g:=Xky (q:=.half N ps) h (j:=0) Nat.zero_lt_one
   have e:(St3.half N ps).s*((0:Nat):Int)+1=1:=by simp
   rw[e] at g
   exact⟨_,_,Giv3.half,g⟩
 | shel s fs =>
   have s3:3≤s:=s3
   have hm:0<fs.length:=h.2.1
   have hg:(List.replicate fs.length (⟨s,[true]⟩:Sf)++List.replicate (fs.length-fs.length) (⟨0,[]⟩:Sf))[0]?=some ⟨s,[true]⟩:=by
     rw[List.getElem?_append_left (by rw[List.length_replicate];exact hm),List.getElem?_replicate,if_pos hm]
   generalize hF:List.replicate fs.length (⟨s,[true]⟩:Sf)++List.replicate (fs.length-fs.length) (⟨0,[]⟩:Sf)=F at hg
   have hF0:∀f∈F,¬(f.n=s∧false∈f.b):=fun f hf hh=>by
     rw[←hF,Nat.sub_self,List.replicate_zero,List.append_nil] at hf
     rw[(List.mem_replicate.mp hf).2] at hh
     exact absurd hh.2 (show false ∉ _ by simp)
   have hl0:0<F.length:=(List.getElem?_eq_some_iff.mp hg).1
   have g1:=Giv3.shel (s:=s) (j:=0) (i:=0) hg rfl
   have e1:giv F 0 0 s [true]=F.set 0 ⟨0,[]⟩:=rfl
   have e2:s*((0:Nat):Int)+s*((0:Nat):Int)+1=1:=by simp
   rw[e1,e2] at g1
   have ed:(s/s).toNat=1:=by rw[Int.ediv_self (by omega)];rfl
   have es:s-2+2=s:=by omega
   have hno:∀f∈F.set 0 ⟨0,[]⟩,¬(f.n=s∧false∈f.b):=fun f hf hh=>by
     rcases List.mem_or_eq_of_mem_set hf with w | w
     · exact hF0 f w hh
     · rw[w] at hh
       cases hh.2
   have g:Gs s (s-2+2) (F.set 0 ⟨0,[]⟩) 0 0 [false] ((F.set 0 ⟨0,[]⟩).set 0 ⟨s-2+2,[false]⟩):=by
     rw[es]
     exact⟨List.getElem?_set_self (by rw[List.length_set];exact hl0),rfl,fun i' hi=>absurd hi (Nat.not_lt_zero _),fun j' f hj=>absurd hj (Nat.not_lt_zero _),.inr ⟨hno,Int.le_refl _,rfl,by rw[ed];rfl,⟨_,List.getElem?_set_self hl0,rfl⟩,fun j' f hj=>absurd hj (Nat.not_lt_zero _),rfl⟩⟩
   have a1:=Ask3.shel (c:=s-2) g g.len
   have e3:s*((0:Nat):Int)+(s-2+2)*((0:Nat):Int)+1=1:=by simp
   rw[e3] at a1
   exact⟨.shel s (F.set 0 ⟨0,[]⟩),_,by show Giv3 (.shel s (List.replicate fs.length ⟨s,[true]⟩++List.replicate (fs.length-fs.length) ⟨0,[]⟩)) 1 _;rw[hF];exact g1,a1⟩
theorem Xtm {q:St3}{cs:List Int}(hr:q.let3 = .row)(h:q.ok)(m:Xat cs (Xev (Xby q) (Xby q) q).ps)(c:Xas 0 (Xev (Xby q) (Xby q) q).ps cs.length):cs.getD 0 0=2*q.s+1∧1≤cs.length:=by
 cases q with
 | half _ _=>cases hr
 | shel _ _=>cases hr
 | row n ls =>
   have h3:3≤n:=h.1
   have hm:(⟨0,n,true⟩:Pc)∈rwP (List.replicate 1 n) n:=Xwq (i:=0) rfl
   obtain⟨m1,_⟩:=m _ hm
   have g:=Xeg m1
   have:=c.mem _ hm
   have g:cs.getD 0 0=mkOf n true:=g
   refine⟨by rw[g];show n*2+1=2*n+1;omega,?_⟩
   have:(0:Int)+n≤cs.length:=this.2.2.2
   omega
def whP (s:Int)(z:Pc):Bool:=!z.v&&(decide (z.l=s)&&decide (z.a%s=0))
def WhW (H1:Hp)(s:Int)(ps:List Pc)(D:Addr)(i:Nat)(ys:List V)(H2:Hp):Prop:=Same H1 H2∧H2 D=some (.lst ys)∧H1 D=none∧ys.length=((ps.take i).filter (whP s)).length
theorem XFs {s:Int}{ps:List Pc}{i:Nat}{z:Pc}(h:ps[i]?=some z):((ps.take (i+1)).filter (whP s)).length=((ps.take i).filter (whP s)).length+(if whP s z=true then 1 else 0):=by
 rw[List.take_add_one,h,List.filter_append,List.length_append]
 congr 1
 simp only [Option.toList_some,List.filter_cons,List.filter_nil]
 split <;> rfl
def LaW (C:W3→Addr)(x dx lp dl cl:Addr)(ki c0:Int)(q:St3)(i:Nat)(σ:L2.St)(H:Hp):Prop:=∃(a:Addr) (q':St3) (cs':List Int) (x6 x7:Option V),σ=[some (.ref x),some (.int ki),some (.int q.s),some (.int c0),some (.ref lp),some (.ref dl),x6,x7]∧KS C x dx a q' cs' H∧Sm q q'∧(1≤i→q'=Xev (Xby q) (Xby q) q)∧H cl=some (.lst [.int (q.s-2),.int (q.s-2)])
def XAg (C:W3→Addr):Sp:=fun vs H Q _=>∃(x dx a:Addr) (q:St3) (cs:List Int) (ki c0:Int),vs=[.ref x,.int ki,.int q.s,.int c0]∧(ki=2↔q.let3 = .row)∧KS C x dx a q cs H∧cs.length≤64∧∀H',Q (.bl true) H'
seal L2.PSs L2.PS L2.PE L2.PA in
include T in
theorem d_Z58 (S:Src K mg "_law_last" Xta)(D_Z72:Xba P w K mg base (cF Y7 Y5 Y17) "cells" 1 ["self"] [] (Xcw (cF Y7 Y5 Y17)))(D_Z64:Defx P w K mg base "_law_walk" 2 ["_law_cells"] (Xip K))(D_Z65:Defx P w K mg base "_law_call" 12 ["_law_keeper","_law_which","_law_place","_law_count","_law_bound","_law_k"] (Xkn (cF Y7 Y5 Y17) (cE3 Y10 Y4 Y9 Y16 Y3 Y13) Y16 Y3 Y13 Y4 Y9 Y10))(D_clear:Xba P w K mg base (cF Y7 Y5 Y17) "clear" 6 ["self"] [] (Xgu (cF Y7 Y5 Y17)))(D_ask:MethFD P w K mg base (cF Y7 Y5 Y17) "ask" 8 ["self","count","bound"] [.int 1] (Xfm (cF Y7 Y5 Y17) Y16 Y3 Y13))(D_give:Xba P w K mg base (cF Y7 Y5 Y17) "give" 8 ["self","place"] [] (Xed (cF Y7 Y5 Y17) Y4 Y10)):Defx P w K mg base "_law_last" 13 ["_law_keeper","_law_kind","_law_most","_law_cell"] (XAg (cF Y7 Y5 Y17)):=by
 refine S.okx Xjh XJm (fun vs H Q E h=>by revert h;walk_at "len") (fun f cdv A outer s H vs Q E hr h=>?_)
 refine⟨_,PSs.nox (Xab (Xao (i:=4) Xjh.nd rfl (Or.inl rfl) (Xai D_Z64 hr (by rfl) (Xaa (Xbi D_Z72 Xav hr (pv 0)) Xac))) (Xab (Xbd (Xag Xlx (pv 4) Xdu (Xaj _)) (Xae (Xal Xdc)) Xam) (Xab (Xff (i:=5) ["_law_piece"] ["_law_most"] [2] Xjh.nd rfl (Or.inl rfl) rfl (Xcz (pv 4)) (fun cl C s₀ H₀ ex=>(Xau (i:=0) (show ((["_law_piece"]:List Str)++(["_law_most"]:List Str)).Nodup by decide +kernel) rfl (Or.inl rfl))) (fun cl C s₀ H₀ ex=>(Xdy (PW.pt (Xdi (Xdb (Xdg (K:=K) rfl (Xbn (Xec (K:=K) rfl) (pv 0) Xaf (fun _ _=>rfl)) (fun _=>rfl))) (Xdi (Xag Xcd (Xbn (Xec (K:=K) rfl) (pv 0) Xaf (fun _ _=>rfl)) (pv 1) (Xaj _)) (Xda (Xag Xcd (Xak Xca (Xbn (Xec (K:=K) rfl) (pv 0) Xaf (fun _ _=>rfl)) (pv 1)) Xaf (Xaj _)))))))) (fun cl C s₀ H₀ ex=>(pv 0)) (Xer rfl rfl rfl) (Xha (n:="_law_most") (by decide +kernel) rfl) (fun y h=>Xbw (by decide +kernel) h)) (Xab (Xbd (PW.pt (Xdi (Xag (XBv hr.units) (pv 5) (Xbu Xac) (Xaj _)) (Xda (Xag (Xnk hr.units) (Xbn Xho (Xai D_Z65 hr (by rfl) (Xaa (pv 0) (Xaa Xan (Xaa Xaf (Xaa (Xak Xbo (pv 2) Xaf) (Xaa Xaf (Xaa Xaf Xac))))))) Xaf (fun _ _=>rfl)) (Xbu (Xaa Xan (Xaa Xan Xac))) (Xaj _))))) (Xae (Xal Xdc)) Xam) (Xab (Xlh PassesOwn.never rfl (Xcz (Xbu (Xaa (Xak Xbo (pv 2) Xaf) (Xaa (Xak Xbo (pv 2) Xaf) Xac)))) (Xau (i:=6) Xjh.nd rfl (Or.inl rfl)) (Xab (Xbd (PW.pt (Xge (Xag Xqw (Xbi D_clear Xav hr (pv 0)) Xdu (Xaj _)) (Xek (Xag Xkp (Xay D_ask.less Xav hr (pv 0) (Xaa (pv 6) Xac)) Xaf (Xaj _))))) (Xae (Xal Xdc)) Xam) (Xab (Xao (i:=7) Xjh.nd rfl (Or.inl rfl) Xaf) (Xab (Xfy PassesOwn.never (Xag Xee (Xak Xex (pv 7) (pv 2)) (Xar Xbb (by rfl) T.n_len PySem.boot_len (Xaa (Xbi D_Z72 Xav hr (pv 0)) Xac)) (Xaj _)) (Xab (Xbd (Xag Xkp (Xay D_ask.less Xav hr (pv 0) (Xaa (pv 6) Xac)) (Xak Xbg (Xak Xex (pv 7) (pv 2)) Xaf) (Xaj _)) (Xae (Xal Xdc)) Xam) (Xae (Xao (i:=7) Xjh.nd rfl (Or.inl rfl) (Xak Xbg (pv 7) Xaf))))) (Xae (Xbd (Xag (Xnk hr.units) (Xbn Xho (Xai D_Z65 hr (by rfl) (Xaa (pv 0) (Xaa Xan (Xaa Xaf (Xaa (pv 6) (Xaa Xaf (Xaa Xaf Xac))))))) Xaf (fun _ _=>rfl)) (Xbu (Xaa Xan (Xaa Xan Xac))) (Xaj _)) (Xae (Xal Xdc)) Xam)))))) (Xab (Xbd (Xag Xcd (pv 1) Xaf (Xaj _)) (Xae (Xal (Xch Xcd (Xbn Xbe (Xbi D_Z72 Xav hr (pv 0)) Xaf (fun _ _=>rfl)) (Xak Xbg (Xak Xex Xaf (pv 2)) Xaf) (Xaj _)))) Xam) (Xae (Xal (Xfq (Xch Xlx (Xay D_give Xav hr (pv 0) (Xaa Xaf Xac)) Xdu (Xaj _)) (Xgm (Xch Xcd (Xay D_ask.less Xav hr (pv 0) (Xaa (Xak Xbo (pv 2) Xaf) Xac)) Xaf (Xaj _)))))))))))),?_⟩
 obtain⟨x,dx,a,q3,cs,ki,c0,rfl,hki,S,hz,q⟩:=h
 have hx:=S.hx
 have ch:=S.ch
 have hple:=ch.le
 have s3:=St3.s3 S.ok
 have hsn:=St3.sn S.ok
 have hql:=S.hl
 have hnm:=XQt (q:=q3)
 have hmp:=Xvi S.ok
 have hml:(Xby q3:Int)≤q3.s*(Xby q3:Int):=by
   have:=Int.mul_le_mul_of_nonneg_right (show (1:Int)≤q3.s by omega) (show (0:Int)≤(Xby q3:Int) by omega)
   omega
 walk_at "go"
 refine⟨_,x,dx,a,cs,rfl,hx,S.ha,fun pc H1 npc s1 hpc=>?_⟩
 walk_at "go"
 refine⟨pc,cs,q3.ps,rfl,hpc,ch,S.mm,S.hz,fun lp us H2 nlp s2 hlp pa=>?_⟩
 have hul:=pa.1
 walk_at "go"
 refine⟨lp,rfl,⟨_,SqL.of hlp⟩,Xcl (K:=K) (a:=lp) (xs:=us) (fs:=[some (.int q3.s)]) (WhW H2 q3.s q3.ps) (fun D hD=>⟨Same.new hD,upd_same,hD,rfl⟩) (fun D i ys H2 _ h=>SqL.of (h.1 lp _ hlp)) ?_ ?_⟩
 · rintro D2 i y ys H4 hD hi ⟨s4,hD4,_,hyl⟩ τ hτ
   have hil:i<us.length:=(List.getElem?_eq_some_iff.mp hi).1
   obtain⟨z,hzi⟩:∃z,q3.ps[i]?=some z:=⟨_,List.getElem?_eq_getElem (by omega)⟩
   obtain⟨t,et,hT⟩:=pa.2 i z hzi
   have ey2:y = .ref t:=Option.some.inj (hi.symm.trans et)
   subst ey2
   have hT4:=s4 t _ hT
   have ef:=XFs (s:=q3.s) hzi
   match τ,hτ with
   | [τ0],_ =>
     walk_at "go"
     refine⟨⟨[_],rfl,rfl⟩,?_⟩
     have no:whP q3.s z=false→Nx us.length (WhW H2 q3.s q3.ps) D2 i ys H4:=fun h=>by
       rw[if_neg (by rw[h];exact Bool.false_ne_true)] at ef
       exact Xdo hil ⟨s4,hD4,hD,by rw[ef];exact hyl⟩
     walk_at "go"
     refine Xei (fun hv=>?_) (fun hv=>?_)
     · walk_at "go"
       exact no (by unfold whP;rw[hv];rfl)
     walk_at "go"
     refine Xbj (fun h1=>?_) (fun h1=>?_)
     · walk_at "go"
       refine Xbj (fun h2=>?_) (fun h2=>?_)
       · walk_at "go"
         rw[if_pos (by unfold whP;rw[hv,decide_eq_true h1,decide_eq_true h2];rfl)] at ef
         have:=List.length_filter_le (whP q3.s) (q3.ps.take i)
         rw[List.length_take] at this
         exact⟨hD4,small4000 (by omega),Xdo hil ⟨s4.put hD,upd_same,hD,by rw[ef,List.length_append,hyl];rfl⟩⟩
       · walk_at "go"
         exact no (by unfold whP;rw[decide_eq_false h2,Bool.and_false,Bool.and_false])
     · walk_at "go"
       exact no (by unfold whP;rw[decide_eq_false h1,Bool.false_and,Bool.and_false])
 rintro dl ys H4 hD ⟨s4,hD4,_,hyl⟩
 rw[List.take_of_length_le (by omega)] at hyl
 have s04:=(s1.trans s2).trans s4
 clear hlp pa hul nlp s2 s4 hD s1 hpc npc
 have hc2:q3.s-2+2<2^220:=Int.lt_trans (show q3.s-2+2<1000 by omega) (by decide)
 walk_at "gs"
 refine Xjp (M:=fun σ' H'=>Same H H'∧σ'=[some (.ref x),some (.int ki),some (.int q3.s),some (.int c0),some (.ref lp),some (.ref dl),none,none]) ?_ (fun nx hM=>?_)
 · rintro σ1 H5 ⟨s5,rfl⟩
   have S5:=S.same s5
   walk_at "go"
   intro cl ncl
   generalize eH:upd H5 cl _=H6
   obtain⟨s6,hcl⟩:=Xcg ncl eH
   clear eH
   have hclx:cl≠x:=fun e=>by rw[e,S5.hx] at ncl;cases ncl
   refine⟨cl,rfl,⟨_,SqL.of hcl⟩,Xgx (K:=K) (a:=cl) (xs:=[.int (q3.s-2),.int (q3.s-2)]) (LaW (cF Y7 Y5 Y17) x dx lp dl cl ki c0 q3) ⟨a,q3,cs,_,_,rfl,S5.same s6,⟨rfl,rfl,rfl⟩,(fun h=>by omega),hcl⟩ (fun i σ H2 _ ⟨_,_,_,_,_,_,_,_,_,h⟩=>SqL.of h) ?_ ?_⟩
   · rintro i y σ H7 hi ⟨a7,q7,cs7,x6,x7,rfl,S7,sm,_,hcl7⟩
     have ey:y = .int (q3.s-2):=by
       match i,hi with
       | 0,hi=>exact(Option.some.inj hi).symm
       | 1,hi=>exact(Option.some.inj hi).symm
     subst ey
     obtain⟨em,ef⟩:=XCm S.ok sm
     have hx7:=S7.hx
     walk_at "go"
     refine⟨x,dx,a7,q7,cs7,rfl,rfl,S7,fun a8 cs8 H8 n8 k8 l8 S8=>?_⟩
     rw[em,ef] at S8
     have hcl8:=k8 cl _ hclx hcl7
     have hx8:=S8.hx
     walk_at "go"
     refine⟨x,dx,a8,_,cs8,q3.s-2,1,rfl,rfl,S8,hc2,fun h=>by omega,fun _ _ h=>absurd rfl h,fun _ _=>.inr ⟨_,_,Xky S.ok hmp,fun a9 cs9 H9 n9 k9 l9 S9=>?_⟩⟩
     have hcl9:=k9 cl _ hclx hcl8
     have e1:q3.s*((0:Nat):Int)+1=1:=by simp
     rw[e1]
     walk_at "go"
     refine⟨fun m σ H'=>∃(j:Nat) (a':Addr) (cs':List Int),σ=[some (.ref x),some (.int ki),some (.int q3.s),some (.int c0),some (.ref lp),some (.ref dl),some (.int (q3.s-2)),some (.int j)]∧m=Xby q3-j∧1≤j∧j≤Xby q3∧KS (cF Y7 Y5 Y17) x dx a' (Xev (Xby q3) j q3) cs' H'∧H' cl=some (.lst [.int (q3.s-2),.int (q3.s-2)]),⟨_,1,a9,cs9,rfl,rfl,Nat.le_refl _,hmp,S9,hcl9⟩,?_⟩
     rintro m σ H10 ⟨j,a10,cs10,rfl,rfl,j1,jm,S10,hcl10⟩
     have hx10:=S10.hx
     obtain⟨o1,o2,o3,o4⟩:=Xjt (j:=j) S.ok jm
     have hl10:=S10.hl
     rw[o4,hnm] at hl10
     walk_at "go"
     refine⟨_,x,dx,a10,cs10,rfl,hx10,S10.ha,fun p11 H11 np11 s11 hp11=>?_⟩
     have S11:=S10.same s11
     have hx11:=S11.hx
     have hcl11:=s11 cl _ hcl10
     walk_at "go"
     refine Xbj (fun hlt=>?_) (fun hlt=>?_)
     · have jlt:j<Xby q3:=by
         rcases Nat.lt_or_ge j (Xby q3) with g | g
         · exact g
         · have:j=Xby q3:=Nat.le_antisymm jm g
           rw[this,hl10,Int.mul_comm] at hlt
           omega
       refine⟨fun σ' H''=>∃m',m'<Xby q3-j∧_,fun σ' H'' hw=>hw,?_⟩
       have e2:q3.s*(j:Int)+1=(j:Int)*q3.s+1:=by rw[Int.mul_comm]
       walk_at "go"
       refine⟨x,dx,a10,_,cs10,q3.s-2,1,rfl,rfl,S11,hc2,fun h=>by omega,fun _ _ h=>absurd rfl h,fun _ _=>.inr ⟨_,_,Xky S.ok jlt,fun a12 cs12 H12 n12 k12 l12 S12=>?_⟩⟩
       rw[e2]
       have hcl12:=k12 cl _ hclx hcl11
       walk_at "go"
       exact⟨_,Nat.sub_lt_sub_left jlt (Nat.lt_succ_self j),j+1,a12,cs12,rfl,rfl,by omega,jlt,S12,hcl12⟩
     · have jeq:j=Xby q3:=by
         rcases Nat.lt_or_ge j (Xby q3) with g | g
         · have:=Int.mul_lt_mul_of_pos_left (show (j:Int)<(Xby q3:Int) by omega) (show 0<q3.s by omega)
           rw[hl10,Int.mul_comm] at hlt
           omega
         · exact Nat.le_antisymm jm g
       subst jeq
       walk_at "go"
       refine⟨x,a10,_,0,q3.s-2,1,0,rfl,⟨_,hx11⟩,⟨_,S11.ha⟩,.inl ⟨.room,Xjl (CE:=(cE3 Y10 Y4 Y9 Y16 Y3 Y13)) S11 hc2 _ (.inr (.inr ⟨rfl,by omega,rfl,XEp S.ok⟩)),fun t l H12 s12 ht hl=>?_⟩⟩
       walk_at "go"
       intro p2 np2
       generalize eH:upd H12 p2 _=H13
       obtain⟨s13,hp2⟩:=Xcg np2 eH
       clear eH
       refine⟨l,p2,_,rfl,rfl,s13 l _ hl,hp2,rfl,?_⟩
       have s1113:=s12.trans s13
       walk_at "go"
       exact⟨a10,_,cs10,_,_,rfl,S11.same s1113,⟨o2,o3,o4⟩,fun _=>rfl,s1113 cl _ hcl11⟩
   · rintro σ H7 ⟨a7,q7,cs7,x6,x7,rfl,S7,sm,hq7,hcl7⟩
     obtain rfl:=hq7 (show 1≤2 by decide)
     have hx7:=S7.hx
     obtain⟨o1,o2,o3,o4⟩:=Xjt (j:=Xby q3) S.ok (Nat.le_refl _)
     walk_at "go"
     refine Xbj (fun h2=>?_) (fun h2=>?_)
     · walk_at "go"
       refine⟨_,x,dx,a7,cs7,rfl,hx7,S7.ha,fun p8 H8 np8 s8 hp8=>?_⟩
       have h0:=Xtm (hki.mp h2) S.ok S7.mm S7.ch
       walk_at "go"
       rw[decide_eq_true (show cs7.getD (Int.toNat 0) 0=2*q3.s+1 from h0.1)]
       exact q _
     · have hnr:q3.let3≠.row:=fun h=>h2 (hki.mpr h)
       obtain⟨q1,q2,G1,A1⟩:=Xvk S.ok hnr
       walk_at "go"
       refine⟨x,dx,a7,_,cs7,1,rfl,rfl,S7,.inr (.inr ⟨q1,G1,fun a8 cs8 H8 n8 k8 l8 S8=>?_⟩)⟩
       have hx8:=S8.hx
       walk_at "go"
       refine⟨x,dx,a8,q1,cs8,q3.s-2,1,rfl,rfl,S8,hc2,fun h=>by omega,fun _ _ h=>absurd rfl h,fun _ _=>.inr ⟨_,_,A1,fun a9 cs9 H9 n9 k9 l9 S9=>?_⟩⟩
       walk_at "go"
       exact q _
 walk_at "go"
 intro p np
 generalize eH:upd H4 p _=H5
 obtain⟨s5,hp0⟩:=Xcg np eH
 clear eH
 have s05:=s04.trans s5
 refine⟨dl,p,ys,rfl,rfl,s5 dl _ hD4,hp0,_,rfl,Xei (fun hv=>?_) (fun hv=>?_)⟩
 · have S5:=S.same s05
   have hw:∀z∈q3.ps,z.v=false→z.l=q3.s→z.a%q3.s≠0:=fun z hz h1 h2 h3=>by
     have hm:z∈q3.ps.filter (whP q3.s):=List.mem_filter.mpr ⟨hz,by unfold whP;rw[h1,decide_eq_true h2,decide_eq_true h3];rfl⟩
     cases ys with
     | nil=>rw[List.eq_nil_of_length_eq_zero hyl.symm] at hm;cases hm
     | cons _ _=>cases hv
   have hx5:=S5.hx
   walk_at "go"
   refine⟨x,a,_,0,q3.s-2,1,0,rfl,⟨_,hx5⟩,⟨_,S5.ha⟩,.inl ⟨.room,Xjl (CE:=(cE3 Y10 Y4 Y9 Y16 Y3 Y13)) S5 hc2 _ (.inr (.inr ⟨rfl,by omega,rfl,Xpy S5.ok hw⟩)),fun t l H6 s6 ht hl=>?_⟩⟩
   walk_at "go"
   intro p2 np2
   generalize eH:upd H6 p2 _=H7
   obtain⟨s7,hp2⟩:=Xcg np2 eH
   clear eH
   refine⟨l,p2,_,rfl,rfl,s7 l _ hl,hp2,rfl,?_⟩
   walk_at "go"
   exact hM _ _ ⟨s05.trans (s6.trans s7),rfl⟩
 · walk_at "go"
   exact hM _ _ ⟨s05,rfl⟩
theorem Xmj {K:PySem.W.Frag}{H H':Hp}{a:Addr}{xs:List V}(h:SqL K H a xs)(k:∀o,H a=some o→H' a=some o):SqL K H' a xs:=by
 rcases h with h | h
 · rcases h with h | ⟨o,h⟩
   · exact .inl (.inl (k _ h))
   · exact .inl (.inr ⟨o,k _ h⟩)
 · exact .inr h
def Fr3 (x a:Addr)(H:Hp)(a':Addr)(H':Hp):Prop:=∀b o,H b=some o→b≠x→b≠a→H' b=some o∧b≠a'
structure LwS (C:W3→Addr)(x dx sc q1:Addr)(zs:List Int)(q:St3)(H0:Hp)(a:Addr)(q':St3)(cs:List Int)(H:Hp):Prop where
 S:KS C x dx a q' cs H
 sm:Sm q q'
 sz:cs.length≤64
 kp:∀o,H0 sc=some o→H sc=some o∧sc≠x∧sc≠a
 hq:H q1=some (.lst (zs.map V.int))
 qx:q1≠x
 qa:q1≠a
theorem LwS.go {C:W3→Addr}{x dx sc q1:Addr}{zs:List Int}{q:St3}{H0:Hp}{a a':Addr}{q1' q':St3}{cs cs':List Int}{H H':Hp}(L:LwS C x dx sc q1 zs q H0 a q' cs H)(f:Fr3 x a H a' H')(S:KS C x dx a' q1' cs' H')(sm:Sm q q1')(l:cs'.length=cs.length):LwS C x dx sc q1 zs q H0 a' q1' cs' H' :=
 ⟨S,sm,by rw[l];exact L.sz,fun o h=>let ⟨h1,h2,h3⟩:=L.kp o h;let ⟨h4,h5⟩:=f sc o h1 h2 h3;⟨h4,h2,h5⟩,(f q1 _ L.hq L.qx L.qa).1,L.qx,(f q1 _ L.hq L.qx L.qa).2⟩
theorem Sm.trans {q q' q'':St3}(s:Sm q q')(t:Sm q' q''):Sm q q'':=⟨t.1.trans s.1,t.2.1.trans s.2.1,t.2.2.trans s.2.2⟩
def LwA (C:W3→Addr)(x dx sc q1:Addr)(zs:List Int)(q:St3)(H0:Hp)(ki:Int)(f2:Option V)(i:Nat)(σ:L2.St)(H':Hp):Prop:=∃(a:Addr) (q':St3) (cs:List Int) (x5:Option V),σ=[some (.ref sc),some (.int ki),f2,some (.ref x),some (.int q.s),x5]∧LwS C x dx sc q1 zs q H0 a q' cs H'
def LwM (C:W3→Addr)(sc:Addr)(ki:Int)(H0:Hp)(rw:Prop)(σ:L2.St)(H':Hp):Prop:=∃(x dx a:Addr) (q:St3) (cs:List Int) (x2:Option V),σ=[some (.ref sc),some (.int ki),x2,some (.ref x),some (.int q.s),none]∧KS C x dx a q cs H'∧cs.length≤64∧(∀o,H0 sc=some o→H' sc=some o∧sc≠x∧sc≠a)∧(rw↔q.let3 = .row)
theorem Xsz {sc x a:Addr}{H0 H8 H9 H10:Hp}(kp:∀o,H0 sc=some o→H8 sc=some o)(nx:H8 x=none)(s:Same H8 H9)(na:H9 a=none)(k:Xbh x H9 H10)(o:HO)(h:H0 sc=some o):H10 sc=some o∧sc≠x∧sc≠a :=
 have h8:=kp o h
 ⟨k sc o (Xap h8 nx) (s sc o h8),Xap h8 nx,Xap (s sc o h8) na⟩
theorem Xyq {N:Nat}(hN:N≤6)(h2:2≤N):(St3.half N [⟨0,2^N,false⟩]).ok∧((Xbv (2^N)).length:Int)=2^N∧(Xbv (2^N)).length≤64∧Xat (Xbv (2^N)) [⟨0,2^N,false⟩]:=by
 have p:=pw1 N
 have p2:=Xcm hN
 have e64:(2:Int)^6=64:=by decide
 have fl:=Xcf (show 0≤(2:Int)^N by omega)
 obtain⟨c,m⟩:=Xfj p
 rw[fl] at c
 exact⟨⟨by omega,h2,c,fun z hz=>by rw[List.mem_singleton.mp hz];exact⟨N,0,rfl,by simp⟩⟩,fl,by omega,m⟩
theorem XCh {n:Int}(h:3≤n):(St3.row n []).ok∧Xat (Xbv n) (St3.row n []).ps∧((Xbv n).length:Int)=n:=by
 refine⟨⟨h,(fun l hl=>by cases hl),by show (0:Int)≤n;omega⟩,?_,Xcf (by omega)⟩
 have o:(St3.row n []).ok:=⟨h,(fun l hl=>by cases hl),by show (0:Int)≤n;omega⟩
 exact(Xzi o (by show W3.row≠W3.shel;exact fun w=>nomatch w)).1
seal L2.PSs L2.PS L2.PE L2.PA in
include T in
theorem XOs {f:Addr}{fd:FuncData}(F:Fun K "law" "law" Xmr f fd)(D_Z27:Defx P w K mg base "_law_cell_at" 1 ["_law_script","_law_k"] (Xrf K))(D_Halves:Makex P w K mg base "Halves" Y7 4 ["self","size"] [] (XOj Y7))(D_Shelves:Makex P w K mg base "Shelves" Y5 6 ["self","size","shelf"] [] (XQa Y5))(D_Row:Makex P w K mg base "Row" Y17 3 ["self","size"] [] (XKw Y17))(D_Z72:Xba P w K mg base (cF Y7 Y5 Y17) "cells" 1 ["self"] [] (Xcw (cF Y7 Y5 Y17)))(D_Z64:Defx P w K mg base "_law_walk" 2 ["_law_cells"] (Xip K))(D_Z65:Defx P w K mg base "_law_call" 12 ["_law_keeper","_law_which","_law_place","_law_count","_law_bound","_law_k"] (Xkn (cF Y7 Y5 Y17) (cE3 Y10 Y4 Y9 Y16 Y3 Y13) Y16 Y3 Y13 Y4 Y9 Y10))(D_Z62:Defx P w K mg base "_law_step" 13 ["_law_keeper","_law_kind","_law_cell","_law_most"] (Xsq (cF Y7 Y5 Y17)))(D_Z58:Defx P w K mg base "_law_last" 13 ["_law_keeper","_law_kind","_law_most","_law_cell"] (XAg (cF Y7 Y5 Y17))):FnOk P w K mg base (CXe P w) 14 f fd ["_law_script"] (Xwl K):=by
 refine Xbq F Xef (fun vs H Q E h=>by revert h;walk_at "len") (fun cdv A outer s H vs Q E hr h=>?_)
 refine⟨_,PSs.nox (Xab (Xao (i:=1) Xef.nd rfl (Or.inl rfl) (Xak Xca (Xai D_Z27 hr (by rfl) (Xaa (pv 0) (Xaa Xaf Xac))) Xaf)) (Xab (Xao (i:=2) Xef.nd rfl (Or.inl rfl) (Xak XKy Xaf (Xak Xbg Xaf (Xak Xca (Xai D_Z27 hr (by rfl) (Xaa (pv 0) (Xaa Xaf Xac))) Xaf)))) (Xab (Xao (i:=3) Xef.nd rfl (Or.inl rfl) (Xkl D_Halves Xav hr (by rfl) (Xaa (pv 2) Xac))) (Xab (Xao (i:=4) Xef.nd rfl (Or.inl rfl) (pv 2)) (Xab (Xbd (Xag Xcd (pv 1) Xaf (Xaj _)) (Xab (Xao (i:=4) Xef.nd rfl (Or.inl rfl) (Xak Xbg Xaf (Xak Xca (Xai D_Z27 hr (by rfl) (Xaa (pv 0) (Xaa Xaf Xac))) Xaf))) (Xae (Xao (i:=3) Xef.nd rfl (Or.inl rfl) (Xkl D_Shelves Xav hr (by rfl) (Xaa (Xak Xex (pv 4) (Xak Xbg Xaf (Xak Xca (Xak Xii (Xai D_Z27 hr (by rfl) (Xaa (pv 0) (Xaa Xaf Xac))) Xaf) Xaf))) (Xaa (pv 4) Xac)))))) Xam) (Xab (Xbd (Xag Xcd (pv 1) Xaf (Xaj _)) (Xab (Xao (i:=4) Xef.nd rfl (Or.inl rfl) (Xak Xbg Xaf (Xak Xca (Xai D_Z27 hr (by rfl) (Xaa (pv 0) (Xaa Xaf Xac))) Xaf))) (Xae (Xao (i:=3) Xef.nd rfl (Or.inl rfl) (Xkl D_Row Xav hr (by rfl) (Xaa (pv 4) Xac))))) Xam) (Xab (Xlh PassesOwn.never rfl (Xcz (Xog Xrv (pv 0) (Xks Xaf) (Xks Xaf))) (Xau (i:=5) Xef.nd rfl (Or.inl rfl)) (Xab (Xbd (Xag Xlx (Xai D_Z64 hr (by rfl) (Xaa (Xbi D_Z72 Xav hr (pv 3)) Xac)) Xdu (Xaj _)) (Xae (Xal Xdc)) Xam) (Xae (Xbd (Xag (Xpj hr.units) (Xbn Xho (Xai D_Z65 hr (by rfl) (Xaa (pv 3) (Xaa Xan (Xaa Xaf (Xaa (Xak Xbg Xaf (Xak Xca (pv 5) Xaf)) (Xaa Xaf (Xaa Xaf Xac))))))) Xaf (fun _ _=>rfl)) (Xeb (Xaa (Xbu Xac) (Xaa (Xbu (Xaa Xan (Xaa Xan Xac))) Xac))) rfl) (Xae (Xal Xdc)) Xam)))) (Xab (Xlh PassesOwn.never rfl (Xcz (Xog Xrv (pv 0) (Xks Xaf) (Xks Xaf))) (Xau (i:=5) Xef.nd rfl (Or.inl rfl)) (Xae (Xbd (Xdb (Xhz (Xai D_Z62 hr (by rfl) (Xaa (pv 3) (Xaa (pv 1) (Xaa (pv 5) (Xaa (pv 4) Xac))))))) (Xae (Xal Xdc)) Xam))) (Xae (Xal (Xai D_Z58 hr (by rfl) (Xaa (pv 3) (Xaa (pv 1) (Xaa (pv 4) (Xaa (Xai D_Z27 hr (by rfl) (Xaa (pv 0) (Xaa Xaf Xac))) Xac))))))))))))))),?_⟩
 obtain⟨sc,ns,rfl,hS,hlen,kk⟩:=h
 have v0:=Int.emod_nonneg (ns.getD (1:Int).toNat 0) (show (5:Int)≠0 by decide)
 have v1:=Int.emod_lt_of_pos (ns.getD (1:Int).toNat 0) (show (0:Int)<5 by decide)
 walk_at "go"
 obtain⟨N,eN,N2,N6⟩:∃N:Nat,(2+ns.getD (Int.toNat 1) 0%5).toNat=N∧2≤N∧N≤6:=⟨_,rfl,by omega,by omega⟩
 rw[eN,Int.one_mul]
 intro x dx nx ndx nex
 have s6:Same H (upd (upd H dx (.own x)) x (.ins Y7 dx [])):=(Same.new ndx).put nx
 have hx6:upd (upd H dx (.own x)) x (.ins Y7 dx []) x=some (.ins Y7 dx []):=upd_same
 generalize upd (upd H dx (.own x)) x (.ins Y7 dx [])=H6 at s6 hx6 ⊢
 refine⟨x,dx,N,rfl,by omega,hx6,fun a H7 na7 k7 hx7 ha7=>⟨rfl,?_⟩⟩
 obtain⟨o1,o2,o3,o4⟩:=Xyq N6 N2
 have S7:KS (cF Y7 Y5 Y17) x dx a (.half N [⟨0,2^N,false⟩]) (Xbv (2^N)) H7:=⟨hx7,ha7,o2,by omega,o1,o4⟩
 have kp7:=Xsz (sc:=sc) (fun _ h=>h) nx s6 na7 k7
 have hS7:=Xmj hS fun o h=>(kp7 o h).1
 generalize ek:ns.getD (Int.toNat 0) 0%3=ki
 clear s6 hx6 k7 hx7 ha7 nx ndx nex na7 o1 o2 o4
 walk_at "gs"
 refine Xjp (M:=LwM (cF Y7 Y5 Y17) sc ki H False) ?_ (fun nx hM=>?_)
 · rintro σ' H8 ⟨x,dx,a,q,cs,x2,rfl,S,hz,kp,hr⟩
   have hS8:=Xmj hS fun o h=>(kp o h).1
   walk_at "gs"
   refine Xjp (M:=LwM (cF Y7 Y5 Y17) sc ki H (ki=2)) ?_ (fun nx hM=>?_)
   · rintro σ' H9 ⟨x,dx,a,q,cs,x2,rfl,S,hz,kp,hr⟩
     have hS9:=Xmj hS fun o h=>(kp o h).1
     walk_at "go"
     intro q1 H12 nq1 s12 hq1
     generalize cutI ns (some 2) (some 6)=zs at hq1 ⊢
     refine⟨q1,rfl,⟨_,SqL.of hq1⟩,Xgx (K:=K) (a:=q1) (xs:=zs.map V.int) (LwA (cF Y7 Y5 Y17) x dx sc q1 zs q H ki x2) ⟨a,q,cs,none,rfl,S.same s12,⟨rfl,rfl,rfl⟩,hz,fun o h=>let ⟨h1,h2⟩:=kp o h;⟨s12 sc o h1,h2⟩,hq1,(Xap S.hx nq1).symm,(Xap S.ha nq1).symm⟩ (fun i σ H2 _ ⟨_,_,_,_,_,L⟩=>SqL.of L.hq) ?_ ?_⟩
     · rintro i y σ H2 hi ⟨a,q',cs,x5,rfl,L⟩
       rw[List.getElem?_map] at hi
       obtain⟨c0,hc0,rfl⟩:=Option.map_eq_some_iff.mp hi
       have S:=L.S
       have hx:=S.hx
       walk_at "go"
       refine⟨_,x,dx,a,cs,rfl,hx,S.ha,fun pc H3 npc s3 hpc=>?_⟩
       walk_at "go"
       refine⟨pc,cs,q'.ps,rfl,hpc,S.ch,S.mm,S.hz,fun lp us H4 nlp s4 hlp pa=>?_⟩
       have s04:=s3.trans s4
       have S4:=S.same s04
       have hx4:=S4.hx
       obtain⟨c,ec,c1,c4⟩:∃c,1+c0%4=c∧1≤c∧c≤4:=⟨_,rfl,by omega,by omega⟩
       have hc2:c+2<2^220:=Int.lt_trans (show c+2<10 by omega) (by decide)
       walk_at "go"
       rw[ec]
       rcases XCd S.ok c1 with g | ⟨p,q'',g⟩
       · refine⟨x,a,_,0,c,1,0,rfl,⟨_,hx4⟩,⟨_,S4.ha⟩,.inl ⟨.room,Xjl (CE:=(cE3 Y10 Y4 Y9 Y16 Y3 Y13)) S4 hc2 _ (.inr (.inr ⟨rfl,c1,rfl,g⟩)),fun t l H5 s5 ht hl=>?_⟩⟩
         walk_at "go"
         intro l0 n0
         generalize eH:upd H5 l0 _=H6
         obtain⟨s6,h0⟩:=Xcg n0 eH
         clear eH
         walk_at "go"
         intro l1 n1
         generalize eH:upd H6 l1 _=H7
         obtain⟨s7,h1⟩:=Xcg n1 eH
         clear eH
         walk_at "go"
         intro t2 n2
         generalize eH:upd H7 t2 _=H8
         obtain⟨s8,h2⟩:=Xcg n2 eH
         clear eH
         have s58:=(s6.trans s7).trans s8
         refine⟨l,t2,l0,l1,_,rfl,rfl,h2,s8 l0 _ (s7 l0 _ h0),s8 l1 _ h1,by decide,rfl,.inr (s58 l _ hl),?_⟩
         walk_at "go"
         have s08:=(s04.trans s5).trans s58
         exact⟨a,q',cs,_,rfl,L.go (fun b o hb _ n2=>⟨s08 b o hb,n2⟩) (S.same s08) L.sm rfl⟩
       · obtain⟨_,g1,g2,g3⟩:=XDf S.ok c1 g
         refine⟨x,a,_,0,c,1,0,rfl,⟨_,hx4⟩,⟨_,S4.ha⟩,.inr ⟨fun v H5=>∃(a':Addr) (cs':List Int),v = .int p∧Fr3 x a H4 a' H5∧cs'.length=cs.length∧KS (cF Y7 Y5 Y17) x dx a' q'' cs' H5,fun H1 s1 QV EX _ hQ=>⟨x,_,0,c,1,0,rfl,.inl ⟨rfl,_,x,dx,a,q',cs,c,1,rfl,rfl,S4.same s1,hc2,fun h=>by omega,fun _ _ h=>absurd rfl h,fun _ _=>.inr ⟨p,q'',g,fun a' cs' H5 n5 k5 l5 S5=>hQ _ H5 ⟨a',cs',rfl,(fun b o hb n1 _=>⟨k5 b o n1 (s1 b o hb),Xap (s1 b o hb) n5⟩),l5,S5⟩ (fun d o hd n1 _=>k5 d o n1 hd)⟩⟩⟩,fun v H9 hR t l H5 s5 ht hl=>?_⟩⟩
         obtain⟨a',cs',rfl,f5,l5,S5⟩:=hR
         walk_at "go"
         intro l0 n0
         generalize eH:upd H5 l0 _=H6
         obtain⟨s6,h0⟩:=Xcg n0 eH
         clear eH
         walk_at "go"
         intro l1 n1
         generalize eH:upd H6 l1 _=H7
         obtain⟨s7,h1⟩:=Xcg n1 eH
         clear eH
         walk_at "go"
         intro t2 n2
         generalize eH:upd H7 t2 _=H8
         obtain⟨s8,h2⟩:=Xcg n2 eH
         clear eH
         have s58:=(s6.trans s7).trans s8
         refine⟨l,t2,l0,l1,_,rfl,rfl,h2,s8 l0 _ (s7 l0 _ h0),s8 l1 _ h1,by decide,rfl,.inl (s58 l _ hl),?_⟩
         walk_at "go"
         have s08:=s5.trans s58
         exact⟨a',q'',cs',_,rfl,L.go (fun b o hb n1 n2=>let ⟨h1,h2⟩:=f5 b o (s04 b o hb) n1 n2;⟨s08 b o h1,h2⟩) (S5.same s08) (L.sm.trans ⟨g1,g2,g3⟩) l5⟩
     · rintro σ H2 ⟨a,q',cs,x5,rfl,L⟩
       have hS2:=Xmj hS fun o h=>(L.kp o h).1
       have hr':ki=2↔q'.let3 = .row:=by rw[L.sm.1];exact hr
       walk_at "go"
       intro q2 H3 nq2 s3 hq2
       generalize cutI ns (some 6) (some 50)=zs2 at hq2 ⊢
       refine⟨q2,rfl,⟨_,SqL.of hq2⟩,Xgx (K:=K) (a:=q2) (xs:=zs2.map V.int) (LwA (cF Y7 Y5 Y17) x dx sc q2 zs2 q H ki x2) ⟨a,q',cs,x5,rfl,L.S.same s3,L.sm,L.sz,fun o h=>let ⟨h1,h2⟩:=L.kp o h;⟨s3 sc o h1,h2⟩,hq2,(Xap L.S.hx nq2).symm,(Xap L.S.ha nq2).symm⟩ (fun i σ H2 _ ⟨_,_,_,_,_,L⟩=>SqL.of L.hq) ?_ ?_⟩
       · rintro i y σ H4 hi ⟨a,q',cs,x5,rfl,L⟩
         rw[List.getElem?_map] at hi
         obtain⟨c0,hc0,rfl⟩:=Option.map_eq_some_iff.mp hi
         walk_at "go"
         refine⟨x,dx,a,q',cs,ki,c0,by rw[L.sm.2.1],by rw[L.sm.1];exact hr,L.S,L.sz,fun cs' H5 k5 l5 S5=>?_⟩
         walk_at "go"
         exact⟨a,q',cs',_,rfl,L.go (fun b o hb _ n2=>⟨k5 b o n2 hb,n2⟩) S5 L.sm l5⟩
       · rintro σ H4 ⟨a,q',cs,x5,rfl,L⟩
         have hS4:=Xmj hS fun o h=>(L.kp o h).1
         walk_at "go"
         exact⟨x,dx,a,q',cs,ki,_,by rw[L.sm.2.1],by rw[L.sm.1];exact hr,L.S,L.sz,fun H5=>kk _⟩
   · walk_at "go"
     refine Xbj (fun h1=>?_) (fun h1=>?_)
     · walk_at "go"
       obtain⟨n,en,n5,n60⟩:∃n,5+ns.getD (Int.toNat 1) 0%56=n∧5≤n∧n≤60:=⟨_,rfl,by omega,by omega⟩
       rw[en]
       intro x' dx' nx' ndx' nex'
       generalize eH:upd (upd H8 dx' (.own x')) x' _=H9
       have s9:Same H8 H9:=by rw[←eH];exact(Same.new ndx').put nx'
       have hx9:H9 x'=some (.ins Y17 dx' []):=by rw[←eH];exact upd_same
       clear eH
       refine⟨x',dx',_,rfl,hx9,by omega,by omega,fun a9 H10 na k10 hx10 ha10=>⟨rfl,?_⟩⟩
       obtain⟨r1,r2,r3⟩:=XCh (show 3≤n by omega)
       walk_at "go"
       exact hM _ _ ⟨x',dx',a9,.row n [],_,x2,rfl,⟨hx10,ha10,r3,by omega,r1,r2⟩,by omega,Xsz (fun o h=>(kp o h).1) nx' s9 na k10,⟨fun _=>rfl,fun _=>h1⟩⟩
     · walk_at "go"
       exact hM _ _ ⟨x,dx,a,q,cs,x2,rfl,S,hz,kp,⟨fun h=>absurd h h1,fun h=>(hr.mpr h).elim⟩⟩
 · walk_at "go"
   refine Xbj (fun h1=>?_) (fun h1=>?_)
   · walk_at "go"
     obtain⟨s,es,s3,s20⟩:∃s,3+ns.getD (Int.toNat 1) 0%18=s∧3≤s∧s≤20:=⟨_,rfl,by omega,by omega⟩
     obtain⟨m,em,m1,m3⟩:∃m:Nat,1+ns.getD (Int.toNat 1) 0/18%3=(m:Int)∧1≤m∧m≤3:=⟨(1+ns.getD (Int.toNat 1) 0/18%3).toNat,by omega,by omega,by omega⟩
     rw[es,em]
     have hsm:s*(m:Int)≤60:=by
       have h1:=Int.mul_le_mul_of_nonneg_left (show (m:Int)≤3 by omega) (show 0≤s by omega)
       omega
     intro x' dx' nx' ndx' nex'
     generalize eH:upd (upd H7 dx' (.own x')) x' _=H9
     have s9:Same H7 H9:=by rw[←eH];exact(Same.new ndx').put nx'
     have hx9:H9 x'=some (.ins Y5 dx' []):=by rw[←eH];exact upd_same
     clear eH
     refine⟨x',dx',s,m,rfl,hx9,by omega,by omega,m1,fun a9 H10 na k10 hx10 ha10=>⟨rfl,?_⟩⟩
     obtain⟨r1,r2,r3⟩:=XAh (show 1≤s by omega) m
     have r4:=Xgs (show 1≤s by omega) m
     walk_at "go"
     exact hM _ _ ⟨x',dx',a9,.shel s (List.replicate m ⟨0,[]⟩),_,_,rfl,⟨hx10,ha10,r1,by omega,⟨s3,by rw[List.length_replicate];exact m1,r2⟩,r3⟩,by omega,Xsz (fun o h=>(kp7 o h).1) nx' s9 na k10,⟨False.elim,fun h=>nomatch h⟩⟩
   · walk_at "go"
     exact hM _ _ ⟨x,dx,a,_,_,_,rfl,S7,o3,kp7,⟨False.elim,fun h=>nomatch h⟩⟩
end
abbrev LkF (K:PySem.W.Frag)(x q:Str)(s:Stmt)(D:Value)(f:Addr)(oc:Value)(od:Option Addr)(kV dc pm:Value)(an:Option Addr)(cd ct:Value)(sl:Array (Option Value)):Prop:=K.lookup f=some ⟨oc,od,.func (PySem.W.fnOf x q (Xbf s) (Xaz s) (Xad s) D kV dc pm an cd ct),sl⟩
set_option autoImplicit true in
set_option relaxedAutoImplicit true in
theorem all_mk {l:PySem.W.OpenLaw}{w:World}{K:PySem.W.Frag}{h:Heap}{mg:Str→Option Value}{fa:Addr}(X:K.In h)(G:h.Ns mainGlobals mg)(hfa:mg "law"=some (.ref fa))
   (a_Z30:nI K "check_ask" f_Z30)
   (l_Z30:LkF K "check_ask" "check_ask" Xsj .none f_Z30 oc_Z30 od_Z30 kV_Z30 dc_Z30 pm_Z30 an_Z30 cd_Z30 ct_Z30 sl_Z30)
   (c_Z30:cI K cd_Z30 "check_ask")
   (k_Z30:kI K f_Z30)
   (a_Z3:nI K "check_plain_ask" f_Z3)
   (l_Z3:LkF K "check_plain_ask" "check_plain_ask" s_Z3 .none f_Z3 oc_Z3 od_Z3 kV_Z3 dc_Z3 pm_Z3 an_Z3 cd_Z3 ct_Z3 sl_Z3)
   (c_Z3:cI K cd_Z3 "check_plain_ask")
   (k_Z3:kI K f_Z3)
   (a_Z46:nI K "mark_of" f_Z46)
   (l_Z46:LkF K "mark_of" "mark_of" Xsw .none f_Z46 oc_Z46 od_Z46 kV_Z46 dc_Z46 pm_Z46 an_Z46 cd_Z46 ct_Z46 sl_Z46)
   (c_Z46:cI K cd_Z46 "mark_of")
   (k_Z46:kI K f_Z46)
   (a_Z44:nI K "long_of" f_Z44)
   (l_Z44:LkF K "long_of" "long_of" Xti .none f_Z44 oc_Z44 od_Z44 kV_Z44 dc_Z44 pm_Z44 an_Z44 cd_Z44 ct_Z44 sl_Z44)
   (c_Z44:cI K cd_Z44 "long_of")
   (k_Z44:kI K f_Z44)
   (a_Z50:nI K "live_of" f_Z50)
   (l_Z50:LkF K "live_of" "live_of" Xub .none f_Z50 oc_Z50 od_Z50 kV_Z50 dc_Z50 pm_Z50 an_Z50 cd_Z50 ct_Z50 sl_Z50)
   (c_Z50:cI K cd_Z50 "live_of")
   (k_Z50:kI K f_Z50)
   (a_Z33:nI K "can_begin" f_Z33)
   (l_Z33:LkF K "can_begin" "can_begin" Xug .none f_Z33 oc_Z33 od_Z33 kV_Z33 dc_Z33 pm_Z33 an_Z33 cd_Z33 ct_Z33 sl_Z33)
   (c_Z33:cI K cd_Z33 "can_begin")
   (k_Z33:kI K f_Z33)
   (a_Z10:nI K "bad_of_piece" f_Z10)
   (l_Z10:LkF K "bad_of_piece" "bad_of_piece" Xrk .none f_Z10 oc_Z10 od_Z10 kV_Z10 dc_Z10 pm_Z10 an_Z10 cd_Z10 ct_Z10 sl_Z10)
   (c_Z10:cI K cd_Z10 "bad_of_piece")
   (k_Z10:kI K f_Z10)
   (a_Z63:nI K "looked" f_Z63)
   (l_Z63:LkF K "looked" "looked" Xuv .none f_Z63 oc_Z63 od_Z63 kV_Z63 dc_Z63 pm_Z63 an_Z63 cd_Z63 ct_Z63 sl_Z63)
   (c_Z63:cI K cd_Z63 "looked")
   (k_Z63:kI K f_Z63)
   (a_Z26:nI K "fresh_room" f_Z26)
   (l_Z26:LkF K "fresh_room" "fresh_room" Xsb .none f_Z26 oc_Z26 od_Z26 kV_Z26 dc_Z26 pm_Z26 an_Z26 cd_Z26 ct_Z26 sl_Z26)
   (c_Z26:cI K cd_Z26 "fresh_room")
   (k_Z26:kI K f_Z26)
   (a_Z73:nI K "laid" f_Z73)
   (l_Z73:LkF K "laid" "laid" Xrh .none f_Z73 oc_Z73 od_Z73 kV_Z73 dc_Z73 pm_Z73 an_Z73 cd_Z73 ct_Z73 sl_Z73)
   (c_Z73:cI K cd_Z73 "laid")
   (k_Z73:kI K f_Z73)
   (a_Z32:nI K "laid_free" f_Z32)
   (l_Z32:LkF K "laid_free" "laid_free" Xqa .none f_Z32 oc_Z32 od_Z32 kV_Z32 dc_Z32 pm_Z32 an_Z32 cd_Z32 ct_Z32 sl_Z32)
   (c_Z32:cI K cd_Z32 "laid_free")
   (k_Z32:kI K f_Z32)
   (a_Z38:nI K "piece_at" f_Z38)
   (l_Z38:LkF K "piece_at" "piece_at" Xsl .none f_Z38 oc_Z38 od_Z38 kV_Z38 dc_Z38 pm_Z38 an_Z38 cd_Z38 ct_Z38 sl_Z38)
   (c_Z38:cI K cd_Z38 "piece_at")
   (k_Z38:kI K f_Z38)
   (a_Z42:nI K "live_at" f_Z42)
   (l_Z42:LkF K "live_at" "live_at" Xuf .none f_Z42 oc_Z42 od_Z42 kV_Z42 dc_Z42 pm_Z42 an_Z42 cd_Z42 ct_Z42 sl_Z42)
   (c_Z42:cI K cd_Z42 "live_at")
   (k_Z42:kI K f_Z42)
   (a_Z51:nI K "free_at" f_Z51)
   (l_Z51:LkF K "free_at" "free_at" Xrm .none f_Z51 oc_Z51 od_Z51 kV_Z51 dc_Z51 pm_Z51 an_Z51 cd_Z51 ct_Z51 sl_Z51)
   (c_Z51:cI K cd_Z51 "free_at")
   (k_Z51:kI K f_Z51)
   (a_Z54:nI K "cut_out" f_Z54)
   (l_Z54:LkF K "cut_out" "cut_out" Xqy .none f_Z54 oc_Z54 od_Z54 kV_Z54 dc_Z54 pm_Z54 an_Z54 cd_Z54 ct_Z54 sl_Z54)
   (c_Z54:cI K cd_Z54 "cut_out")
   (k_Z54:kI K f_Z54)
   (a_Z55:nI K "carried" f_Z55)
   (l_Z55:LkF K "carried" "carried" Xvc .none f_Z55 oc_Z55 od_Z55 kV_Z55 dc_Z55 pm_Z55 an_Z55 cd_Z55 ct_Z55 sl_Z55)
   (c_Z55:cI K cd_Z55 "carried")
   (k_Z55:kI K f_Z55)
   (a_Z35:nI K "is_power" f_Z35)
   (l_Z35:LkF K "is_power" "is_power" Xqb .none f_Z35 oc_Z35 od_Z35 kV_Z35 dc_Z35 pm_Z35 an_Z35 cd_Z35 ct_Z35 sl_Z35)
   (c_Z35:cI K cd_Z35 "is_power")
   (k_Z35:kI K f_Z35)
   (a_Z31:nI K "block_for" f_Z31)
   (l_Z31:LkF K "block_for" "block_for" Xtw .none f_Z31 oc_Z31 od_Z31 kV_Z31 dc_Z31 pm_Z31 an_Z31 cd_Z31 ct_Z31 sl_Z31)
   (c_Z31:cI K cd_Z31 "block_for")
   (k_Z31:kI K f_Z31)
   (a_Z25:nI K "least_free" f_Z25)
   (l_Z25:LkF K "least_free" "least_free" Xqg .none f_Z25 oc_Z25 od_Z25 kV_Z25 dc_Z25 pm_Z25 an_Z25 cd_Z25 ct_Z25 sl_Z25)
   (c_Z25:cI K cd_Z25 "least_free")
   (k_Z25:kI K f_Z25)
   (a_Z40:nI K "cut_down" f_Z40)
   (l_Z40:LkF K "cut_down" "cut_down" Xrz .none f_Z40 oc_Z40 od_Z40 kV_Z40 dc_Z40 pm_Z40 an_Z40 cd_Z40 ct_Z40 sl_Z40)
   (c_Z40:cI K cd_Z40 "cut_down")
   (k_Z40:kI K f_Z40)
   (a_Z4:nI K "grown_together" f_Z4)
   (l_Z4:LkF K "grown_together" "grown_together" s_Z4 .none f_Z4 oc_Z4 od_Z4 kV_Z4 dc_Z4 pm_Z4 an_Z4 cd_Z4 ct_Z4 sl_Z4)
   (c_Z4:cI K cd_Z4 "grown_together")
   (k_Z4:kI K f_Z4)
   (a_Z34:nI K "all_whole" f_Z34)
   (l_Z34:LkF K "all_whole" "all_whole" Xsm .none f_Z34 oc_Z34 od_Z34 kV_Z34 dc_Z34 pm_Z34 an_Z34 cd_Z34 ct_Z34 sl_Z34)
   (c_Z34:cI K cd_Z34 "all_whole")
   (k_Z34:kI K f_Z34)
   (a_Z39:nI K "begin_of" f_Z39)
   (l_Z39:LkF K "begin_of" "begin_of" Xsv .none f_Z39 oc_Z39 od_Z39 kV_Z39 dc_Z39 pm_Z39 an_Z39 cd_Z39 ct_Z39 sl_Z39)
   (c_Z39:cI K cd_Z39 "begin_of")
   (k_Z39:kI K f_Z39)
   (a_Z20:nI K "whole_ones" f_Z20)
   (l_Z20:LkF K "whole_ones" "whole_ones" Xre .none f_Z20 oc_Z20 od_Z20 kV_Z20 dc_Z20 pm_Z20 an_Z20 cd_Z20 ct_Z20 sl_Z20)
   (c_Z20:cI K cd_Z20 "whole_ones")
   (k_Z20:kI K f_Z20)
   (a_Z19:nI K "free_slots" f_Z19)
   (l_Z19:LkF K "free_slots" "free_slots" Xpz .none f_Z19 oc_Z19 od_Z19 kV_Z19 dc_Z19 pm_Z19 an_Z19 cd_Z19 ct_Z19 sl_Z19)
   (c_Z19:cI K cd_Z19 "free_slots")
   (k_Z19:kI K f_Z19)
   (a_Z53:nI K "cut_for" f_Z53)
   (l_Z53:LkF K "cut_for" "cut_for" Xrl .none f_Z53 oc_Z53 od_Z53 kV_Z53 dc_Z53 pm_Z53 an_Z53 cd_Z53 ct_Z53 sl_Z53)
   (c_Z53:cI K cd_Z53 "cut_for")
   (k_Z53:kI K f_Z53)
   (a_Z29:nI K "with_slot" f_Z29)
   (l_Z29:LkF K "with_slot" "with_slot" Xqn .none f_Z29 oc_Z29 od_Z29 kV_Z29 dc_Z29 pm_Z29 an_Z29 cd_Z29 ct_Z29 sl_Z29)
   (c_Z29:cI K cd_Z29 "with_slot")
   (k_Z29:kI K f_Z29)
   (a_Z41:nI K "has_live" f_Z41)
   (l_Z41:LkF K "has_live" "has_live" Xtr .none f_Z41 oc_Z41 od_Z41 kV_Z41 dc_Z41 pm_Z41 an_Z41 cd_Z41 ct_Z41 sl_Z41)
   (c_Z41:cI K cd_Z41 "has_live")
   (k_Z41:kI K f_Z41)
   (a_Z27:nI K "_law_cell_at" f_Z27)
   (l_Z27:LkF K "_law_cell_at" "_law_cell_at" Xuo .none f_Z27 oc_Z27 od_Z27 kV_Z27 dc_Z27 pm_Z27 an_Z27 cd_Z27 ct_Z27 sl_Z27)
   (c_Z27:cI K cd_Z27 "_law_cell_at")
   (k_Z27:kI K f_Z27)
   (a_Z49:nI K "_law_whole" f_Z49)
   (l_Z49:LkF K "_law_whole" "_law_whole" Xrg .none f_Z49 oc_Z49 od_Z49 kV_Z49 dc_Z49 pm_Z49 an_Z49 cd_Z49 ct_Z49 sl_Z49)
   (c_Z49:cI K cd_Z49 "_law_whole")
   (k_Z49:kI K f_Z49)
   (a_Z64:nI K "_law_walk" f_Z64)
   (l_Z64:LkF K "_law_walk" "_law_walk" Xtk .none f_Z64 oc_Z64 od_Z64 kV_Z64 dc_Z64 pm_Z64 an_Z64 cd_Z64 ct_Z64 sl_Z64)
   (c_Z64:cI K cd_Z64 "_law_walk")
   (k_Z64:kI K f_Z64)
   (a_Z47:nI K "_law_words" f_Z47)
   (l_Z47:LkF K "_law_words" "_law_words" Xtn .none f_Z47 oc_Z47 od_Z47 kV_Z47 dc_Z47 pm_Z47 an_Z47 cd_Z47 ct_Z47 sl_Z47)
   (c_Z47:cI K cd_Z47 "_law_words")
   (k_Z47:kI K f_Z47)
   (a_Z60:nI K "_law_done" f_Z60)
   (l_Z60:LkF K "_law_done" "_law_done" Xtu .none f_Z60 oc_Z60 od_Z60 kV_Z60 dc_Z60 pm_Z60 an_Z60 cd_Z60 ct_Z60 sl_Z60)
   (c_Z60:cI K cd_Z60 "_law_done")
   (k_Z60:kI K f_Z60)
   (a_Z65:nI K "_law_call" f_Z65)
   (l_Z65:LkF K "_law_call" "_law_call" Xrw .none f_Z65 oc_Z65 od_Z65 kV_Z65 dc_Z65 pm_Z65 an_Z65 cd_Z65 ct_Z65 sl_Z65)
   (c_Z65:cI K cd_Z65 "_law_call")
   (k_Z65:kI K f_Z65)
   (a_Z28:nI K "_law_ask_due" f_Z28)
   (l_Z28:LkF K "_law_ask_due" "_law_ask_due" Xrn .none f_Z28 oc_Z28 od_Z28 kV_Z28 dc_Z28 pm_Z28 an_Z28 cd_Z28 ct_Z28 sl_Z28)
   (c_Z28:cI K cd_Z28 "_law_ask_due")
   (k_Z28:kI K f_Z28)
   (a_Z68:nI K "_law_due" f_Z68)
   (l_Z68:LkF K "_law_due" "_law_due" Xrx .none f_Z68 oc_Z68 od_Z68 kV_Z68 dc_Z68 pm_Z68 an_Z68 cd_Z68 ct_Z68 sl_Z68)
   (c_Z68:cI K cd_Z68 "_law_due")
   (k_Z68:kI K f_Z68)
   (a_Z24:nI K "_law_place_by" f_Z24)
   (l_Z24:LkF K "_law_place_by" "_law_place_by" Xus .none f_Z24 oc_Z24 od_Z24 kV_Z24 dc_Z24 pm_Z24 an_Z24 cd_Z24 ct_Z24 sl_Z24)
   (c_Z24:cI K cd_Z24 "_law_place_by")
   (k_Z24:kI K f_Z24)
   (a_Z62:nI K "_law_step" f_Z62)
   (l_Z62:LkF K "_law_step" "_law_step" Xuk .none f_Z62 oc_Z62 od_Z62 kV_Z62 dc_Z62 pm_Z62 an_Z62 cd_Z62 ct_Z62 sl_Z62)
   (c_Z62:cI K cd_Z62 "_law_step")
   (k_Z62:kI K f_Z62)
   (a_Z58:nI K "_law_last" f_Z58)
   (l_Z58:LkF K "_law_last" "_law_last" Xta .none f_Z58 oc_Z58 od_Z58 kV_Z58 dc_Z58 pm_Z58 an_Z58 cd_Z58 ct_Z58 sl_Z58)
   (c_Z58:cI K cd_Z58 "_law_last")
   (k_Z58:kI K f_Z58)
   (a_law:nI K "law" f_law)
   (l_law:LkF K "law" "law" Xmr .none f_law oc_law od_law kV_law dc_law pm_law an_law cd_law ct_law sl_law)
   (c_law:cI K cd_law "law")
   (k_law:kI K f_law)
   {W0_:Tok}
   {W1_:Tok}
   {Y0 Y12 Y14 Y6 Y10 Y1 Y4 Y9 Y16 Y3 Y13 Y2 Y11 Y15 Y8 Y7 Y17 Y5:Addr}
   (zcG:PySem.W.nsIn K mainGlobals "ValueError"=some none)
   (z_any:PySem.W.nsIn K mainGlobals "any"=some none)
   (z_bool:PySem.W.nsIn K mainGlobals "bool"=some none)
   (z_dict:PySem.W.nsIn K mainGlobals "dict"=some none)
   (z_int:PySem.W.nsIn K mainGlobals "int"=some none)
   (z_isinstance:PySem.W.nsIn K mainGlobals "isinstance"=some none)
   (z_len:PySem.W.nsIn K mainGlobals "len"=some none)
   (z_list:PySem.W.nsIn K mainGlobals "list"=some none)
   (z_min:PySem.W.nsIn K mainGlobals "min"=some none)
   (z_range:PySem.W.nsIn K mainGlobals "range"=some none)
   (z_sorted:PySem.W.nsIn K mainGlobals "sorted"=some none)
   (z_tuple:PySem.W.nsIn K mainGlobals "tuple"=some none)
   (zbS:PySem.W.nsIn K mainGlobals "LEAST_LIVE"=some (some (.int 3 W0_)))
   (zce:PySem.W.nsIn K mainGlobals "MARKS"=some (some (.int 2 W1_)))
   (zcH:nI K "StowError" Y0)
   (zdI:nI K "NoName" Y12)
   (zcK:nI K "NoSize" Y14)
   (zcL:nI K "Broken" Y6)
   (zcM:nI K "NoGive" Y10)
   (zcQ:nI K "NoHandle" Y1)
   (zcy:nI K "NoPiece" Y4)
   (zcN:nI K "NoCell" Y9)
   (zcU:nI K "NoAsk" Y16)
   (zcz:nI K "NoBound" Y3)
   (zcO:nI K "NoRoom" Y13)
   (zcV:nI K "BadLine" Y2)
   (zdJ:nI K "NoLine" Y11)
   (zdK:nI K "NoTurn" Y15)
   (zdL:nI K "Keeper" Y8)
   (zdM:nI K "Halves" Y7)
   (cc_Row:nI K "Row" Y17)
   (zcW:nI K "Shelves" Y5)
   (zdN:PySem.W.findIn K (.ref Y6) "__setattr__"=some (some (.builtin "object.__setattr__")))
   {zco:ClassData}
   (zdO:PySem.W.clsIn K Y6=some zco)
   (zdP:Xhf zco.mro=true)
   (zdQ:zco.hasDict=true)
   (zdR:PySem.W.mroIn K Y6 (.type "object")=some true)
   (zdS:PySem.W.findIn K (.ref Y6) "cell"=some none)
   (zdT:PySem.W.excIn K Y14 [.type "ValueError",.type "Exception",.type "BaseException",.type "object"] "ValueError.__new__"=true)
   (zcX:PySem.W.excIn K Y4 [.type "ValueError",.type "Exception",.type "BaseException",.type "object"] "ValueError.__new__"=true)
   (zdU:PySem.W.excIn K Y13 [.type "ValueError",.type "Exception",.type "BaseException",.type "object"] "ValueError.__new__"=true)
   (zdV:PySem.W.excIn K Y10 [.type "ValueError",.type "Exception",.type "BaseException",.type "object"] "ValueError.__new__"=true)
   (zdW:PySem.W.excIn K Y9 [.type "ValueError",.type "Exception",.type "BaseException",.type "object"] "ValueError.__new__"=true)
   (zfv:PySem.W.excIn K Y16 [.type "ValueError",.type "Exception",.type "BaseException",.type "object"] "ValueError.__new__"=true)
   (zcY:PySem.W.excIn K Y3 [.type "ValueError",.type "Exception",.type "BaseException",.type "object"] "ValueError.__new__"=true)
   (zdX:PySem.W.plainGet K Y7 Str.empty=true)
   (zdY:PySem.W.hasDictIn K Y7=true)
   (zdZ:PySem.W.plainOver K Y7=true)
   (zea:PySem.W.findIn K (.ref Y7) "__setattr__"=some (some (.builtin "object.__setattr__")))
   (zac:PySem.W.findIn K (.ref Y7) "room_cells"=some none)
   (zcZ:PySem.W.plainGet K Y5 Str.empty=true)
   (zda:PySem.W.hasDictIn K Y5=true)
   (zdb:PySem.W.plainOver K Y5=true)
   (zdc:PySem.W.findIn K (.ref Y5) "__setattr__"=some (some (.builtin "object.__setattr__")))
   (zaa:PySem.W.findIn K (.ref Y5) "room_cells"=some none)
   (zab:PySem.W.findIn K (.ref Y5) "shelf"=some none)
   (pg_Row:PySem.W.plainGet K Y17 Str.empty=true)
   (hd_Row:PySem.W.hasDictIn K Y17=true)
   (po_Row:PySem.W.plainOver K Y17=true)
   (sa_Row:PySem.W.findIn K (.ref Y17) "__setattr__"=some (some (.builtin "object.__setattr__")))
   (zad:PySem.W.findIn K (.ref Y17) "room_cells"=some none)
   (zeb:PySem.W.findIn K (.ref Y10) "__getattribute__"=some (some (.builtin "BaseException.__getattribute__")))
   (zec:PySem.W.findIn K (.ref Y10) "__getattr__"=some none)
   (zed:PySem.W.findIn K (.ref Y10) "__class__"=some (some (.builtin "object.__class__")))
   (zee:PySem.W.mroIn K Y10 (.type "object")=some true)
   (zef:PySem.W.mroIn K Y10 (.type "BaseException")=some true)
   (zdd:PySem.W.findIn K (.ref Y4) "__getattribute__"=some (some (.builtin "BaseException.__getattribute__")))
   (zde:PySem.W.findIn K (.ref Y4) "__getattr__"=some none)
   (zdf:PySem.W.findIn K (.ref Y4) "__class__"=some (some (.builtin "object.__class__")))
   (zdg:PySem.W.mroIn K Y4 (.type "object")=some true)
   (zdh:PySem.W.mroIn K Y4 (.type "BaseException")=some true)
   (zeg:PySem.W.findIn K (.ref Y9) "__getattribute__"=some (some (.builtin "BaseException.__getattribute__")))
   (zeh:PySem.W.findIn K (.ref Y9) "__getattr__"=some none)
   (zei:PySem.W.findIn K (.ref Y9) "__class__"=some (some (.builtin "object.__class__")))
   (zej:PySem.W.mroIn K Y9 (.type "object")=some true)
   (zek:PySem.W.mroIn K Y9 (.type "BaseException")=some true)
   (zfw:PySem.W.findIn K (.ref Y16) "__getattribute__"=some (some (.builtin "BaseException.__getattribute__")))
   (zfx:PySem.W.findIn K (.ref Y16) "__getattr__"=some none)
   (zfy:PySem.W.findIn K (.ref Y16) "__class__"=some (some (.builtin "object.__class__")))
   (zfz:PySem.W.mroIn K Y16 (.type "object")=some true)
   (zfA:PySem.W.mroIn K Y16 (.type "BaseException")=some true)
   (zdi:PySem.W.findIn K (.ref Y3) "__getattribute__"=some (some (.builtin "BaseException.__getattribute__")))
   (zdj:PySem.W.findIn K (.ref Y3) "__getattr__"=some none)
   (zdk:PySem.W.findIn K (.ref Y3) "__class__"=some (some (.builtin "object.__class__")))
   (zdl:PySem.W.mroIn K Y3 (.type "object")=some true)
   (zdm:PySem.W.mroIn K Y3 (.type "BaseException")=some true)
   (zel:PySem.W.findIn K (.ref Y13) "__getattribute__"=some (some (.builtin "BaseException.__getattribute__")))
   (zem:PySem.W.findIn K (.ref Y13) "__getattr__"=some none)
   (zen:PySem.W.findIn K (.ref Y13) "__class__"=some (some (.builtin "object.__class__")))
   (zeo:PySem.W.mroIn K Y13 (.type "object")=some true)
   (zep:PySem.W.mroIn K Y13 (.type "BaseException")=some true)
   (zeq:K.lookup Y10=some (excClassObj zgF zgG Y10 N_NoGive zgH zer zgI zgJ zfX zgK zfY zgL zgM zgN zgO zgP zgQ zgR))
   (zam:K.lookup Y0=some (excClassObj zfB zfC Y0 N_StowError zfD zcI zfE zfF zfe zfG zff zfH zfI zfJ zfK zfL zfM zfN))
   (zan:(Value.ref Y0::zcI).contains (.type "BaseException")=true)
   (zbX:(Value.ref Y10::zer).contains (.ref Y0)=true)
   (zdn:K.lookup Y4=some (excClassObj zfZ zga Y4 N_NoPiece zgb zdo zgc zgd zfQ zge zfR zgf zgg zgh zgi zgj zgk zgl))
   (zbT:(Value.ref Y4::zdo).contains (.ref Y0)=true)
   (zes:K.lookup Y9=some (excClassObj zgS zgT Y9 N_NoCell zgU zet zgV zgW zgm zgX zgn zgY zgZ zha zhb zhc zhd zhe))
   (zbY:(Value.ref Y9::zet).contains (.ref Y0)=true)
   (zfO:K.lookup Y16=some (excClassObj zhG zhH Y16 N_NoAsk zhI zfP zhJ zhK zhf zhL zhg zhM zhN zhO zhP zhQ zhR zhS))
   (zcd:(Value.ref Y16::zfP).contains (.ref Y0)=true)
   (zdp:K.lookup Y3=some (excClassObj zgo zgp Y3 N_NoBound zgq zdq zgr zgs zfS zgt zfT zgu zgv zgw zgx zgy zgz zgA))
   (zbU:(Value.ref Y3::zdq).contains (.ref Y0)=true)
   (zeu:K.lookup Y13=some (excClassObj zhh zhi Y13 N_NoRoom zhj zev zhk zhl zgB zhm zgC zhn zho zhp zhq zhr zhs zht))
   (zbZ:(Value.ref Y13::zev).contains (.ref Y0)=true)
   (zaZ:tI K Y10 Y12 false)
   (zba:tI K Y10 Y14 false)
   (zbb:tI K Y10 Y6 false)
   (zbc:tI K Y10 Y10 true)
   (zao:tI K Y10 Y1 false)
   (zay:tI K Y10 Y4 false)
   (zbd:tI K Y10 Y9 false)
   (zbC:tI K Y10 Y16 false)
   (zaz:tI K Y10 Y3 false)
   (zbe:tI K Y10 Y13 false)
   (zag:PySem.W.kitOne K (.ref Y10) (.type "ValueError")=some true)
   (zaA:tI K Y10 Y2 false)
   (zbf:tI K Y10 Y11 false)
   (zbg:tI K Y10 Y15 false)
   (zaB:tI K Y4 Y12 false)
   (zaC:tI K Y4 Y14 false)
   (zaD:tI K Y4 Y6 false)
   (zaE:tI K Y4 Y10 false)
   (zaj:tI K Y4 Y1 false)
   (zap:tI K Y4 Y4 true)
   (zaF:tI K Y4 Y9 false)
   (zbh:tI K Y4 Y16 false)
   (zaq:tI K Y4 Y3 false)
   (zaG:tI K Y4 Y13 false)
   (zae:PySem.W.kitOne K (.ref Y4) (.type "ValueError")=some true)
   (zar:tI K Y4 Y2 false)
   (zaH:tI K Y4 Y11 false)
   (zaI:tI K Y4 Y15 false)
   (zbi:tI K Y9 Y12 false)
   (zbj:tI K Y9 Y14 false)
   (zbk:tI K Y9 Y6 false)
   (zbl:tI K Y9 Y10 false)
   (zas:tI K Y9 Y1 false)
   (zaJ:tI K Y9 Y4 false)
   (zbm:tI K Y9 Y9 true)
   (zbD:tI K Y9 Y16 false)
   (zaK:tI K Y9 Y3 false)
   (zbn:tI K Y9 Y13 false)
   (zah:PySem.W.kitOne K (.ref Y9) (.type "ValueError")=some true)
   (zaL:tI K Y9 Y2 false)
   (zbo:tI K Y9 Y11 false)
   (zbp:tI K Y9 Y15 false)
   (zbE:tI K Y16 Y12 false)
   (zbF:tI K Y16 Y14 false)
   (zbG:tI K Y16 Y6 false)
   (zbH:tI K Y16 Y10 false)
   (zaM:tI K Y16 Y1 false)
   (zbq:tI K Y16 Y4 false)
   (zbI:tI K Y16 Y9 false)
   (zbO:tI K Y16 Y16 true)
   (zbr:tI K Y16 Y3 false)
   (zbJ:tI K Y16 Y13 false)
   (zak:PySem.W.kitOne K (.ref Y16) (.type "ValueError")=some true)
   (zbs:tI K Y16 Y2 false)
   (zbK:tI K Y16 Y11 false)
   (zbL:tI K Y16 Y15 false)
   (zaN:tI K Y3 Y12 false)
   (zaO:tI K Y3 Y14 false)
   (zaP:tI K Y3 Y6 false)
   (zaQ:tI K Y3 Y10 false)
   (zal:tI K Y3 Y1 false)
   (zat:tI K Y3 Y4 false)
   (zaR:tI K Y3 Y9 false)
   (zbt:tI K Y3 Y16 false)
   (zau:tI K Y3 Y3 true)
   (zaS:tI K Y3 Y13 false)
   (zaf:PySem.W.kitOne K (.ref Y3) (.type "ValueError")=some true)
   (zav:tI K Y3 Y2 false)
   (zaT:tI K Y3 Y11 false)
   (zaU:tI K Y3 Y15 false)
   (zbu:tI K Y13 Y12 false)
   (zbv:tI K Y13 Y14 false)
   (zbw:tI K Y13 Y6 false)
   (zbx:tI K Y13 Y10 false)
   (zaw:tI K Y13 Y1 false)
   (zaV:tI K Y13 Y4 false)
   (zby:tI K Y13 Y9 false)
   (zbM:tI K Y13 Y16 false)
   (zaW:tI K Y13 Y3 false)
   (zbz:tI K Y13 Y13 true)
   (zai:PySem.W.kitOne K (.ref Y13) (.type "ValueError")=some true)
   (zaX:tI K Y13 Y2 false)
   (zbA:tI K Y13 Y11 false)
   (zbB:tI K Y13 Y15 false)
   (zew:K.lookup Y6=some (excClassObj zhu zhv Y6 N_Broken zhw zex zhx zhy zgD zhz zgE zhA zhB zhC zhD zhE zhF zey))
   (zcJ:PySem.W.excIn K Y0 [.type "ValueError",.type "Exception",.type "BaseException",.type "object"] "ValueError.__new__"=true)
   (zez:kI K Y6)
   (e37_:fI K Y6 "__init__" zbP)
   (zcf:LkF K "__init__" "Broken.__init__" Xdd .none zbP zcp zeA zeB zeC zeD zeE zcq zeF zeG)
   (zcA:cI K zcq "Broken.__init__")
   (zcB:kI K zbP)
   (zeH:zex = .ref Y0::[.type "ValueError",.type "Exception",.type "BaseException",.type "object"])
   (zeI:zey="ValueError.__new__")
   (zeJ:zcp = .type "function")
   (e11_:PySem.W.findCls K (.ref Y8) (.type "type") "__init__"=some (.val (.ref zaY)))
   (zcg:LkF K "__init__" "Keeper.__init__" Xcq .none zaY zeK zeL zeM zeN zeO zeP zcr zeQ zeR)
   (zch:cI K zcr "Keeper.__init__")
   (zbQ:kI K zaY)
   (zeS:PySem.W.specialIn K (.ref Y8) "__getattribute__"=some (some (.builtin "type.__getattribute__")))
   (zeT:PySem.W.readsIn K Y8 (.type "type")=true)
   (e30_:fI K Y17 "__init__" zaY)
   (zcs:iI K zaY)
   (mk_Row:PySem.W.makesIn K Y17=true)
   (kp_Row:kI K Y17)
   (e4_:fI K Y7 "room_begin" f_Z1)
   (e2_:fI K Y5 "room_begin" f_Z1)
   (e10_:fI K Y17 "room_begin" f_Z1)
   (l_Z1:LkF K "room_begin" "Keeper.room_begin" s_Z1 .none f_Z1 oc_Z1 od_Z1 kV_Z1 dc_Z1 pm_Z1 an_Z1 cd_Z1 ct_Z1 sl_Z1)
   (c_Z1:cI K cd_Z1 "Keeper.room_begin")
   (k_Z1:kI K f_Z1)
   (if_Z1:iI K f_Z1)
   (e26_:fI K Y7 "lay" f_Z18)
   (e19_:fI K Y5 "lay" f_Z18)
   (e33_:fI K Y17 "lay" f_Z18)
   (l_Z18:LkF K "lay" "Keeper.lay" Xvx .none f_Z18 oc_Z18 od_Z18 kV_Z18 dc_Z18 pm_Z18 an_Z18 cd_Z18 ct_Z18 sl_Z18)
   (c_Z18:cI K cd_Z18 "Keeper.lay")
   (k_Z18:kI K f_Z18)
   (if_Z18:iI K f_Z18)
   (e12_:fI K Y7 "pieces" f_Z6)
   (e7_:fI K Y5 "pieces" f_Z6)
   (e23_:fI K Y17 "pieces" f_Z6)
   (l_Z6:LkF K "pieces" "Keeper.pieces" s_Z6 .none f_Z6 oc_Z6 od_Z6 kV_Z6 dc_Z6 pm_Z6 an_Z6 cd_Z6 ct_Z6 sl_Z6)
   (c_Z6:cI K cd_Z6 "Keeper.pieces")
   (k_Z6:kI K f_Z6)
   (if_Z6:iI K f_Z6)
   (e14_:fI K Y7 "cells" f_Z8)
   (e13_:fI K Y5 "cells" f_Z8)
   (e27_:fI K Y17 "cells" f_Z8)
   (l_Z8:LkF K "cells" "Keeper.cells" s_Z8 .none f_Z8 oc_Z8 od_Z8 kV_Z8 dc_Z8 pm_Z8 an_Z8 cd_Z8 ct_Z8 sl_Z8)
   (c_Z8:cI K cd_Z8 "Keeper.cells")
   (k_Z8:kI K f_Z8)
   (if_Z8:iI K f_Z8)
   (e20_:fI K Y7 "many" f_Z14)
   (e17_:fI K Y5 "many" f_Z14)
   (e29_:fI K Y17 "many" f_Z14)
   (l_Z14:LkF K "many" "Keeper.many" Xvt .none f_Z14 oc_Z14 od_Z14 kV_Z14 dc_Z14 pm_Z14 an_Z14 cd_Z14 ct_Z14 sl_Z14)
   (c_Z14:cI K cd_Z14 "Keeper.many")
   (k_Z14:kI K f_Z14)
   (if_Z14:iI K f_Z14)
   (e1_:fI K Y7 "room_cell_of" f_Z0)
   (e0_:fI K Y5 "room_cell_of" f_Z0)
   (e6_:fI K Y17 "room_cell_of" f_Z0)
   (l_Z0:LkF K "room_cell_of" "Keeper.room_cell_of" s_Z0 .none f_Z0 oc_Z0 od_Z0 kV_Z0 dc_Z0 pm_Z0 an_Z0 cd_Z0 ct_Z0 sl_Z0)
   (c_Z0:cI K cd_Z0 "Keeper.room_cell_of")
   (k_Z0:kI K f_Z0)
   (if_Z0:iI K f_Z0)
   (e25_:fI K Y7 "put" f_Z22)
   (e21_:fI K Y5 "put" f_Z22)
   (e31_:fI K Y17 "put" f_Z22)
   (l_Z22:LkF K "put" "Keeper.put" Xvw .none f_Z22 oc_Z22 od_Z22 kV_Z22 dc_Z22 pm_Z22 an_Z22 cd_Z22 ct_Z22 sl_Z22)
   (c_Z22:cI K cd_Z22 "Keeper.put")
   (k_Z22:kI K f_Z22)
   (if_Z22:iI K f_Z22)
   (e24_:fI K Y7 "get" f_Z17)
   (e22_:fI K Y5 "get" f_Z17)
   (e32_:fI K Y17 "get" f_Z17)
   (l_Z17:LkF K "get" "Keeper.get" Xyd .none f_Z17 oc_Z17 od_Z17 kV_Z17 dc_Z17 pm_Z17 an_Z17 cd_Z17 ct_Z17 sl_Z17)
   (c_Z17:cI K cd_Z17 "Keeper.get")
   (k_Z17:kI K f_Z17)
   (if_Z17:iI K f_Z17)
   (e36_:fI K Y7 "__init__" zbR)
   (zcC:LkF K "__init__" "Halves.__init__" Xde .none zbR zeU zeV zeW zeX zeY zeZ zct zfa zfb)
   (zcD:cI K zct "Halves.__init__")
   (zcE:kI K zbR)
   (zcu:iI K zbR)
   (zfc:PySem.W.makesIn K Y7=true)
   (zfd:kI K Y7)
   {dt_Z23:Addr} {dk_Z23:Tok} {dtc_Z23:Value} {dtd_Z23:Option Addr} {dtn_Z23:Nat} {dts_Z23:Array (Option Value)}
   (a_Z23:fI K Y7 "ask" f_Z23)
   (l_Z23:LkF K "ask" "Halves.ask" Xku (.ref dt_Z23) f_Z23 oc_Z23 od_Z23 kV_Z23 dc_Z23 pm_Z23 an_Z23 cd_Z23 ct_Z23 sl_Z23)
   (ld_Z23:K.lookup dt_Z23=some ⟨dtc_Z23,dtd_Z23,.seq [.int 1 dk_Z23].toArray dtn_Z23,dts_Z23⟩)
   (c_Z23:cI K cd_Z23 "Halves.ask")
   (k_Z23:kI K f_Z23)
   (if_Z23:iI K f_Z23)
   (e35_:fI K Y5 "__init__" zbN)
   (zcv:LkF K "__init__" "Shelves.__init__" Xcv .none zbN zdt zdu zdv zdw zdx zdy zck zdz zdA)
   (zcw:cI K zck "Shelves.__init__")
   (zcx:kI K zbN)
   (zcl:iI K zbN)
   (zdr:PySem.W.makesIn K Y5=true)
   (zds:kI K Y5)
   {dt_Z12:Addr} {dk_Z12:Tok} {dtc_Z12:Value} {dtd_Z12:Option Addr} {dtn_Z12:Nat} {dts_Z12:Array (Option Value)}
   (a_Z12:fI K Y5 "ask" f_Z12)
   (l_Z12:LkF K "ask" "Shelves.ask" Xjs (.ref dt_Z12) f_Z12 oc_Z12 od_Z12 kV_Z12 dc_Z12 pm_Z12 an_Z12 cd_Z12 ct_Z12 sl_Z12)
   (ld_Z12:K.lookup dt_Z12=some ⟨dtc_Z12,dtd_Z12,.seq [.int 1 dk_Z12].toArray dtn_Z12,dts_Z12⟩)
   (c_Z12:cI K cd_Z12 "Shelves.ask")
   (k_Z12:kI K f_Z12)
   (if_Z12:iI K f_Z12)
   {dt_Z52:Addr} {dk_Z52:Tok} {dtc_Z52:Value} {dtd_Z52:Option Addr} {dtn_Z52:Nat} {dts_Z52:Array (Option Value)}
   (a_Z52:fI K Y17 "ask" f_Z52)
   (l_Z52:LkF K "ask" "Row.ask" Xjq (.ref dt_Z52) f_Z52 oc_Z52 od_Z52 kV_Z52 dc_Z52 pm_Z52 an_Z52 cd_Z52 ct_Z52 sl_Z52)
   (ld_Z52:K.lookup dt_Z52=some ⟨dtc_Z52,dtd_Z52,.seq [.int 1 dk_Z52].toArray dtn_Z52,dts_Z52⟩)
   (c_Z52:cI K cd_Z52 "Row.ask")
   (k_Z52:kI K f_Z52)
   (if_Z52:iI K f_Z52)
   (a_Z13:fI K Y7 "give" f_Z13)
   (l_Z13:LkF K "give" "Halves.give" Xwx .none f_Z13 oc_Z13 od_Z13 kV_Z13 dc_Z13 pm_Z13 an_Z13 cd_Z13 ct_Z13 sl_Z13)
   (c_Z13:cI K cd_Z13 "Halves.give")
   (k_Z13:kI K f_Z13)
   (if_Z13:iI K f_Z13)
   (a_Z9:fI K Y5 "give" f_Z9)
   (l_Z9:LkF K "give" "Shelves.give" s_Z9 .none f_Z9 oc_Z9 od_Z9 kV_Z9 dc_Z9 pm_Z9 an_Z9 cd_Z9 ct_Z9 sl_Z9)
   (c_Z9:cI K cd_Z9 "Shelves.give")
   (k_Z9:kI K f_Z9)
   (if_Z9:iI K f_Z9)
   (a_Z36:fI K Y17 "give" f_Z36)
   (l_Z36:LkF K "give" "Row.give" Xva .none f_Z36 oc_Z36 od_Z36 kV_Z36 dc_Z36 pm_Z36 an_Z36 cd_Z36 ct_Z36 sl_Z36)
   (c_Z36:cI K cd_Z36 "Row.give")
   (k_Z36:kI K f_Z36)
   (if_Z36:iI K f_Z36)
   (e15_:fI K Y7 "clear" f_Z7)
   (e28_:fI K Y17 "clear" f_Z7)
   (l_Z7:LkF K "clear" "Keeper.clear" s_Z7 .none f_Z7 oc_Z7 od_Z7 kV_Z7 dc_Z7 pm_Z7 an_Z7 cd_Z7 ct_Z7 sl_Z7)
   (c_Z7:cI K cd_Z7 "Keeper.clear")
   (k_Z7:kI K f_Z7)
   (if_Z7:iI K f_Z7)
   (e9_:fI K Y5 "clear" f_Z5)
   (l_Z5:LkF K "clear" "Shelves.clear" s_Z5 .none f_Z5 oc_Z5 od_Z5 kV_Z5 dc_Z5 pm_Z5 an_Z5 cd_Z5 ct_Z5 sl_Z5)
   (c_Z5:cI K cd_Z5 "Shelves.clear")
   (k_Z5:kI K f_Z5)
   (if_Z5:iI K f_Z5)
   (e5_:fI K Y7 "room_moved" f_Z2)
   (e3_:fI K Y5 "room_moved" f_Z2)
   (e8_:fI K Y17 "room_moved" f_Z2)
   (l_Z2:LkF K "room_moved" "Keeper.room_moved" s_Z2 .none f_Z2 oc_Z2 od_Z2 kV_Z2 dc_Z2 pm_Z2 an_Z2 cd_Z2 ct_Z2 sl_Z2)
   (c_Z2:cI K cd_Z2 "Keeper.room_moved")
   (k_Z2:kI K f_Z2)
   (if_Z2:iI K f_Z2)
   {dt_Z15:Addr} {dk_Z15:Tok} {dtc_Z15:Value} {dtd_Z15:Option Addr} {dtn_Z15:Nat} {dts_Z15:Array (Option Value)}
   (e18_:fI K Y7 "grow" f_Z15)
   (e16_:fI K Y5 "grow" f_Z15)
   (l_Z15:LkF K "grow" "Keeper.grow" Xkx (.ref dt_Z15) f_Z15 oc_Z15 od_Z15 kV_Z15 dc_Z15 pm_Z15 an_Z15 cd_Z15 ct_Z15 sl_Z15)
   (ld_Z15:K.lookup dt_Z15=some ⟨dtc_Z15,dtd_Z15,.seq [.int 1 dk_Z15].toArray dtn_Z15,dts_Z15⟩)
   (c_Z15:cI K cd_Z15 "Keeper.grow")
   (k_Z15:kI K f_Z15)
   (if_Z15:iI K f_Z15)
   {dt_Z37:Addr} {dk_Z37:Tok} {dtc_Z37:Value} {dtd_Z37:Option Addr} {dtn_Z37:Nat} {dts_Z37:Array (Option Value)}
   (e34_:fI K Y17 "grow" f_Z37)
   (l_Z37:LkF K "grow" "Row.grow" Xkk (.ref dt_Z37) f_Z37 oc_Z37 od_Z37 kV_Z37 dc_Z37 pm_Z37 an_Z37 cd_Z37 ct_Z37 sl_Z37)
   (ld_Z37:K.lookup dt_Z37=some ⟨dtc_Z37,dtd_Z37,.seq [.int 1 dk_Z37].toArray dtn_Z37,dts_Z37⟩)
   (c_Z37:cI K cd_Z37 "Row.grow")
   (k_Z37:kI K f_Z37)
   (if_Z37:iI K f_Z37) :
   ∃fd:FuncData,(∀(s:Shared) (v:Value),BindsTo s fd ⟨[v],[]⟩ [("_law_script",v)])∧∀base:Heap,K.In base→base.Ns mainGlobals mg→FnOk l.prog w K mg base (CXe l.prog w) 14 fa fd ["_law_script"] (Xwl K):=by
 have e:=hfa.symm.trans (PySem.W.mg_of X G a_law)
 cases e
 have T:Txt K mg Y0 Y12 Y14 Y6 Y10 Y1 Y4 Y9 Y16 Y3 Y13 Y2 Y11 Y15 Y8 Y7 Y17 Y5 W0_ W1_:=⟨PySem.W.mg_none_of X G zcG,PySem.W.mg_none_of X G z_any,PySem.W.mg_none_of X G z_bool,PySem.W.mg_none_of X G z_dict,PySem.W.mg_none_of X G z_int,PySem.W.mg_none_of X G z_isinstance,PySem.W.mg_none_of X G z_len,PySem.W.mg_none_of X G z_list,PySem.W.mg_none_of X G z_min,PySem.W.mg_none_of X G z_range,PySem.W.mg_none_of X G z_sorted,PySem.W.mg_none_of X G z_tuple,PySem.W.mg_of X G zbS,PySem.W.mg_of X G zce,PySem.W.mg_of X G zcH,PySem.W.mg_of X G zdI,PySem.W.mg_of X G zcK,PySem.W.mg_of X G zcL,PySem.W.mg_of X G zcM,PySem.W.mg_of X G zcQ,PySem.W.mg_of X G zcy,PySem.W.mg_of X G zcN,PySem.W.mg_of X G zcU,PySem.W.mg_of X G zcz,PySem.W.mg_of X G zcO,PySem.W.mg_of X G zcV,PySem.W.mg_of X G zdJ,PySem.W.mg_of X G zdK,PySem.W.mg_of X G zdL,PySem.W.mg_of X G zdM,PySem.W.mg_of X G cc_Row,PySem.W.mg_of X G zcW,⟨zdN,⟨_,zdO,zdP,zdQ⟩,zdR,zdS⟩,⟨PySem.W.mg_of X G zcK,_,_,_,_,zdT,PySem.F.excBase_ValueError,PySem.F.excBase_ValueError.hasBase⟩,⟨PySem.W.mg_of X G zcy,_,_,_,_,zcX,PySem.F.excBase_ValueError,PySem.F.excBase_ValueError.hasBase⟩,⟨PySem.W.mg_of X G zcO,_,_,_,_,zdU,PySem.F.excBase_ValueError,PySem.F.excBase_ValueError.hasBase⟩,⟨PySem.W.mg_of X G zcM,_,_,_,_,zdV,PySem.F.excBase_ValueError,PySem.F.excBase_ValueError.hasBase⟩,⟨PySem.W.mg_of X G zcN,_,_,_,_,zdW,PySem.F.excBase_ValueError,PySem.F.excBase_ValueError.hasBase⟩,⟨PySem.W.mg_of X G zcU,_,_,_,_,zfv,PySem.F.excBase_ValueError,PySem.F.excBase_ValueError.hasBase⟩,⟨PySem.W.mg_of X G zcz,_,_,_,_,zcY,PySem.F.excBase_ValueError,PySem.F.excBase_ValueError.hasBase⟩,⟨zdX,zdY,zdZ,zea⟩,zac,⟨zcZ,zda,zdb,zdc⟩,zaa,zab,⟨pg_Row,hd_Row,po_Row,sa_Row⟩,zad,⟨zeb,zec,zed,zee,zef⟩,⟨zdd,zde,zdf,zdg,zdh⟩,⟨zeg,zeh,zei,zej,zek⟩,⟨zfw,zfx,zfy,zfz,zfA⟩,⟨zdi,zdj,zdk,zdl,zdm⟩,⟨zel,zem,zen,zeo,zep⟩,⟨_,_,⟨_,_,_,_,_,_,_,_,_,_,_,_,_,_,_,_,zeq⟩,⟨_,_,_,_,_,_,_,_,_,_,_,_,_,_,_,_,zam⟩,zan,zbX⟩,⟨_,_,⟨_,_,_,_,_,_,_,_,_,_,_,_,_,_,_,_,zdn⟩,⟨_,_,_,_,_,_,_,_,_,_,_,_,_,_,_,_,zam⟩,zan,zbT⟩,⟨_,_,⟨_,_,_,_,_,_,_,_,_,_,_,_,_,_,_,_,zes⟩,⟨_,_,_,_,_,_,_,_,_,_,_,_,_,_,_,_,zam⟩,zan,zbY⟩,⟨_,_,⟨_,_,_,_,_,_,_,_,_,_,_,_,_,_,_,_,zfO⟩,⟨_,_,_,_,_,_,_,_,_,_,_,_,_,_,_,_,zam⟩,zan,zcd⟩,⟨_,_,⟨_,_,_,_,_,_,_,_,_,_,_,_,_,_,_,_,zdp⟩,⟨_,_,_,_,_,_,_,_,_,_,_,_,_,_,_,_,zam⟩,zan,zbU⟩,⟨_,_,⟨_,_,_,_,_,_,_,_,_,_,_,_,_,_,_,_,zeu⟩,⟨_,_,_,_,_,_,_,_,_,_,_,_,_,_,_,_,zam⟩,zan,zbZ⟩,zaZ,zba,zbb,zbc,zao,zay,zbd,zbC,zaz,zbe,zag,zaA,zbf,zbg,zaB,zaC,zaD,zaE,zaj,zap,zaF,zbh,zaq,zaG,zae,zar,zaH,zaI,zbi,zbj,zbk,zbl,zas,zaJ,zbm,zbD,zaK,zbn,zah,zaL,zbo,zbp,zbE,zbF,zbG,zbH,zaM,zbq,zbI,zbO,zbr,zbJ,zak,zbs,zbK,zbL,zaN,zaO,zaP,zaQ,zal,zat,zaR,zbt,zau,zaS,zaf,zav,zaT,zaU,zbu,zbv,zbw,zbx,zaw,zaV,zby,zbM,zaW,zbz,zai,zaX,zbA,zbB⟩
 have S_Z30:=Xbc (st:=Xsj) X G a_Z30 l_Z30 c_Z30 k_Z30
 have S_Z3:=Xbc (st:=s_Z3) X G a_Z3 l_Z3 c_Z3 k_Z3
 have S_Z46:=Xbc (st:=Xsw) X G a_Z46 l_Z46 c_Z46 k_Z46
 have S_Z44:=Xbc (st:=Xti) X G a_Z44 l_Z44 c_Z44 k_Z44
 have S_Z50:=Xbc (st:=Xub) X G a_Z50 l_Z50 c_Z50 k_Z50
 have S_Z33:=Xbc (st:=Xug) X G a_Z33 l_Z33 c_Z33 k_Z33
 have S_Z10:=Xbc (st:=Xrk) X G a_Z10 l_Z10 c_Z10 k_Z10
 have S_Z63:=Xbc (st:=Xuv) X G a_Z63 l_Z63 c_Z63 k_Z63
 have S_Z26:=Xbc (st:=Xsb) X G a_Z26 l_Z26 c_Z26 k_Z26
 have S_Z73:=Xbc (st:=Xrh) X G a_Z73 l_Z73 c_Z73 k_Z73
 have S_Z32:=Xbc (st:=Xqa) X G a_Z32 l_Z32 c_Z32 k_Z32
 have S_Z38:=Xbc (st:=Xsl) X G a_Z38 l_Z38 c_Z38 k_Z38
 have S_Z42:=Xbc (st:=Xuf) X G a_Z42 l_Z42 c_Z42 k_Z42
 have S_Z51:=Xbc (st:=Xrm) X G a_Z51 l_Z51 c_Z51 k_Z51
 have S_Z54:=Xbc (st:=Xqy) X G a_Z54 l_Z54 c_Z54 k_Z54
 have S_Z55:=Xbc (st:=Xvc) X G a_Z55 l_Z55 c_Z55 k_Z55
 have S_Z35:=Xbc (st:=Xqb) X G a_Z35 l_Z35 c_Z35 k_Z35
 have S_Z31:=Xbc (st:=Xtw) X G a_Z31 l_Z31 c_Z31 k_Z31
 have S_Z25:=Xbc (st:=Xqg) X G a_Z25 l_Z25 c_Z25 k_Z25
 have S_Z40:=Xbc (st:=Xrz) X G a_Z40 l_Z40 c_Z40 k_Z40
 have S_Z4:=Xbc (st:=s_Z4) X G a_Z4 l_Z4 c_Z4 k_Z4
 have S_Z34:=Xbc (st:=Xsm) X G a_Z34 l_Z34 c_Z34 k_Z34
 have S_Z39:=Xbc (st:=Xsv) X G a_Z39 l_Z39 c_Z39 k_Z39
 have S_Z20:=Xbc (st:=Xre) X G a_Z20 l_Z20 c_Z20 k_Z20
 have S_Z19:=Xbc (st:=Xpz) X G a_Z19 l_Z19 c_Z19 k_Z19
 have S_Z53:=Xbc (st:=Xrl) X G a_Z53 l_Z53 c_Z53 k_Z53
 have S_Z29:=Xbc (st:=Xqn) X G a_Z29 l_Z29 c_Z29 k_Z29
 have S_Z41:=Xbc (st:=Xtr) X G a_Z41 l_Z41 c_Z41 k_Z41
 have S_Z27:=Xbc (st:=Xuo) X G a_Z27 l_Z27 c_Z27 k_Z27
 have S_Z49:=Xbc (st:=Xrg) X G a_Z49 l_Z49 c_Z49 k_Z49
 have S_Z64:=Xbc (st:=Xtk) X G a_Z64 l_Z64 c_Z64 k_Z64
 have S_Z47:=Xbc (st:=Xtn) X G a_Z47 l_Z47 c_Z47 k_Z47
 have S_Z60:=Xbc (st:=Xtu) X G a_Z60 l_Z60 c_Z60 k_Z60
 have S_Z65:=Xbc (st:=Xrw) X G a_Z65 l_Z65 c_Z65 k_Z65
 have S_Z28:=Xbc (st:=Xrn) X G a_Z28 l_Z28 c_Z28 k_Z28
 have S_Z68:=Xbc (st:=Xrx) X G a_Z68 l_Z68 c_Z68 k_Z68
 have S_Z24:=Xbc (st:=Xus) X G a_Z24 l_Z24 c_Z24 k_Z24
 have S_Z62:=Xbc (st:=Xuk) X G a_Z62 l_Z62 c_Z62 k_Z62
 have S_Z58:=Xbc (st:=Xta) X G a_Z58 l_Z58 c_Z58 k_Z58
 subst zeH zeI zeJ
 have XI_Broken:XIni K mg "Broken" Y6 Y0 zbP:=⟨PySem.W.mg_of X G zcL,⟨_,_,_,_,_,_,_,_,_,_,_,_,_,_,_,zew⟩,zcJ,e37_,zez,⟨_,_,_,_,zcf,rfl⟩⟩
 refine⟨PySem.W.fnOf "law" "law" (Xbf Xmr) (Xaz Xmr) (Xad Xmr) .none kV_law dc_law pm_law an_law cd_law ct_law,fun s v=>.of_eq rfl,fun base _ _=>?_⟩
 have D_Z46:=d_Z46 (T:=T) (P:=l.prog) (w:=w) (base:=base) S_Z46 
 have D_Z44:=XTx (T:=T) (P:=l.prog) (w:=w) (base:=base) S_Z44 
 have D_Z50:=d_Z50 (T:=T) (P:=l.prog) (w:=w) (base:=base) S_Z50 
 have D_Z33:=XUa (T:=T) (P:=l.prog) (w:=w) (base:=base) S_Z33 D_Z44 D_Z50
 have D_Z10:=d_Z10 (T:=T) (P:=l.prog) (w:=w) (base:=base) S_Z10 D_Z44 D_Z33
 have D_Broken:=Xvv (P:=l.prog) (w:=w) (base:=base) (Xcj zcf zcA zcB) XI_Broken T.zfq
 have D_Z63:=d_Z63 (T:=T) (P:=l.prog) (w:=w) (base:=base) S_Z63 D_Z44 D_Z50 D_Z10 D_Broken
 have D_Z26:=XSg (T:=T) (P:=l.prog) (w:=w) (base:=base) S_Z26 D_Z46
 have D_Z73:=d_Z73 (T:=T) (P:=l.prog) (w:=w) (base:=base) S_Z73 D_Z46
 have D_Z32:=d_Z32 (T:=T) (P:=l.prog) (w:=w) (base:=base) S_Z32 D_Z73
 have D_Z38:=XSn (T:=T) (P:=l.prog) (w:=w) (base:=base) S_Z38 D_Z63
 have D_Z42:=XSy (T:=T) (P:=l.prog) (w:=w) (base:=base) S_Z42 D_Z38
 have D_Z51:=XSu (T:=T) (P:=l.prog) (w:=w) (base:=base) S_Z51 D_Z38
 have D_Z54:=d_Z54 (T:=T) (P:=l.prog) (w:=w) (base:=base) S_Z54 D_Z51 D_Z32 D_Z73
 have D_Z30:=d_Z30 (T:=T) (P:=l.prog) (w:=w) (base:=base) S_Z30 
 have D_Z3:=d_Z3 (T:=T) (P:=l.prog) (w:=w) (base:=base) S_Z3 D_Z30
 have D_Z43:=d_Z43 (T:=T) (P:=l.prog) (w:=w) (base:=base) (Xcj zcg zch zbQ) ⟨zeS,zeT,e11_,zbQ⟩ D_Z26
 have D_Row:=XSq (T:=T) (P:=l.prog) (w:=w) (base:=base) (Xcj zcg zch zbQ) ⟨mk_Row,e30_,zcs,kp_Row⟩ D_Z26
 have D_Z16:=d_Z16 (T:=T) (P:=l.prog) (w:=w) (base:=base) (Xcj l_Z1 c_Z1 k_Z1) (Xio (Q:=fun C=>Meth K C "room_begin" f_Z1) ⟨e4_,if_Z1,k_Z1⟩ ⟨e2_,if_Z1,k_Z1⟩ ⟨e10_,if_Z1,k_Z1⟩) 
 have D_lay:=d_lay (T:=T) (P:=l.prog) (w:=w) (base:=base) (Xcj l_Z18 c_Z18 k_Z18) (Xio (Q:=fun C=>Meth K C "lay" f_Z18) ⟨e26_,if_Z18,k_Z18⟩ ⟨e19_,if_Z18,k_Z18⟩ ⟨e33_,if_Z18,k_Z18⟩) D_Z63 D_Z16
 have D_Z66:=d_Z66 (T:=T) (P:=l.prog) (w:=w) (base:=base) (Xcj l_Z6 c_Z6 k_Z6) (Xio (Q:=fun C=>Meth K C "pieces" f_Z6) ⟨e12_,if_Z6,k_Z6⟩ ⟨e7_,if_Z6,k_Z6⟩ ⟨e23_,if_Z6,k_Z6⟩) D_Z63
 have D_Z72:=d_Z72 (T:=T) (P:=l.prog) (w:=w) (base:=base) (Xcj l_Z8 c_Z8 k_Z8) (Xio (Q:=fun C=>Meth K C "cells" f_Z8) ⟨e14_,if_Z8,k_Z8⟩ ⟨e13_,if_Z8,k_Z8⟩ ⟨e27_,if_Z8,k_Z8⟩) 
 have D_Z74:=d_Z74 (T:=T) (P:=l.prog) (w:=w) (base:=base) (Xcj l_Z14 c_Z14 k_Z14) (Xio (Q:=fun C=>Meth K C "many" f_Z14) ⟨e20_,if_Z14,k_Z14⟩ ⟨e17_,if_Z14,k_Z14⟩ ⟨e29_,if_Z14,k_Z14⟩) D_Z42
 have D_Z11:=d_Z11 (T:=T) (P:=l.prog) (w:=w) (base:=base) (Xcj l_Z0 c_Z0 k_Z0) (Xio (Q:=fun C=>Meth K C "room_cell_of" f_Z0) ⟨e1_,if_Z0,k_Z0⟩ ⟨e0_,if_Z0,k_Z0⟩ ⟨e6_,if_Z0,k_Z0⟩) D_Z74
 have D_put:=d_put (T:=T) (P:=l.prog) (w:=w) (base:=base) (Xcj l_Z22 c_Z22 k_Z22) (Xio (Q:=fun C=>Meth K C "put" f_Z22) ⟨e25_,if_Z22,k_Z22⟩ ⟨e21_,if_Z22,k_Z22⟩ ⟨e31_,if_Z22,k_Z22⟩) D_Z11
 have D_get:=d_get (T:=T) (P:=l.prog) (w:=w) (base:=base) (Xcj l_Z17 c_Z17 k_Z17) (Xio (Q:=fun C=>Meth K C "get" f_Z17) ⟨e24_,if_Z17,k_Z17⟩ ⟨e22_,if_Z17,k_Z17⟩ ⟨e32_,if_Z17,k_Z17⟩) D_Z11
 have D_Z35:=d_Z35 (T:=T) (P:=l.prog) (w:=w) (base:=base) S_Z35 
 have D_Halves:=Xxi (T:=T) (P:=l.prog) (w:=w) (base:=base) (Xcj zcC zcD zcE) ⟨zfc,e36_,zcu,zfd⟩ D_Z35 D_Z43
 have D_Z31:=XTf (T:=T) (P:=l.prog) (w:=w) (base:=base) S_Z31 
 have D_Z25:=d_Z25 (T:=T) (P:=l.prog) (w:=w) (base:=base) S_Z25 
 have D_Z40:=d_Z40 (T:=T) (P:=l.prog) (w:=w) (base:=base) S_Z40 D_Z73
 have D_Z70:=XTn (T:=T) (P:=l.prog) (w:=w) (base:=base) (Xil l_Z23 c_Z23 k_Z23) ld_Z23 ⟨a_Z23,if_Z23,k_Z23⟩ D_Z3 D_Z31 D_Z66 D_Z25 D_Z72 D_Z40 D_lay
 have D_Z34:=XSh (T:=T) (P:=l.prog) (w:=w) (base:=base) S_Z34 D_Z26
 have D_Z39:=d_Z39 (T:=T) (P:=l.prog) (w:=w) (base:=base) S_Z39 
 have D_Z20:=d_Z20 (T:=T) (P:=l.prog) (w:=w) (base:=base) S_Z20 D_Z63
 have D_Z19:=XUb (T:=T) (P:=l.prog) (w:=w) (base:=base) S_Z19 D_Z63 D_Z39 D_Z44
 have D_Z53:=d_Z53 (T:=T) (P:=l.prog) (w:=w) (base:=base) S_Z53 D_Z73
 have D_Z29:=d_Z29 (T:=T) (P:=l.prog) (w:=w) (base:=base) S_Z29 D_Z19 D_Z20 D_Z53
 have D_Z41:=XTu (T:=T) (P:=l.prog) (w:=w) (base:=base) S_Z41 D_Z63 D_Z39
 have D_Shelves:=Xtz (T:=T) (P:=l.prog) (w:=w) (base:=base) (Xcj zcv zcw zcx) ⟨zdr,e35_,zcl,zds⟩ D_Z34 D_Z43 D_lay
 have D_Z69:=d_Z69 (T:=T) (P:=l.prog) (w:=w) (base:=base) (Xil l_Z12 c_Z12 k_Z12) ld_Z12 ⟨a_Z12,if_Z12,k_Z12⟩ D_Z3 D_Z72 D_Z29 D_Z19 D_Z73 D_lay
 have D_Z71:=d_Z71 (T:=T) (P:=l.prog) (w:=w) (base:=base) (Xil l_Z52 c_Z52 k_Z52) ld_Z52 ⟨a_Z52,if_Z52,k_Z52⟩ D_Z3 D_Z66 D_Z72 D_Z54 D_lay
 have D_ask:MethFD l.prog w K mg base (cF Y7 Y5 Y17) "ask" 8 ["self","count","bound"] [.int 1] (Xfm (cF Y7 Y5 Y17) Y16 Y3 Y13):=Xow (sp:=Xfm (cF Y7 Y5 Y17) Y16 Y3 Y13) D_Z70 D_Z69 D_Z71 (by decide) (by decide) (by decide)
 have D_Z4:=d_Z4 (T:=T) (P:=l.prog) (w:=w) (base:=base) S_Z4 
 have D_Z59:=d_Z59 (T:=T) (P:=l.prog) (w:=w) (base:=base) (Xcj l_Z13 c_Z13 k_Z13) ⟨a_Z13,if_Z13,k_Z13⟩ D_Z66 D_Z74 D_Z4 D_Z72 D_Z73 D_lay
 have D_Z56:=XTs (T:=T) (P:=l.prog) (w:=w) (base:=base) (Xcj l_Z9 c_Z9 k_Z9) ⟨a_Z9,if_Z9,k_Z9⟩ D_Z73 D_Z72 D_Z74 D_Z39 D_Z41 D_lay
 have D_Z61:=d_Z61 (T:=T) (P:=l.prog) (w:=w) (base:=base) (Xcj l_Z36 c_Z36 k_Z36) ⟨a_Z36,if_Z36,k_Z36⟩ 
 have D_give:Xba l.prog w K mg base (cF Y7 Y5 Y17) "give" 8 ["self","place"] [] (Xed (cF Y7 Y5 Y17) Y4 Y10):=Xhn (sp:=Xed (cF Y7 Y5 Y17) Y4 Y10) D_Z59 D_Z56 D_Z61 (by decide) (by decide) (by decide)
 have D_Z48:=d_Z48 (T:=T) (P:=l.prog) (w:=w) (base:=base) (Xcj l_Z7 c_Z7 k_Z7) (fun i hi=>by cases i <;> first | exact⟨e15_,if_Z7,k_Z7⟩ | exact⟨e28_,if_Z7,k_Z7⟩ | exact absurd rfl hi | cases hi | exact hi.elim) D_Z26 D_Z16
 have D_Z45:=d_Z45 (T:=T) (P:=l.prog) (w:=w) (base:=base) (Xcj l_Z5 c_Z5 k_Z5) (fun i hi=>by cases i <;> first | exact⟨e9_,if_Z5,k_Z5⟩ | exact absurd rfl hi | cases hi | exact hi.elim) D_Z34 D_Z72 D_lay
 have D_clear:Xba l.prog w K mg base (cF Y7 Y5 Y17) "clear" 6 ["self"] [] (Xgu (cF Y7 Y5 Y17)):=Xnj D_Z48 D_Z45 (by decide) (by decide) (fun i=>by cases i <;> first | exact .inr rfl | exact .inl (fun z=>by cases z))
 have D_Z21:=XSx (T:=T) (P:=l.prog) (w:=w) (base:=base) (Xcj l_Z2 c_Z2 k_Z2) (Xio (Q:=fun C=>Meth K C "room_moved" f_Z2) ⟨e5_,if_Z2,k_Z2⟩ ⟨e3_,if_Z2,k_Z2⟩ ⟨e8_,if_Z2,k_Z2⟩) D_ask
 have D_Z67:=d_Z67 (T:=T) (P:=l.prog) (w:=w) (base:=base) (Xil l_Z15 c_Z15 k_Z15) ld_Z15 (fun i hi=>by cases i <;> first | exact⟨e18_,if_Z15,k_Z15⟩ | exact⟨e16_,if_Z15,k_Z15⟩ | exact absurd rfl hi | cases hi | exact hi.elim) D_Z74 D_Z3 D_Z21
 have D_Z57:=XSl (T:=T) (P:=l.prog) (w:=w) (base:=base) (Xil l_Z37 c_Z37 k_Z37) ld_Z37 (fun i hi=>by cases i <;> first | exact⟨e34_,if_Z37,k_Z37⟩ | exact absurd rfl hi | cases hi | exact hi.elim) 
 have D_grow:MethFD l.prog w K mg base (cF Y7 Y5 Y17) "grow" 10 ["self","place","count","bound"] [.int 1] (Xhy (cF Y7 Y5 Y17) Y4 Y16 Y3 Y13 Y10):=Xxq D_Z67 D_Z57 (by decide) (by decide) (fun i=>by cases i <;> first | exact .inr rfl | exact .inl (fun z=>by cases z))
 have D_Z27:=d_Z27 (T:=T) (P:=l.prog) (w:=w) (base:=base) S_Z27 
 have D_Z49:=d_Z49 (T:=T) (P:=l.prog) (w:=w) (base:=base) S_Z49 
 have D_Z64:=d_Z64 (T:=T) (P:=l.prog) (w:=w) (base:=base) S_Z64 D_Z49
 have D_Z47:=XTz (T:=T) (P:=l.prog) (w:=w) (base:=base) S_Z47 
 have D_Z60:=XTb (T:=T) (P:=l.prog) (w:=w) (base:=base) S_Z60 D_ask D_give D_grow D_Z74 D_get D_put
 have D_Z65:=d_Z65 (T:=T) (P:=l.prog) (w:=w) (base:=base) S_Z65 D_Z60 D_Z47
 have D_Z28:=XSj (T:=T) (P:=l.prog) (w:=w) (base:=base) S_Z28 
 have D_Z68:=XTy (T:=T) (P:=l.prog) (w:=w) (base:=base) S_Z68 D_Z28
 have D_Z24:=d_Z24 (T:=T) (P:=l.prog) (w:=w) (base:=base) S_Z24 D_Z64
 have D_Z62:=d_Z62 (T:=T) (P:=l.prog) (w:=w) (base:=base) S_Z62 D_Z72 D_Z64 D_Z24 D_Z68 D_Z65 D_Z49 D_get
 have D_Z58:=d_Z58 (T:=T) (P:=l.prog) (w:=w) (base:=base) S_Z58 D_Z72 D_Z64 D_Z65 D_clear D_ask D_give
 exact XOs (T:=T) (Xcj l_law c_law k_law) D_Z27 D_Halves D_Shelves D_Row D_Z72 D_Z64 D_Z65 D_Z62 D_Z58
theorem walk {l:PySem.W.OpenLaw}{q:Program}{loose:List Str}{XP:(Str→Option Value)→Heap→Prop}{YP:World→Heap→Prop}{d:DefRec}{K:Params→PySem.W.Frag}(hn:l.most=some 63)(hdf:d.params.defaults=[])
   (hY:∀(w:World) (h:Heap),YP w h→(K w.params).In h)
   (F:∀(w:World) (mg:Str→Option Value) (fa:Addr) (h:Heap),(K w.params).In h→h.Ns mainGlobals mg→mg d.name=some (.ref fa) →
     ∃fd:FuncData,(∀(s:Shared) (u:Value),BindsTo s fd ⟨[u],[]⟩ [("_law_script",u)])∧∀base:Heap,(K w.params).In base→base.Ns mainGlobals mg→FnOk l.prog w (K w.params) mg base (CXe l.prog w) 14 fa fd ["_law_script"] (Xwl (K w.params))) :
   PySem.W.WalkO q loose XP YP l.row.toRowW d [] (fun f vs=>PySem.call f vs) :=
 L2.walk_of (n:=63) (k:=14) (x:="_law_script") (CX:=fun w=>(CXe l.prog w)) (sp:=fun w=>Xwl (K w.params)) hn (by decide) hdf ⟨rfl,by decide,by decide⟩ hY F (fun _ _ a ns hl _ hS=>⟨a,ns,rfl,hS,hl,fun _=>rfl⟩) (fun _ _ _ _ _ ⟨_,_,_,_,_,_,_,_,_,_,_,_,_,_,_,z⟩=>z)
end Stow
open PySem PySem.W PyProof.Rows
set_option maxRecDepth 100000 in
set_option maxHeartbeats 0 in
theorem PySem.Challenge.cw_stow_k38_refused_holds : PySem.Challenge.rw_stow_k38_refused.Holds := by
 w_on;o_law
 refine holds_open (XP:=fun _ _=>True) (YP:=InK Stow.heap0) Stow.left0 ?y (InK.keeps (K:=Stow.heap0)) (fun _ _=>trivial) (fun _ _ _ h _=>h) rfl rfl rfl (fun _ e=>recFacts_of e) rfl
   (by assumption) (by decide +kernel) ⟨rfl,rfl,rfl,rfl,rfl,by decide +kernel⟩ ?hw ?hc
 case y=>exact InK.of Stow.at0_eq
 case hw=>w_witness2
 k_fill
 refine Stow.walk (l:=PySem.Challenge.rw_stow_k38_refused) rfl rfl (fun w h Y=>Y) ?F
 case F =>
   intro w mg fa h KX G hmg
   apply Stow.all_mk KX G hmg
   iterate 194 ((first|unfold Stow.LkF|unfold Stow.nI|unfold Stow.fI|unfold Stow.cI|unfold Stow.kI|unfold Stow.iI|skip);k_is)
   (decide +kernel)
   (rfl)
   iterate 2 ((first|unfold Stow.LkF|unfold Stow.nI|unfold Stow.fI|unfold Stow.cI|unfold Stow.kI|unfold Stow.iI|skip);k_is)
   iterate 7 (k_exc)
   iterate 48 ((first|unfold Stow.LkF|unfold Stow.nI|unfold Stow.fI|unfold Stow.cI|unfold Stow.kI|unfold Stow.iI|skip);k_is)
   iterate 2 (decide +kernel)
   ((first|unfold Stow.LkF|unfold Stow.nI|unfold Stow.fI|unfold Stow.cI|unfold Stow.kI|unfold Stow.iI|skip);k_is)
   (decide +kernel)
   ((first|unfold Stow.LkF|unfold Stow.nI|unfold Stow.fI|unfold Stow.cI|unfold Stow.kI|unfold Stow.iI|skip);k_is)
   (decide +kernel)
   ((first|unfold Stow.LkF|unfold Stow.nI|unfold Stow.fI|unfold Stow.cI|unfold Stow.kI|unfold Stow.iI|skip);k_is)
   (decide +kernel)
   ((first|unfold Stow.LkF|unfold Stow.nI|unfold Stow.fI|unfold Stow.cI|unfold Stow.kI|unfold Stow.iI|skip);k_is)
   (decide +kernel)
   ((first|unfold Stow.LkF|unfold Stow.nI|unfold Stow.fI|unfold Stow.cI|unfold Stow.kI|unfold Stow.iI|skip);k_is)
   (decide +kernel)
   iterate 84 ((first|unfold Stow.tI|skip);kit_is)
   ((first|unfold Stow.LkF|unfold Stow.nI|unfold Stow.fI|unfold Stow.cI|unfold Stow.kI|unfold Stow.iI|skip);k_is)
   (k_exc)
   iterate 5 ((first|unfold Stow.LkF|unfold Stow.nI|unfold Stow.fI|unfold Stow.cI|unfold Stow.kI|unfold Stow.iI|skip);k_is)
   iterate 3 (rfl)
   iterate 144 ((first|unfold Stow.LkF|unfold Stow.nI|unfold Stow.fI|unfold Stow.cI|unfold Stow.kI|unfold Stow.iI|skip);k_is)
