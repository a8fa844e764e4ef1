import PyProof.Rows.All
import Wide.All
import OpenK.AllK
import Wide.FinOn
import Lean
import PyProof.EqAt
import PyProof.EqKinds
import PyProof.TupleCall
import PyProof.NeKinds
import PyProof.StationsW
import PyProof.RulesAs
import PyProof.ExcClass3
import PyProof.ExcInit
import PyProof.ExcArgsOwn
import PyProof.IsiH_set
import PyProof.NsDelKeeps
import PyProof.CompFree
import PySem.Challenge.RW_stow_k37_kinds
set_option Elab.async false
set_option compiler.extract_closed false
set_option linter.all false
set_option maxRecDepth 100000
set_option maxHeartbeats 4000000
namespace L2
open PySem PySem.Spec PyProof.Rows
def Xaf (s:Stmt)(j:Nat):Stmt:=match s with
 | .ClassDef _ _ _ body _ _ _ _ _ _ _=>body.getD j (.Pass ⟨0,0,0,0⟩)
 | _=>.Pass ⟨0,0,0,0⟩
def Xaz (s:Stmt):Arguments:=match s with
 | .FunctionDef _ a _ _ _ _ _ _ _ _=>a
 | _=>{ posonlyargs:=[],args:=[],vararg:=none,kwonlyargs:=[],kw_defaults:=[],kwarg:=none,defaults:=[] }
def Xav (s:Stmt):List Stmt:=match s with
 | .FunctionDef _ _ b _ _ _ _ _ _ _=>b
 | _=>[]
def Xad (s:Stmt):Scope:=match s with
 | .FunctionDef _ _ _ _ _ _ sc _ _ _=>sc
 | _=>{ kind:=.function,names:=[],isGenerator:=false,isCoroutine:=false }
end L2
namespace Stow
open PySem L2 PyProof.Rows
abbrev bN (o:Obj)(l r:PySem.W.BT):PySem.W.BT:=.node o l r
abbrev bF (o:Obj):PySem.W.BT:=.node o .nil .nil
noncomputable section
def top (i:Nat):Stmt:=PySem.Challenge.pw_stow_k37_kinds.main.body.getD i (.Pass ⟨0,0,0,0⟩)
noncomputable def en (P:Params)(s:Str)(t:Tok)(v:Value):DictEntry:=⟨PyData.keyHash P s,.str s t,v⟩
noncomputable def fo (nm qn:Str)(st:Stmt)(dV kV dc pm:Value)(an:Option Addr)(cd ct:Value)(od:Option Addr):Obj:=⟨.type "function",od,.func (PySem.W.fnOf nm qn (Xaz st) (Xav st) (Xad st) dV kV dc pm an cd ct),#[]⟩
noncomputable def fq (nm qn:Str)(st:Stmt):Obj:=⟨.none,none,.func { name:=nm,qualname:=qn,params:=Xaz st,body:=.stmts (Xav st),scope:=Xad st,globals:=0,closure:=[],defaults:=.none,kwdefaults:=.none },#[]⟩
noncomputable def tu (l:List Value):Obj:=⟨(.type "tuple"),none,.seq l.toArray 0,#[]⟩
noncomputable def fl (l:List Value):Obj:=⟨.none,none,.fields l.toArray,#[]⟩
noncomputable def co (l:List Value):Obj:=⟨(.type "code"),none,.fields l.toArray,#[]⟩
noncomputable abbrev vI (n:Int):Value:=.int n 0
noncomputable abbrev vR (n:Addr):Value:=.ref n
noncomputable abbrev cp (a b:Str)(t:Tok)(l:List Value):Obj:=co ((.str a t)::(.str b (t+1))::(.str "/claim/cut.py" (t+2))::l)
noncomputable def xk0 (a b:Str)(t:Tok)(l n x:Int)(r:Addr)(u:Int)(v:Tok):Obj:=cp a b t (vI l::vI n::vI 0::vI 0::vI x::vR r::(.bool false)::vI 181::vR (r+1)::.none::.none::.none::.none::vI u::vI l::(.str "/claim/cut.py" v)::[])
noncomputable def xfm0 (l:List (Option Value)):Obj:=⟨(.type "frame"),none,.plain,l.toArray⟩
noncomputable def xk1 (a b:Str)(t:Tok)(l n x:Int)(r:Addr)(u:Int)(v:Tok):Obj:=cp a b t (vI l::vI n::vI 0::vI 0::vI x::vR r::(.bool true)::vI 181::vR (r+1)::.none::vR (r+2)::vR (r+3)::vR (r+4)::vI u::vI l::(.str "/claim/cut.py" v)::[])
noncomputable def xbi0 (l:List Value):Obj:=⟨(.type "builtin_function_or_method"),none,.fields l.toArray,#[]⟩
noncomputable def xsu0 (l:List Value):Obj:=⟨(.type "super"),none,.fields l.toArray,#[]⟩
noncomputable def ho0:Obj:=⟨(.type "tuple"),none,.seq #[] 0,#[]⟩
noncomputable def ho1:Obj:=⟨.none,none,.fields #[],#[]⟩
def ho2:Obj:=xk0 "<module>" "<module>" 182 1 0 0 11 185 186
def ho3:Obj:=xfm0 ((some (.ref 13))::(some (.ref 3))::(some (.ref 3))::none::(some (.str "__main__" 164))::none::(some (.ref 0))::[])
def ho4 (P:Params):Obj:=⟨(.type "dict"),none,.dict (en P "__name__" 165 (.str "stow.errors" 194)::en P "__doc__" 166 .none::en P "__package__" 167 .none::en P "__loader__" 168 (.builtin "__main__.__loader__#opaque")::en P "__spec__" 169 .none::en P "__annotations__" 170 (.ref 6)::en P "__builtins__" 171 (.ref 4)::en P "__file__" 173 (.str "/claim/cut.py" 172)::en P "__cached__" 174 .none::en P "_wall" 193 (.ref 21)::en P "StowError" 213 (.ref 31)::en P "NoName" 229 (.ref 44)::en P "NoSize" 245 (.ref 56)::en P "Broken" 270 (.ref 75)::en P "NoGive" 286 (.ref 87)::en P "NoHandle" 302 (.ref 99)::en P "NoPiece" 318 (.ref 111)::en P "NoCell" 334 (.ref 123)::[]).toArray 18,#[]⟩
def ho5:Obj:=fl (vI 1::vI 0::vR 20::vI 5::vI 0::vR 27::vI 7::vI 0::vR 40::vI 9::vI 0::vR 52::vI 11::vI 0::vR 64::vI 15::vI 0::vR 83::vI 17::vI 0::vR 95::vI 19::vI 0::vR 107::vI 21::vI 0::vR 119::[])
def ho8:Obj:=tu ((.str "k" 190)::[])
def ho10:Obj:=fq "_wall" "_wall" (top 0)
def ho11:Obj:=xk1 "_wall" "_wall" 187 1 1 3 15 191 192
def ho12:Obj:=fo "_wall" "_wall" (top 0) .none .none .none (.str "__main__" 164) none (.ref 20) .none none
def ho13:Obj:=tu ((.type "ValueError")::[])
def ho14:Obj:=xbi0 ((.builtin "type.__prepare__")::(.type "type")::[])
def ho15 (P:Params):Obj:=⟨(.type "dict"),none,.dict (en P "__module__" 203 (.str "stow.errors" 194)::en P "__qualname__" 205 (.str "StowError" 204)::en P "__firstlineno__" 207 (.int 5 206)::en P "__static_attributes__" 208 (.ref 29)::[]).toArray 4,#[]⟩
def ho18:Obj:=xk0 "StowError" "StowError" 198 5 0 0 25 201 202
def ho19:Obj:=xfm0 ((some (.ref 27))::(some (.ref 3))::(some (.ref 24))::none::(some (.str "stow.errors" 194))::none::(some (.ref 0))::[])
def ho21 (P:Params):Obj:=⟨(.type "dict"),none,.dict (en P "__module__" 203 (.str "stow.errors" 194)::en P "__firstlineno__" 207 (.int 5 206)::en P "__static_attributes__" 208 (.ref 29)::en P "__weakref__" 210 (.ref 32)::en P "__doc__" 211 .none::[]).toArray 3,#[]⟩
noncomputable def ho22:Obj:=⟨(.type "type"),none,.cls ⟨"StowError",[(.type "ValueError")],[(.ref 31),(.type "ValueError"),(.type "Exception"),(.type "BaseException"),(.type "object")],30,"StowError",true,[],[(.ref 44),(.ref 56),(.ref 75),(.ref 87),(.ref 99),(.ref 111),(.ref 123)],false,none,false⟩,((some (.ref 22))::none::(some (.str "StowError" 196))::(some (.str "StowError" 204))::(some (.builtin "ValueError.__new__"))::(some (.bool true))::[]).toArray⟩
noncomputable def ho23:Obj:=⟨(.type "getset_descriptor"),none,.fields ((.str "__weakref__" 209)::(.ref 31)::(.builtin "ExceptionGroup.__weakref__")::.none::[]).toArray,#[]⟩
def ho24:Obj:=xsu0 ((.ref 31)::(.ref 31)::(.ref 31)::[])
def ho25:Obj:=xbi0 ((.builtin "object.__init_subclass__")::(.ref 31)::[])
def ho26:Obj:=tu (vR 31::[])
def ho28 (P:Params):Obj:=⟨(.type "dict"),none,.dict (en P "__module__" 221 (.str "stow.errors" 194)::en P "__qualname__" 223 (.str "NoName" 222)::en P "__firstlineno__" 225 (.int 7 224)::en P "__static_attributes__" 226 (.ref 42)::[]).toArray 4,#[]⟩
def ho31:Obj:=xk0 "NoName" "NoName" 216 7 0 0 38 219 220
def ho32:Obj:=xfm0 ((some (.ref 40))::(some (.ref 3))::(some (.ref 37))::none::(some (.str "stow.errors" 194))::none::(some (.ref 0))::[])
def ho34 (P:Params):Obj:=⟨(.type "dict"),none,.dict (en P "__module__" 221 (.str "stow.errors" 194)::en P "__firstlineno__" 225 (.int 7 224)::en P "__static_attributes__" 226 (.ref 42)::en P "__doc__" 227 .none::[]).toArray 2,#[]⟩
noncomputable def ho35:Obj:=⟨(.type "type"),none,.cls ⟨"NoName",[(.ref 31)],[(.ref 44),(.ref 31),(.type "ValueError"),(.type "Exception"),(.type "BaseException"),(.type "object")],43,"NoName",true,[],[],false,none,false⟩,((some (.ref 35))::none::(some (.str "NoName" 214))::(some (.str "NoName" 222))::(some (.builtin "ValueError.__new__"))::(some (.bool true))::[]).toArray⟩
def ho36:Obj:=xsu0 ((.ref 44)::(.ref 44)::(.ref 44)::[])
def ho37:Obj:=xbi0 ((.builtin "object.__init_subclass__")::(.ref 44)::[])
def ho40 (P:Params):Obj:=⟨(.type "dict"),none,.dict (en P "__module__" 237 (.str "stow.errors" 194)::en P "__qualname__" 239 (.str "NoSize" 238)::en P "__firstlineno__" 241 (.int 9 240)::en P "__static_attributes__" 242 (.ref 54)::[]).toArray 4,#[]⟩
def ho43:Obj:=xk0 "NoSize" "NoSize" 232 9 0 0 50 235 236
def ho44:Obj:=xfm0 ((some (.ref 52))::(some (.ref 3))::(some (.ref 49))::none::(some (.str "stow.errors" 194))::none::(some (.ref 0))::[])
def ho46 (P:Params):Obj:=⟨(.type "dict"),none,.dict (en P "__module__" 237 (.str "stow.errors" 194)::en P "__firstlineno__" 241 (.int 9 240)::en P "__static_attributes__" 242 (.ref 54)::en P "__doc__" 243 .none::[]).toArray 2,#[]⟩
noncomputable def ho47:Obj:=⟨(.type "type"),none,.cls ⟨"NoSize",[(.ref 31)],[(.ref 56),(.ref 31),(.type "ValueError"),(.type "Exception"),(.type "BaseException"),(.type "object")],55,"NoSize",true,[],[],false,none,false⟩,((some (.ref 47))::none::(some (.str "NoSize" 230))::(some (.str "NoSize" 238))::(some (.builtin "ValueError.__new__"))::(some (.bool true))::[]).toArray⟩
def ho48:Obj:=xsu0 ((.ref 56)::(.ref 56)::(.ref 56)::[])
def ho49:Obj:=xbi0 ((.builtin "object.__init_subclass__")::(.ref 56)::[])
def ho52 (P:Params):Obj:=⟨(.type "dict"),none,.dict (en P "__module__" 253 (.str "stow.errors" 194)::en P "__qualname__" 255 (.str "Broken" 254)::en P "__firstlineno__" 257 (.int 11 256)::en P "__init__" 265 (.ref 72)::en P "__static_attributes__" 267 (.ref 73)::[]).toArray 5,#[]⟩
def ho54:Obj:=fl (vI 13::vI 4::vR 71::[])
def ho55:Obj:=xk0 "Broken" "Broken" 248 11 0 0 62 251 252
def ho56:Obj:=xfm0 ((some (.ref 64))::(some (.ref 3))::(some (.ref 61))::none::(some (.str "stow.errors" 194))::none::(some (.ref 0))::[])
def ho59:Obj:=tu ((.str "self" 261)::(.str "cell" 262)::[])
def ho61:Obj:=fq "__init__" "Broken.__init__" (Xaf (top 5) 0)
def ho62:Obj:=xk1 "__init__" "Broken.__init__" 258 13 2 3 66 263 264
def ho63:Obj:=fo "__init__" "Broken.__init__" (Xaf (top 5) 0) .none .none .none (.str "stow.errors" 194) none (.ref 71) .none none
def ho64:Obj:=tu ((.str "cell" 266)::[])
def ho65 (P:Params):Obj:=⟨(.type "dict"),none,.dict (en P "__module__" 253 (.str "stow.errors" 194)::en P "__firstlineno__" 257 (.int 11 256)::en P "__init__" 265 (.ref 72)::en P "__static_attributes__" 267 (.ref 73)::en P "__doc__" 268 .none::[]).toArray 2,#[]⟩
noncomputable def ho66:Obj:=⟨(.type "type"),none,.cls ⟨"Broken",[(.ref 31)],[(.ref 75),(.ref 31),(.type "ValueError"),(.type "Exception"),(.type "BaseException"),(.type "object")],74,"Broken",true,[],[],false,none,false⟩,((some (.ref 59))::none::(some (.str "Broken" 246))::(some (.str "Broken" 254))::(some (.builtin "ValueError.__new__"))::(some (.bool true))::[]).toArray⟩
def ho67:Obj:=xsu0 ((.ref 75)::(.ref 75)::(.ref 75)::[])
def ho68:Obj:=xbi0 ((.builtin "object.__init_subclass__")::(.ref 75)::[])
def ho71 (P:Params):Obj:=⟨(.type "dict"),none,.dict (en P "__module__" 278 (.str "stow.errors" 194)::en P "__qualname__" 280 (.str "NoGive" 279)::en P "__firstlineno__" 282 (.int 15 281)::en P "__static_attributes__" 283 (.ref 85)::[]).toArray 4,#[]⟩
def ho74:Obj:=xk0 "NoGive" "NoGive" 273 15 0 0 81 276 277
def ho75:Obj:=xfm0 ((some (.ref 83))::(some (.ref 3))::(some (.ref 80))::none::(some (.str "stow.errors" 194))::none::(some (.ref 0))::[])
def ho77 (P:Params):Obj:=⟨(.type "dict"),none,.dict (en P "__module__" 278 (.str "stow.errors" 194)::en P "__firstlineno__" 282 (.int 15 281)::en P "__static_attributes__" 283 (.ref 85)::en P "__doc__" 284 .none::[]).toArray 2,#[]⟩
noncomputable def ho78:Obj:=⟨(.type "type"),none,.cls ⟨"NoGive",[(.ref 31)],[(.ref 87),(.ref 31),(.type "ValueError"),(.type "Exception"),(.type "BaseException"),(.type "object")],86,"NoGive",true,[],[],false,none,false⟩,((some (.ref 78))::none::(some (.str "NoGive" 271))::(some (.str "NoGive" 279))::(some (.builtin "ValueError.__new__"))::(some (.bool true))::[]).toArray⟩
def ho79:Obj:=xsu0 ((.ref 87)::(.ref 87)::(.ref 87)::[])
def ho80:Obj:=xbi0 ((.builtin "object.__init_subclass__")::(.ref 87)::[])
def ho83 (P:Params):Obj:=⟨(.type "dict"),none,.dict (en P "__module__" 294 (.str "stow.errors" 194)::en P "__qualname__" 296 (.str "NoHandle" 295)::en P "__firstlineno__" 298 (.int 17 297)::en P "__static_attributes__" 299 (.ref 97)::[]).toArray 4,#[]⟩
def ho86:Obj:=xk0 "NoHandle" "NoHandle" 289 17 0 0 93 292 293
def ho87:Obj:=xfm0 ((some (.ref 95))::(some (.ref 3))::(some (.ref 92))::none::(some (.str "stow.errors" 194))::none::(some (.ref 0))::[])
def ho89 (P:Params):Obj:=⟨(.type "dict"),none,.dict (en P "__module__" 294 (.str "stow.errors" 194)::en P "__firstlineno__" 298 (.int 17 297)::en P "__static_attributes__" 299 (.ref 97)::en P "__doc__" 300 .none::[]).toArray 2,#[]⟩
noncomputable def ho90:Obj:=⟨(.type "type"),none,.cls ⟨"NoHandle",[(.ref 31)],[(.ref 99),(.ref 31),(.type "ValueError"),(.type "Exception"),(.type "BaseException"),(.type "object")],98,"NoHandle",true,[],[],false,none,false⟩,((some (.ref 90))::none::(some (.str "NoHandle" 287))::(some (.str "NoHandle" 295))::(some (.builtin "ValueError.__new__"))::(some (.bool true))::[]).toArray⟩
def ho91:Obj:=xsu0 ((.ref 99)::(.ref 99)::(.ref 99)::[])
def ho92:Obj:=xbi0 ((.builtin "object.__init_subclass__")::(.ref 99)::[])
def ho95 (P:Params):Obj:=⟨(.type "dict"),none,.dict (en P "__module__" 310 (.str "stow.errors" 194)::en P "__qualname__" 312 (.str "NoPiece" 311)::en P "__firstlineno__" 314 (.int 19 313)::en P "__static_attributes__" 315 (.ref 109)::[]).toArray 4,#[]⟩
def ho98:Obj:=xk0 "NoPiece" "NoPiece" 305 19 0 0 105 308 309
def ho99:Obj:=xfm0 ((some (.ref 107))::(some (.ref 3))::(some (.ref 104))::none::(some (.str "stow.errors" 194))::none::(some (.ref 0))::[])
def Xoj (P:Params):Obj:=⟨(.type "dict"),none,.dict (en P "__module__" 310 (.str "stow.errors" 194)::en P "__firstlineno__" 314 (.int 19 313)::en P "__static_attributes__" 315 (.ref 109)::en P "__doc__" 316 .none::[]).toArray 2,#[]⟩
noncomputable def Xpa:Obj:=⟨(.type "type"),none,.cls ⟨"NoPiece",[(.ref 31)],[(.ref 111),(.ref 31),(.type "ValueError"),(.type "Exception"),(.type "BaseException"),(.type "object")],110,"NoPiece",true,[],[],false,none,false⟩,((some (.ref 102))::none::(some (.str "NoPiece" 303))::(some (.str "NoPiece" 311))::(some (.builtin "ValueError.__new__"))::(some (.bool true))::[]).toArray⟩
def Xsk:Obj:=xsu0 ((.ref 111)::(.ref 111)::(.ref 111)::[])
def Xvy:Obj:=xbi0 ((.builtin "object.__init_subclass__")::(.ref 111)::[])
def Xpi (P:Params):Obj:=⟨(.type "dict"),none,.dict (en P "__module__" 326 (.str "stow.errors" 194)::en P "__qualname__" 328 (.str "NoCell" 327)::en P "__firstlineno__" 330 (.int 21 329)::en P "__static_attributes__" 331 (.ref 121)::[]).toArray 4,#[]⟩
def Xvp:Obj:=xk0 "NoCell" "NoCell" 321 21 0 0 117 324 325
def Xvj:Obj:=xfm0 ((some (.ref 119))::(some (.ref 3))::(some (.ref 116))::none::(some (.str "stow.errors" 194))::none::(some (.ref 0))::[])
def Xpb (P:Params):Obj:=⟨(.type "dict"),none,.dict (en P "__module__" 326 (.str "stow.errors" 194)::en P "__firstlineno__" 330 (.int 21 329)::en P "__static_attributes__" 331 (.ref 121)::en P "__doc__" 332 .none::[]).toArray 2,#[]⟩
noncomputable def Xpl:Obj:=⟨(.type "type"),none,.cls ⟨"NoCell",[(.ref 31)],[(.ref 123),(.ref 31),(.type "ValueError"),(.type "Exception"),(.type "BaseException"),(.type "object")],122,"NoCell",true,[],[],false,none,false⟩,((some (.ref 114))::none::(some (.str "NoCell" 319))::(some (.str "NoCell" 327))::(some (.builtin "ValueError.__new__"))::(some (.bool true))::[]).toArray⟩
def Xqb:Obj:=xsu0 ((.ref 123)::(.ref 123)::(.ref 123)::[])
def Xqg:Obj:=xbi0 ((.builtin "object.__init_subclass__")::(.ref 123)::[])
def ho117 (P:Params):Obj:=⟨(.type "dict"),none,.dict (en P "__name__" 165 (.str "stow.pieces" 525)::en P "__doc__" 166 .none::en P "__package__" 167 .none::en P "__loader__" 168 (.builtin "__main__.__loader__#opaque")::en P "__spec__" 169 .none::en P "__annotations__" 170 (.ref 6)::en P "__builtins__" 171 (.ref 4)::en P "__file__" 173 (.str "/claim/cut.py" 172)::en P "__cached__" 174 .none::en P "_wall" 193 (.ref 21)::en P "StowError" 213 (.ref 31)::en P "NoName" 229 (.ref 44)::en P "NoSize" 245 (.ref 56)::en P "Broken" 270 (.ref 75)::en P "NoGive" 286 (.ref 87)::en P "NoHandle" 302 (.ref 99)::en P "NoPiece" 318 (.ref 111)::en P "NoCell" 334 (.ref 123)::en P "NoAsk" 350 (.ref 135)::en P "NoBound" 366 (.ref 147)::en P "NoRoom" 382 (.ref 159)::en P "BadLine" 407 (.ref 178)::en P "NoLine" 423 (.ref 190)::en P "NoTurn" 439 (.ref 202)::en P "MARKS" 443 (.int 2 442)::en P "check_ask" 451 (.ref 211)::en P "check_plain_ask" 459 (.ref 218)::en P "mark_of" 469 (.ref 225)::en P "long_of" 476 (.ref 232)::en P "live_of" 483 (.ref 239)::en P "LEAST_LIVE" 487 (.int 3 486)::en P "can_begin" 496 (.ref 246)::en P "bad_of_piece" 505 (.ref 253)::en P "looked" 516 (.ref 260)::en P "fresh_room" 524 (.ref 267)::en P "laid" 537 (.ref 274)::en P "laid_free" 546 (.ref 281)::[]).toArray 37,#[]⟩
def ho118:Obj:=fl (vI 1::vI 0::vR 20::vI 5::vI 0::vR 27::vI 7::vI 0::vR 40::vI 9::vI 0::vR 52::vI 11::vI 0::vR 64::vI 15::vI 0::vR 83::vI 17::vI 0::vR 95::vI 19::vI 0::vR 107::vI 21::vI 0::vR 119::vI 23::vI 0::vR 131::vI 25::vI 0::vR 143::vI 27::vI 0::vR 155::vI 29::vI 0::vR 167::vI 33::vI 0::vR 186::vI 35::vI 0::vR 198::vI 39::vI 0::vR 210::vI 42::vI 0::vR 217::vI 47::vI 0::vR 224::vI 51::vI 0::vR 231::vI 53::vI 0::vR 238::vI 57::vI 0::vR 245::vI 62::vI 0::vR 252::vI 69::vI 0::vR 259::vI 80::vI 0::vR 266::vI 88::vI 0::vR 273::vI 93::vI 0::vR 280::[])
noncomputable def Xrm:Obj:=⟨(.type "type"),none,.cls ⟨"StowError",[(.type "ValueError")],[(.ref 31),(.type "ValueError"),(.type "Exception"),(.type "BaseException"),(.type "object")],30,"StowError",true,[],[(.ref 44),(.ref 56),(.ref 75),(.ref 87),(.ref 99),(.ref 111),(.ref 123),(.ref 135),(.ref 147),(.ref 159),(.ref 178),(.ref 190),(.ref 202)],false,none,false⟩,((some (.ref 22))::none::(some (.str "StowError" 196))::(some (.str "StowError" 204))::(some (.builtin "ValueError.__new__"))::(some (.bool true))::[]).toArray⟩
def Xrc (P:Params):Obj:=⟨(.type "dict"),none,.dict (en P "__module__" 342 (.str "stow.errors" 194)::en P "__qualname__" 344 (.str "NoAsk" 343)::en P "__firstlineno__" 346 (.int 23 345)::en P "__static_attributes__" 347 (.ref 133)::[]).toArray 4,#[]⟩
def Xyw:Obj:=xk0 "NoAsk" "NoAsk" 337 23 0 0 129 340 341
def XBx:Obj:=xfm0 ((some (.ref 131))::(some (.ref 3))::(some (.ref 128))::none::(some (.str "stow.errors" 194))::none::(some (.ref 0))::[])
def Xvd (P:Params):Obj:=⟨(.type "dict"),none,.dict (en P "__module__" 342 (.str "stow.errors" 194)::en P "__firstlineno__" 346 (.int 23 345)::en P "__static_attributes__" 347 (.ref 133)::en P "__doc__" 348 .none::[]).toArray 2,#[]⟩
noncomputable def Xte:Obj:=⟨(.type "type"),none,.cls ⟨"NoAsk",[(.ref 31)],[(.ref 135),(.ref 31),(.type "ValueError"),(.type "Exception"),(.type "BaseException"),(.type "object")],134,"NoAsk",true,[],[],false,none,false⟩,((some (.ref 126))::none::(some (.str "NoAsk" 335))::(some (.str "NoAsk" 343))::(some (.builtin "ValueError.__new__"))::(some (.bool true))::[]).toArray⟩
def Xzs:Obj:=xsu0 ((.ref 135)::(.ref 135)::(.ref 135)::[])
def XAd:Obj:=xbi0 ((.builtin "object.__init_subclass__")::(.ref 135)::[])
def Xsg (P:Params):Obj:=⟨(.type "dict"),none,.dict (en P "__module__" 358 (.str "stow.errors" 194)::en P "__qualname__" 360 (.str "NoBound" 359)::en P "__firstlineno__" 362 (.int 25 361)::en P "__static_attributes__" 363 (.ref 145)::[]).toArray 4,#[]⟩
def Xxs:Obj:=xk0 "NoBound" "NoBound" 353 25 0 0 141 356 357
def XBa:Obj:=xfm0 ((some (.ref 143))::(some (.ref 3))::(some (.ref 140))::none::(some (.str "stow.errors" 194))::none::(some (.ref 0))::[])
def Xqz (P:Params):Obj:=⟨(.type "dict"),none,.dict (en P "__module__" 358 (.str "stow.errors" 194)::en P "__firstlineno__" 362 (.int 25 361)::en P "__static_attributes__" 363 (.ref 145)::en P "__doc__" 364 .none::[]).toArray 2,#[]⟩
noncomputable def Xtf:Obj:=⟨(.type "type"),none,.cls ⟨"NoBound",[(.ref 31)],[(.ref 147),(.ref 31),(.type "ValueError"),(.type "Exception"),(.type "BaseException"),(.type "object")],146,"NoBound",true,[],[],false,none,false⟩,((some (.ref 138))::none::(some (.str "NoBound" 351))::(some (.str "NoBound" 359))::(some (.builtin "ValueError.__new__"))::(some (.bool true))::[]).toArray⟩
def Xzq:Obj:=xsu0 ((.ref 147)::(.ref 147)::(.ref 147)::[])
def Xwy:Obj:=xbi0 ((.builtin "object.__init_subclass__")::(.ref 147)::[])
def Xvh (P:Params):Obj:=⟨(.type "dict"),none,.dict (en P "__module__" 374 (.str "stow.errors" 194)::en P "__qualname__" 376 (.str "NoRoom" 375)::en P "__firstlineno__" 378 (.int 27 377)::en P "__static_attributes__" 379 (.ref 157)::[]).toArray 4,#[]⟩
def Xyi:Obj:=xk0 "NoRoom" "NoRoom" 369 27 0 0 153 372 373
def Xwf:Obj:=xfm0 ((some (.ref 155))::(some (.ref 3))::(some (.ref 152))::none::(some (.str "stow.errors" 194))::none::(some (.ref 0))::[])
def Xus (P:Params):Obj:=⟨(.type "dict"),none,.dict (en P "__module__" 374 (.str "stow.errors" 194)::en P "__firstlineno__" 378 (.int 27 377)::en P "__static_attributes__" 379 (.ref 157)::en P "__doc__" 380 .none::[]).toArray 2,#[]⟩
noncomputable def Xqw:Obj:=⟨(.type "type"),none,.cls ⟨"NoRoom",[(.ref 31)],[(.ref 159),(.ref 31),(.type "ValueError"),(.type "Exception"),(.type "BaseException"),(.type "object")],158,"NoRoom",true,[],[],false,none,false⟩,((some (.ref 150))::none::(some (.str "NoRoom" 367))::(some (.str "NoRoom" 375))::(some (.builtin "ValueError.__new__"))::(some (.bool true))::[]).toArray⟩
def XBd:Obj:=xsu0 ((.ref 159)::(.ref 159)::(.ref 159)::[])
def Xyb:Obj:=xbi0 ((.builtin "object.__init_subclass__")::(.ref 159)::[])
def Xqh (P:Params):Obj:=⟨(.type "dict"),none,.dict (en P "__module__" 390 (.str "stow.errors" 194)::en P "__qualname__" 392 (.str "BadLine" 391)::en P "__firstlineno__" 394 (.int 29 393)::en P "__init__" 402 (.ref 175)::en P "__static_attributes__" 404 (.ref 176)::[]).toArray 5,#[]⟩
def Xzy:Obj:=fl (vI 31::vI 4::vR 174::[])
def Xwz:Obj:=xk0 "BadLine" "BadLine" 385 29 0 0 165 388 389
def Xwd:Obj:=xfm0 ((some (.ref 167))::(some (.ref 3))::(some (.ref 164))::none::(some (.str "stow.errors" 194))::none::(some (.ref 0))::[])
def XBn:Obj:=tu ((.str "self" 398)::(.str "line" 399)::[])
def XAe:Obj:=fq "__init__" "BadLine.__init__" (Xaf (top 13) 0)
def Xyh:Obj:=xk1 "__init__" "BadLine.__init__" 395 31 2 3 169 400 401
def XAg:Obj:=fo "__init__" "BadLine.__init__" (Xaf (top 13) 0) .none .none .none (.str "stow.errors" 194) none (.ref 174) .none none
def Xxo:Obj:=tu ((.str "line" 403)::[])
def Xtt (P:Params):Obj:=⟨(.type "dict"),none,.dict (en P "__module__" 390 (.str "stow.errors" 194)::en P "__firstlineno__" 394 (.int 29 393)::en P "__init__" 402 (.ref 175)::en P "__static_attributes__" 404 (.ref 176)::en P "__doc__" 405 .none::[]).toArray 2,#[]⟩
noncomputable def Xvi:Obj:=⟨(.type "type"),none,.cls ⟨"BadLine",[(.ref 31)],[(.ref 178),(.ref 31),(.type "ValueError"),(.type "Exception"),(.type "BaseException"),(.type "object")],177,"BadLine",true,[],[],false,none,false⟩,((some (.ref 162))::none::(some (.str "BadLine" 383))::(some (.str "BadLine" 391))::(some (.builtin "ValueError.__new__"))::(some (.bool true))::[]).toArray⟩
def XBm:Obj:=xsu0 ((.ref 178)::(.ref 178)::(.ref 178)::[])
def Xxj:Obj:=xbi0 ((.builtin "object.__init_subclass__")::(.ref 178)::[])
def Xtd (P:Params):Obj:=⟨(.type "dict"),none,.dict (en P "__module__" 415 (.str "stow.errors" 194)::en P "__qualname__" 417 (.str "NoLine" 416)::en P "__firstlineno__" 419 (.int 33 418)::en P "__static_attributes__" 420 (.ref 188)::[]).toArray 4,#[]⟩
def Xzn:Obj:=xk0 "NoLine" "NoLine" 410 33 0 0 184 413 414
def Xyg:Obj:=xfm0 ((some (.ref 186))::(some (.ref 3))::(some (.ref 183))::none::(some (.str "stow.errors" 194))::none::(some (.ref 0))::[])
def Xsv (P:Params):Obj:=⟨(.type "dict"),none,.dict (en P "__module__" 415 (.str "stow.errors" 194)::en P "__firstlineno__" 419 (.int 33 418)::en P "__static_attributes__" 420 (.ref 188)::en P "__doc__" 421 .none::[]).toArray 2,#[]⟩
noncomputable def Xsa:Obj:=⟨(.type "type"),none,.cls ⟨"NoLine",[(.ref 31)],[(.ref 190),(.ref 31),(.type "ValueError"),(.type "Exception"),(.type "BaseException"),(.type "object")],189,"NoLine",true,[],[],false,none,false⟩,((some (.ref 181))::none::(some (.str "NoLine" 408))::(some (.str "NoLine" 416))::(some (.builtin "ValueError.__new__"))::(some (.bool true))::[]).toArray⟩
def XBv:Obj:=xsu0 ((.ref 190)::(.ref 190)::(.ref 190)::[])
def XAh:Obj:=xbi0 ((.builtin "object.__init_subclass__")::(.ref 190)::[])
def Xuw (P:Params):Obj:=⟨(.type "dict"),none,.dict (en P "__module__" 431 (.str "stow.errors" 194)::en P "__qualname__" 433 (.str "NoTurn" 432)::en P "__firstlineno__" 435 (.int 35 434)::en P "__static_attributes__" 436 (.ref 200)::[]).toArray 4,#[]⟩
def XAl:Obj:=xk0 "NoTurn" "NoTurn" 426 35 0 0 196 429 430
def XAm:Obj:=xfm0 ((some (.ref 198))::(some (.ref 3))::(some (.ref 195))::none::(some (.str "stow.errors" 194))::none::(some (.ref 0))::[])
def Xtg (P:Params):Obj:=⟨(.type "dict"),none,.dict (en P "__module__" 431 (.str "stow.errors" 194)::en P "__firstlineno__" 435 (.int 35 434)::en P "__static_attributes__" 436 (.ref 200)::en P "__doc__" 437 .none::[]).toArray 2,#[]⟩
noncomputable def Xqk:Obj:=⟨(.type "type"),none,.cls ⟨"NoTurn",[(.ref 31)],[(.ref 202),(.ref 31),(.type "ValueError"),(.type "Exception"),(.type "BaseException"),(.type "object")],201,"NoTurn",true,[],[],false,none,false⟩,((some (.ref 193))::none::(some (.str "NoTurn" 424))::(some (.str "NoTurn" 432))::(some (.builtin "ValueError.__new__"))::(some (.bool true))::[]).toArray⟩
def XAp:Obj:=xsu0 ((.ref 202)::(.ref 202)::(.ref 202)::[])
def Xzi:Obj:=xbi0 ((.builtin "object.__init_subclass__")::(.ref 202)::[])
def Xxy:Obj:=tu ((.str "count" 447)::(.str "bound" 448)::[])
def Xyy:Obj:=fq "check_ask" "check_ask" (top 18)
def Xuu:Obj:=xk1 "check_ask" "check_ask" 444 39 2 3 205 449 450
def Xvc:Obj:=fo "check_ask" "check_ask" (top 18) .none .none .none (.str "stow.asks" 440) none (.ref 210) .none none
def XBe:Obj:=tu ((.str "count" 455)::(.str "bound" 456)::[])
def Xwi:Obj:=fq "check_plain_ask" "check_plain_ask" (top 19)
def Xse:Obj:=xk1 "check_plain_ask" "check_plain_ask" 452 42 2 3 212 457 458
def Xrj:Obj:=fo "check_plain_ask" "check_plain_ask" (top 19) .none .none .none (.str "stow.asks" 440) none (.ref 217) .none none
def Xxw:Obj:=tu ((.str "long" 465)::(.str "live" 466)::[])
def Xxe:Obj:=fq "mark_of" "mark_of" (top 21)
def Xsi:Obj:=xk1 "mark_of" "mark_of" 462 47 2 3 219 467 468
def Xuc:Obj:=fo "mark_of" "mark_of" (top 21) .none .none .none (.str "stow.marks" 460) none (.ref 224) .none none
def Xze:Obj:=tu ((.str "number" 473)::[])
def Xyu:Obj:=fq "long_of" "long_of" (top 22)
def Xrx:Obj:=xk1 "long_of" "long_of" 470 51 1 3 226 474 475
def Xps:Obj:=fo "long_of" "long_of" (top 22) .none .none .none (.str "stow.marks" 460) none (.ref 231) .none none
def Xyv:Obj:=tu ((.str "number" 480)::[])
def Xys:Obj:=fq "live_of" "live_of" (top 23)
def Xsj:Obj:=xk1 "live_of" "live_of" 477 53 1 3 233 481 482
def Xtk:Obj:=fo "live_of" "live_of" (top 23) .none .none .none (.str "stow.marks" 460) none (.ref 238) .none none
def Xzu:Obj:=tu ((.str "cells" 491)::(.str "at" 492)::(.str "long" 493)::[])
def Xyl:Obj:=fq "can_begin" "can_begin" (top 26)
def Xpo:Obj:=xk1 "can_begin" "can_begin" 488 57 2 3 240 494 495
def Xud:Obj:=fo "can_begin" "can_begin" (top 26) .none .none .none (.str "stow.looks" 484) none (.ref 245) .none none
def Xwa:Obj:=tu ((.str "cells" 500)::(.str "at" 501)::(.str "last" 502)::[])
def Xxu:Obj:=fq "bad_of_piece" "bad_of_piece" (top 27)
def Xro:Obj:=xk1 "bad_of_piece" "bad_of_piece" 497 62 2 3 247 503 504
def Xrd:Obj:=fo "bad_of_piece" "bad_of_piece" (top 27) .none .none .none (.str "stow.looks" 484) none (.ref 252) .none none
def Xzf:Obj:=tu ((.str "cells" 509)::(.str "pieces" 510)::(.str "at" 511)::(.str "bad" 512)::(.str "long" 513)::[])
def Xyf:Obj:=fq "looked" "looked" (top 28)
def Xvq:Obj:=xk1 "looked" "looked" 506 69 1 3 254 514 515
def Xso:Obj:=fo "looked" "looked" (top 28) .none .none .none (.str "stow.looks" 484) none (.ref 259) .none none
def Xzw:Obj:=tu ((.str "count" 520)::(.str "cells" 521)::[])
def Xyo:Obj:=fq "fresh_room" "fresh_room" (top 29)
def Xpt:Obj:=xk1 "fresh_room" "fresh_room" 517 80 1 3 261 522 523
def Xqm:Obj:=fo "fresh_room" "fresh_room" (top 29) .none .none .none (.str "stow.looks" 484) none (.ref 266) .none none
def Xzr:Obj:=tu ((.str "cells" 530)::(.str "at" 531)::(.str "long" 532)::(.str "live" 533)::(.str "row" 534)::[])
def Xwk:Obj:=fq "laid" "laid" (top 31)
def Xtz:Obj:=xk1 "laid" "laid" 527 88 4 3 268 535 536
def Xun:Obj:=fo "laid" "laid" (top 31) .none .none .none (.str "stow.pieces" 525) none (.ref 273) .none none
def Xwj:Obj:=tu ((.str "cells" 541)::(.str "begin" 542)::(.str "end" 543)::[])
def Xwv:Obj:=fq "laid_free" "laid_free" (top 32)
def Xsm:Obj:=xk1 "laid_free" "laid_free" 538 93 3 3 275 544 545
def Xra:Obj:=fo "laid_free" "laid_free" (top 32) .none .none .none (.str "stow.pieces" 525) none (.ref 280) .none none
def ho276 (P:Params):Obj:=⟨(.type "dict"),none,.dict (en P "__name__" 165 (.str "stow.shelves" 892)::en P "__doc__" 166 .none::en P "__package__" 167 .none::en P "__loader__" 168 (.builtin "__main__.__loader__#opaque")::en P "__spec__" 169 .none::en P "__annotations__" 170 (.ref 6)::en P "__builtins__" 171 (.ref 4)::en P "__file__" 173 (.str "/claim/cut.py" 172)::en P "__cached__" 174 .none::en P "_wall" 193 (.ref 21)::en P "StowError" 213 (.ref 31)::en P "NoName" 229 (.ref 44)::en P "NoSize" 245 (.ref 56)::en P "Broken" 270 (.ref 75)::en P "NoGive" 286 (.ref 87)::en P "NoHandle" 302 (.ref 99)::en P "NoPiece" 318 (.ref 111)::en P "NoCell" 334 (.ref 123)::en P "NoAsk" 350 (.ref 135)::en P "NoBound" 366 (.ref 147)::en P "NoRoom" 382 (.ref 159)::en P "BadLine" 407 (.ref 178)::en P "NoLine" 423 (.ref 190)::en P "NoTurn" 439 (.ref 202)::en P "MARKS" 443 (.int 2 442)::en P "check_ask" 451 (.ref 211)::en P "check_plain_ask" 459 (.ref 218)::en P "mark_of" 469 (.ref 225)::en P "long_of" 476 (.ref 232)::en P "live_of" 483 (.ref 239)::en P "LEAST_LIVE" 487 (.int 3 486)::en P "can_begin" 496 (.ref 246)::en P "bad_of_piece" 505 (.ref 253)::en P "looked" 516 (.ref 260)::en P "fresh_room" 524 (.ref 267)::en P "laid" 537 (.ref 274)::en P "laid_free" 546 (.ref 281)::en P "piece_at" 555 (.ref 288)::en P "live_at" 564 (.ref 295)::en P "free_at" 573 (.ref 302)::en P "begin_around" 579 (.ref 307)::en P "cut_out" 594 (.ref 314)::en P "joined_pieces" 605 (.ref 321)::en P "joined" 616 (.ref 328)::en P "Keeper" 763 (.ref 438)::en P "is_power" 772 (.ref 449)::en P "block_for" 779 (.ref 456)::en P "least_free" 785 (.ref 461)::en P "cut_down" 796 (.ref 468)::en P "Halves" 841 (.ref 500)::en P "Row" 891 (.ref 535)::en P "all_whole" 901 (.ref 544)::en P "begin_of" 909 (.ref 551)::[]).toArray 53,#[]⟩
def ho277:Obj:=fl (vI 1::vI 0::vR 20::vI 5::vI 0::vR 27::vI 7::vI 0::vR 40::vI 9::vI 0::vR 52::vI 11::vI 0::vR 64::vI 15::vI 0::vR 83::vI 17::vI 0::vR 95::vI 19::vI 0::vR 107::vI 21::vI 0::vR 119::vI 23::vI 0::vR 131::vI 25::vI 0::vR 143::vI 27::vI 0::vR 155::vI 29::vI 0::vR 167::vI 33::vI 0::vR 186::vI 35::vI 0::vR 198::vI 39::vI 0::vR 210::vI 42::vI 0::vR 217::vI 47::vI 0::vR 224::vI 51::vI 0::vR 231::vI 53::vI 0::vR 238::vI 57::vI 0::vR 245::vI 62::vI 0::vR 252::vI 69::vI 0::vR 259::vI 80::vI 0::vR 266::vI 88::vI 0::vR 273::vI 93::vI 0::vR 280::vI 97::vI 0::vR 287::vI 102::vI 0::vR 294::vI 107::vI 0::vR 301::vI 112::vI 0::vR 306::vI 115::vI 0::vR 313::vI 123::vI 0::vR 320::vI 131::vI 0::vR 327::vI 137::vI 0::vR 334::vI 189::vI 0::vR 448::vI 191::vI 0::vR 455::vI 193::vI 0::vR 460::vI 199::vI 0::vR 467::vI 205::vI 0::vR 474::vI 222::vI 0::vR 508::vI 238::vI 0::vR 543::vI 242::vI 0::vR 550::[])
def XHb:Obj:=tu ((.str "cells" 550)::(.str "at" 551)::(.str "piece" 552)::[])
def XLa:Obj:=fq "piece_at" "piece_at" (top 33)
def Xzm:Obj:=xk1 "piece_at" "piece_at" 547 97 2 3 282 553 554
def XAq:Obj:=fo "piece_at" "piece_at" (top 33) .none .none .none (.str "stow.pieces" 525) none (.ref 287) .none none
def XEz:Obj:=tu ((.str "cells" 559)::(.str "at" 560)::(.str "piece" 561)::[])
def XIi:Obj:=fq "live_at" "live_at" (top 34)
def Xwb:Obj:=xk1 "live_at" "live_at" 556 102 2 3 289 562 563
def Xwe:Obj:=fo "live_at" "live_at" (top 34) .none .none .none (.str "stow.pieces" 525) none (.ref 294) .none none
def XEx:Obj:=tu ((.str "cells" 568)::(.str "at" 569)::(.str "piece" 570)::[])
def XIp:Obj:=fq "free_at" "free_at" (top 35)
def Xws:Obj:=xk1 "free_at" "free_at" 565 107 2 3 296 571 572
def XBp:Obj:=fo "free_at" "free_at" (top 35) .none .none .none (.str "stow.pieces" 525) none (.ref 301) .none none
def XHw:Obj:=fq "begin_around" "begin_around" (top 36)
def XBi:Obj:=cp "begin_around" "begin_around" 574 (vI 112::vI 2::vI 0::vI 0::vI 3::vR 303::(.bool true)::vI 181::vR 304::.none::.none::.none::vR 305::vI 577::vI 112::(.str "/claim/cut.py" 578)::[])
def Xzb:Obj:=fo "begin_around" "begin_around" (top 36) .none .none .none (.str "stow.pieces" 525) none (.ref 306) .none none
def XDr:Obj:=tu ((.str "cells" 583)::(.str "at" 584)::(.str "place" 585)::(.str "long" 586)::(.str "begin" 587)::(.str "free_long" 588)::(.str "live" 589)::(.str "end" 590)::(.str "row" 591)::[])
def XEy:Obj:=fq "cut_out" "cut_out" (top 37)
def Xzv:Obj:=xk1 "cut_out" "cut_out" 580 115 4 3 308 592 593
def Xwr:Obj:=fo "cut_out" "cut_out" (top 37) .none .none .none (.str "stow.pieces" 525) none (.ref 313) .none none
def XHv:Obj:=tu ((.str "pieces" 598)::(.str "row" 599)::(.str "at" 600)::(.str "long" 601)::(.str "live" 602)::[])
def XKd:Obj:=fq "joined_pieces" "joined_pieces" (top 38)
def XBh:Obj:=xk1 "joined_pieces" "joined_pieces" 595 123 1 3 315 603 604
def XAr:Obj:=fo "joined_pieces" "joined_pieces" (top 38) .none .none .none (.str "stow.pieces" 525) none (.ref 320) .none none
def XIb:Obj:=tu ((.str "cells" 609)::(.str "row" 610)::(.str "at" 611)::(.str "long" 612)::(.str "live" 613)::[])
def XFq:Obj:=fq "joined" "joined" (top 39)
def Xxd:Obj:=xk1 "joined" "joined" 606 131 1 3 322 614 615
def XAv:Obj:=fo "joined" "joined" (top 39) .none .none .none (.str "stow.pieces" 525) none (.ref 327) .none none
def Xxn (P:Params):Obj:=⟨(.type "dict"),none,.dict (en P "__module__" 626 (.str "stow.keepers" 617)::en P "__qualname__" 628 (.str "Keeper" 627)::en P "__firstlineno__" 630 (.int 137 629)::en P "__init__" 638 (.ref 342)::en P "cells" 645 (.ref 349)::en P "pieces" 652 (.ref 356)::en P "lay" 660 (.ref 363)::en P "clear" 667 (.ref 370)::en P "many" 678 (.ref 377)::en P "get" 687 (.ref 384)::en P "put" 697 (.ref 391)::en P "ask" 707 (.ref 399)::en P "give" 715 (.ref 406)::en P "grow" 726 (.ref 414)::en P "room_begin" 734 (.ref 421)::en P "room_cell_of" 744 (.ref 428)::en P "room_moved" 754 (.ref 435)::en P "__static_attributes__" 756 (.ref 436)::[]).toArray 18,#[]⟩
def XJz:Obj:=fl (vI 139::vI 4::vR 341::vI 142::vI 4::vR 348::vI 145::vI 4::vR 355::vI 148::vI 4::vR 362::vI 154::vI 4::vR 369::vI 157::vI 4::vR 376::vI 161::vI 4::vR 383::vI 164::vI 4::vR 390::vI 167::vI 4::vR 398::vI 171::vI 4::vR 405::vI 174::vI 4::vR 413::vI 177::vI 4::vR 420::vI 180::vI 4::vR 427::vI 186::vI 4::vR 434::[])
def XKe:Obj:=xk0 "Keeper" "Keeper" 621 137 0 0 332 624 625
def XHp:Obj:=xfm0 ((some (.ref 334))::(some (.ref 3))::(some (.ref 331))::none::(some (.str "stow.keepers" 617))::none::(some (.ref 0))::[])
def XIm:Obj:=tu ((.str "self" 634)::(.str "size" 635)::[])
def XFh:Obj:=fq "__init__" "Keeper.__init__" (Xaf (top 41) 0)
def Xzh:Obj:=xk1 "__init__" "Keeper.__init__" 631 139 2 3 336 636 637
def XAi:Obj:=fo "__init__" "Keeper.__init__" (Xaf (top 41) 0) .none .none .none (.str "stow.keepers" 617) none (.ref 341) .none none
def XJc:Obj:=tu ((.str "self" 642)::[])
def XGl:Obj:=fq "cells" "Keeper.cells" (Xaf (top 41) 1)
def XBu:Obj:=xk1 "cells" "Keeper.cells" 639 142 1 3 343 643 644
def XBr:Obj:=fo "cells" "Keeper.cells" (Xaf (top 41) 1) .none .none .none (.str "stow.keepers" 617) none (.ref 348) .none none
def XLf:Obj:=tu ((.str "self" 649)::[])
def XFx:Obj:=fq "pieces" "Keeper.pieces" (Xaf (top 41) 2)
def XBq:Obj:=xk1 "pieces" "Keeper.pieces" 646 145 1 3 350 650 651
def Xzl:Obj:=fo "pieces" "Keeper.pieces" (Xaf (top 41) 2) .none .none .none (.str "stow.keepers" 617) none (.ref 355) .none none
def XIn:Obj:=tu ((.str "self" 656)::(.str "cells" 657)::[])
def XLj:Obj:=fq "lay" "Keeper.lay" (Xaf (top 41) 3)
def Xzx:Obj:=xk1 "lay" "Keeper.lay" 653 148 2 3 357 658 659
def Xzg:Obj:=fo "lay" "Keeper.lay" (Xaf (top 41) 3) .none .none .none (.str "stow.keepers" 617) none (.ref 362) .none none
def XIj:Obj:=tu ((.str "self" 664)::[])
def XHl:Obj:=fq "clear" "Keeper.clear" (Xaf (top 41) 4)
def XGg:Obj:=xk1 "clear" "Keeper.clear" 661 154 1 3 364 665 666
def XDf:Obj:=fo "clear" "Keeper.clear" (Xaf (top 41) 4) .none .none .none (.str "stow.keepers" 617) none (.ref 369) .none none
def XFg:Obj:=tu ((.str "self" 671)::(.str "place" 672)::(.str "at" 673)::(.str "long" 674)::(.str "live" 675)::[])
def XJl:Obj:=fq "many" "Keeper.many" (Xaf (top 41) 5)
def XJj:Obj:=xk1 "many" "Keeper.many" 668 157 2 3 371 676 677
def XLi:Obj:=fo "many" "Keeper.many" (Xaf (top 41) 5) .none .none .none (.str "stow.keepers" 617) none (.ref 376) .none none
def XLl:Obj:=tu ((.str "self" 682)::(.str "place" 683)::(.str "k" 684)::[])
def XHt:Obj:=fq "get" "Keeper.get" (Xaf (top 41) 6)
def XFi:Obj:=xk1 "get" "Keeper.get" 679 161 3 3 378 685 686
def XJu:Obj:=fo "get" "Keeper.get" (Xaf (top 41) 6) .none .none .none (.str "stow.keepers" 617) none (.ref 383) .none none
def XKj:Obj:=tu ((.str "self" 691)::(.str "place" 692)::(.str "k" 693)::(.str "number" 694)::[])
def XKp:Obj:=fq "put" "Keeper.put" (Xaf (top 41) 7)
def XDg:Obj:=xk1 "put" "Keeper.put" 688 164 4 3 385 695 696
def XJh:Obj:=fo "put" "Keeper.put" (Xaf (top 41) 7) .none .none .none (.str "stow.keepers" 617) none (.ref 390) .none none
def XHq:Obj:=tu ((.int 1 698)::[])
def XDj:Obj:=tu ((.str "self" 702)::(.str "count" 703)::(.str "bound" 704)::[])
def XLc:Obj:=fq "ask" "Keeper.ask" (Xaf (top 41) 8)
def XFb:Obj:=xk1 "ask" "Keeper.ask" 699 167 3 3 393 705 706
def XGw:Obj:=fo "ask" "Keeper.ask" (Xaf (top 41) 8) (.ref 392) .none .none (.str "stow.keepers" 617) none (.ref 398) .none none
def XGa:Obj:=tu ((.str "self" 711)::(.str "place" 712)::[])
def XKc:Obj:=fq "give" "Keeper.give" (Xaf (top 41) 9)
def XJb:Obj:=xk1 "give" "Keeper.give" 708 171 2 3 400 713 714
def XEw:Obj:=fo "give" "Keeper.give" (Xaf (top 41) 9) .none .none .none (.str "stow.keepers" 617) none (.ref 405) .none none
def XKo:Obj:=tu ((.int 1 716)::[])
def XFw:Obj:=tu ((.str "self" 720)::(.str "place" 721)::(.str "count" 722)::(.str "bound" 723)::[])
def XJg:Obj:=fq "grow" "Keeper.grow" (Xaf (top 41) 10)
def XDt:Obj:=xk1 "grow" "Keeper.grow" 717 174 4 3 408 724 725
def XDu:Obj:=fo "grow" "Keeper.grow" (Xaf (top 41) 10) (.ref 407) .none .none (.str "stow.keepers" 617) none (.ref 413) .none none
def XJq:Obj:=tu ((.str "self" 730)::(.str "cells" 731)::[])
def XHf:Obj:=fq "room_begin" "Keeper.room_begin" (Xaf (top 41) 11)
def XBg:Obj:=xk1 "room_begin" "Keeper.room_begin" 727 177 2 3 415 732 733
def Xwx:Obj:=fo "room_begin" "Keeper.room_begin" (Xaf (top 41) 11) .none .none .none (.str "stow.keepers" 617) none (.ref 420) .none none
def XIw:Obj:=tu ((.str "self" 738)::(.str "place" 739)::(.str "k" 740)::(.str "many" 741)::[])
def XDk:Obj:=fq "room_cell_of" "Keeper.room_cell_of" (Xaf (top 41) 12)
def XLp:Obj:=xk1 "room_cell_of" "Keeper.room_cell_of" 735 180 3 3 422 742 743
def XEb:Obj:=fo "room_cell_of" "Keeper.room_cell_of" (Xaf (top 41) 12) .none .none .none (.str "stow.keepers" 617) none (.ref 427) .none none
def XHd:Obj:=tu ((.str "self" 748)::(.str "place" 749)::(.str "count" 750)::(.str "bound" 751)::[])
def XDi:Obj:=fq "room_moved" "Keeper.room_moved" (Xaf (top 41) 13)
def XKb:Obj:=xk1 "room_moved" "Keeper.room_moved" 745 186 4 3 429 752 753
def XEv:Obj:=fo "room_moved" "Keeper.room_moved" (Xaf (top 41) 13) .none .none .none (.str "stow.keepers" 617) none (.ref 434) .none none
def XKw:Obj:=tu ((.str "room_cells" 755)::[])
def XAy (P:Params):Obj:=⟨(.type "dict"),none,.dict (en P "__module__" 626 (.str "stow.keepers" 617)::en P "__firstlineno__" 630 (.int 137 629)::en P "__init__" 638 (.ref 342)::en P "cells" 645 (.ref 349)::en P "pieces" 652 (.ref 356)::en P "lay" 660 (.ref 363)::en P "clear" 667 (.ref 370)::en P "many" 678 (.ref 377)::en P "get" 687 (.ref 384)::en P "put" 697 (.ref 391)::en P "ask" 707 (.ref 399)::en P "give" 715 (.ref 406)::en P "grow" 726 (.ref 414)::en P "room_begin" 734 (.ref 421)::en P "room_cell_of" 744 (.ref 428)::en P "room_moved" 754 (.ref 435)::en P "__static_attributes__" 756 (.ref 436)::en P "__dict__" 758 (.ref 439)::en P "__weakref__" 760 (.ref 440)::en P "__doc__" 761 .none::[]).toArray 4,#[]⟩
noncomputable def ho434:Obj:=⟨(.type "type"),none,.cls ⟨"Keeper",[(.type "object")],[(.ref 438),(.type "object")],437,"Keeper",true,[],[(.ref 500),(.ref 535)],false,none,false⟩,(none::none::(some (.str "Keeper" 619))::(some (.str "Keeper" 627))::(some (.builtin "object.__new__"))::(some (.bool true))::[]).toArray⟩
noncomputable def XEk:Obj:=⟨(.type "getset_descriptor"),none,.fields ((.str "__dict__" 757)::(.ref 438)::(.builtin "function.__dict__")::(.builtin "function.__dict__#set")::[]).toArray,#[]⟩
noncomputable def XDw:Obj:=⟨(.type "getset_descriptor"),none,.fields ((.str "__weakref__" 759)::(.ref 438)::(.builtin "ExceptionGroup.__weakref__")::.none::[]).toArray,#[]⟩
def XFe:Obj:=xsu0 ((.ref 438)::(.ref 438)::(.ref 438)::[])
def XIv:Obj:=xbi0 ((.builtin "object.__init_subclass__")::(.ref 438)::[])
def XHz:Obj:=tu ((.str "number" 769)::[])
def XGq:Obj:=fq "is_power" "is_power" (top 43)
def Xxk:Obj:=xk1 "is_power" "is_power" 766 189 1 3 443 770 771
def Xww:Obj:=fo "is_power" "is_power" (top 43) .none .none .none (.str "stow.halves" 764) none (.ref 448) .none none
def XFp:Obj:=tu ((.str "need" 776)::[])
def XLg:Obj:=fq "block_for" "block_for" (top 44)
def XBf:Obj:=xk1 "block_for" "block_for" 773 191 1 3 450 777 778
def Xzp:Obj:=fo "block_for" "block_for" (top 44) .none .none .none (.str "stow.halves" 764) none (.ref 455) .none none
def XIs:Obj:=fq "least_free" "least_free" (top 45)
def Xzz:Obj:=cp "least_free" "least_free" 780 (vI 193::vI 2::vI 0::vI 0::vI 3::vR 457::(.bool true)::vI 181::vR 458::.none::.none::.none::vR 459::vI 783::vI 193::(.str "/claim/cut.py" 784)::[])
def Xye:Obj:=fo "least_free" "least_free" (top 45) .none .none .none (.str "stow.halves" 764) none (.ref 460) .none none
def XHn:Obj:=tu ((.str "cells" 789)::(.str "at" 790)::(.str "long" 791)::(.str "block" 792)::(.str "row" 793)::[])
def XDx:Obj:=fq "cut_down" "cut_down" (top 46)
def Xyk:Obj:=xk1 "cut_down" "cut_down" 786 199 4 3 462 794 795
def Xzk:Obj:=fo "cut_down" "cut_down" (top 46) .none .none .none (.str "stow.halves" 764) none (.ref 467) .none none
def Xip:Obj:=tu (vR 438::[])
def XAu (P:Params):Obj:=⟨(.type "dict"),none,.dict (en P "__module__" 804 (.str "stow.halves" 764)::en P "__qualname__" 806 (.str "Halves" 805)::en P "__firstlineno__" 808 (.int 205 807)::en P "__init__" 816 (.ref 482)::en P "ask" 829 (.ref 490)::en P "give" 837 (.ref 497)::en P "__static_attributes__" 838 (.ref 498)::[]).toArray 7,#[]⟩
def XFo:Obj:=fl (vI 207::vI 4::vR 481::vI 212::vI 4::vR 489::vI 219::vI 4::vR 496::[])
def XGn:Obj:=xk0 "Halves" "Halves" 799 205 0 0 472 802 803
def XLe:Obj:=xfm0 ((some (.ref 474))::(some (.ref 3))::(some (.ref 471))::none::(some (.str "stow.halves" 764))::none::(some (.ref 0))::[])
def XKn:Obj:=tu ((.str "self" 812)::(.str "size" 813)::[])
def XKy:Obj:=fq "__init__" "Halves.__init__" (Xaf (top 47) 0)
def XAx:Obj:=xk1 "__init__" "Halves.__init__" 809 207 2 3 476 814 815
def XBs:Obj:=fo "__init__" "Halves.__init__" (Xaf (top 47) 0) .none .none .none (.str "stow.halves" 764) none (.ref 481) .none none
def Xza:Obj:=tu ((.int 1 817)::[])
def XIl:Obj:=tu ((.str "self" 821)::(.str "count" 822)::(.str "bound" 823)::(.str "block" 824)::(.str "at" 825)::(.str "long" 826)::[])
def XFj:Obj:=fq "ask" "Halves.ask" (Xaf (top 47) 1)
def Xym:Obj:=xk1 "ask" "Halves.ask" 818 212 3 3 484 827 828
def Xxa:Obj:=fo "ask" "Halves.ask" (Xaf (top 47) 1) (.ref 483) .none .none (.str "stow.halves" 764) none (.ref 489) .none none
def XHm:Obj:=tu ((.str "self" 833)::(.str "place" 834)::[])
def XEp:Obj:=fq "give" "Halves.give" (Xaf (top 47) 2)
def XHo:Obj:=xk1 "give" "Halves.give" 830 219 2 3 491 835 836
def XKr:Obj:=fo "give" "Halves.give" (Xaf (top 47) 2) .none .none .none (.str "stow.halves" 764) none (.ref 496) .none none
def Xxf (P:Params):Obj:=⟨(.type "dict"),none,.dict (en P "__module__" 804 (.str "stow.halves" 764)::en P "__firstlineno__" 808 (.int 205 807)::en P "__init__" 816 (.ref 482)::en P "ask" 829 (.ref 490)::en P "give" 837 (.ref 497)::en P "__static_attributes__" 838 (.ref 498)::en P "__doc__" 839 .none::[]).toArray 2,#[]⟩
noncomputable def Xxg:Obj:=⟨(.type "type"),none,.cls ⟨"Halves",[(.ref 438)],[(.ref 500),(.ref 438),(.type "object")],499,"Halves",true,[],[],false,none,false⟩,((some (.ref 469))::none::(some (.str "Halves" 797))::(some (.str "Halves" 805))::(some (.builtin "object.__new__"))::(some (.bool true))::[]).toArray⟩
def XJy:Obj:=xsu0 ((.ref 500)::(.ref 500)::(.ref 500)::[])
def XJe:Obj:=xbi0 ((.builtin "object.__init_subclass__")::(.ref 500)::[])
def Xxl (P:Params):Obj:=⟨(.type "dict"),none,.dict (en P "__module__" 851 (.str "stow.rows" 842)::en P "__qualname__" 853 (.str "Row" 852)::en P "__firstlineno__" 855 (.int 222 854)::en P "ask" 868 (.ref 517)::en P "give" 876 (.ref 524)::en P "grow" 887 (.ref 532)::en P "__static_attributes__" 888 (.ref 533)::[]).toArray 7,#[]⟩
def XIy:Obj:=fl (vI 224::vI 4::vR 516::vI 232::vI 4::vR 523::vI 235::vI 4::vR 531::[])
def XKs:Obj:=xk0 "Row" "Row" 846 222 0 0 506 849 850
def XFv:Obj:=xfm0 ((some (.ref 508))::(some (.ref 3))::(some (.ref 505))::none::(some (.str "stow.rows" 842))::none::(some (.ref 0))::[])
def XBz:Obj:=tu ((.int 1 856)::[])
def XJk:Obj:=tu ((.str "self" 860)::(.str "count" 861)::(.str "bound" 862)::(.str "at" 863)::(.str "long" 864)::(.str "live" 865)::[])
def XIf:Obj:=fq "ask" "Row.ask" (Xaf (top 49) 0)
def Xyn:Obj:=xk1 "ask" "Row.ask" 857 224 3 3 511 866 867
def Xxx:Obj:=fo "ask" "Row.ask" (Xaf (top 49) 0) (.ref 510) .none .none (.str "stow.rows" 842) none (.ref 516) .none none
def XJm:Obj:=tu ((.str "self" 872)::(.str "place" 873)::[])
def XIo:Obj:=fq "give" "Row.give" (Xaf (top 49) 1)
def XEt:Obj:=xk1 "give" "Row.give" 869 232 2 3 518 874 875
def XEj:Obj:=fo "give" "Row.give" (Xaf (top 49) 1) .none .none .none (.str "stow.rows" 842) none (.ref 523) .none none
def XJd:Obj:=tu ((.int 1 877)::[])
def XJp:Obj:=tu ((.str "self" 881)::(.str "place" 882)::(.str "count" 883)::(.str "bound" 884)::[])
def XHs:Obj:=fq "grow" "Row.grow" (Xaf (top 49) 2)
def XIu:Obj:=xk1 "grow" "Row.grow" 878 235 4 3 526 885 886
def XDv:Obj:=fo "grow" "Row.grow" (Xaf (top 49) 2) (.ref 525) .none .none (.str "stow.rows" 842) none (.ref 531) .none none
def Xwm (P:Params):Obj:=⟨(.type "dict"),none,.dict (en P "__module__" 851 (.str "stow.rows" 842)::en P "__firstlineno__" 855 (.int 222 854)::en P "ask" 868 (.ref 517)::en P "give" 876 (.ref 524)::en P "grow" 887 (.ref 532)::en P "__static_attributes__" 888 (.ref 533)::en P "__doc__" 889 .none::[]).toArray 2,#[]⟩
noncomputable def XBk:Obj:=⟨(.type "type"),none,.cls ⟨"Row",[(.ref 438)],[(.ref 535),(.ref 438),(.type "object")],534,"Row",true,[],[],false,none,false⟩,((some (.ref 503))::none::(some (.str "Row" 844))::(some (.str "Row" 852))::(some (.builtin "object.__new__"))::(some (.bool true))::[]).toArray⟩
def XGm:Obj:=xsu0 ((.ref 535)::(.ref 535)::(.ref 535)::[])
def XFy:Obj:=xbi0 ((.builtin "object.__init_subclass__")::(.ref 535)::[])
def XJi:Obj:=tu ((.str "size" 897)::(.str "shelf" 898)::[])
def XJv:Obj:=fq "all_whole" "all_whole" (top 51)
def Xyc:Obj:=xk1 "all_whole" "all_whole" 894 238 2 3 538 899 900
def Xxv:Obj:=fo "all_whole" "all_whole" (top 51) .none .none .none (.str "stow.shelves" 892) none (.ref 543) .none none
def XGs:Obj:=tu ((.str "at" 905)::(.str "shelf" 906)::[])
def XKf:Obj:=fq "begin_of" "begin_of" (top 52)
def XBw:Obj:=xk1 "begin_of" "begin_of" 902 242 2 3 545 907 908
def Xyt:Obj:=fo "begin_of" "begin_of" (top 52) .none .none .none (.str "stow.shelves" 892) none (.ref 550) .none none
def ho548 (P:Params):Obj:=⟨(.type "dict"),none,.dict (en P "__name__" 165 (.str "stow.stretches" 1027)::en P "__doc__" 166 .none::en P "__package__" 167 .none::en P "__loader__" 168 (.builtin "__main__.__loader__#opaque")::en P "__spec__" 169 .none::en P "__annotations__" 170 (.ref 6)::en P "__builtins__" 171 (.ref 4)::en P "__file__" 173 (.str "/claim/cut.py" 172)::en P "__cached__" 174 .none::en P "_wall" 193 (.ref 21)::en P "StowError" 213 (.ref 31)::en P "NoName" 229 (.ref 44)::en P "NoSize" 245 (.ref 56)::en P "Broken" 270 (.ref 75)::en P "NoGive" 286 (.ref 87)::en P "NoHandle" 302 (.ref 99)::en P "NoPiece" 318 (.ref 111)::en P "NoCell" 334 (.ref 123)::en P "NoAsk" 350 (.ref 135)::en P "NoBound" 366 (.ref 147)::en P "NoRoom" 382 (.ref 159)::en P "BadLine" 407 (.ref 178)::en P "NoLine" 423 (.ref 190)::en P "NoTurn" 439 (.ref 202)::en P "MARKS" 443 (.int 2 442)::en P "check_ask" 451 (.ref 211)::en P "check_plain_ask" 459 (.ref 218)::en P "mark_of" 469 (.ref 225)::en P "long_of" 476 (.ref 232)::en P "live_of" 483 (.ref 239)::en P "LEAST_LIVE" 487 (.int 3 486)::en P "can_begin" 496 (.ref 246)::en P "bad_of_piece" 505 (.ref 253)::en P "looked" 516 (.ref 260)::en P "fresh_room" 524 (.ref 267)::en P "laid" 537 (.ref 274)::en P "laid_free" 546 (.ref 281)::en P "piece_at" 555 (.ref 288)::en P "live_at" 564 (.ref 295)::en P "free_at" 573 (.ref 302)::en P "begin_around" 579 (.ref 307)::en P "cut_out" 594 (.ref 314)::en P "joined_pieces" 605 (.ref 321)::en P "joined" 616 (.ref 328)::en P "Keeper" 763 (.ref 438)::en P "is_power" 772 (.ref 449)::en P "block_for" 779 (.ref 456)::en P "least_free" 785 (.ref 461)::en P "cut_down" 796 (.ref 468)::en P "Halves" 841 (.ref 500)::en P "Row" 891 (.ref 535)::en P "all_whole" 901 (.ref 544)::en P "begin_of" 909 (.ref 551)::en P "whole_ones" 915 (.ref 556)::en P "free_slots" 921 (.ref 561)::en P "cut_for" 934 (.ref 568)::en P "with_slot" 944 (.ref 575)::en P "Shelves" 999 (.ref 614)::en P "first_place" 1014 (.ref 623)::en P "spots_for" 1026 (.ref 630)::en P "least_place" 1035 (.ref 637)::en P "Stretches" 1108 (.ref 691)::en P "First" 1130 (.ref 708)::en P "Best" 1152 (.ref 725)::en P "Next" 1207 (.ref 770)::[]).toArray 65,#[]⟩
def ho549:Obj:=fl (vI 1::vI 0::vR 20::vI 5::vI 0::vR 27::vI 7::vI 0::vR 40::vI 9::vI 0::vR 52::vI 11::vI 0::vR 64::vI 15::vI 0::vR 83::vI 17::vI 0::vR 95::vI 19::vI 0::vR 107::vI 21::vI 0::vR 119::vI 23::vI 0::vR 131::vI 25::vI 0::vR 143::vI 27::vI 0::vR 155::vI 29::vI 0::vR 167::vI 33::vI 0::vR 186::vI 35::vI 0::vR 198::vI 39::vI 0::vR 210::vI 42::vI 0::vR 217::vI 47::vI 0::vR 224::vI 51::vI 0::vR 231::vI 53::vI 0::vR 238::vI 57::vI 0::vR 245::vI 62::vI 0::vR 252::vI 69::vI 0::vR 259::vI 80::vI 0::vR 266::vI 88::vI 0::vR 273::vI 93::vI 0::vR 280::vI 97::vI 0::vR 287::vI 102::vI 0::vR 294::vI 107::vI 0::vR 301::vI 112::vI 0::vR 306::vI 115::vI 0::vR 313::vI 123::vI 0::vR 320::vI 131::vI 0::vR 327::vI 137::vI 0::vR 334::vI 189::vI 0::vR 448::vI 191::vI 0::vR 455::vI 193::vI 0::vR 460::vI 199::vI 0::vR 467::vI 205::vI 0::vR 474::vI 222::vI 0::vR 508::vI 238::vI 0::vR 543::vI 242::vI 0::vR 550::vI 244::vI 0::vR 555::vI 246::vI 0::vR 560::vI 249::vI 0::vR 567::vI 255::vI 0::vR 574::vI 262::vI 0::vR 581::vI 284::vI 0::vR 622::vI 290::vI 0::vR 629::vI 298::vI 0::vR 636::vI 302::vI 0::vR 643::vI 328::vI 0::vR 699::vI 333::vI 0::vR 716::vI 339::vI 0::vR 733::[])
noncomputable def XKi:Obj:=⟨(.type "type"),none,.cls ⟨"Keeper",[(.type "object")],[(.ref 438),(.type "object")],437,"Keeper",true,[],[(.ref 500),(.ref 535),(.ref 614),(.ref 691)],false,none,false⟩,(none::none::(some (.str "Keeper" 619))::(some (.str "Keeper" 627))::(some (.builtin "object.__new__"))::(some (.bool true))::[]).toArray⟩
def XMp:Obj:=fq "whole_ones" "whole_ones" (top 53)
def XIe:Obj:=cp "whole_ones" "whole_ones" 910 (vI 244::vI 2::vI 0::vI 0::vI 3::vR 552::(.bool true)::vI 181::vR 553::.none::.none::.none::vR 554::vI 913::vI 244::(.str "/claim/cut.py" 914)::[])
def XIh:Obj:=fo "whole_ones" "whole_ones" (top 53) .none .none .none (.str "stow.shelves" 892) none (.ref 555) .none none
def XNq:Obj:=fq "free_slots" "free_slots" (top 54)
def XJw:Obj:=cp "free_slots" "free_slots" 916 (vI 246::vI 3::vI 0::vI 0::vI 3::vR 557::(.bool true)::vI 181::vR 558::.none::.none::.none::vR 559::vI 919::vI 246::(.str "/claim/cut.py" 920)::[])
def XLm:Obj:=fo "free_slots" "free_slots" (top 54) .none .none .none (.str "stow.shelves" 892) none (.ref 560) .none none
def ho563:Obj:=tu ((.str "cells" 925)::(.str "begin" 926)::(.str "shelf" 927)::(.str "size" 928)::(.str "row" 929)::(.str "end" 930)::(.str "at" 931)::[])
def XQi:Obj:=fq "cut_for" "cut_for" (top 55)
def XEf:Obj:=xk1 "cut_for" "cut_for" 922 249 4 3 562 932 933
def XHj:Obj:=fo "cut_for" "cut_for" (top 55) .none .none .none (.str "stow.shelves" 892) none (.ref 567) .none none
def XRv:Obj:=tu ((.str "cells" 938)::(.str "shelf" 939)::(.str "size" 940)::(.str "begins" 941)::[])
def XTn:Obj:=fq "with_slot" "with_slot" (top 56)
def XFf:Obj:=xk1 "with_slot" "with_slot" 935 255 3 3 569 942 943
def XKt:Obj:=fo "with_slot" "with_slot" (top 56) .none .none .none (.str "stow.shelves" 892) none (.ref 574) .none none
def XFd (P:Params):Obj:=⟨(.type "dict"),none,.dict (en P "__module__" 952 (.str "stow.shelves" 892)::en P "__qualname__" 954 (.str "Shelves" 953)::en P "__firstlineno__" 956 (.int 262 955)::en P "__init__" 966 (.ref 589)::en P "clear" 973 (.ref 596)::en P "ask" 986 (.ref 604)::en P "give" 994 (.ref 611)::en P "__static_attributes__" 996 (.ref 612)::[]).toArray 8,#[]⟩
def XRm:Obj:=fl (vI 264::vI 4::vR 588::vI 270::vI 4::vR 595::vI 273::vI 4::vR 603::vI 281::vI 4::vR 610::[])
def XQr:Obj:=xk0 "Shelves" "Shelves" 947 262 0 0 579 950 951
def XOg:Obj:=xfm0 ((some (.ref 581))::(some (.ref 3))::(some (.ref 578))::none::(some (.str "stow.shelves" 892))::none::(some (.ref 0))::[])
def XSz:Obj:=tu ((.str "self" 960)::(.str "size" 961)::(.str "shelf" 962)::(.str "cells" 963)::[])
def XPk:Obj:=fq "__init__" "Shelves.__init__" (Xaf (top 57) 0)
def XId:Obj:=xk1 "__init__" "Shelves.__init__" 957 264 3 3 583 964 965
def XDl:Obj:=fo "__init__" "Shelves.__init__" (Xaf (top 57) 0) .none .none .none (.str "stow.shelves" 892) none (.ref 588) .none none
def XMf:Obj:=tu ((.str "self" 970)::[])
def XLx:Obj:=fq "clear" "Shelves.clear" (Xaf (top 57) 1)
def XPy:Obj:=xk1 "clear" "Shelves.clear" 967 270 1 3 590 971 972
def XQk:Obj:=fo "clear" "Shelves.clear" (Xaf (top 57) 1) .none .none .none (.str "stow.shelves" 892) none (.ref 595) .none none
def XFs:Obj:=tu ((.int 1 974)::[])
def XNy:Obj:=tu ((.str "self" 978)::(.str "count" 979)::(.str "bound" 980)::(.str "size" 981)::(.str "cells" 982)::(.str "at" 983)::[])
def XRo:Obj:=fq "ask" "Shelves.ask" (Xaf (top 57) 2)
def XJr:Obj:=xk1 "ask" "Shelves.ask" 975 273 3 3 598 984 985
def XHr:Obj:=fo "ask" "Shelves.ask" (Xaf (top 57) 2) (.ref 597) .none .none (.str "stow.shelves" 892) none (.ref 603) .none none
def XLr:Obj:=tu ((.str "self" 990)::(.str "place" 991)::[])
def XQu:Obj:=fq "give" "Shelves.give" (Xaf (top 57) 3)
def XPf:Obj:=xk1 "give" "Shelves.give" 987 281 2 3 605 992 993
def ho610:Obj:=fo "give" "Shelves.give" (Xaf (top 57) 3) .none .none .none (.str "stow.shelves" 892) none (.ref 610) .none none
def XSg:Obj:=tu ((.str "shelf" 995)::[])
def XGf (P:Params):Obj:=⟨(.type "dict"),none,.dict (en P "__module__" 952 (.str "stow.shelves" 892)::en P "__firstlineno__" 956 (.int 262 955)::en P "__init__" 966 (.ref 589)::en P "clear" 973 (.ref 596)::en P "ask" 986 (.ref 604)::en P "give" 994 (.ref 611)::en P "__static_attributes__" 996 (.ref 612)::en P "__doc__" 997 .none::[]).toArray 2,#[]⟩
noncomputable def XIk:Obj:=⟨(.type "type"),none,.cls ⟨"Shelves",[(.ref 438)],[(.ref 614),(.ref 438),(.type "object")],613,"Shelves",true,[],[],false,none,false⟩,((some (.ref 576))::none::(some (.str "Shelves" 945))::(some (.str "Shelves" 953))::(some (.builtin "object.__new__"))::(some (.bool true))::[]).toArray⟩
def XSk:Obj:=xsu0 ((.ref 614)::(.ref 614)::(.ref 614)::[])
def ho615:Obj:=xbi0 ((.builtin "object.__init_subclass__")::(.ref 614)::[])
def XSr:Obj:=tu ((.str "piece" 1005)::(.str "long" 1006)::(.str "bound" 1007)::(.str "at" 1008)::(.str "piece_long" 1009)::(.str "live" 1010)::(.str "place" 1011)::[])
def XRp:Obj:=fq "first_place" "first_place" (top 59)
def XKx:Obj:=xk1 "first_place" "first_place" 1002 284 3 3 617 1012 1013
def XJt:Obj:=fo "first_place" "first_place" (top 59) .none .none .none (.str "stow.places" 1000) none (.ref 622) .none none
def XPi:Obj:=tu ((.str "cells" 1018)::(.str "long" 1019)::(.str "bound" 1020)::(.str "spots" 1021)::(.str "piece" 1022)::(.str "place" 1023)::[])
def XSu:Obj:=fq "spots_for" "spots_for" (top 60)
def XHy:Obj:=xk1 "spots_for" "spots_for" 1015 290 3 3 624 1024 1025
def XIz:Obj:=fo "spots_for" "spots_for" (top 60) .none .none .none (.str "stow.places" 1000) none (.ref 629) .none none
def XPc:Obj:=tu ((.str "ranked" 1032)::[])
def XOb:Obj:=fq "least_place" "least_place" (top 62)
def XKq:Obj:=xk1 "least_place" "least_place" 1029 298 1 3 631 1033 1034
def XLb:Obj:=fo "least_place" "least_place" (top 62) .none .none .none (.str "stow.stretches" 1027) none (.ref 636) .none none
def XLh (P:Params):Obj:=⟨(.type "dict"),none,.dict (en P "__module__" 1043 (.str "stow.stretches" 1027)::en P "__qualname__" 1045 (.str "Stretches" 1044)::en P "__firstlineno__" 1047 (.int 302 1046)::en P "chosen" 1056 (.ref 651)::en P "ask" 1068 (.ref 659)::en P "give" 1076 (.ref 666)::en P "grow" 1087 (.ref 674)::en P "room_begin" 1095 (.ref 681)::en P "room_granted" 1103 (.ref 688)::en P "__static_attributes__" 1105 (.ref 689)::[]).toArray 10,#[]⟩
def XQb:Obj:=fl (vI 304::vI 4::vR 650::vI 307::vI 4::vR 658::vI 317::vI 4::vR 665::vI 320::vI 4::vR 673::vI 323::vI 4::vR 680::vI 326::vI 4::vR 687::[])
def XRq:Obj:=xk0 "Stretches" "Stretches" 1038 302 0 0 641 1041 1042
def ho643:Obj:=xfm0 ((some (.ref 643))::(some (.ref 3))::(some (.ref 640))::none::(some (.str "stow.stretches" 1027))::none::(some (.ref 0))::[])
def ho646:Obj:=tu ((.str "self" 1051)::(.str "long" 1052)::(.str "bound" 1053)::[])
def XOh:Obj:=fq "chosen" "Stretches.chosen" (Xaf (top 63) 0)
def XMl:Obj:=xk1 "chosen" "Stretches.chosen" 1048 304 3 3 645 1054 1055
def ho650:Obj:=fo "chosen" "Stretches.chosen" (Xaf (top 63) 0) .none .none .none (.str "stow.stretches" 1027) none (.ref 650) .none none
def XFm:Obj:=tu ((.int 1 1057)::[])
def XRs:Obj:=tu ((.str "self" 1061)::(.str "count" 1062)::(.str "bound" 1063)::(.str "long" 1064)::(.str "at" 1065)::[])
def XTy:Obj:=fq "ask" "Stretches.ask" (Xaf (top 63) 1)
def XHh:Obj:=xk1 "ask" "Stretches.ask" 1058 307 3 3 653 1066 1067
def XEu:Obj:=fo "ask" "Stretches.ask" (Xaf (top 63) 1) (.ref 652) .none .none (.str "stow.stretches" 1027) none (.ref 658) .none none
def ho661:Obj:=tu ((.str "self" 1072)::(.str "place" 1073)::[])
def XQe:Obj:=fq "give" "Stretches.give" (Xaf (top 63) 2)
def ho664:Obj:=xk1 "give" "Stretches.give" 1069 317 2 3 660 1074 1075
def XSq:Obj:=fo "give" "Stretches.give" (Xaf (top 63) 2) .none .none .none (.str "stow.stretches" 1027) none (.ref 665) .none none
def XQs:Obj:=tu ((.int 1 1077)::[])
def XOa:Obj:=tu ((.str "self" 1081)::(.str "place" 1082)::(.str "count" 1083)::(.str "bound" 1084)::[])
def ho671:Obj:=fq "grow" "Stretches.grow" (Xaf (top 63) 3)
def XOx:Obj:=xk1 "grow" "Stretches.grow" 1078 320 4 3 668 1085 1086
def XRr:Obj:=fo "grow" "Stretches.grow" (Xaf (top 63) 3) (.ref 667) .none .none (.str "stow.stretches" 1027) none (.ref 673) .none none
def XQd:Obj:=tu ((.str "self" 1091)::(.str "cells" 1092)::[])
def XMd:Obj:=fq "room_begin" "Stretches.room_begin" (Xaf (top 63) 4)
def XSh:Obj:=xk1 "room_begin" "Stretches.room_begin" 1088 323 2 3 675 1093 1094
def XTq:Obj:=fo "room_begin" "Stretches.room_begin" (Xaf (top 63) 4) .none .none .none (.str "stow.stretches" 1027) none (.ref 680) .none none
def XUb:Obj:=tu ((.str "self" 1099)::(.str "behind" 1100)::[])
def ho685:Obj:=fq "room_granted" "Stretches.room_granted" (Xaf (top 63) 5)
def XIx:Obj:=xk1 "room_granted" "Stretches.room_granted" 1096 326 2 3 682 1101 1102
def XLd:Obj:=fo "room_granted" "Stretches.room_granted" (Xaf (top 63) 5) .none .none .none (.str "stow.stretches" 1027) none (.ref 687) .none none
def XPo:Obj:=tu ((.str "room_cells" 1104)::[])
def XKz (P:Params):Obj:=⟨(.type "dict"),none,.dict (en P "__module__" 1043 (.str "stow.stretches" 1027)::en P "__firstlineno__" 1047 (.int 302 1046)::en P "chosen" 1056 (.ref 651)::en P "ask" 1068 (.ref 659)::en P "give" 1076 (.ref 666)::en P "grow" 1087 (.ref 674)::en P "room_begin" 1095 (.ref 681)::en P "room_granted" 1103 (.ref 688)::en P "__static_attributes__" 1105 (.ref 689)::en P "__doc__" 1106 .none::[]).toArray 2,#[]⟩
noncomputable def ho690:Obj:=⟨(.type "type"),none,.cls ⟨"Stretches",[(.ref 438)],[(.ref 691),(.ref 438),(.type "object")],690,"Stretches",true,[],[(.ref 708),(.ref 725),(.ref 770)],false,none,false⟩,((some (.ref 638))::none::(some (.str "Stretches" 1036))::(some (.str "Stretches" 1044))::(some (.builtin "object.__new__"))::(some (.bool true))::[]).toArray⟩
def XSj:Obj:=xsu0 ((.ref 691)::(.ref 691)::(.ref 691)::[])
def ho692:Obj:=xbi0 ((.builtin "object.__init_subclass__")::(.ref 691)::[])
def Xnc:Obj:=tu (vR 691::[])
def XGd (P:Params):Obj:=⟨(.type "dict"),none,.dict (en P "__module__" 1116 (.str "stow.stretches" 1027)::en P "__qualname__" 1118 (.str "First" 1117)::en P "__firstlineno__" 1120 (.int 328 1119)::en P "chosen" 1126 (.ref 705)::en P "__static_attributes__" 1127 (.ref 706)::[]).toArray 5,#[]⟩
def XLy:Obj:=fl (vI 330::vI 4::vR 704::[])
def XMb:Obj:=xk0 "First" "First" 1111 328 0 0 697 1114 1115
def XTp:Obj:=xfm0 ((some (.ref 699))::(some (.ref 3))::(some (.ref 696))::none::(some (.str "stow.stretches" 1027))::none::(some (.ref 0))::[])
def XTa:Obj:=fq "chosen" "First.chosen" (Xaf (top 64) 0)
def XEm:Obj:=cp "chosen" "First.chosen" 1121 (vI 330::vI 3::vI 0::vI 0::vI 3::vR 701::(.bool true)::vI 181::vR 702::.none::.none::.none::vR 703::vI 1124::vI 330::(.str "/claim/cut.py" 1125)::[])
def XKu:Obj:=fo "chosen" "First.chosen" (Xaf (top 64) 0) .none .none .none (.str "stow.stretches" 1027) none (.ref 704) .none none
def XGc (P:Params):Obj:=⟨(.type "dict"),none,.dict (en P "__module__" 1116 (.str "stow.stretches" 1027)::en P "__firstlineno__" 1120 (.int 328 1119)::en P "chosen" 1126 (.ref 705)::en P "__static_attributes__" 1127 (.ref 706)::en P "__doc__" 1128 .none::[]).toArray 2,#[]⟩
noncomputable def XGo:Obj:=⟨(.type "type"),none,.cls ⟨"First",[(.ref 691)],[(.ref 708),(.ref 691),(.ref 438),(.type "object")],707,"First",true,[],[],false,none,false⟩,((some (.ref 694))::none::(some (.str "First" 1109))::(some (.str "First" 1117))::(some (.builtin "object.__new__"))::(some (.bool true))::[]).toArray⟩
def XQy:Obj:=xsu0 ((.ref 708)::(.ref 708)::(.ref 708)::[])
def XSp:Obj:=xbi0 ((.builtin "object.__init_subclass__")::(.ref 708)::[])
def XHk (P:Params):Obj:=⟨(.type "dict"),none,.dict (en P "__module__" 1138 (.str "stow.stretches" 1027)::en P "__qualname__" 1140 (.str "Best" 1139)::en P "__firstlineno__" 1142 (.int 333 1141)::en P "chosen" 1148 (.ref 722)::en P "__static_attributes__" 1149 (.ref 723)::[]).toArray 5,#[]⟩
def XMg:Obj:=fl (vI 335::vI 4::vR 721::[])
def XNl:Obj:=xk0 "Best" "Best" 1133 333 0 0 714 1136 1137
def XSt:Obj:=xfm0 ((some (.ref 716))::(some (.ref 3))::(some (.ref 713))::none::(some (.str "stow.stretches" 1027))::none::(some (.ref 0))::[])
def XMn:Obj:=fq "chosen" "Best.chosen" (Xaf (top 65) 0)
def XKk:Obj:=cp "chosen" "Best.chosen" 1143 (vI 335::vI 3::vI 0::vI 0::vI 3::vR 718::(.bool true)::vI 181::vR 719::.none::.none::.none::vR 720::vI 1146::vI 335::(.str "/claim/cut.py" 1147)::[])
def XGk:Obj:=fo "chosen" "Best.chosen" (Xaf (top 65) 0) .none .none .none (.str "stow.stretches" 1027) none (.ref 721) .none none
def XGp (P:Params):Obj:=⟨(.type "dict"),none,.dict (en P "__module__" 1138 (.str "stow.stretches" 1027)::en P "__firstlineno__" 1142 (.int 333 1141)::en P "chosen" 1148 (.ref 722)::en P "__static_attributes__" 1149 (.ref 723)::en P "__doc__" 1150 .none::[]).toArray 2,#[]⟩
noncomputable def XEq:Obj:=⟨(.type "type"),none,.cls ⟨"Best",[(.ref 691)],[(.ref 725),(.ref 691),(.ref 438),(.type "object")],724,"Best",true,[],[],false,none,false⟩,((some (.ref 711))::none::(some (.str "Best" 1131))::(some (.str "Best" 1139))::(some (.builtin "object.__new__"))::(some (.bool true))::[]).toArray⟩
def XTt:Obj:=xsu0 ((.ref 725)::(.ref 725)::(.ref 725)::[])
def XRk:Obj:=xbi0 ((.builtin "object.__init_subclass__")::(.ref 725)::[])
def XGi (P:Params):Obj:=⟨(.type "dict"),none,.dict (en P "__module__" 1160 (.str "stow.stretches" 1027)::en P "__qualname__" 1162 (.str "Next" 1161)::en P "__firstlineno__" 1164 (.int 339 1163)::en P "__init__" 1172 (.ref 741)::en P "rover" 1179 (.ref 748)::en P "chosen" 1185 (.ref 753)::en P "room_begin" 1193 (.ref 760)::en P "room_granted" 1201 (.ref 767)::en P "__static_attributes__" 1204 (.ref 768)::[]).toArray 9,#[]⟩
def XQc:Obj:=fl (vI 341::vI 4::vR 740::vI 345::vI 4::vR 747::vI 348::vI 4::vR 752::vI 352::vI 4::vR 759::vI 356::vI 4::vR 766::[])
def XQj:Obj:=xk0 "Next" "Next" 1155 339 0 0 731 1158 1159
def XOe:Obj:=xfm0 ((some (.ref 733))::(some (.ref 3))::(some (.ref 730))::none::(some (.str "stow.stretches" 1027))::none::(some (.ref 0))::[])
def XSs:Obj:=tu ((.str "self" 1168)::(.str "size" 1169)::[])
def XQg:Obj:=fq "__init__" "Next.__init__" (Xaf (top 66) 0)
def XDo:Obj:=xk1 "__init__" "Next.__init__" 1165 341 2 3 735 1170 1171
def XGb:Obj:=fo "__init__" "Next.__init__" (Xaf (top 66) 0) .none .none .none (.str "stow.stretches" 1027) none (.ref 740) .none none
def ho743:Obj:=tu ((.str "self" 1176)::[])
def XNf:Obj:=fq "rover" "Next.rover" (Xaf (top 66) 1)
def XRn:Obj:=xk1 "rover" "Next.rover" 1173 345 1 3 742 1177 1178
def XNt:Obj:=fo "rover" "Next.rover" (Xaf (top 66) 1) .none .none .none (.str "stow.stretches" 1027) none (.ref 747) .none none
def XMy:Obj:=fq "chosen" "Next.chosen" (Xaf (top 66) 2)
def XIg:Obj:=cp "chosen" "Next.chosen" 1180 (vI 348::vI 3::vI 0::vI 0::vI 3::vR 749::(.bool true)::vI 181::vR 750::.none::.none::.none::vR 751::vI 1183::vI 348::(.str "/claim/cut.py" 1184)::[])
def XKa:Obj:=fo "chosen" "Next.chosen" (Xaf (top 66) 2) .none .none .none (.str "stow.stretches" 1027) none (.ref 752) .none none
def XSv:Obj:=tu ((.str "self" 1189)::(.str "cells" 1190)::[])
def XSn:Obj:=fq "room_begin" "Next.room_begin" (Xaf (top 66) 3)
def ho758:Obj:=xk1 "room_begin" "Next.room_begin" 1186 352 2 3 754 1191 1192
def ho759:Obj:=fo "room_begin" "Next.room_begin" (Xaf (top 66) 3) .none .none .none (.str "stow.stretches" 1027) none (.ref 759) .none none
def XPh:Obj:=tu ((.str "self" 1197)::(.str "behind" 1198)::[])
def ho764:Obj:=fq "room_granted" "Next.room_granted" (Xaf (top 66) 4)
def XDn:Obj:=xk1 "room_granted" "Next.room_granted" 1194 356 2 3 761 1199 1200
def XKl:Obj:=fo "room_granted" "Next.room_granted" (Xaf (top 66) 4) .none .none .none (.str "stow.stretches" 1027) none (.ref 766) .none none
def XRf:Obj:=tu ((.str "room_cells" 1202)::(.str "room_rover" 1203)::[])
def XJx (P:Params):Obj:=⟨(.type "dict"),none,.dict (en P "__module__" 1160 (.str "stow.stretches" 1027)::en P "__firstlineno__" 1164 (.int 339 1163)::en P "__init__" 1172 (.ref 741)::en P "rover" 1179 (.ref 748)::en P "chosen" 1185 (.ref 753)::en P "room_begin" 1193 (.ref 760)::en P "room_granted" 1201 (.ref 767)::en P "__static_attributes__" 1204 (.ref 768)::en P "__doc__" 1205 .none::[]).toArray 2,#[]⟩
noncomputable def XGz:Obj:=⟨(.type "type"),none,.cls ⟨"Next",[(.ref 691)],[(.ref 770),(.ref 691),(.ref 438),(.type "object")],769,"Next",true,[],[],false,none,false⟩,((some (.ref 728))::none::(some (.str "Next" 1153))::(some (.str "Next" 1161))::(some (.builtin "object.__new__"))::(some (.bool true))::[]).toArray⟩
def ho770:Obj:=xsu0 ((.ref 770)::(.ref 770)::(.ref 770)::[])
def XOq:Obj:=xbi0 ((.builtin "object.__init_subclass__")::(.ref 770)::[])
def ho772 (P:Params):Obj:=⟨(.type "dict"),none,.dict (en P "__name__" 165 (.str "law_stow_k37_kinds" 1250)::en P "__doc__" 166 .none::en P "__package__" 167 .none::en P "__loader__" 168 (.builtin "__main__.__loader__#opaque")::en P "__spec__" 169 .none::en P "__annotations__" 170 (.ref 6)::en P "__builtins__" 171 (.ref 4)::en P "__file__" 173 (.str "/claim/cut.py" 172)::en P "__cached__" 174 .none::en P "_wall" 193 (.ref 21)::en P "StowError" 213 (.ref 31)::en P "NoName" 229 (.ref 44)::en P "NoSize" 245 (.ref 56)::en P "Broken" 270 (.ref 75)::en P "NoGive" 286 (.ref 87)::en P "NoHandle" 302 (.ref 99)::en P "NoPiece" 318 (.ref 111)::en P "NoCell" 334 (.ref 123)::en P "NoAsk" 350 (.ref 135)::en P "NoBound" 366 (.ref 147)::en P "NoRoom" 382 (.ref 159)::en P "BadLine" 407 (.ref 178)::en P "NoLine" 423 (.ref 190)::en P "NoTurn" 439 (.ref 202)::en P "MARKS" 443 (.int 2 442)::en P "check_ask" 451 (.ref 211)::en P "check_plain_ask" 459 (.ref 218)::en P "mark_of" 469 (.ref 225)::en P "long_of" 476 (.ref 232)::en P "live_of" 483 (.ref 239)::en P "LEAST_LIVE" 487 (.int 3 486)::en P "can_begin" 496 (.ref 246)::en P "bad_of_piece" 505 (.ref 253)::en P "looked" 516 (.ref 260)::en P "fresh_room" 524 (.ref 267)::en P "laid" 537 (.ref 274)::en P "laid_free" 546 (.ref 281)::en P "piece_at" 555 (.ref 288)::en P "live_at" 564 (.ref 295)::en P "free_at" 573 (.ref 302)::en P "begin_around" 579 (.ref 307)::en P "cut_out" 594 (.ref 314)::en P "joined_pieces" 605 (.ref 321)::en P "joined" 616 (.ref 328)::en P "Keeper" 763 (.ref 438)::en P "is_power" 772 (.ref 449)::en P "block_for" 779 (.ref 456)::en P "least_free" 785 (.ref 461)::en P "cut_down" 796 (.ref 468)::en P "Halves" 841 (.ref 500)::en P "Row" 891 (.ref 535)::en P "all_whole" 901 (.ref 544)::en P "begin_of" 909 (.ref 551)::en P "whole_ones" 915 (.ref 556)::en P "free_slots" 921 (.ref 561)::en P "cut_for" 934 (.ref 568)::en P "with_slot" 944 (.ref 575)::en P "Shelves" 999 (.ref 614)::en P "first_place" 1014 (.ref 623)::en P "spots_for" 1026 (.ref 630)::en P "least_place" 1035 (.ref 637)::en P "Stretches" 1108 (.ref 691)::en P "First" 1130 (.ref 708)::en P "Best" 1152 (.ref 725)::en P "Next" 1207 (.ref 770)::en P "Likes" 1229 (.ref 787)::en P "stretches_of" 1237 (.ref 796)::en P "keeper_of" 1249 (.ref 804)::en P "_law_cell_at" 1259 (.ref 811)::en P "_law_whole" 1266 (.ref 818)::en P "_law_alike" 1275 (.ref 825)::en P "_law_word_by" 1286 (.ref 832)::en P "_law_made" 1299 (.ref 839)::en P "_law_size_good" 1308 (.ref 846)::en P "_law_classes" 1316 (.ref 853)::en P "_law_asked" 1325 (.ref 860)::en P "_law_fresh" 1331 (.ref 865)::en P "_law_one" 1337 (.ref 870)::en P "law" 1346 (.ref 877)::[]).toArray 79,#[]⟩
def ho773:Obj:=fl (vI 1::vI 0::vR 20::vI 5::vI 0::vR 27::vI 7::vI 0::vR 40::vI 9::vI 0::vR 52::vI 11::vI 0::vR 64::vI 15::vI 0::vR 83::vI 17::vI 0::vR 95::vI 19::vI 0::vR 107::vI 21::vI 0::vR 119::vI 23::vI 0::vR 131::vI 25::vI 0::vR 143::vI 27::vI 0::vR 155::vI 29::vI 0::vR 167::vI 33::vI 0::vR 186::vI 35::vI 0::vR 198::vI 39::vI 0::vR 210::vI 42::vI 0::vR 217::vI 47::vI 0::vR 224::vI 51::vI 0::vR 231::vI 53::vI 0::vR 238::vI 57::vI 0::vR 245::vI 62::vI 0::vR 252::vI 69::vI 0::vR 259::vI 80::vI 0::vR 266::vI 88::vI 0::vR 273::vI 93::vI 0::vR 280::vI 97::vI 0::vR 287::vI 102::vI 0::vR 294::vI 107::vI 0::vR 301::vI 112::vI 0::vR 306::vI 115::vI 0::vR 313::vI 123::vI 0::vR 320::vI 131::vI 0::vR 327::vI 137::vI 0::vR 334::vI 189::vI 0::vR 448::vI 191::vI 0::vR 455::vI 193::vI 0::vR 460::vI 199::vI 0::vR 467::vI 205::vI 0::vR 474::vI 222::vI 0::vR 508::vI 238::vI 0::vR 543::vI 242::vI 0::vR 550::vI 244::vI 0::vR 555::vI 246::vI 0::vR 560::vI 249::vI 0::vR 567::vI 255::vI 0::vR 574::vI 262::vI 0::vR 581::vI 284::vI 0::vR 622::vI 290::vI 0::vR 629::vI 298::vI 0::vR 636::vI 302::vI 0::vR 643::vI 328::vI 0::vR 699::vI 333::vI 0::vR 716::vI 339::vI 0::vR 733::vI 358::vI 0::vR 778::vI 364::vI 0::vR 795::vI 375::vI 0::vR 803::vI 384::vI 0::vR 810::vI 388::vI 0::vR 817::vI 390::vI 0::vR 824::vI 399::vI 0::vR 831::vI 412::vI 0::vR 838::vI 427::vI 0::vR 845::vI 433::vI 0::vR 852::vI 437::vI 0::vR 859::vI 445::vI 0::vR 864::vI 458::vI 0::vR 869::vI 482::vI 0::vR 876::[])
noncomputable def XPg:Obj:=⟨(.type "type"),none,.cls ⟨"Stretches",[(.ref 438)],[(.ref 691),(.ref 438),(.type "object")],690,"Stretches",true,[],[(.ref 708),(.ref 725),(.ref 770),(.ref 787)],false,none,false⟩,((some (.ref 638))::none::(some (.str "Stretches" 1036))::(some (.str "Stretches" 1044))::(some (.builtin "object.__new__"))::(some (.bool true))::[]).toArray⟩
def XQq (P:Params):Obj:=⟨(.type "dict"),none,.dict (en P "__module__" 1215 (.str "stow.stretches" 1027)::en P "__qualname__" 1217 (.str "Likes" 1216)::en P "__firstlineno__" 1219 (.int 358 1218)::en P "chosen" 1225 (.ref 784)::en P "__static_attributes__" 1226 (.ref 785)::[]).toArray 5,#[]⟩
def ho779:Obj:=fl (vI 360::vI 4::vR 783::[])
def ho780:Obj:=xk0 "Likes" "Likes" 1210 358 0 0 776 1213 1214
def ho781:Obj:=xfm0 ((some (.ref 778))::(some (.ref 3))::(some (.ref 775))::none::(some (.str "stow.stretches" 1027))::none::(some (.ref 0))::[])
def ho784:Obj:=fq "chosen" "Likes.chosen" (Xaf (top 67) 0)
def XSd:Obj:=cp "chosen" "Likes.chosen" 1220 (vI 360::vI 3::vI 0::vI 0::vI 3::vR 780::(.bool true)::vI 181::vR 781::.none::.none::.none::vR 782::vI 1223::vI 360::(.str "/claim/cut.py" 1224)::[])
def XOu:Obj:=fo "chosen" "Likes.chosen" (Xaf (top 67) 0) .none .none .none (.str "stow.stretches" 1027) none (.ref 783) .none none
def XQh (P:Params):Obj:=⟨(.type "dict"),none,.dict (en P "__module__" 1215 (.str "stow.stretches" 1027)::en P "__firstlineno__" 1219 (.int 358 1218)::en P "chosen" 1225 (.ref 784)::en P "__static_attributes__" 1226 (.ref 785)::en P "__doc__" 1227 .none::[]).toArray 2,#[]⟩
noncomputable def XOy:Obj:=⟨(.type "type"),none,.cls ⟨"Likes",[(.ref 691)],[(.ref 787),(.ref 691),(.ref 438),(.type "object")],786,"Likes",true,[],[],false,none,false⟩,((some (.ref 773))::none::(some (.str "Likes" 1208))::(some (.str "Likes" 1216))::(some (.builtin "object.__new__"))::(some (.bool true))::[]).toArray⟩
def ho790:Obj:=xsu0 ((.ref 787)::(.ref 787)::(.ref 787)::[])
def ho791:Obj:=xbi0 ((.builtin "object.__init_subclass__")::(.ref 787)::[])
def ho794:Obj:=tu ((.str "word" 1233)::(.str "size" 1234)::[])
def ho796:Obj:=fq "stretches_of" "stretches_of" (top 68)
def XOt:Obj:=xk1 "stretches_of" "stretches_of" 1230 364 2 3 790 1235 1236
def XRc:Obj:=fo "stretches_of" "stretches_of" (top 68) .none .none .none (.str "stow.stretches" 1027) none (.ref 795) .none none
def XTf:Obj:=tu ((.int 8 1240)::[])
def ho802:Obj:=tu ((.str "word" 1244)::(.str "size" 1245)::(.str "shelf" 1246)::[])
def ho804:Obj:=fq "keeper_of" "keeper_of" (top 70)
def XTl:Obj:=xk1 "keeper_of" "keeper_of" 1241 375 3 3 798 1247 1248
def XNe:Obj:=fo "keeper_of" "keeper_of" (top 70) (.ref 797) .none .none (.str "stow.kinds" 1238) none (.ref 803) .none none
def ho809:Obj:=tu ((.str "_law_script" 1255)::(.str "_law_k" 1256)::[])
def ho811:Obj:=fq "_law_cell_at" "_law_cell_at" (top 72)
def XNx:Obj:=xk1 "_law_cell_at" "_law_cell_at" 1252 384 2 3 805 1257 1258
def XQn:Obj:=fo "_law_cell_at" "_law_cell_at" (top 72) .none .none .none (.str "law_stow_k37_kinds" 1250) none (.ref 810) .none none
def ho816:Obj:=tu ((.str "_law_found" 1263)::[])
def ho818:Obj:=fq "_law_whole" "_law_whole" (top 73)
def XTx:Obj:=xk1 "_law_whole" "_law_whole" 1260 388 1 3 812 1264 1265
def XPq:Obj:=fo "_law_whole" "_law_whole" (top 73) .none .none .none (.str "law_stow_k37_kinds" 1250) none (.ref 817) .none none
def ho823:Obj:=tu ((.str "_law_found" 1270)::(.str "_law_due" 1271)::(.str "_law_piece" 1272)::[])
def ho825:Obj:=fq "_law_alike" "_law_alike" (top 74)
def XRz:Obj:=xk1 "_law_alike" "_law_alike" 1267 390 2 3 819 1273 1274
def XSi:Obj:=fo "_law_alike" "_law_alike" (top 74) .none .none .none (.str "law_stow_k37_kinds" 1250) none (.ref 824) .none none
def ho830:Obj:=tu ((.str "_law_word" 1279)::(.str "_law_cell" 1280)::(.str "_law_letters" 1281)::(.str "_law_at" 1282)::(.str "_law_sign" 1283)::[])
def ho832:Obj:=fq "_law_word_by" "_law_word_by" (top 75)
def XTm:Obj:=xk1 "_law_word_by" "_law_word_by" 1276 399 2 3 826 1284 1285
def XSa:Obj:=fo "_law_word_by" "_law_word_by" (top 75) .none .none .none (.str "law_stow_k37_kinds" 1250) none (.ref 831) .none none
def ho837:Obj:=tu ((.str "_law_word" 1290)::(.str "_law_size" 1291)::(.str "_law_shelf" 1292)::(.str "_law_bare" 1293)::(.str "_law_keeper" 1294)::(.str "_law_flags" 1295)::(.str "e" 1296)::[])
def ho839:Obj:=fq "_law_made" "_law_made" (top 76)
def XQv:Obj:=xk1 "_law_made" "_law_made" 1287 412 4 3 833 1297 1298
def ho841:Obj:=fo "_law_made" "_law_made" (top 76) .none .none .none (.str "law_stow_k37_kinds" 1250) none (.ref 838) .none none
def ho844:Obj:=tu ((.str "_law_word" 1303)::(.str "_law_size" 1304)::(.str "_law_shelf" 1305)::[])
def ho846:Obj:=fq "_law_size_good" "_law_size_good" (top 77)
def XPx:Obj:=xk1 "_law_size_good" "_law_size_good" 1300 427 3 3 840 1306 1307
def XNv:Obj:=fo "_law_size_good" "_law_size_good" (top 77) .none .none .none (.str "law_stow_k37_kinds" 1250) none (.ref 845) .none none
def ho851:Obj:=tu ((.str "_law_keeper" 1312)::(.str "_law_flags" 1313)::[])
def ho853:Obj:=fq "_law_classes" "_law_classes" (top 78)
def XPa:Obj:=xk1 "_law_classes" "_law_classes" 1309 433 1 3 847 1314 1315
def ho855:Obj:=fo "_law_classes" "_law_classes" (top 78) .none .none .none (.str "law_stow_k37_kinds" 1250) none (.ref 852) .none none
def ho858:Obj:=tu ((.str "_law_keeper" 1320)::(.str "_law_word" 1321)::(.str "_law_place" 1322)::[])
def ho860:Obj:=fq "_law_asked" "_law_asked" (top 79)
def XTd:Obj:=xk1 "_law_asked" "_law_asked" 1317 437 1 3 854 1323 1324
def XSf:Obj:=fo "_law_asked" "_law_asked" (top 79) .none .none .none (.str "law_stow_k37_kinds" 1250) none (.ref 859) .none none
def ho865:Obj:=fq "_law_fresh" "_law_fresh" (top 80)
def XOi:Obj:=cp "_law_fresh" "_law_fresh" 1326 (vI 445::vI 4::vI 0::vI 0::vI 3::vR 861::(.bool true)::vI 181::vR 862::.none::.none::.none::vR 863::vI 1329::vI 445::(.str "/claim/cut.py" 1330)::[])
def XMz:Obj:=fo "_law_fresh" "_law_fresh" (top 80) .none .none .none (.str "law_stow_k37_kinds" 1250) none (.ref 864) .none none
def ho870:Obj:=fq "_law_one" "_law_one" (top 81)
def XSb:Obj:=cp "_law_one" "_law_one" 1332 (vI 458::vI 3::vI 0::vI 0::vI 3::vR 866::(.bool true)::vI 181::vR 867::.none::.none::.none::vR 868::vI 1335::vI 458::(.str "/claim/cut.py" 1336)::[])
def XQx:Obj:=fo "_law_one" "_law_one" (top 81) .none .none .none (.str "law_stow_k37_kinds" 1250) none (.ref 869) .none none
def ho875:Obj:=tu ((.str "_law_script" 1341)::(.str "_law_k" 1342)::(.str "_law_cells" 1343)::[])
def ho877:Obj:=fq "law" "law" (top 82)
def XMo:Obj:=xk1 "law" "law" 1338 482 1 3 871 1344 1345
def XRx:Obj:=fo "law" "law" (top 82) .none .none .none (.str "law_stow_k37_kinds" 1250) none (.ref 876) .none none
noncomputable def XSx:Params→Heap:=fun P=>⟨Array.mk (PySem.W.boot_o_0 P::PySem.W.boot_o_1 P::PySem.W.boot_o_2 P::PySem.W.boot_o_3 P::PySem.W.boot_o_4 P::PySem.W.boot_o_5 P::PySem.W.boot_o_6 P::PySem.W.boot_o_7 P::PySem.W.boot_o_8 P::PySem.W.boot_o_9 P::PySem.W.boot_o_10 P::ho0::ho1::ho2::ho3::[]),⟨[],[],[],0,[],[],false,#[],[],0,false,false,false,0,[2000,10,10],false,0,true,[],[],0,false⟩⟩
def Xrh:List Stmt:=PySem.W.behindTheImports PySem.Challenge.pw_stow_k37_kinds
def sts0:List Stmt:=(Xrh.drop 0).take 10
def sts1:List Stmt:=(Xrh.drop 10).take 23
def sts2:List Stmt:=(Xrh.drop 33).take 20
def sts3:List Stmt:=(Xrh.drop 53).take 14
def sts4:List Stmt:=(Xrh.drop 67).take 16
def all0:List Stmt:=sts0++(sts1++(sts2++(sts3++(sts4++[]))))
def env0:Env:={ scope:=(PySem.Challenge.pw_stow_k37_kinds).main.scope,locals:=mainNs,globals:=mainNs,cells:=[],code:=(.ref 13),frame:=some 14 }
def Xgb:Code:=.body all0 env0
theorem pre0 (w:World)(os:OsState):PySem.W.topGo treeTable PySem.Challenge.pw_stow_k37_kinds w 11 (some (.ref 6)) 12 ⟨PySem.W.boot_heap w.params,Array.mk [],PySem.W.boot_drawn,PySem.W.boot_toks,os⟩ (PySem.W.topStub PySem.Challenge.pw_stow_k37_kinds)=some (⟨XSx w.params,#[],⟨0,0,0,0⟩,187,os⟩,⟨denote treeTable (.body all0 env0),Xgb,⟨0,0,0,0⟩,[PySem.W.topFrame ⟨0,0,0,0⟩]⟩):=by kernel_rfl
noncomputable def treeB:Params→PySem.W.BT:=fun P=>(bN (PySem.W.boot_o_0 P) (bN (PySem.W.boot_o_1 P) (bN (PySem.W.boot_o_3 P) (bF (PySem.W.boot_o_7 P)) (bF ho0)) (bN (PySem.W.boot_o_5 P) (bF (PySem.W.boot_o_9 P)) (bF ho2))) (bN (PySem.W.boot_o_2 P) (bN (PySem.W.boot_o_4 P) (bF (PySem.W.boot_o_8 P)) (bF ho1)) (bN (PySem.W.boot_o_6 P) (bF (PySem.W.boot_o_10 P)) (bF ho3))))
theorem blk0 (w:World)(os:OsState):PySem.W.segRun treeTable PySem.Challenge.pw_stow_k37_kinds w 11 (some (.ref 6)) 1 1 ⟨XSx w.params,#[],⟨0,0,0,0⟩,187,os⟩ (PySem.W.blockOf all0 env0 Xgb ⟨0,0,0,0⟩ [PySem.W.topFrame ⟨0,0,0,0⟩])=some (.next,(PySem.W.SharedT.mk (treeB w.params) 15 ⟨[],[],[],0,[],[],false,#[],[],0,false,false,false,0,[2000,10,10],false,0,true,[],[],0,false⟩ #[] ⟨0,0,0,0⟩ 187 os).abs,Xgb,⟨0,0,0,0⟩):=by kernel_rfl
noncomputable def Xrt:Params→PySem.W.BT:=fun P=>(bN (PySem.W.boot_o_0 P) (bN (PySem.W.boot_o_1 P) (bN (ho4 P) (bN (PySem.W.boot_o_7 P) (bN ho0 (bN ho22 (bF ho54) (bF ho86)) (bN ho26 (bF ho14) (bF Xpa))) (bN ho14 (bN ho1 (bF ho62) (bF ho14)) (bN (ho46 P) (bF ho78) (bF Xvp)))) (bN ho0 (bN ho10 (bN ho26 (bF ho1) (bF ho90)) (bN ho1 (bF ho74) (bF ho14))) (bN ho18 (bN (ho34 P) (bF ho66) (bF ho98)) (bN ho26 (bF ho14) (bF Xpl))))) (bN (PySem.W.boot_o_5 P) (bN (PySem.W.boot_o_9 P) (bN ho8 (bN ho24 (bF ho56) (bF ho0)) (bN (ho40 P) (bF ho0) (bF Xvy))) (bN ho0 (bN ho32 (bF ho64) (bF ho0)) (bN ho48 (bF ho80) (bF ho0)))) (bN ho2 (bN ho12 (bN (ho28 P) (bF ho0) (bF ho92)) (bN ho44 (bF ho0) (bF ho0))) (bN ho0 (bN ho36 (bF ho68) (bF ho0)) (bN (ho52 P) (bF ho0) (bF Xqg)))))) (bN (PySem.W.boot_o_2 P) (bN (PySem.W.boot_o_4 P) (bN (PySem.W.boot_o_8 P) (bN ho1 (bN ho23 (bF ho55) (bF ho87)) (bN ho14 (bF (ho71 P)) (bF Xsk))) (bN (ho15 P) (bN ho31 (bF ho63) (bF (ho95 P))) (bN ho47 (bF ho79) (bF Xvj)))) (bN ho5 (bN ho11 (bN ho14 (bF ho59) (bF ho91)) (bN ho43 (bF ho75) (bF (Xpi P)))) (bN ho19 (bN ho35 (bF ho67) (bF ho99)) (bN ho14 (bF (ho83 P)) (bF Xqb))))) (bN (PySem.W.boot_o_6 P) (bN (PySem.W.boot_o_10 P) (bN ho0 (bN ho25 (bF ho0) (bF (ho89 P))) (bN ho0 (bF ho1) (bF ho26))) (bN ho1 (bN ho0 (bF (ho65 P)) (bF ho1)) (bN ho49 (bF ho26) (bF (Xpb P))))) (bN ho3 (bN ho13 (bN ho0 (bF ho61) (bF ho26)) (bN ho0 (bF (ho77 P)) (bF ho1))) (bN (ho21 P) (bN ho37 (bF ho26) (bF (Xoj P))) (bN ho0 (bF ho1) .nil))))))
theorem grp0 (w:World)(os:OsState):PySem.W.segRunT treeTable PySem.Challenge.pw_stow_k37_kinds w 11 (some (.ref 6)) 1 1748 (PySem.W.SharedT.mk (treeB w.params) 15 ⟨[],[],[],0,[],[],false,#[],[],0,false,false,false,0,[2000,10,10],false,0,true,[],[],0,false⟩ #[] ⟨0,0,0,0⟩ 187 os) (PySem.W.piecesOf sts0 env0 Xgb ⟨0,0,0,0⟩ [PySem.W.topFrame ⟨0,0,0,0⟩])=some (.next,(PySem.W.SharedT.mk (Xrt w.params) 126 ⟨[],[],[],0,[],[],false,#[],[],0,false,false,false,0,[2000,10,10],false,0,true,[],[],0,false⟩ #[] ⟨0,0,0,0⟩ 335 os),Xgb,⟨21,0,22,8⟩):=by kernel_rfl
noncomputable def Xsx:Params→PySem.W.BT:=fun P=>(bN (PySem.W.boot_o_0 P) (bN (PySem.W.boot_o_1 P) (bN (ho117 P) (bN (PySem.W.boot_o_7 P) (bN ho0 (bN Xrm (bN ho54 (bN ho14 (bF ho1) .nil) (bF XBv)) (bN ho86 (bF Xqw) (bF Xxe))) (bN ho26 (bN ho14 (bN Xxs (bF ho0) .nil) (bF Xxy)) (bN Xpa (bF XAg) (bF Xtk)))) (bN ho14 (bN ho1 (bN ho62 (bN Xte (bF Xzw) .nil) (bF XAm)) (bN ho14 (bF Xwz) (bF Xrx))) (bN (ho46 P) (bN ho78 (bN ho14 (bF Xwv) .nil) (bF ho0)) (bN Xvp (bF (Xtd P)) (bF ho0))))) (bN ho0 (bN ho10 (bN ho26 (bN ho1 (bN Xyw (bF Xvq) .nil) (bF (Xuw P))) (bN ho90 (bF ho14) (bF ho1))) (bN ho1 (bN ho74 (bN Xtf (bF ho0) .nil) (bF Xvc)) (bN ho14 (bF XBm) (bF ho0)))) (bN ho18 (bN (ho34 P) (bN ho66 (bN ho14 (bF Xqm) .nil) (bF XAp)) (bN ho98 (bF XBn) (bF Xyv))) (bN ho26 (bN ho14 (bF Xyi) (bF ho0)) (bN Xpl (bF Xyg) (bF Xxu)))))) (bN (PySem.W.boot_o_5 P) (bN (PySem.W.boot_o_9 P) (bN ho8 (bN ho24 (bN ho56 (bN ho0 (bF ho0) .nil) (bF ho26)) (bN ho0 (bF Xyb) (bF Xuc))) (bN (ho40 P) (bN ho0 (bN ho0 (bF Xtz) .nil) (bF Xyy)) (bN Xvy (bF (Xtt P)) (bF ho1)))) (bN ho0 (bN ho32 (bN ho64 (bN XAd (bF Xyo) .nil) (bF (Xtg P))) (bN ho0 (bF ho0) (bF ho0))) (bN ho48 (bN ho80 (bN ho0 (bF Xra) .nil) (bF Xse)) (bN ho0 (bF ho1) (bF Xwa))))) (bN ho2 (bN ho12 (bN (ho28 P) (bN ho0 (bN ho0 (bF ho0) .nil) (bF ho1)) (bN ho92 (bF ho0) (bF ho0))) (bN ho44 (bN ho0 (bN Xwy (bF Xwj) .nil) (bF ho1)) (bN ho0 (bF ho26) (bF Xpo)))) (bN ho0 (bN ho36 (bN ho68 (bN ho0 (bF ho1) .nil) (bF ho0)) (bN ho0 (bF XAe) (bF Xys))) (bN (ho52 P) (bN ho0 (bF ho0) (bF Xxw)) (bN Xqg (bF (Xsv P)) (bF Xrd))))))) (bN (PySem.W.boot_o_2 P) (bN (PySem.W.boot_o_4 P) (bN (PySem.W.boot_o_8 P) (bN ho1 (bN ho23 (bN ho55 (bN (Xrc P) (bF Xzf) .nil) (bF XAh)) (bN ho87 (bF XBd) (bF Xsi))) (bN ho14 (bN (ho71 P) (bN XBa (bF Xwk) .nil) (bF ho0)) (bN Xsk (bF Xxo) (bF ho0)))) (bN (ho15 P) (bN ho31 (bN ho63 (bN Xzs (bF ho0) .nil) (bF ho0)) (bN (ho95 P) (bF Xwd) (bF Xps))) (bN ho47 (bN ho79 (bN (Xvh P) (bF Xsm) .nil) (bF Xwi)) (bN Xvj (bF ho0) (bF ho1))))) (bN ho118 (bN ho11 (bN ho14 (bN ho59 (bN XBx (bF Xso) .nil) (bF ho0)) (bN ho91 (bF (Xqh P)) (bF Xze))) (bN ho43 (bN ho75 (bN Xzq (bF ho1) .nil) (bF ho0)) (bN (Xpi P) (bF Xxj) (bF Xyl)))) (bN ho19 (bN ho35 (bN ho67 (bN (Xsg P) (bF ho0) .nil) (bF Xzi)) (bN ho99 (bF ho0) (bF ho0))) (bN ho14 (bN (ho83 P) (bF Xwf) (bF ho1)) (bN Xqb (bF ho0) (bF Xro)))))) (bN (PySem.W.boot_o_6 P) (bN (PySem.W.boot_o_10 P) (bN ho0 (bN ho25 (bN ho0 (bN ho1 (bF Xyf) .nil) (bF ho14)) (bN (ho89 P) (bF ho26) (bF ho0))) (bN ho0 (bN ho1 (bN (Xqz P) (bF Xun) .nil) (bF Xuu)) (bN ho26 (bF Xvi) (bF Xzu)))) (bN ho1 (bN ho0 (bN (ho65 P) (bN ho26 (bF Xpt) .nil) (bF Xqk)) (bN ho1 (bF ho1) (bF ho1))) (bN ho49 (bN ho26 (bF ho1) (bF Xrj)) (bN (Xpb P) (bF Xzn) (bF ho0))))) (bN ho3 (bN ho13 (bN ho0 (bN ho61 (bN (Xvd P) (bF ho1) .nil) (bF XAl)) (bN ho26 (bF Xzy) (bF Xyu))) (bN ho0 (bN (ho77 P) (bN ho26 (bF ho0) .nil) (bF XBe)) (bN ho1 (bF ho14) (bF Xud)))) (bN (ho21 P) (bN ho37 (bN ho26 (bN ho1 (bF Xzr) .nil) (bF ho1)) (bN (Xoj P) (bF Xyh) (bF Xsj))) (bN ho0 (bN ho1 (bF (Xus P)) (bF ho0)) (bN ho26 (bF Xsa) (bF ho0))))))))
theorem grp1 (w:World)(os:OsState):PySem.W.segRunT treeTable PySem.Challenge.pw_stow_k37_kinds w 11 (some (.ref 6)) 1 1702 (PySem.W.SharedT.mk (Xrt w.params) 126 ⟨[],[],[],0,[],[],false,#[],[],0,false,false,false,0,[2000,10,10],false,0,true,[],[],0,false⟩ #[] ⟨0,0,0,0⟩ 335 os) (PySem.W.piecesOf sts1 env0 Xgb ⟨21,0,22,8⟩ [PySem.W.topFrame ⟨0,0,0,0⟩])=some (.next,(PySem.W.SharedT.mk (Xsx w.params) 282 ⟨[],[],[],0,[],[],false,#[],[],0,false,false,false,0,[2000,10,10],false,0,true,[],[],0,false⟩ #[] ⟨0,0,0,0⟩ 547 os),Xgb,⟨93,0,96,49⟩):=by kernel_rfl
noncomputable def Xqu:Params→PySem.W.BT:=fun P=>(bN (PySem.W.boot_o_0 P) (bN (PySem.W.boot_o_1 P) (bN (ho276 P) (bN (PySem.W.boot_o_7 P) (bN ho0 (bN Xrm (bN ho54 (bN ho14 (bN ho1 (bF ho0) .nil) (bF XFi)) (bN XBv (bF XKd) (bF XGq))) (bN ho86 (bN Xqw (bN Xzm (bF Xyc) .nil) (bF ho0)) (bN Xxe (bF ho1) (bF ho0)))) (bN ho26 (bN ho14 (bN Xxs (bN ho0 (bF ho1) .nil) (bF XGw)) (bN Xxy (bF XHp) (bF ho1))) (bN Xpa (bN XAg (bF ho0) (bF XHd)) (bN Xtk (bF ho0) (bF XEp))))) (bN ho14 (bN ho1 (bN ho62 (bN Xte (bN Xzw (bF ho1) .nil) (bF XJh)) (bN XAm (bF Xxd) (bF XBf))) (bN ho14 (bN Xwz (bN Xwe (bF Xyt) .nil) (bF ho1)) (bN Xrx (bF XIn) (bF ho0)))) (bN (ho46 P) (bN ho78 (bN ho14 (bN Xwv (bF XBk) .nil) (bF XKo)) (bN ho0 (bF ho0) (bF (XAu P)))) (bN Xvp (bN (Xtd P) (bF ho0) (bF XEk)) (bN ho0 (bF XJl) (bF Xip)))))) (bN ho0 (bN ho10 (bN ho26 (bN ho1 (bN Xyw (bN Xvq (bF XIf) .nil) (bF XKj)) (bN (Xuw P) (bF ho1) (bF ho1))) (bN ho90 (bN ho14 (bN XEz (bF XGs) .nil) (bF XHf)) (bN ho1 (bF XBq) (bF Xza)))) (bN ho1 (bN ho74 (bN Xtf (bN ho0 (bF XIu) .nil) (bF ho0)) (bN Xvc (bF ho0) (bF Xyk))) (bN ho14 (bN XBm (bF Xzb) (bF XEv)) (bN ho0 (bF ho0) (bF (Xxf P)))))) (bN ho18 (bN (ho34 P) (bN ho66 (bN ho14 (bN Xqm (bF XEt) .nil) (bF XDj)) (bN XAp (bF (Xxn P)) (bF XIs))) (bN ho98 (bN XBn (bF ho0) (bF XLp)) (bN Xyv (bF Xzg) (bF ho0)))) (bN ho26 (bN ho14 (bN Xyi (bN ho1 (bF ho1) .nil) (bF ho0)) (bN ho0 (bF XGl) (bF XLe))) (bN Xpl (bN Xyg (bF ho0) (bF ho0)) (bN Xxu (bF ho1) (bF XIy))))))) (bN (PySem.W.boot_o_5 P) (bN (PySem.W.boot_o_9 P) (bN ho8 (bN ho24 (bN ho56 (bN ho0 (bN ho0 (bF XJk) .nil) (bF ho0)) (bN ho26 (bF XAr) (bF Xww))) (bN ho0 (bN Xyb (bN ho0 (bF ho0) .nil) (bF XJq)) (bN Xuc (bF ho0) (bF XAx)))) (bN (ho40 P) (bN ho0 (bN ho0 (bN Xtz (bF ho0) .nil) (bF ho1)) (bN Xyy (bF ho1) (bF ho0))) (bN Xvy (bN (Xtt P) (bF XHw) (bF XDi)) (bN ho1 (bF XGg) (bF XKr))))) (bN ho0 (bN ho32 (bN ho64 (bN XAd (bN Xyo (bF ho0) .nil) (bF ho0)) (bN (Xtg P) (bF ho0) (bF ho0))) (bN ho0 (bN ho0 (bF ho1) (bF ho0)) (bN ho0 (bF XLj) (bF Xym)))) (bN ho48 (bN ho80 (bN ho0 (bN Xra (bF XFy) .nil) (bF ho1)) (bN Xse (bF XJc) (bF XFo))) (bN ho0 (bN ho1 (bF Xzv) (bF XFe)) (bN Xwa (bF XLi) (bF (Xxl P))))))) (bN ho2 (bN ho12 (bN (ho28 P) (bN ho0 (bN ho0 (bN ho0 (bF Xxx) .nil) (bF XKp)) (bN ho1 (bF ho0) (bF ho0))) (bN ho92 (bN ho0 (bN XIi (bF XKf) .nil) (bF Xwx)) (bN ho0 (bF ho0) (bF ho1)))) (bN ho44 (bN ho0 (bN Xwy (bN Xwj (bF ho0) .nil) (bF XJb)) (bN ho1 (bF Xzh) (bF Xip))) (bN ho0 (bN ho26 (bF ho1) (bF (XAy P))) (bN Xpo (bF XFg) (bF XJy))))) (bN ho0 (bN ho36 (bN ho68 (bN ho0 (bN ho1 (bF XJd) .nil) (bF XLc)) (bN ho0 (bF XJz) (bF Xye))) (bN ho0 (bN XAe (bF Xws) (bF ho0)) (bN Xys (bF ho1) (bF XHm)))) (bN (ho52 P) (bN ho0 (bN ho0 (bN ho0 (bF ho0) .nil) (bF XDt)) (bN Xxw (bF XBr) (bF ho1))) (bN Xqg (bN (Xsv P) (bF XHv) (bF XHz)) (bN Xrd (bF ho0) (bF XFv)))))))) (bN (PySem.W.boot_o_2 P) (bN (PySem.W.boot_o_4 P) (bN (PySem.W.boot_o_8 P) (bN ho1 (bN ho23 (bN ho55 (bN (Xrc P) (bN Xzf (bF ho1) .nil) (bF XJu)) (bN XAh (bF XBh) (bF Xxk))) (bN ho87 (bN XBd (bN XAq (bF Xxv) .nil) (bF ho1)) (bN Xsi (bF XLf) (bF XKy)))) (bN ho14 (bN (ho71 P) (bN XBa (bN Xwk (bF XJp) .nil) (bF ho0)) (bN ho0 (bF ho0) (bF XHn))) (bN Xsk (bN Xxo (bF ho1) (bF ho0)) (bN ho0 (bF XHl) (bF XHo))))) (bN (ho15 P) (bN ho31 (bN ho63 (bN Xzs (bN ho0 (bF XJm) .nil) (bF XHq)) (bN ho0 (bF XAv) (bF Xzp))) (bN (ho95 P) (bN Xwd (bF ho0) (bF XIw)) (bN Xps (bF ho0) (bF XFj)))) (bN ho47 (bN ho79 (bN (Xvh P) (bN Xsm (bF XGm) .nil) (bF ho0)) (bN Xwi (bF ho1) (bF ho0))) (bN Xvj (bN ho0 (bF XEy) (bF XDw)) (bN ho1 (bF XJj) (bF ho14)))))) (bN ho277 (bN ho11 (bN ho14 (bN ho59 (bN XBx (bN Xso (bF Xyn) .nil) (bF ho0)) (bN ho0 (bF XIb) (bF XFp))) (bN ho91 (bN (Xqh P) (bN ho0 (bF ho0) .nil) (bF XBg)) (bN Xze (bF Xzl) (bF ho0)))) (bN ho43 (bN ho75 (bN Xzq (bN ho1 (bF XDv) .nil) (bF XKc)) (bN ho0 (bF XFh) (bF Xzk))) (bN (Xpi P) (bN Xxj (bF ho0) (bF XKw)) (bN Xyl (bF ho1) (bF Xxg))))) (bN ho19 (bN ho35 (bN ho67 (bN (Xsg P) (bN ho0 (bF XEj) .nil) (bF ho0)) (bN Xzi (bF ho0) (bF Xzz))) (bN ho99 (bN ho0 (bF XIp) (bF XEb)) (bN ho0 (bF ho0) (bF ho1)))) (bN ho14 (bN (ho83 P) (bN Xwf (bN XHb (bF XJi) .nil) (bF XJg)) (bN ho1 (bF XBu) (bF ho0))) (bN Xqb (bN ho0 (bF ho1) (bF ho1)) (bN Xro (bF XLl) (bF XKs))))))) (bN (PySem.W.boot_o_6 P) (bN (PySem.W.boot_o_10 P) (bN ho0 (bN ho25 (bN ho0 (bN ho1 (bN Xyf (bF ho0) .nil) (bF ho1)) (bN ho14 (bF ho0) (bF ho0))) (bN (ho89 P) (bN ho26 (bN ho1 (bF ho1) .nil) (bF ho0)) (bN ho0 (bF XFx) (bF XBs)))) (bN ho0 (bN ho1 (bN (Xqz P) (bN Xun (bF XHs) .nil) (bF XGa)) (bN Xuu (bF XIm) (bF XDx))) (bN ho26 (bN Xvi (bF XBi) (bF XKb)) (bN Xzu (bF XDf) (bF ho0))))) (bN ho1 (bN ho0 (bN (ho65 P) (bN ho26 (bN Xpt (bF XIo) .nil) (bF ho1)) (bN Xqk (bF ho14) (bF ho1))) (bN ho1 (bN ho1 (bF XEx) (bF XDk)) (bN ho1 (bF Xzx) (bF Xxa)))) (bN ho49 (bN ho26 (bN ho1 (bN ho0 (bF ho0) .nil) (bF XFw)) (bN Xrj (bF ho0) (bF XGn))) (bN (Xpb P) (bN Xzn (bF Xwr) (bF XIv)) (bN ho0 (bF ho0) (bF ho0)))))) (bN ho3 (bN ho13 (bN ho0 (bN ho61 (bN (Xvd P) (bN ho1 (bF ho0) .nil) (bF XDg)) (bN XAl (bF XFq) (bF XLg))) (bN ho26 (bN Xzy (bN Xwb (bF XBw) .nil) (bF ho0)) (bN Xyu (bF ho1) (bF XIl)))) (bN ho0 (bN (ho77 P) (bN ho26 (bN ho0 (bF (Xwm P)) .nil) (bF XEw)) (bN XBe (bF XAi) (bF ho14))) (bN ho1 (bN ho14 (bF XDr) (bF ho434)) (bN Xud (bF ho0) (bF XJe))))) (bN (ho21 P) (bN ho37 (bN ho26 (bN ho1 (bN Xzr (bF ho0) .nil) (bF XFb)) (bN ho1 (bF XKe) (bF ho0))) (bN (Xoj P) (bN Xyh (bF XBp) (bF ho1)) (bN Xsj (bF XIj) (bF ho0)))) (bN ho0 (bN ho1 (bN (Xus P) (bN XLa (bF XJv) .nil) (bF XDu)) (bN ho0 (bF ho0) (bF XKn))) (bN ho26 (bN Xsa (bF ho0) (bF ho0)) (bN ho0 (bF XHt) (bF XBz)))))))))
theorem grp2 (w:World)(os:OsState):PySem.W.segRunT treeTable PySem.Challenge.pw_stow_k37_kinds w 11 (some (.ref 6)) 1 1720 (PySem.W.SharedT.mk (Xsx w.params) 282 ⟨[],[],[],0,[],[],false,#[],[],0,false,false,false,0,[2000,10,10],false,0,true,[],[],0,false⟩ #[] ⟨0,0,0,0⟩ 547 os) (PySem.W.piecesOf sts2 env0 Xgb ⟨93,0,96,49⟩ [PySem.W.topFrame ⟨0,0,0,0⟩])=some (.next,(PySem.W.SharedT.mk (Xqu w.params) 552 ⟨[],[],[],0,[],[],false,#[],[],0,false,false,false,0,[2000,10,10],false,0,true,[],[],0,false⟩ #[] ⟨0,0,0,0⟩ 910 os),Xgb,⟨242,0,243,26⟩):=by kernel_rfl
noncomputable def Xtl:Params→PySem.W.BT:=fun P=>(bN (PySem.W.boot_o_0 P) (bN (PySem.W.boot_o_1 P) (bN (ho548 P) (bN (PySem.W.boot_o_7 P) (bN ho0 (bN Xrm (bN ho54 (bN ho14 (bN ho1 (bF ho0) (bF XKl)) (bN XFi (bF ho14) .nil)) (bN XBv (bN XKd (bF XKt) .nil) (bN XGq (bF XTa) .nil))) (bN ho86 (bN Xqw (bN Xzm (bF Xyc) .nil) (bN ho0 (bF ho0) .nil)) (bN Xxe (bN ho1 (bF XLr) .nil) (bN ho0 (bF ho0) .nil)))) (bN ho26 (bN ho14 (bN Xxs (bN ho0 (bF ho1) .nil) (bN XGw (bF XRs) .nil)) (bN Xxy (bN XHp (bF ho1) .nil) (bN ho1 (bF ho1) .nil))) (bN Xpa (bN XAg (bN ho0 (bF XNq) .nil) (bN XHd (bF XIx) .nil)) (bN Xtk (bN ho0 (bF XJt) .nil) (bN XEp (bF XMy) .nil))))) (bN ho14 (bN ho1 (bN ho62 (bN Xte (bN Xzw (bF ho1) .nil) (bN XJh (bF ho646) .nil)) (bN XAm (bN Xxd (bF ho0) .nil) (bN XBf (bF Xnc) .nil))) (bN ho14 (bN Xwz (bN Xwe (bF Xyt) .nil) (bN ho1 (bF XMd) .nil)) (bN Xrx (bN XIn (bF XSk) .nil) (bN ho0 (bF ho1) .nil)))) (bN (ho46 P) (bN ho78 (bN ho14 (bN Xwv (bF XBk) .nil) (bN XKo (bF ho0) .nil)) (bN ho0 (bN ho0 (bF ho1) .nil) (bN (XAu P) (bF XRk) .nil))) (bN Xvp (bN (Xtd P) (bN ho0 (bF XEf) .nil) (bN XEk (bF ho14) .nil)) (bN ho0 (bN XJl (bF ho0) .nil) (bN Xip (bF ho758) .nil)))))) (bN ho0 (bN ho10 (bN ho26 (bN ho1 (bN Xyw (bN Xvq (bF XIf) (bF ho770)) (bN XKj (bF XRq) .nil)) (bN (Xuw P) (bN ho1 (bF ho0) .nil) (bN ho1 (bF (XGc P)) .nil))) (bN ho90 (bN ho14 (bN XEz (bF XGs) .nil) (bN XHf (bF ho0) .nil)) (bN ho1 (bN XBq (bF ho610) .nil) (bN Xza (bF XQg) .nil)))) (bN ho1 (bN ho74 (bN Xtf (bN ho0 (bF XIu) .nil) (bN ho0 (bF XEu) .nil)) (bN Xvc (bN ho0 (bF XPy) .nil) (bN Xyk (bF ho0) .nil))) (bN ho14 (bN XBm (bN Xzb (bF ho1) .nil) (bN XEv (bF ho690) .nil)) (bN ho0 (bN ho0 (bF ho0) .nil) (bN (Xxf P) (bF ho1) .nil))))) (bN ho18 (bN (ho34 P) (bN ho66 (bN ho14 (bN Xqm (bF XEt) .nil) (bN XDj (bF ho650) .nil)) (bN XAp (bN (Xxn P) (bF XPk) .nil) (bN XIs (bF XMg) .nil))) (bN ho98 (bN XBn (bN ho0 (bF XIe) .nil) (bN XLp (bF ho1) .nil)) (bN Xyv (bN Xzg (bF XSr) .nil) (bN ho0 (bF XRn) .nil)))) (bN ho26 (bN ho14 (bN Xyi (bN ho1 (bF ho1) .nil) (bN ho0 (bF XQs) .nil)) (bN ho0 (bN XGl (bF XJr) .nil) (bN XLe (bF ho0) .nil))) (bN Xpl (bN Xyg (bN ho0 (bF XRv) .nil) (bN ho0 (bF XMb) .nil)) (bN Xxu (bN ho1 (bF XOb) .nil) (bN XIy (bF XPh) .nil))))))) (bN (PySem.W.boot_o_5 P) (bN (PySem.W.boot_o_9 P) (bN ho8 (bN ho24 (bN ho56 (bN ho0 (bN ho0 (bF XJk) (bF (XJx P))) (bN ho0 (bF ho0) .nil)) (bN ho26 (bN XAr (bF ho14) .nil) (bN Xww (bF XKu) .nil))) (bN ho0 (bN Xyb (bN ho0 (bF ho0) .nil) (bN XJq (bF XOx) .nil)) (bN Xuc (bN ho0 (bF XQu) .nil) (bN XAx (bF XSs) .nil)))) (bN (ho40 P) (bN ho0 (bN ho0 (bN Xtz (bF ho0) .nil) (bN ho1 (bF XTy) .nil)) (bN Xyy (bN ho1 (bF ho0) .nil) (bN ho0 (bF XKk) .nil))) (bN Xvy (bN (Xtt P) (bN XHw (bF XLm) .nil) (bN XDi (bF XPo) .nil)) (bN ho1 (bN XGg (bF ho1) .nil) (bN XKr (bF XKa) .nil))))) (bN ho0 (bN ho32 (bN ho64 (bN XAd (bN Xyo (bF ho0) .nil) (bN ho0 (bF XOh) .nil)) (bN (Xtg P) (bN ho0 (bF XSz) .nil) (bN ho0 (bF (XHk P)) .nil))) (bN ho0 (bN ho0 (bN ho1 (bF ho1) .nil) (bN ho0 (bF XTq) .nil)) (bN ho0 (bN XLj (bF ho0) .nil) (bN Xym (bF ho0) .nil)))) (bN ho48 (bN ho80 (bN ho0 (bN Xra (bF XFy) .nil) (bN ho1 (bF ho664) .nil)) (bN Xse (bN XJc (bF ho0) .nil) (bN XFo (bF ho14) .nil))) (bN ho0 (bN ho1 (bN Xzv (bF ho0) .nil) (bN XFe (bF ho0) .nil)) (bN Xwa (bN XLi (bF XPc) .nil) (bN (Xxl P) (bF ho0) .nil)))))) (bN ho2 (bN ho12 (bN (ho28 P) (bN ho0 (bN ho0 (bN ho0 (bF Xxx) .nil) (bN XKp (bF ho0) .nil)) (bN ho1 (bN ho0 (bF XQr) .nil) (bN ho0 (bF XQy) .nil))) (bN ho92 (bN ho0 (bN XIi (bF XKf) .nil) (bN Xwx (bF XQd) .nil)) (bN ho0 (bN ho0 (bF (XGf P)) .nil) (bN ho1 (bF XGb) .nil)))) (bN ho44 (bN ho0 (bN Xwy (bN Xwj (bF ho0) .nil) (bN XJb (bF ho1) .nil)) (bN ho1 (bN Xzh (bF XFs) .nil) (bN Xip (bF XEq) .nil))) (bN ho0 (bN ho26 (bN ho1 (bF ho0) .nil) (bN (XAy P) (bF ho692) .nil)) (bN Xpo (bN XFg (bF XHy) .nil) (bN XJy (bF ho0) .nil))))) (bN ho0 (bN ho36 (bN ho68 (bN ho0 (bN ho1 (bF XJd) .nil) (bN XLc (bF ho0) .nil)) (bN ho0 (bN XJz (bF XDl) .nil) (bN Xye (bF XSt) .nil))) (bN ho0 (bN XAe (bN Xws (bF ho0) .nil) (bN ho0 (bF ho0) .nil)) (bN Xys (bN ho1 (bF XRp) .nil) (bN XHm (bF ho0) .nil)))) (bN (ho52 P) (bN ho0 (bN ho0 (bN ho0 (bF ho0) .nil) (bN XDt (bF ho1) .nil)) (bN Xxw (bN XBr (bF ho0) .nil) (bN ho1 (bF XQj) .nil))) (bN Xqg (bN (Xsv P) (bN XHv (bF XTn) .nil) (bN XHz (bF ho0) .nil)) (bN Xrd (bN ho0 (bF XLb) .nil) (bN XFv (bF ho764) .nil)))))))) (bN (PySem.W.boot_o_2 P) (bN (PySem.W.boot_o_4 P) (bN (PySem.W.boot_o_8 P) (bN ho1 (bN ho23 (bN ho55 (bN (Xrc P) (bN Xzf (bF ho1) (bF XRf)) (bN XJu (bF (XLh P)) .nil)) (bN XAh (bN XBh (bF Xip) .nil) (bN Xxk (bF XEm) .nil))) (bN ho87 (bN XBd (bN XAq (bF Xxv) .nil) (bN ho1 (bF ho671) .nil)) (bN Xsi (bN XLf (bF ho0) .nil) (bN XKy (bF ho1) .nil)))) (bN ho14 (bN (ho71 P) (bN XBa (bN Xwk (bF XJp) .nil) (bN ho0 (bF ho0) .nil)) (bN ho0 (bN ho0 (bF XMf) .nil) (bN XHn (bF XMn) .nil))) (bN Xsk (bN Xxo (bN ho1 (bF XJw) .nil) (bN ho0 (bF XLd) .nil)) (bN ho0 (bN XHl (bF ho0) .nil) (bN XHo (bF XIg) .nil))))) (bN (ho15 P) (bN ho31 (bN ho63 (bN Xzs (bN ho0 (bF XJm) .nil) (bN XHq (bF ho0) .nil)) (bN ho0 (bN XAv (bF ho1) .nil) (bN Xzp (bF ho14) .nil))) (bN (ho95 P) (bN Xwd (bN ho0 (bF ho0) .nil) (bN XIw (bF XSh) .nil)) (bN Xps (bN ho0 (bF ho615) .nil) (bN XFj (bF ho743) .nil)))) (bN ho47 (bN ho79 (bN (Xvh P) (bN Xsm (bF XGm) .nil) (bN ho0 (bF XQe) .nil)) (bN Xwi (bN ho1 (bF XNy) .nil) (bN ho0 (bF Xnc) .nil))) (bN Xvj (bN ho0 (bN XEy (bF XHj) .nil) (bN XDw (bF (XGd P)) .nil)) (bN ho1 (bN XJj (bF ho1) .nil) (bN ho14 (bF ho759) .nil)))))) (bN ho549 (bN ho11 (bN ho14 (bN ho59 (bN XBx (bN Xso (bF Xyn) (bF XOq)) (bN ho0 (bF ho643) .nil)) (bN ho0 (bN XIb (bF XRm) .nil) (bN XFp (bF XGo) .nil))) (bN ho91 (bN (Xqh P) (bN ho0 (bF ho0) .nil) (bN XBg (bF ho1) .nil)) (bN Xze (bN Xzl (bF XSg) .nil) (bN ho0 (bF XDo) .nil)))) (bN ho43 (bN ho75 (bN Xzq (bN ho1 (bF XDv) .nil) (bN XKc (bF ho0) .nil)) (bN ho0 (bN XFh (bF XQk) .nil) (bN Xzk (bF (XGp P)) .nil))) (bN (Xpi P) (bN Xxj (bN ho0 (bF ho563) .nil) (bN XKw (bF XSj) .nil)) (bN Xyl (bN ho1 (bF XSu) .nil) (bN Xxg (bF XSv) .nil))))) (bN ho19 (bN ho35 (bN ho67 (bN (Xsg P) (bN ho0 (bF XEj) .nil) (bN ho0 (bF XFm) .nil)) (bN Xzi (bN ho0 (bF XId) .nil) (bN Xzz (bF XNl) .nil))) (bN ho99 (bN ho0 (bN XIp (bF XIh) .nil) (bN XEb (bF XUb) .nil)) (bN ho0 (bN ho0 (bF ho0) .nil) (bN ho1 (bF XNt) .nil)))) (bN ho14 (bN (ho83 P) (bN Xwf (bN XHb (bF XJi) .nil) (bN XJg (bF ho0) .nil)) (bN ho1 (bN XBu (bF XHr) .nil) (bN ho0 (bF XQc) .nil))) (bN Xqb (bN ho0 (bN ho1 (bF ho0) .nil) (bN ho1 (bF XTp) .nil)) (bN Xro (bN XLl (bF XKq) .nil) (bN XKs (bF ho0) .nil))))))) (bN (PySem.W.boot_o_6 P) (bN (PySem.W.boot_o_10 P) (bN ho0 (bN ho25 (bN ho0 (bN ho1 (bN Xyf (bF ho0) (bF XGz)) (bN ho1 (bF XQb) .nil)) (bN ho14 (bN ho0 (bF (XFd P)) .nil) (bN ho0 (bF ho0) .nil))) (bN (ho89 P) (bN ho26 (bN ho1 (bF ho1) .nil) (bN ho0 (bF XRr) .nil)) (bN ho0 (bN XFx (bF XPf) .nil) (bN XBs (bF ho0) .nil)))) (bN ho0 (bN ho1 (bN (Xqz P) (bN Xun (bF XHs) .nil) (bN XGa (bF XHh) .nil)) (bN Xuu (bN XIm (bF XLx) .nil) (bN XDx (bF XGk) .nil))) (bN ho26 (bN Xvi (bN XBi (bF ho0) .nil) (bN XKb (bF (XKz P)) .nil)) (bN Xzu (bN XDf (bF XPi) .nil) (bN ho0 (bF ho0) .nil))))) (bN ho1 (bN ho0 (bN (ho65 P) (bN ho26 (bN Xpt (bF XIo) .nil) (bN ho1 (bF XMl) .nil)) (bN Xqk (bN ho14 (bF ho0) .nil) (bN ho1 (bF ho0) .nil))) (bN ho1 (bN ho1 (bN XEx (bF XMp) .nil) (bN XDk (bF ho0) .nil)) (bN ho1 (bN Xzx (bF ho1) .nil) (bN Xxa (bF XNf) .nil)))) (bN ho49 (bN ho26 (bN ho1 (bN ho0 (bF ho0) .nil) (bN XFw (bF XSq) .nil)) (bN Xrj (bN ho0 (bF XRo) .nil) (bN XGn (bF (XGi P)) .nil))) (bN (Xpb P) (bN Xzn (bN Xwr (bF ho1) .nil) (bN XIv (bF XLy) .nil)) (bN ho0 (bN ho0 (bF ho0) .nil) (bN ho0 (bF ho1) .nil)))))) (bN ho3 (bN ho13 (bN ho0 (bN ho61 (bN (Xvd P) (bN ho1 (bF ho0) .nil) (bN XDg (bF ho1) .nil)) (bN XAl (bN XFq (bF XOg) .nil) (bN XLg (bF XSp) .nil))) (bN ho26 (bN Xzy (bN Xwb (bF XBw) .nil) (bN ho0 (bF ho0) .nil)) (bN Xyu (bN ho1 (bF XIk) .nil) (bN XIl (bF ho0) .nil)))) (bN ho0 (bN (ho77 P) (bN ho26 (bN ho0 (bF (Xwm P)) .nil) (bN XEw (bF ho661) .nil)) (bN XBe (bN XAi (bF ho0) .nil) (bN ho14 (bF XTt) .nil))) (bN ho1 (bN ho14 (bN XDr (bF XQi) .nil) (bN XKi (bF Xnc) .nil)) (bN Xud (bN ho0 (bF XIz) .nil) (bN XJe (bF XSn) .nil))))) (bN (ho21 P) (bN ho37 (bN ho26 (bN ho1 (bN Xzr (bF ho0) .nil) (bN XFb (bF ho1) .nil)) (bN ho1 (bN XKe (bF ho0) .nil) (bN ho0 (bF ho0) .nil))) (bN (Xoj P) (bN Xyh (bN XBp (bF ho1) .nil) (bN ho1 (bF ho685) .nil)) (bN Xsj (bN XIj (bF XKx) .nil) (bN ho0 (bF ho1) .nil)))) (bN ho0 (bN ho1 (bN (Xus P) (bN XLa (bF XJv) .nil) (bN XDu (bF XOa) .nil)) (bN ho0 (bN ho0 (bF ho1) .nil) (bN XKn (bF XOe) .nil))) (bN ho26 (bN Xsa (bN ho0 (bF XFf) .nil) (bN ho0 (bF ho1) .nil)) (bN ho0 (bN XHt (bF Xip) .nil) (bN XBz (bF XDn) .nil)))))))))
theorem grp3 (w:World)(os:OsState):PySem.W.segRunT treeTable PySem.Challenge.pw_stow_k37_kinds w 11 (some (.ref 6)) 1 1890 (PySem.W.SharedT.mk (Xqu w.params) 552 ⟨[],[],[],0,[],[],false,#[],[],0,false,false,false,0,[2000,10,10],false,0,true,[],[],0,false⟩ #[] ⟨0,0,0,0⟩ 910 os) (PySem.W.piecesOf sts3 env0 Xgb ⟨242,0,243,26⟩ [PySem.W.topFrame ⟨0,0,0,0⟩])=some (.next,(PySem.W.SharedT.mk (Xtl w.params) 773 ⟨[],[],[],0,[],[],false,#[],[],0,false,false,false,0,[2000,10,10],false,0,true,[],[],0,false⟩ #[] ⟨0,0,0,0⟩ 1208 os),Xgb,⟨339,0,357,32⟩):=by kernel_rfl
noncomputable def Xhv:Params→PySem.W.BT:=fun P=>(bN (PySem.W.boot_o_0 P) (bN (PySem.W.boot_o_1 P) (bN (ho772 P) (bN (PySem.W.boot_o_7 P) (bN ho0 (bN Xrm (bN ho54 (bN ho14 (bN ho1 (bF ho0) (bF XKl)) (bN XFi (bF ho14) .nil)) (bN XBv (bN XKd (bF XKt) (bF XTm)) (bN XGq (bF XTa) .nil))) (bN ho86 (bN Xqw (bN Xzm (bF Xyc) (bF ho1)) (bN ho0 (bF ho0) .nil)) (bN Xxe (bN ho1 (bF XLr) (bF ho865)) (bN ho0 (bF ho0) .nil)))) (bN ho26 (bN ho14 (bN Xxs (bN ho0 (bF ho1) (bF XSd)) (bN XGw (bF XRs) .nil)) (bN Xxy (bN XHp (bF ho1) (bF ho0)) (bN ho1 (bF ho1) .nil))) (bN Xpa (bN XAg (bN ho0 (bF XNq) (bF ho0)) (bN XHd (bF XIx) .nil)) (bN Xtk (bN ho0 (bF XJt) .nil) (bN XEp (bF XMy) .nil))))) (bN ho14 (bN ho1 (bN ho62 (bN Xte (bN Xzw (bF ho1) (bF (XQq P))) (bN XJh (bF ho646) .nil)) (bN XAm (bN Xxd (bF ho0) (bF ho841)) (bN XBf (bF Xnc) .nil))) (bN ho14 (bN Xwz (bN Xwe (bF Xyt) (bF ho809)) (bN ho1 (bF XMd) .nil)) (bN Xrx (bN XIn (bF XSk) (bF ho0)) (bN ho0 (bF ho1) .nil)))) (bN (ho46 P) (bN ho78 (bN ho14 (bN Xwv (bF XBk) (bF ho1)) (bN XKo (bF ho0) .nil)) (bN ho0 (bN ho0 (bF ho1) (bF ho1)) (bN (XAu P) (bF XRk) .nil))) (bN Xvp (bN (Xtd P) (bN ho0 (bF XEf) (bF ho825)) (bN XEk (bF ho14) .nil)) (bN ho0 (bN XJl (bF ho0) .nil) (bN Xip (bF ho758) .nil)))))) (bN ho0 (bN ho10 (bN ho26 (bN ho1 (bN Xyw (bN Xvq (bF XIf) (bF ho770)) (bN XKj (bF XRq) .nil)) (bN (Xuw P) (bN ho1 (bF ho0) (bF ho837)) (bN ho1 (bF (XGc P)) .nil))) (bN ho90 (bN ho14 (bN XEz (bF XGs) (bF XTl)) (bN XHf (bF ho0) .nil)) (bN ho1 (bN XBq (bF ho610) (bF ho1)) (bN Xza (bF XQg) .nil)))) (bN ho1 (bN ho74 (bN Xtf (bN ho0 (bF XIu) (bF XOy)) (bN ho0 (bF XEu) .nil)) (bN Xvc (bN ho0 (bF XPy) (bF ho853)) (bN Xyk (bF ho0) .nil))) (bN ho14 (bN XBm (bN Xzb (bF ho1) (bF ho0)) (bN XEv (bF XPg) .nil)) (bN ho0 (bN ho0 (bF ho0) .nil) (bN (Xxf P) (bF ho1) .nil))))) (bN ho18 (bN (ho34 P) (bN ho66 (bN ho14 (bN Xqm (bF XEt) (bF ho781)) (bN XDj (bF ho650) .nil)) (bN XAp (bN (Xxn P) (bF XPk) (bF ho0)) (bN XIs (bF XMg) .nil))) (bN ho98 (bN XBn (bN ho0 (bF XIe) (bF XQn)) (bN XLp (bF ho1) .nil)) (bN Xyv (bN Xzg (bF XSr) (bF ho877)) (bN ho0 (bF XRn) .nil)))) (bN ho26 (bN ho14 (bN Xyi (bN ho1 (bF ho1) (bF XOt)) (bN ho0 (bF XQs) .nil)) (bN ho0 (bN XGl (bF XJr) (bF XTd)) (bN XLe (bF ho0) .nil))) (bN Xpl (bN Xyg (bN ho0 (bF XRv) (bF ho1)) (bN ho0 (bF XMb) .nil)) (bN Xxu (bN ho1 (bF XOb) .nil) (bN XIy (bF XPh) .nil))))))) (bN (PySem.W.boot_o_5 P) (bN (PySem.W.boot_o_9 P) (bN ho8 (bN ho24 (bN ho56 (bN ho0 (bN ho0 (bF XJk) (bF (XJx P))) (bN ho0 (bF ho0) .nil)) (bN ho26 (bN XAr (bF ho14) (bF ho0)) (bN Xww (bF XKu) .nil))) (bN ho0 (bN Xyb (bN ho0 (bF ho0) (bF ho0)) (bN XJq (bF XOx) .nil)) (bN Xuc (bN ho0 (bF XQu) (bF XMz)) (bN XAx (bF XSs) .nil)))) (bN (ho40 P) (bN ho0 (bN ho0 (bN Xtz (bF ho0) (bF ho0)) (bN ho1 (bF XTy) .nil)) (bN Xyy (bN ho1 (bF ho0) (bF ho851)) (bN ho0 (bF XKk) .nil))) (bN Xvy (bN (Xtt P) (bN XHw (bF XLm) (bF XTx)) (bN XDi (bF XPo) .nil)) (bN ho1 (bN XGg (bF ho1) .nil) (bN XKr (bF XKa) .nil))))) (bN ho0 (bN ho32 (bN ho64 (bN XAd (bN Xyo (bF ho0) (bF ho779)) (bN ho0 (bF XOh) .nil)) (bN (Xtg P) (bN ho0 (bF XSz) (bF ho1)) (bN ho0 (bF (XHk P)) .nil))) (bN ho0 (bN ho0 (bN ho1 (bF ho1) (bF ho811)) (bN ho0 (bF XTq) .nil)) (bN ho0 (bN XLj (bF ho0) (bF ho875)) (bN Xym (bF ho0) .nil)))) (bN ho48 (bN ho80 (bN ho0 (bN Xra (bF XFy) (bF ho0)) (bN ho1 (bF ho664) .nil)) (bN Xse (bN XJc (bF ho0) (bF ho0)) (bN XFo (bF ho14) .nil))) (bN ho0 (bN ho1 (bN Xzv (bF ho0) (bF XSi)) (bN XFe (bF ho0) .nil)) (bN Xwa (bN XLi (bF XPc) .nil) (bN (Xxl P) (bF ho0) .nil)))))) (bN ho2 (bN ho12 (bN (ho28 P) (bN ho0 (bN ho0 (bN ho0 (bF Xxx) (bF Xnc)) (bN XKp (bF ho0) .nil)) (bN ho1 (bN ho0 (bF XQr) (bF ho839)) (bN ho0 (bF XQy) .nil))) (bN ho92 (bN ho0 (bN XIi (bF XKf) (bF ho0)) (bN Xwx (bF XQd) .nil)) (bN ho0 (bN ho0 (bF (XGf P)) (bF XSb)) (bN ho1 (bF XGb) .nil)))) (bN ho44 (bN ho0 (bN Xwy (bN Xwj (bF ho0) (bF ho791)) (bN XJb (bF ho1) .nil)) (bN ho1 (bN Xzh (bF XFs) (bF ho855)) (bN Xip (bF XEq) .nil))) (bN ho0 (bN ho26 (bN ho1 (bF ho0) (bF ho823)) (bN (XAy P) (bF ho692) .nil)) (bN Xpo (bN XFg (bF XHy) .nil) (bN XJy (bF ho0) .nil))))) (bN ho0 (bN ho36 (bN ho68 (bN ho0 (bN ho1 (bF XJd) (bF ho1)) (bN XLc (bF ho0) .nil)) (bN ho0 (bN XJz (bF XDl) (bF XPx)) (bN Xye (bF XSt) .nil))) (bN ho0 (bN XAe (bN Xws (bF ho0) (bF ho1)) (bN ho0 (bF ho0) .nil)) (bN Xys (bN ho1 (bF XRp) (bF XRx)) (bN XHm (bF ho0) .nil)))) (bN (ho52 P) (bN ho0 (bN ho0 (bN ho0 (bF ho0) (bF XTf)) (bN XDt (bF ho1) .nil)) (bN Xxw (bN XBr (bF ho0) (bF ho0)) (bN ho1 (bF XQj) .nil))) (bN Xqg (bN (Xsv P) (bN XHv (bF XTn) (bF ho0)) (bN XHz (bF ho0) .nil)) (bN Xrd (bN ho0 (bF XLb) .nil) (bN XFv (bF ho764) .nil)))))))) (bN (PySem.W.boot_o_2 P) (bN (PySem.W.boot_o_4 P) (bN (PySem.W.boot_o_8 P) (bN ho1 (bN ho23 (bN ho55 (bN (Xrc P) (bN Xzf (bF ho1) (bF XRf)) (bN XJu (bF (XLh P)) .nil)) (bN XAh (bN XBh (bF Xip) (bF XSa)) (bN Xxk (bF XEm) .nil))) (bN ho87 (bN XBd (bN XAq (bF Xxv) (bF ho802)) (bN ho1 (bF ho671) .nil)) (bN Xsi (bN XLf (bF ho0) (bF XOi)) (bN XKy (bF ho1) .nil)))) (bN ho14 (bN (ho71 P) (bN XBa (bN Xwk (bF XJp) (bF XOu)) (bN ho0 (bF ho0) .nil)) (bN ho0 (bN ho0 (bF XMf) (bF ho1)) (bN XHn (bF XMn) .nil))) (bN Xsk (bN Xxo (bN ho1 (bF XJw) (bF ho818)) (bN ho0 (bF XLd) .nil)) (bN ho0 (bN XHl (bF ho0) .nil) (bN XHo (bF XIg) .nil))))) (bN (ho15 P) (bN ho31 (bN ho63 (bN Xzs (bN ho0 (bF XJm) (bF ho0)) (bN XHq (bF ho0) .nil)) (bN ho0 (bN XAv (bF ho1) (bF ho0)) (bN Xzp (bF ho14) .nil))) (bN (ho95 P) (bN Xwd (bN ho0 (bF ho0) (bF ho0)) (bN XIw (bF XSh) .nil)) (bN Xps (bN ho0 (bF ho615) (bF ho1)) (bN XFj (bF ho743) .nil)))) (bN ho47 (bN ho79 (bN (Xvh P) (bN Xsm (bF XGm) (bF ho794)) (bN ho0 (bF XQe) .nil)) (bN Xwi (bN ho1 (bF XNy) (bF ho858)) (bN ho0 (bF Xnc) .nil))) (bN Xvj (bN ho0 (bN XEy (bF XHj) (bF XRz)) (bN XDw (bF (XGd P)) .nil)) (bN ho1 (bN XJj (bF ho1) .nil) (bN ho14 (bF ho759) .nil)))))) (bN ho773 (bN ho11 (bN ho14 (bN ho59 (bN XBx (bN Xso (bF Xyn) (bF XOq)) (bN ho0 (bF ho643) .nil)) (bN ho0 (bN XIb (bF XRm) (bF ho0)) (bN XFp (bF XGo) .nil))) (bN ho91 (bN (Xqh P) (bN ho0 (bF ho0) (bF XNe)) (bN XBg (bF ho1) .nil)) (bN Xze (bN Xzl (bF XSg) (bF ho870)) (bN ho0 (bF XDo) .nil)))) (bN ho43 (bN ho75 (bN Xzq (bN ho1 (bF XDv) (bF ho790)) (bN XKc (bF ho0) .nil)) (bN ho0 (bN XFh (bF XQk) (bF XPa)) (bN Xzk (bF (XGp P)) .nil))) (bN (Xpi P) (bN Xxj (bN ho0 (bF ho563) (bF ho1)) (bN XKw (bF XSj) .nil)) (bN Xyl (bN ho1 (bF XSu) .nil) (bN Xxg (bF XSv) .nil))))) (bN ho19 (bN ho35 (bN ho67 (bN (Xsg P) (bN ho0 (bF XEj) (bF ho0)) (bN ho0 (bF XFm) .nil)) (bN Xzi (bN ho0 (bF XId) (bF ho846)) (bN Xzz (bF XNl) .nil))) (bN ho99 (bN ho0 (bN XIp (bF XIh) (bF ho0)) (bN XEb (bF XUb) .nil)) (bN ho0 (bN ho0 (bF ho0) (bF XMo)) (bN ho1 (bF XNt) .nil)))) (bN ho14 (bN (ho83 P) (bN Xwf (bN XHb (bF XJi) (bF XRc)) (bN XJg (bF ho0) .nil)) (bN ho1 (bN XBu (bF XHr) (bF XSf)) (bN ho0 (bF XQc) .nil))) (bN Xqb (bN ho0 (bN ho1 (bF ho0) (bF ho830)) (bN ho1 (bF XTp) .nil)) (bN Xro (bN XLl (bF XKq) .nil) (bN XKs (bF ho0) .nil))))))) (bN (PySem.W.boot_o_6 P) (bN (PySem.W.boot_o_10 P) (bN ho0 (bN ho25 (bN ho0 (bN ho1 (bN Xyf (bF ho0) (bF XGz)) (bN ho1 (bF XQb) .nil)) (bN ho14 (bN ho0 (bF (XFd P)) (bF ho1)) (bN ho0 (bF ho0) .nil))) (bN (ho89 P) (bN ho26 (bN ho1 (bF ho1) (bF ho804)) (bN ho0 (bF XRr) .nil)) (bN ho0 (bN XFx (bF XPf) (bF ho0)) (bN XBs (bF ho0) .nil)))) (bN ho0 (bN ho1 (bN (Xqz P) (bN Xun (bF XHs) (bF (XQh P))) (bN XGa (bF XHh) .nil)) (bN Xuu (bN XIm (bF XLx) (bF ho0)) (bN XDx (bF XGk) .nil))) (bN ho26 (bN Xvi (bN XBi (bF ho0) (bF XPq)) (bN XKb (bF (XKz P)) .nil)) (bN Xzu (bN XDf (bF XPi) .nil) (bN ho0 (bF ho0) .nil))))) (bN ho1 (bN ho0 (bN (ho65 P) (bN ho26 (bN Xpt (bF XIo) (bF ho780)) (bN ho1 (bF XMl) .nil)) (bN Xqk (bN ho14 (bF ho0) (bF ho844)) (bN ho1 (bF ho0) .nil))) (bN ho1 (bN ho1 (bN XEx (bF XMp) (bF XNx)) (bN XDk (bF ho0) .nil)) (bN ho1 (bN Xzx (bF ho1) (bF ho0)) (bN Xxa (bF XNf) .nil)))) (bN ho49 (bN ho26 (bN ho1 (bN ho0 (bF ho0) (bF ho796)) (bN XFw (bF XSq) .nil)) (bN Xrj (bN ho0 (bF XRo) (bF ho860)) (bN XGn (bF (XGi P)) .nil))) (bN (Xpb P) (bN Xzn (bN Xwr (bF ho1) (bF ho0)) (bN XIv (bF XLy) .nil)) (bN ho0 (bN ho0 (bF ho0) .nil) (bN ho0 (bF ho1) .nil)))))) (bN ho3 (bN ho13 (bN ho0 (bN ho61 (bN (Xvd P) (bN ho1 (bF ho0) (bF ho14)) (bN XDg (bF ho1) .nil)) (bN XAl (bN XFq (bF XOg) (bF XQv)) (bN XLg (bF XSp) .nil))) (bN ho26 (bN Xzy (bN Xwb (bF XBw) (bF ho1)) (bN ho0 (bF ho0) .nil)) (bN Xyu (bN ho1 (bF XIk) (bF XQx)) (bN XIl (bF ho0) .nil)))) (bN ho0 (bN (ho77 P) (bN ho26 (bN ho0 (bF (Xwm P)) (bF ho0)) (bN XEw (bF ho661) .nil)) (bN XBe (bN XAi (bF ho0) (bF ho0)) (bN ho14 (bF XTt) .nil))) (bN ho1 (bN ho14 (bN XDr (bF XQi) (bF ho0)) (bN XKi (bF Xnc) .nil)) (bN Xud (bN ho0 (bF XIz) .nil) (bN XJe (bF XSn) .nil))))) (bN (ho21 P) (bN ho37 (bN ho26 (bN ho1 (bN Xzr (bF ho0) (bF ho784)) (bN XFb (bF ho1) .nil)) (bN ho1 (bN XKe (bF ho0) (bF XNv)) (bN ho0 (bF ho0) .nil))) (bN (Xoj P) (bN Xyh (bN XBp (bF ho1) (bF ho816)) (bN ho1 (bF ho685) .nil)) (bN Xsj (bN XIj (bF XKx) .nil) (bN ho0 (bF ho1) .nil)))) (bN ho0 (bN ho1 (bN (Xus P) (bN XLa (bF XJv) (bF ho0)) (bN XDu (bF XOa) .nil)) (bN ho0 (bN ho0 (bF ho1) (bF ho1)) (bN XKn (bF XOe) .nil))) (bN ho26 (bN Xsa (bN ho0 (bF XFf) (bF ho832)) (bN ho0 (bF ho1) .nil)) (bN ho0 (bN XHt (bF Xip) .nil) (bN XBz (bF XDn) .nil)))))))))
theorem grp4 (w:World)(os:OsState):PySem.W.segRunT treeTable PySem.Challenge.pw_stow_k37_kinds w 11 (some (.ref 6)) 1 669 (PySem.W.SharedT.mk (Xtl w.params) 773 ⟨[],[],[],0,[],[],false,#[],[],0,false,false,false,0,[2000,10,10],false,0,true,[],[],0,false⟩ #[] ⟨0,0,0,0⟩ 1208 os) (PySem.W.piecesOf sts4 env0 Xgb ⟨339,0,357,32⟩ [PySem.W.topFrame ⟨0,0,0,0⟩])=some (.next,(PySem.W.SharedT.mk (Xhv w.params) 878 ⟨[],[],[],0,[],[],false,#[],[],0,false,false,false,0,[2000,10,10],false,0,true,[],[],0,false⟩ #[] ⟨0,0,0,0⟩ 1347 os),Xgb,⟨482,0,487,15⟩):=by kernel_rfl
theorem fin0 (w:World)(os:OsState):PySem.W.topRun treeTable PySem.Challenge.pw_stow_k37_kinds w 11 (some (.ref 6)) 2 ⟨PySem.W.absHeap (Xhv w.params) 878 ⟨[],[],[],0,[],[],false,#[],[],0,false,false,false,0,[2000,10,10],false,0,true,[],[],0,false⟩,#[],⟨0,0,0,0⟩,1347,os⟩ (PySem.W.restOf [] env0 Xgb ⟨482,0,487,15⟩ [PySem.W.topFrame ⟨0,0,0,0⟩])=some ⟨PySem.W.absHeap (Xhv w.params) 878 ⟨[],[],[],0,[],[],false,#[],[],0,false,false,false,0,[2000,10,10],false,0,true,[],[],0,false⟩,#[],⟨0,0,0,0⟩,1347,os⟩:=by kernel_rfl
theorem run0 (w:World)(os:OsState):PySem.W.topRun treeTable PySem.Challenge.pw_stow_k37_kinds w 11 (some (.ref 6)) (12+(1+(1748+(1702+(1720+(1890+(669+2))))))) ⟨PySem.W.boot_heap w.params,Array.mk [],PySem.W.boot_drawn,PySem.W.boot_toks,os⟩ (PySem.W.topStub PySem.Challenge.pw_stow_k37_kinds)=some ⟨PySem.W.absHeap (Xhv w.params) 878 ⟨[],[],[],0,[],[],false,#[],[],0,false,false,false,0,[2000,10,10],false,0,true,[],[],0,false⟩,#[],⟨0,0,0,0⟩,1347,os⟩:=PySem.W.go_top (pre0 w os) (PySem.W.piece_block (blk0 w os) (PySem.W.piece_app (PySem.W.segRun_of (grp0 w os)) (PySem.W.piece_app (PySem.W.segRun_of (grp1 w os)) (PySem.W.piece_app (PySem.W.segRun_of (grp2 w os)) (PySem.W.piece_app (PySem.W.segRun_of (grp3 w os)) (PySem.W.piece_app (PySem.W.segRun_of (grp4 w os)) (fin0 w os)))))))
theorem open0 (w:World):(PySem.W.fencedOpening treeTable PySem.Challenge.pw_stow_k37_kinds w 8444).map (fun s=>(s.heap,s.gens,s.drawn,s.toks))=some (PySem.W.boot_heap w.params,Array.mk [],PySem.W.boot_drawn,PySem.W.boot_toks):=PySem.W.boot_open (by kernel_rfl) rfl (fun s=>by kernel_rfl) w
noncomputable def heap0:Params→PySem.W.Frag:=fun P =>
 (nat_lit 2,PySem.W.boot_o_2 P) ::
 (nat_lit 3,ho772 P) ::
 (nat_lit 20,ho11) ::
 (nat_lit 21,ho12) ::
 (nat_lit 24,ho15 P) ::
 (nat_lit 30,ho21 P) ::
 (nat_lit 31,Xrm) ::
 (nat_lit 37,ho28 P) ::
 (nat_lit 43,ho34 P) ::
 (nat_lit 44,ho35) ::
 (nat_lit 49,ho40 P) ::
 (nat_lit 55,ho46 P) ::
 (nat_lit 56,ho47) ::
 (nat_lit 61,ho52 P) ::
 (nat_lit 71,ho62) ::
 (nat_lit 72,ho63) ::
 (nat_lit 74,ho65 P) ::
 (nat_lit 75,ho66) ::
 (nat_lit 80,ho71 P) ::
 (nat_lit 86,ho77 P) ::
 (nat_lit 87,ho78) ::
 (nat_lit 92,ho83 P) ::
 (nat_lit 98,ho89 P) ::
 (nat_lit 99,ho90) ::
 (nat_lit 104,ho95 P) ::
 (nat_lit 110,Xoj P) ::
 (nat_lit 111,Xpa) ::
 (nat_lit 116,Xpi P) ::
 (nat_lit 122,Xpb P) ::
 (nat_lit 123,Xpl) ::
 (nat_lit 128,Xrc P) ::
 (nat_lit 134,Xvd P) ::
 (nat_lit 135,Xte) ::
 (nat_lit 140,Xsg P) ::
 (nat_lit 146,Xqz P) ::
 (nat_lit 147,Xtf) ::
 (nat_lit 152,Xvh P) ::
 (nat_lit 158,Xus P) ::
 (nat_lit 159,Xqw) ::
 (nat_lit 164,Xqh P) ::
 (nat_lit 177,Xtt P) ::
 (nat_lit 178,Xvi) ::
 (nat_lit 183,Xtd P) ::
 (nat_lit 189,Xsv P) ::
 (nat_lit 190,Xsa) ::
 (nat_lit 195,Xuw P) ::
 (nat_lit 201,Xtg P) ::
 (nat_lit 202,Xqk) ::
 (nat_lit 210,Xuu) ::
 (nat_lit 211,Xvc) ::
 (nat_lit 217,Xse) ::
 (nat_lit 218,Xrj) ::
 (nat_lit 224,Xsi) ::
 (nat_lit 225,Xuc) ::
 (nat_lit 231,Xrx) ::
 (nat_lit 232,Xps) ::
 (nat_lit 238,Xsj) ::
 (nat_lit 239,Xtk) ::
 (nat_lit 245,Xpo) ::
 (nat_lit 246,Xud) ::
 (nat_lit 252,Xro) ::
 (nat_lit 253,Xrd) ::
 (nat_lit 259,Xvq) ::
 (nat_lit 260,Xso) ::
 (nat_lit 266,Xpt) ::
 (nat_lit 267,Xqm) ::
 (nat_lit 273,Xtz) ::
 (nat_lit 274,Xun) ::
 (nat_lit 280,Xsm) ::
 (nat_lit 281,Xra) ::
 (nat_lit 287,Xzm) ::
 (nat_lit 288,XAq) ::
 (nat_lit 294,Xwb) ::
 (nat_lit 295,Xwe) ::
 (nat_lit 301,Xws) ::
 (nat_lit 302,XBp) ::
 (nat_lit 306,XBi) ::
 (nat_lit 307,Xzb) ::
 (nat_lit 313,Xzv) ::
 (nat_lit 314,Xwr) ::
 (nat_lit 320,XBh) ::
 (nat_lit 321,XAr) ::
 (nat_lit 327,Xxd) ::
 (nat_lit 328,XAv) ::
 (nat_lit 331,Xxn P) ::
 (nat_lit 341,Xzh) ::
 (nat_lit 342,XAi) ::
 (nat_lit 348,XBu) ::
 (nat_lit 349,XBr) ::
 (nat_lit 355,XBq) ::
 (nat_lit 356,Xzl) ::
 (nat_lit 362,Xzx) ::
 (nat_lit 363,Xzg) ::
 (nat_lit 420,XBg) ::
 (nat_lit 421,Xwx) ::
 (nat_lit 437,XAy P) ::
 (nat_lit 438,XKi) ::
 (nat_lit 448,Xxk) ::
 (nat_lit 449,Xww) ::
 (nat_lit 455,XBf) ::
 (nat_lit 456,Xzp) ::
 (nat_lit 460,Xzz) ::
 (nat_lit 461,Xye) ::
 (nat_lit 467,Xyk) ::
 (nat_lit 468,Xzk) ::
 (nat_lit 471,XAu P) ::
 (nat_lit 481,XAx) ::
 (nat_lit 482,XBs) ::
 (nat_lit 483,Xza) ::
 (nat_lit 489,Xym) ::
 (nat_lit 490,Xxa) ::
 (nat_lit 499,Xxf P) ::
 (nat_lit 500,Xxg) ::
 (nat_lit 505,Xxl P) ::
 (nat_lit 510,XBz) ::
 (nat_lit 516,Xyn) ::
 (nat_lit 517,Xxx) ::
 (nat_lit 534,Xwm P) ::
 (nat_lit 535,XBk) ::
 (nat_lit 543,Xyc) ::
 (nat_lit 544,Xxv) ::
 (nat_lit 550,XBw) ::
 (nat_lit 551,Xyt) ::
 (nat_lit 555,XIe) ::
 (nat_lit 556,XIh) ::
 (nat_lit 560,XJw) ::
 (nat_lit 561,XLm) ::
 (nat_lit 567,XEf) ::
 (nat_lit 568,XHj) ::
 (nat_lit 574,XFf) ::
 (nat_lit 575,XKt) ::
 (nat_lit 578,XFd P) ::
 (nat_lit 588,XId) ::
 (nat_lit 589,XDl) ::
 (nat_lit 597,XFs) ::
 (nat_lit 603,XJr) ::
 (nat_lit 604,XHr) ::
 (nat_lit 613,XGf P) ::
 (nat_lit 614,XIk) ::
 (nat_lit 622,XKx) ::
 (nat_lit 623,XJt) ::
 (nat_lit 629,XHy) ::
 (nat_lit 630,XIz) ::
 (nat_lit 636,XKq) ::
 (nat_lit 637,XLb) ::
 (nat_lit 640,XLh P) ::
 (nat_lit 652,XFm) ::
 (nat_lit 658,XHh) ::
 (nat_lit 659,XEu) ::
 (nat_lit 687,XIx) ::
 (nat_lit 688,XLd) ::
 (nat_lit 690,XKz P) ::
 (nat_lit 691,XPg) ::
 (nat_lit 696,XGd P) ::
 (nat_lit 704,XEm) ::
 (nat_lit 705,XKu) ::
 (nat_lit 707,XGc P) ::
 (nat_lit 708,XGo) ::
 (nat_lit 713,XHk P) ::
 (nat_lit 721,XKk) ::
 (nat_lit 722,XGk) ::
 (nat_lit 724,XGp P) ::
 (nat_lit 725,XEq) ::
 (nat_lit 730,XGi P) ::
 (nat_lit 740,XDo) ::
 (nat_lit 741,XGb) ::
 (nat_lit 752,XIg) ::
 (nat_lit 753,XKa) ::
 (nat_lit 766,XDn) ::
 (nat_lit 767,XKl) ::
 (nat_lit 769,XJx P) ::
 (nat_lit 770,XGz) ::
 (nat_lit 775,XQq P) ::
 (nat_lit 783,XSd) ::
 (nat_lit 784,XOu) ::
 (nat_lit 786,XQh P) ::
 (nat_lit 787,XOy) ::
 (nat_lit 795,XOt) ::
 (nat_lit 796,XRc) ::
 (nat_lit 797,XTf) ::
 (nat_lit 803,XTl) ::
 (nat_lit 804,XNe) ::
 (nat_lit 810,XNx) ::
 (nat_lit 811,XQn) ::
 (nat_lit 817,XTx) ::
 (nat_lit 818,XPq) ::
 (nat_lit 824,XRz) ::
 (nat_lit 825,XSi) ::
 (nat_lit 831,XTm) ::
 (nat_lit 832,XSa) ::
 (nat_lit 838,XQv) ::
 (nat_lit 839,ho841) ::
 (nat_lit 845,XPx) ::
 (nat_lit 846,XNv) ::
 (nat_lit 852,XPa) ::
 (nat_lit 853,ho855) ::
 (nat_lit 859,XTd) ::
 (nat_lit 860,XSf) ::
 (nat_lit 864,XOi) ::
 (nat_lit 865,XMz) ::
 (nat_lit 869,XSb) ::
 (nat_lit 870,XQx) ::
 (nat_lit 876,XMo) ::
 (nat_lit 877,XRx) ::
 []
noncomputable def at0:List Addr:=2::3::20::21::24::30::31::37::43::44::49::55::56::61::71::72::74::75::80::86::87::92::98::99::104::110::111::116::122::123::128::134::135::140::146::147::152::158::159::164::177::178::183::189::190::195::201::202::210::211::217::218::224::225::231::232::238::239::245::246::252::253::259::260::266::267::273::274::280::281::287::288::294::295::301::302::306::307::313::314::320::321::327::328::331::341::342::348::349::355::356::362::363::420::421::437::438::448::449::455::456::460::461::467::468::471::481::482::483::489::490::499::500::505::510::516::517::534::535::543::544::550::551::555::556::560::561::567::568::574::575::578::588::589::597::603::604::613::614::622::623::629::630::636::637::640::652::658::659::687::688::690::691::696::704::705::707::708::713::721::722::724::725::730::740::741::752::753::766::767::769::770::775::783::784::786::787::795::796::797::803::804::810::811::817::818::824::825::831::832::838::839::845::846::852::853::859::860::864::865::869::870::876::877::[]
noncomputable def XRd:List Str:="_wall"::"StowError"::"NoName"::"NoSize"::"Broken"::"NoGive"::"NoHandle"::"NoPiece"::"NoCell"::"NoAsk"::"NoBound"::"NoRoom"::"BadLine"::"NoLine"::"NoTurn"::"MARKS"::"check_ask"::"check_plain_ask"::"mark_of"::"long_of"::"live_of"::"LEAST_LIVE"::"can_begin"::"bad_of_piece"::"looked"::"fresh_room"::"laid"::"laid_free"::"piece_at"::"live_at"::"free_at"::"begin_around"::"cut_out"::"joined_pieces"::"joined"::"Keeper"::"is_power"::"block_for"::"least_free"::"cut_down"::"Halves"::"Row"::"all_whole"::"begin_of"::"whole_ones"::"free_slots"::"cut_for"::"with_slot"::"Shelves"::"first_place"::"spots_for"::"least_place"::"Stretches"::"First"::"Best"::"Next"::"Likes"::"stretches_of"::"keeper_of"::"_law_cell_at"::"_law_whole"::"_law_alike"::"_law_word_by"::"_law_made"::"_law_size_good"::"_law_classes"::"_law_asked"::"_law_fresh"::"_law_one"::[]
theorem at0_eq (P:Params):at0=(heap0 P).map (·.1):=by kernel_rfl
abbrev seen0 (s:Shared):Bool:=PySem.W.recOk (PySem.W.RowW.records (PySem.W.OpenRow.toRowW (PySem.Challenge.rw_stow_k37_kinds).row)) s
theorem left0:PySem.W.LeftO PySem.Challenge.pw_stow_k37_kinds (PySem.W.view PySem.Challenge.pw_stow_k37_kinds [82]) XRd seen0 (fun s=>at0.map s.heap.get?) (fun w=>(heap0 w.params).map fun p=>some p.2) 8444 :=
 PySem.W.LeftO.of_pieces (H₁:=fun P=>PySem.W.absHeap (Xhv P) 878 ⟨[],[],[],0,[],[],false,#[],[],0,false,false,false,0,[2000,10,10],false,0,true,[],[],0,false⟩) (gs₁:=#[]) (d₁:=⟨0,0,0,0⟩) (k₁:=1347) (m₀:=11) (ann:=(some (.ref 6))) open0 (fun w=>by kernel_rfl) run0 rfl (fun w=>funext fun os=>by kernel_rfl)
end
end Stow
set_option Elab.async false
set_option linter.all false
set_option maxRecDepth 100000
namespace L2
open PySem PySem.Spec PyProof.Rows
abbrev Key:=Sum Int Str
def XPb:Key→Value→Bool
 | .inl k,v=>Value.isInt k v
 | .inr x,v=>Value.isStrOf x v
def keyH (w:World):Key→Int
 | .inl k=>hashInt k
 | .inr x=>hashStr w x
theorem Xbt:∀{k:Key} {v:Value},XPb k v=true→(∃i t,k=Sum.inl i∧v=Value.int i t)∨(∃x t,k=Sum.inr x∧v=Value.str x t)
 | .inl i,v,h=>by
   obtain⟨t,e⟩:=Value.isInt_shape (k:=i) (v:=v) h
   exact .inl ⟨i,t,rfl,e⟩
 | .inr x,v,h=>by
   obtain⟨t,e⟩:=Value.isStrOf_shape (x:=x) (v:=v) h
   exact .inr ⟨x,t,rfl,e⟩
theorem XPv (a b:Int):decide ((Sum.inl a:Key)=Sum.inl b)=(a==b):=by
 by_cases e:a=b
 · subst e;simp
 · have h:¬(Sum.inl a:Key)=Sum.inl b:=fun q=>e (Sum.inl.inj q)
   rw[decide_eq_false h]
   exact(beq_eq_false_iff_ne.mpr e).symm
theorem XNg (a b:Str):decide ((Sum.inr a:Key)=Sum.inr b)=decide (a=b):=by
 by_cases e:a=b
 · subst e;simp
 · have h:¬(Sum.inr a:Key)=Sum.inr b:=fun q=>e (Sum.inr.inj q)
   rw[decide_eq_false h,decide_eq_false e]
theorem XSm (a:Int)(b:Str):decide ((Sum.inl a:Key)=Sum.inr b)=false:=decide_eq_false (fun q=>nomatch q)
theorem XQw (a:Str)(b:Int):decide ((Sum.inr a:Key)=Sum.inl b)=false:=decide_eq_false (fun q=>nomatch q)
def Xmz (prog:Program)(w:World):PySem.KeyKind prog w Key where
 is:=XPb
 hash:=keyH w
 inj:=fun v a b ha hb=>by
   rcases Xbt ha with ⟨i,t,rfl,rfl⟩ | ⟨x,t,rfl,rfl⟩
   · rcases Xbt hb with ⟨j,u,rfl,e⟩ | ⟨y,u,rfl,e⟩
     · injection e with e1 _;rw[e1]
     · exact nomatch e
   · rcases Xbt hb with ⟨j,u,rfl,e⟩ | ⟨y,u,rfl,e⟩
     · exact nomatch e
     · injection e with e1 _;rw[e1]
 byValue:=fun k v h=>by
   rcases Xbt h with ⟨i,t,rfl,rfl⟩ | ⟨x,t,rfl,rfl⟩ <;> rfl
 pyHash:=fun hv h=>by
   rcases Xbt hv with ⟨i,t,rfl,rfl⟩ | ⟨x,t,rfl,rfl⟩
   · exact wpAny_pyHash_int h
   · exact wpAny_pyHash_str h
 eqBool:=fun hu hv h=>by
   rcases Xbt hu with ⟨i,t,rfl,rfl⟩ | ⟨x,t,rfl,rfl⟩
   · rcases Xbt hv with ⟨j,u,rfl,rfl⟩ | ⟨y,u,rfl,rfl⟩
     · rw[XPv] at h;exact wpAny_eqBool_int h
     · rw[XSm] at h;exact SeqAt.EqAt.int_str i t y u _ _ _ _ h
   · rcases Xbt hv with ⟨j,u,rfl,rfl⟩ | ⟨y,u,rfl,rfl⟩
     · rw[XQw] at h;exact SeqAt.EqAt.str_int x t j u _ _ _ _ h
     · rw[XNg] at h;exact wpAny_eqBool_str h
 «strs»:=fun k x t v h=>by
   rcases Xbt h with ⟨i,u,rfl,e⟩ | ⟨y,u,rfl,e⟩
   · exact nomatch e
   · injection e with e1 _
     subst e1
     cases v <;> rfl
end L2
namespace L2
open PySem PySem.Spec PyProof.Rows
inductive V where
 | non | bl (b:Bool) | int (i:Int) | str (x:Str) | byt (b:Array UInt8) | flt (b:UInt64) | ref (a:Addr) | ty (n:String)
 deriving DecidableEq
def RelV:V→Value→Prop
 | .non,u=>u=Value.none
 | .bl b,u=>u=Value.bool b
 | .int i,u=>∃t,u=Value.int i t
 | .str x,u=>∃t,u=Value.str x t
 | .byt b,u=>∃t,u=Value.bytes b t
 | .flt b,u=>∃t,u=Value.float b t
 | .ref a,u=>u=Value.ref a
 | .ty n,u=>u=Value.type n
abbrev Vals:List V→List Value→Prop:=Paired RelV
theorem Vals.length {xs:List V}{us:List Value}(r:Vals xs us):xs.length=us.length:=Paired.length r
theorem Vals.get:∀{xs:List V} {us:List Value} {i:Nat} {x:V},Vals xs us→xs[i]?=some x→∃u,us[i]?=some u∧RelV x u
 | _,_,_,_,.nil,e=>by simp at e
 | _,_,0,_,.cons r _,e=>by simp at e;subst e;exact⟨_,rfl,r⟩
 | _,_,i+1,x,.cons _ t,e=>by
   obtain⟨u,h1,h2⟩:=Vals.get (i:=i) (x:=x) t (by simpa using e)
   exact⟨u,by simpa using h1,h2⟩
theorem Vals.set {x:V}{u:Value}(r:RelV x u):∀{xs:List V} {us:List Value} (i:Nat),Vals xs us→Vals (xs.set i x) (us.set i u)
 | _,_,_,.nil=>.nil
 | _,_,0,.cons _ t=>.cons r t
 | _,_,i+1,.cons q t=>.cons q (Vals.set r i t)
theorem Vals.append:∀{xs ys:List V} {us ws:List Value},Vals xs us→Vals ys ws→Vals (xs++ys) (us++ws)
 | _,_,_,_,.nil,s=>s
 | _,_,_,_,.cons r t,s=>.cons r (Vals.append t s)
theorem Vals.take:∀{xs:List V} {us:List Value} (n:Nat),Vals xs us→Vals (xs.take n) (us.take n)
 | _,_,0,_=>.nil
 | _,_,_+1,.nil=>.nil
 | _,_,n+1,.cons r t=>.cons r (Vals.take n t)
theorem Vals.drop:∀{xs:List V} {us:List Value} (n:Nat),Vals xs us→Vals (xs.drop n) (us.drop n)
 | _,_,0,r=>r
 | _,_,_+1,.nil=>.nil
 | _,_,n+1,.cons _ t=>Vals.drop n t
theorem Vals.none_of:∀{xs:List V} {us:List Value} {i:Nat},Vals xs us→xs[i]?=none→us[i]?=none:=fun {xs us i} r e=>by
 have h1:=r.length
 have h2:xs.length≤i:=List.getElem?_eq_none_iff.mp e
 exact List.getElem?_eq_none_iff.mpr (by omega)
def RelO:Option V→Option Value→Prop
 | some v,some u=>RelV v u
 | none,none=>True
 | _,_=>False
def KV {κ:Type}:List (κ×V)→List (κ×Value)→Prop:=Paired fun (p:κ×V) (q:κ×Value)=>p.1=q.1∧RelV p.2 q.2
def kV:Key→V
 | .inl i=>.int i
 | .inr x=>.str x
inductive HO where
 /-- a list -/
 | lst (xs:List V)
 /-- a tuple (never changes) -/
 | tup (xs:List V)
 /-- a dict whose keys are ints and texts;one whose keys are tuples of ints and texts (the empty one is both) -/
 | dK (kvs:List (Key×V)) | dT (kvs:List (List Key×V))
 /-- a set of ints: its members,its size -/
 | set (S:Int→Bool) (n:Nat)
 /-- an instance of the class at C,its dict at dx,its attributes -/
 | ins (C dx:Addr) (fs:List (Str×V))
 /-- the dict of the instance at x -/
 | own (x:Addr)
 /-- the dict of an exception -/
 | xd (fs:List (Str×V))
 /-- a bound method,f of x -/
 | met (f x:Addr)
 /-- a range object lo,lo+1,.. below hi -/
 | rng (lo hi:Int)
 /-- a thing that is known to the object (the script;a dict while a loop walks it): read,never written while it is so -/
 | frz (o:Obj) (u:HO)
 /-- a code object's table -/
 | tbl (ps:Array Value)
 /-- any other thing,by what is true of its one object (a def of one's own: SetO a S n:=HO.ext fun h=>..) -/
 | ext (φ:Heap→Prop)
abbrev Hp:=Addr→Option HO
def upd (H:Hp)(a:Addr)(o:HO):Hp:=fun b=>if b=a then some o else H b
theorem upd_same {H:Hp}{a:Addr}{o:HO}:upd H a o a=some o:=by unfold upd;rw[if_pos rfl]
theorem Xap {H:Hp}{a b:Addr}{o:HO}(h:b≠a):upd H a o b=H b:=by unfold upd;rw[if_neg h]
theorem Xat {H:Hp}{a b:Addr}{o:HO}(h:H a=some o)(h':H b=none):a≠b:=by
 intro e;subst e;rw[h] at h';cases h'
section
variable (P:Program)(w:World)
def Xdy (H:Hp)(h:Heap)(a:Addr):HO→Prop
 | .lst xs=>xs.length≤sizeLine∧∃(its:List Value) (n:Nat),Vals xs its∧h.get? a=some { cls:=.type "list",data:=.seq its.toArray n }
 | .tup xs=>xs.length≤sizeLine∧∃its:List Value,Vals xs its∧IsTup h a its.toArray
 | .dK kvs=>kvs.length≤sizeLine∧(a==sysModules)=false∧∃vs,KV kvs vs∧h.DictOf (Xmz P w) a vs
 | .dT kvs=>kvs.length≤sizeLine∧(a==sysModules)=false∧∃xs:List (List Key×Addr×Value),
     Paired (fun (p:List Key×V) (q:List Key×Addr×Value)=>p.1=q.1∧H q.2.1=some (.tup (p.1.map kV))∧RelV p.2 q.2.2) kvs xs ∧
     ∃o es ep,h.get? a=some o∧o.ExactDict∧o.data = .dict es ep∧es.toList=xs.map (entryOfKey (tupleKind (Xmz P w)))∧(xs.map (·.1)).Nodup
 | .set S n=>h.SetOf (intKind P w) a S n
 | .ins C dx fs=>H dx=some (.own a)∧fs.length≤1000∧dx≠a∧h.get? a=some (PySem.W.instObj C dx) ∧
     ∃mA,h.Ns1 dx mA∧(∀f,RelO (fs.lookup f) (mA f))∧PySem.Within mA (fs.map (·.1))
 | .own _=>∃o,h.get? a=some o
 | .xd fs=>∃mA,h.Ns1 a mA∧∀f,RelO (fs.lookup f) (mA f)
 | .rng lo hi=>∃t u v,h.get? a=some { cls:=.type "range",data:=.fields #[.int lo t,.int hi u,.int 1 v] }
 | .frz o u=>h.get? a=some o∧Xdy H h a u
 | .tbl ps=>h.get? a=some { cls:=.none,data:=.fields ps }
 | .met f x=>h.get? a=some (PySem.W.methodObj (.ref f) (.ref x))
 | .ext φ=>φ h∧(∃o,h.get? a=some o)∧∀h1 h2:Heap,φ h1→(∀o,h1.get? a=some o→h2.get? a=some o)→φ h2
def HOk (H:Hp)(h:Heap):Prop:=∀a o,H a=some o→Xdy P w H h a o
end
section
variable {P:Program}{w:World}{H H':Hp}{h h':Heap}{a:Addr}{o:HO}
theorem Xdy.lt (x:Xdy P w H h a o):a<h.objs.size:=by
 cases o with
 | lst xs=>obtain⟨_,_,_,_,e⟩:=x;exact Heap.lt_size e
 | tup xs=>obtain⟨_,_,_,p⟩:=x;exact p.lt
 | dK kvs=>obtain⟨_,_,_,_,o,_,_,e,_⟩:=x;exact Heap.lt_size e
 | dT kvs=>obtain⟨_,_,_,_,o,_,_,e,_⟩:=x;exact Heap.lt_size e
 | set S n=>obtain⟨o,_,_,_,e,_⟩:=x;exact Heap.lt_size e
 | ins C dx fs=>obtain⟨_,_,_,e,_⟩:=x;exact Heap.lt_size e
 | own y=>obtain⟨_,e⟩:=x;exact Heap.lt_size e
 | xd fs=>obtain⟨_,⟨_,_,_,e,_⟩,_⟩:=x;exact Heap.lt_size e
 | rng lo hi=>obtain⟨_,_,_,e⟩:=x;exact Heap.lt_size e
 | frz ob u=>obtain⟨e,_⟩:=x;exact Heap.lt_size e
 | tbl ps=>exact Heap.lt_size (show h.get? a=some _ from x)
 | met f y=>exact Heap.lt_size (show h.get? a=some _ from x)
 | ext φ=>obtain⟨_,⟨_,e⟩,_⟩:=x;exact Heap.lt_size e
theorem Paired.mapP {α β:Type}{F G:α→β→Prop}:∀{l₁:List α} {l₂:List β},Paired F l₁ l₂→(∀a b,F a b→G a b)→Paired G l₁ l₂
 | _,_,.nil,_=>.nil
 | _,_,.cons r t,f=>.cons (f _ _ r) (Paired.mapP t f)
theorem Xdy.stay (x:Xdy P w H h a o)(k:∀b u,(b=a∨H b=some (.own a))→h.get? b=some u→h'.get? b=some u)
   (ho:∀b,H b=some (.own a)→H' b=some (.own a)) (ht:∀b xs,H b=some (.tup xs)→H' b=some (.tup xs)):Xdy P w H' h' a o:=by
 induction o with
 | lst xs=>obtain⟨z,its,n,r,e⟩:=x;exact⟨z,its,n,r,k _ _ (.inl rfl) e⟩
 | tup xs=>obtain⟨z,its,r,ob,e,c⟩:=x;exact⟨z,its,r,ob,k _ _ (.inl rfl) e,c⟩
 | dK kvs=>obtain⟨z,y,vs,r,ob,es,ep,e,c⟩:=x;exact⟨z,y,vs,r,ob,es,ep,k _ _ (.inl rfl) e,c⟩
 | dT kvs =>
   obtain⟨z,y,xs,r,ob,es,ep,e,c⟩:=x
   exact⟨z,y,xs,Paired.mapP r fun p q z=>⟨z.1,ht _ _ z.2.1,z.2.2⟩,ob,es,ep,k _ _ (.inl rfl) e,c⟩
 | set S n=>obtain⟨ob,es,ep,t,e,c⟩:=x;exact⟨ob,es,ep,t,k _ _ (.inl rfl) e,c⟩
 | ins C dx fs =>
   obtain⟨d,z,ne,e,mA,⟨od,es,ep,e2,c⟩,r⟩:=x
   exact⟨ho _ d,z,ne,k _ _ (.inl rfl) e,mA,⟨od,es,ep,k _ _ (.inr d) e2,c⟩,r⟩
 | own y=>obtain⟨ob,e⟩:=x;exact⟨ob,k _ _ (.inl rfl) e⟩
 | xd fs=>obtain⟨mA,⟨od,es,ep,e,c⟩,r⟩:=x;exact⟨mA,⟨od,es,ep,k _ _ (.inl rfl) e,c⟩,r⟩
 | rng lo hi=>obtain⟨t,u,v,e⟩:=x;exact⟨t,u,v,k _ _ (.inl rfl) e⟩
 | frz ob u ih=>obtain⟨e,q⟩:=x;exact⟨k _ _ (.inl rfl) e,ih q⟩
 | tbl ps =>
   have e:h.get? a=some { cls:=.none,data:=.fields ps }:=x
   show h'.get? a=some { cls:=.none,data:=.fields ps }
   exact k a _ (.inl rfl) e
 | met f y =>
   have e:h.get? a=some (PySem.W.methodObj (.ref f) (.ref y)):=x
   show h'.get? a=some (PySem.W.methodObj (.ref f) (.ref y))
   exact k a _ (.inl rfl) e
 | ext φ=>obtain⟨p,⟨o,e⟩,st⟩:=x;exact⟨st _ _ p fun o q=>k _ _ (.inl rfl) q,⟨o,k _ _ (.inl rfl) e⟩,st⟩
theorem HOk.lt (x:HOk P w H h)(e:H a=some o):a<h.objs.size:=(x a o e).lt
theorem HOk.fresh (x:HOk P w H h)(e:h.objs.size≤a):H a=none:=by
 cases q:H a with
 | none=>rfl
 | some u=>exact absurd (Nat.lt_of_lt_of_le (x.lt q) e) (Nat.lt_irrefl _)
theorem HOk.kept (x:HOk P w H h)(k:∀b u,h.get? b=some u→h'.get? b=some u):HOk P w H h':=fun a o e =>
 (x a o e).stay (fun b u _ q=>k b u q) (fun _ q=>q) fun _ _ q=>q
theorem HOk.laid (x:HOk P w H h)(k:∀b u,h.get? b=some u→h'.get? b=some u)(hp:h.objs.size≤a)(new:Xdy P w (upd H a o) h' a o):HOk P w (upd H a o) h':=fun b u e=>by
 have hn:=x.fresh hp
 by_cases hb:b=a
 · subst hb;rw[upd_same] at e;cases e;exact new
 · rw[Xap hb] at e
   exact(x b u e).stay (fun c v _ q=>k c v q) (fun c q=>by rw[Xap (Xat q hn)];exact q) fun c xs q=>by rw[Xap (Xat q hn)];exact q
end
def Rd (H:Hp)(a:Addr)(u:HO):Prop:=H a=some u∨∃o,H a=some (.frz o u)
theorem Rd.of {H:Hp}{a:Addr}{u:HO}(h:H a=some u):Rd H a u:=.inl h
theorem Rd.ok {P:Program}{w:World}{H:Hp}{h:Heap}{a:Addr}{u:HO}(r:Rd H a u)(x:HOk P w H h):Xdy P w H h a u:=by
 rcases r with r | ⟨o,r⟩
 · exact x a u r
 · obtain⟨_,q⟩:=x a _ r
   exact q
def Mut:Option HO→Prop
 | some (.lst _)=>True
 | some (.dK _)=>True
 | some (.dT _)=>True
 | some (.set _ _)=>True
 | some (.ins _ _ _)=>True
 | some (.ext _)=>True
 | _=>False
section
variable {P:Program}{w:World}{H:Hp}{h h':Heap}{x e:Addr}{o':HO}
theorem HOk.write (ok:HOk P w H h)(mu:Mut (H x))(he:e=x∨H e=some (.own x))(k:∀b u,b≠e→h.get? b=some u→h'.get? b=some u)(heo:∃u,h'.get? e=some u)
   (new:Xdy P w (upd H x o') h' x o'):HOk P w (upd H x o') h':=fun b u q=>by
 have nown:∀c y,H c=some (.own y)→c≠x:=fun c y r z=>by subst z;rw[r] at mu;exact mu
 have ntup:∀c xs,H c=some (.tup xs)→c≠x:=fun c xs r z=>by subst z;rw[r] at mu;exact mu
 by_cases hb:b=x
 · subst hb;rw[upd_same] at q;cases q;exact new
 · rw[Xap hb] at q
   by_cases hbe:b=e
   · have q':H b=some (.own x):=by
       rcases he with z | z
       · exact absurd (hbe.trans z) hb
       · rw[hbe];exact z
     rw[q] at q';cases q'
     obtain⟨v,hv⟩:=heo
     exact⟨v,by rw[hbe];exact hv⟩
   · refine(ok b u q).stay (fun c v hc r=>k c v ?_ r) (fun c r=>by rw[Xap (nown c b r)];exact r) fun c xs r=>by rw[Xap (ntup c xs r)];exact r
     rcases hc with rfl | hc
     · exact hbe
     · rintro rfl
       rcases he with z | z
       · exact nown c b hc z
       · rw[hc] at z;cases z;exact hb rfl
end
structure Un (fs ex:List Addr)(H H':Hp)(h h':Heap):Prop where
 keep:∀b o,h.get? b=some o→H b=none→b ∉ fs→b ∉ ex→h'.get? b=some o
 slot:∀b o,h.get? b=some o→H b=none→b∈fs→b ∉ ex→∃sl,h'.get? b=some { o with slots:=sl }
 free:∀b o,h.get? b=some o→H b=none→b ∉ ex→H' b=none
 there:∀b o,h.get? b=some o→b ∉ ex→∃o',h'.get? b=some o'
 tups:∀b xs,H b=some (.tup xs)→H' b=some (.tup xs)
 frzs:∀b o u,H b=some (.frz o u)→H' b=some (.frz o u)
 tbls:∀b ps,H b=some (.tbl ps)→∃more,H' b=some (.tbl (ps++more))
section
variable {fs fs' ex ex':List Addr}{H H1 H2:Hp}{h h1 h2 h':Heap}{a x e:Addr}{o:HO}
theorem Un.any (u:Un fs ex H H1 h h1){b:Addr}{ob:Obj}(q:h.get? b=some ob)(n:H b=none)(hx:b ∉ ex):∃sl,h1.get? b=some { ob with slots:=sl }:=by
 by_cases hb:b∈fs
 · exact u.slot b ob q n hb hx
 · exact⟨ob.slots,u.keep b ob q n hb hx⟩
theorem Un.trans (a:Un fs ex H H1 h h1)(b:Un fs ex H1 H2 h1 h2):Un fs ex H H2 h h2 where
 keep:=fun c ob q n hc hx=>b.keep c ob (a.keep c ob q n hc hx) (a.free c ob q n hx) hc hx
 slot:=fun c ob q n hc hx=>by
   obtain⟨sl,e1⟩:=a.slot c ob q n hc hx
   obtain⟨sl',e2⟩:=b.slot c _ e1 (a.free c ob q n hx) hc hx
   exact⟨sl',e2⟩
 free:=fun c ob q n hx=>by
   obtain⟨o',e1⟩:=a.there c ob q hx
   exact b.free c o' e1 (a.free c ob q n hx) hx
 there:=fun c ob q hx=>by
   obtain⟨o',e1⟩:=a.there c ob q hx
   exact b.there c o' e1 hx
 tups:=fun c xs q=>b.tups c xs (a.tups c xs q)
 frzs:=fun c ob xs q=>b.frzs c ob xs (a.frzs c ob xs q)
 tbls:=fun c ps q=>by
   obtain⟨m1,e1⟩:=a.tbls c ps q
   obtain⟨m2,e2⟩:=b.tbls c _ e1
   exact⟨m1++m2,by rw[e2,Array.append_assoc]⟩
theorem Un.kept (k:∀b u,h.get? b=some u→h'.get? b=some u):Un fs ex H H h h' :=
 ⟨fun b ob q _ _ _=>k b ob q,fun b ob q _ _ _=>⟨ob.slots,k b ob q⟩,fun _ _ _ n _=>n,fun b ob q _=>⟨ob,k b ob q⟩,fun _ _ q=>q,fun _ _ _ q=>q,fun _ ps q=>⟨#[],by rw[q];simp⟩⟩
theorem Un.refl:Un fs ex H H h h:=Un.kept fun _ _ q=>q
theorem Un.laid (k:∀b u,h.get? b=some u→h'.get? b=some u)(hp:h.objs.size≤a)(hn:H a=none):Un fs ex H (upd H a o) h h' where
 keep:=fun b u q _ _ _=>k b u q
 slot:=fun b u q _ _ _=>⟨u.slots,k b u q⟩
 free:=fun b u q n _=>by rw[Xap (Nat.ne_of_lt (Nat.lt_of_lt_of_le (Heap.lt_size q) hp))];exact n
 there:=fun b u q _=>⟨u,k b u q⟩
 tups:=fun b xs q=>by rw[Xap (Xat q hn)];exact q
 frzs:=fun b u xs q=>by rw[Xap (Xat q hn)];exact q
 tbls:=fun b ps q=>⟨#[],by rw[Xap (Xat q hn),q];simp⟩
theorem Un.write (mu:Mut (H x))(he:e=x∨H e=some (.own x))(k:∀b u,b≠e→h.get? b=some u→h'.get? b=some u)(heo:∃u,h'.get? e=some u):Un fs ex H (upd H x o) h h':=by
 have hx:∀b,H b=none→b≠x:=fun b n z=>by subst z;rw[n] at mu;exact mu
 have hb:∀b,H b=none→b≠e:=fun b n z=>by
   subst z
   rcases he with r | r
   · exact hx b n r
   · rw[n] at r;cases r
 have hm:∀b u,H b=some u→¬Mut (some u)→b≠x:=fun b u q nm z=>by subst z;rw[q] at mu;exact nm mu
 refine⟨fun b u q n _ _=>k b u (hb b n) q,fun b u q n _ _=>⟨u.slots,k b u (hb b n) q⟩,fun b u q n _=>by rw[Xap (hx b n)];exact n,fun b u q _=>?_,
   fun b xs q=>by rw[Xap (hm b _ q fun z=>z)];exact q,fun b u xs q=>by rw[Xap (hm b _ q fun z=>z)];exact q,fun b ps q=>⟨#[],by rw[Xap (hm b _ q fun z=>z),q];simp⟩⟩
 by_cases hbe:b=e
 · subst hbe;exact heo
 · exact⟨u,k b u hbe q⟩
theorem Un.mono (u:Un fs ex H H1 h h1)(hs:∀b∈fs,b∈fs')(hx:∀b∈ex,b∈ex'):Un fs' ex' H H1 h h1 :=
 ⟨fun b ob q n hb he=>u.keep b ob q n (fun z=>hb (hs b z)) fun z=>he (hx b z),fun _ _ q n _ he=>u.any q n fun z=>he (hx _ z),fun b ob q n he=>u.free b ob q n fun z=>he (hx b z),fun b ob q he=>u.there b ob q fun z=>he (hx b z),u.tups,u.frzs,u.tbls⟩
end
def trk (h:Heap)(H:Hp):List Addr:=(List.range h.objs.size).filter fun a=>(H a).isSome
def hidT (h:Heap)(H:Hp):Heap:=PySem.W.hideAll h (trk h H)
theorem Xup (h:Heap)(H:Hp):(hidT h H).objs.size=h.objs.size:=PySem.W.hideAll_size _ _
theorem Xwo {h:Heap}{H:Hp}{b:Addr}{o:Obj}(e:h.get? b=some o)(n:H b=none):(hidT h H).get? b=some o :=
 PySem.W.hideAll_get _ e fun hm=>by
   have q:(H b).isSome=true:=(List.mem_filter.mp hm).2
   rw[n] at q;simp at q
theorem XEc {h:Heap}{H:Hp}{b:Addr}{o:Obj}(e:(hidT h H).get? b=some o):h.get? b=some o∧H b=none:=by
 have e':h.get? b=some o:=PySem.W.of_hideAll (trk h H) e
 refine⟨e',?_⟩
 cases q:H b with
 | none=>rfl
 | some x =>
   have hm:b∈trk h H:=List.mem_filter.mpr ⟨List.mem_range.mpr (Heap.lt_size e'),by simp [q]⟩
   have z:(hidT h H).get? b=none:=PySem.W.hideAll_none (trk h H) hm
   rw[z] at e;cases e
def XDp (g h:Heap)(L:Addr):List (Addr×Obj):=(List.range h.objs.size).filterMap fun a=>if a=L∨(g.get? a).isSome=true then none else (h.get? a).map fun o=>(a,o)
def rest (g h:Heap)(L d:Addr):List (Addr×Obj):=(XDp g h L).filter fun p=>decide (p.1≠d)
end L2
namespace L2
open PySem PySem.Spec PyProof.Rows
structure Mod (K:PySem.W.Frag)(mg:Str→Option Value)(base:Heap):Prop where
 kin:K.In base
 glob:base.Ns mainGlobals mg
 blt:∃mb,base.Ns builtinsNs mb∧∀x:Str,x≠"__name__"→mb x=bootBuiltins x
 nolimit:base.NoLimit
structure Cx where
 prog:Program
 w:World
 K:PySem.W.Frag
 mg:Str→Option Value
 base:Heap
 A:Around
 N:List Str
 s₀:Shared
 H₀:Hp
 env:Env
 outer:List Env
 stack:List Env
 ex:List Addr
 fn:Str→Bool
 calm:Bool
 pn:List (Addr×Obj)
 xe:Value→Shared→Prop
def frs (l:List Env):List Addr:=l.filterMap (·.frame)
abbrev Cx.fs (X:Cx):List Addr:=frs X.outer
def Vis (sc:Scope)(x:Str):Prop:=sc.names.lookup x=some .local∨sc.names.lookup x=some .cell∨sc.names.lookup x=some .free
def Loc (sc:Scope)(x:Str):Prop:=sc.names.lookup x=some .local∨sc.names.lookup x=some .cell
def Look (env:Env)(h:Heap)(m:Str→Option Value)(x:Str)(u:Value):Prop :=
 (env.kindOf x=some .local∧m x=some u)∨((env.kindOf x=some .cell∨env.kindOf x=some .free)∧∃c,env.cells.lookup x=some c∧h.IsCell c (some u))
structure Cx.Ok (X:Cx):Prop where
 mod:Mod X.K X.mg X.base
 kind:X.env.scope.kind = .function
 glob:X.env.globals=mainGlobals
 blt:X.env.builtins=builtinsNs
 above:X.s₀.heap.objs.size≤X.env.locals
 inj:∀x y c,X.env.cells.lookup x=some c→X.env.cells.lookup y=some c→x=y
 has:∀x,(X.env.kindOf x=some .cell∨X.env.kindOf x=some .free)→∃c,X.env.cells.lookup x=some c
 cab:∀x c,X.fn x=true→X.env.cells.lookup x=some c→X.s₀.heap.objs.size≤c
 hd:X.calm=true→X.A.handled=none
 frames:X.A.frames=some X.stack
 stk:X.stack=X.outer∨(X.stack=X.env::X.outer∧X.env.frame=some X.env.locals)
 exf:∀b∈X.ex,b≠X.env.locals∧∀x c,X.env.cells.lookup x=some c→c≠b
 bs:∀b o,X.base.get? b=some o→X.s₀.heap.get? b=some o∧X.H₀ b=none
 bsz:X.base.objs.size≤X.s₀.heap.objs.size
 noex:∀b o,X.base.get? b=some o→b ∉ X.ex
 exfs:∀b∈X.ex,b ∉ X.fs
 funs:X.s₀.heap.FunFrames X.base X.outer
 frf:∀b∈X.fs,X.H₀ b=none
structure Inv (X:Cx)(pins:List (Addr×Obj))(σ:List (Option V))(H:Hp)(s:Shared):Prop where
 ok:X.Ok
 os:s.os=X.s₀.os
 bare:AllBare s.gens
 base:Un X.fs X.ex X.H₀ H X.s₀.heap s.heap
 loc:∃m,s.heap.Ns X.env.locals m∧∀(i:Nat) (x:Str) (v:V),X.N[i]?=some x→σ[i]?=some (some v)→Vis X.env.scope x→∃u,RelV v u∧Look X.env s.heap m x u
 cell:∀x c,X.env.cells.lookup x=some c→∃v,s.heap.IsCell c v
 free:H X.env.locals=none
 freeC:∀x c,X.env.cells.lookup x=some c→H c=none
 pin:∀p∈X.pn++pins,s.heap.get? p.1=some p.2∧H p.1=none∧p.1≠X.env.locals∧p.1 ∉ X.fs∧∀v,p.2.data≠.cell v
 hok:HOk X.prog X.w H s.heap
 len:σ.length=X.N.length
section
variable {X:Cx}{pins:List (Addr×Obj)}{σ:List (Option V)}{H H':Hp}{s:Shared}{h':Heap}
theorem Cx.Ok.nofr (ok:X.Ok){b:Addr}{o:Obj}(e:X.base.get? b=some o):b ∉ X.fs:=fun hb=>by
 have:=(ok.funs.mem hb).1
 rw[e] at this;cases this
theorem Inv.bs (I:Inv X pins σ H s):∀b o,X.base.get? b=some o→s.heap.get? b=some o∧H b=none:=fun b o e =>
 ⟨I.base.keep b o (I.ok.bs b o e).1 (I.ok.bs b o e).2 (I.ok.nofr e) (I.ok.noex b o e),I.base.free b o (I.ok.bs b o e).1 (I.ok.bs b o e).2 (I.ok.noex b o e)⟩
theorem Inv.bk (I:Inv X pins σ H s):∀b o,X.base.get? b=some o→s.heap.get? b=some o:=fun b o e=>(I.bs b o e).1
theorem Inv.mod (I:Inv X pins σ H s):Mod X.K X.mg X.base:=I.ok.mod
theorem Inv.kIn (I:Inv X pins σ H s):X.K.In s.heap:=I.ok.mod.kin.keeps I.bk
theorem Inv.nolimit (I:Inv X pins σ H s):s.heap.NoLimit:=I.ok.mod.nolimit.keeps I.bk
theorem Inv.fr (I:Inv X pins σ H s):∃m,Fr X.base X.env.locals s.heap m :=
 let ⟨m,hn,_⟩:=I.loc
 ⟨m,hn,I.bk,Nat.le_trans I.ok.bsz I.ok.above⟩
theorem Inv.lt (I:Inv X pins σ H s):X.env.locals<s.heap.objs.size:=let ⟨_,hn,_⟩:=I.loc;hn.lt
theorem Inv.sz (I:Inv X pins σ H s):X.s₀.heap.objs.size≤s.heap.objs.size:=Nat.le_trans I.ok.above (Nat.le_of_lt I.lt)
theorem Inv.nofs (I:Inv X pins σ H s){a:Addr}(h:s.heap.objs.size≤a):a ∉ X.fs:=fun hb=>by
 obtain⟨_,o,ho,_⟩:=I.ok.funs.mem hb
 exact absurd (Nat.lt_of_lt_of_le (Heap.lt_size ho) (Nat.le_trans I.sz h)) (Nat.lt_irrefl _)
theorem Inv.cne (I:Inv X pins σ H s):∀x c,X.env.cells.lookup x=some c→c≠X.env.locals:=fun x c e z=>by
 obtain⟨v,o,ho,hd⟩:=I.cell x c e
 obtain⟨m,⟨o',es,ep,ho',hd',_⟩,_⟩:=I.loc
 rw[z,ho'] at ho;cases ho;rw[hd'] at hd;cases hd
theorem Inv.funs (I:Inv X pins σ H s):s.heap.FunFrames X.base X.outer:=by
 have all:∀(l:List Env),(∀b∈frs l,b∈X.fs)→X.s₀.heap.FunFrames X.base l→s.heap.FunFrames X.base l:=by
   intro l
   induction l with
   | nil=>intro _ _;trivial
   | cons env r ih =>
     intro hs hl
     obtain⟨hk,⟨L,o,hf,hn,ho,hd⟩,hr⟩:=hl
     have hL:L∈X.fs:=hs L (by unfold frs;rw[List.filterMap_cons,hf];exact List.mem_cons_self)
     obtain⟨sl,e⟩:=I.base.slot L o ho (I.ok.frf L hL) hL fun z=>I.ok.exfs L z hL
     exact⟨hk,⟨L,_,hf,hn,e,hd⟩,ih (fun b hb=>hs b (by unfold frs;rw[List.filterMap_cons,hf];exact List.mem_cons_of_mem _ hb)) hr⟩
 exact all X.outer (fun _ hb=>hb) I.ok.funs
theorem Inv.stack (I:Inv X pins σ H s):s.heap.FunFrames X.base X.stack:=by
 rcases I.ok.stk with e | ⟨e,hf⟩
 · rw[e];exact I.funs
 · rw[e]
   obtain⟨m,hn,_⟩:=I.loc
   refine .cons (by rw[I.ok.kind];decide) hf hn ?_ I.funs
   exact Heap.get?_none_of_le (Nat.le_trans I.ok.bsz I.ok.above)
theorem Inv.stkSub (I:Inv X pins σ H s):∀b∈frs X.stack,b∈X.env.locals::X.fs:=fun b hb=>by
 rcases I.ok.stk with e | ⟨e,hf⟩
 · rw[e] at hb;exact List.mem_cons_of_mem _ hb
 · rw[e] at hb
   unfold frs at hb
   rw[List.filterMap_cons,hf] at hb
   exact hb
theorem Inv.stkFree (I:Inv X pins σ H s):∀b∈frs X.stack,H b=none:=fun b hb=>by
 rcases List.mem_cons.mp (I.stkSub b hb) with e | hb
 · rw[e];exact I.free
 · obtain⟨_,o,ho,_⟩:=I.ok.funs.mem hb
   exact I.base.free b o ho (I.ok.frf b hb) fun z=>I.ok.exfs b z hb
theorem Inv.step {g':Array GenState}{t':Nat}{d':Drawn}{ch:List Addr}(I:Inv X pins σ H s)
   (hch:∀b∈ch,(b∈X.ex∨X.s₀.heap.objs.size≤b)∧b≠X.env.locals∧(∀x c,X.env.cells.lookup x=some c→c≠b)∧∀p∈X.pn++pins,p.1≠b)
   (keep:∀b o,b≠X.env.locals→b ∉ X.fs→b ∉ ch→s.heap.get? b=some o→H b=none→h'.get? b=some o)
   (slot:∀b o,b≠X.env.locals→b∈X.fs→b ∉ ch→s.heap.get? b=some o→H b=none→∃sl,h'.get? b=some { o with slots:=sl }) (free:∀b o,b ∉ ch→s.heap.get? b=some o→H b=none→H' b=none)
   (there:∀b o,b ∉ ch→s.heap.get? b=some o→∃o',h'.get? b=some o')
   (tups:∀b xs,H b=some (.tup xs)→H' b=some (.tup xs)) (frzs:∀b o u,H b=some (.frz o u)→H' b=some (.frz o u)) (tbls:∀b ps,H b=some (.tbl ps)→∃more,H' b=some (.tbl (ps++more)))
   (ns:∀m,s.heap.Ns X.env.locals m→h'.Ns X.env.locals m) (hok:HOk X.prog X.w H' h') (hg:AllBare g') :
   Inv X pins σ H' { s with heap:=h',gens:=g',drawn:=d',toks:=t' }:=by
 have neL:∀b o,X.s₀.heap.get? b=some o→b≠X.env.locals:=fun b o e=>Nat.ne_of_lt (Nat.lt_of_lt_of_le (Heap.lt_size e) I.ok.above)
 have neC:∀b o,X.s₀.heap.get? b=some o→b ∉ X.ex→b ∉ ch:=fun b o e hx hb=>by
   rcases(hch b hb).1 with z | z
   · exact hx z
   · exact absurd (Nat.lt_of_lt_of_le (Heap.lt_size e) z) (Nat.lt_irrefl _)
 have cellK:∀x c,X.env.cells.lookup x=some c→∀v,s.heap.IsCell c v→h'.IsCell c v:=fun x c e v ⟨o,ho,hd⟩=>by
   have nch:c ∉ ch:=fun z=>(hch c z).2.2.1 x c e rfl
   by_cases hc:c∈X.fs
   · obtain⟨sl,q⟩:=slot c o (I.cne x c e) hc nch ho (I.freeC x c e)
     exact⟨_,q,hd⟩
   · exact⟨o,keep c o (I.cne x c e) hc nch ho (I.freeC x c e),hd⟩
 refine⟨I.ok,I.os,hg,⟨fun b o e n hb hx=>?_,fun b o e n hb hx=>?_,fun b o e n hx=>?_,fun b o e hx=>?_,fun b xs e=>tups b xs (I.base.tups b xs e),fun b o xs e=>frzs b o xs (I.base.frzs b o xs e),fun b ps e=>?_⟩,?_,fun x c e=>?_,?_,fun x c e=>?_,fun p hp=>?_,hok,I.len⟩
 · exact keep b o (neL b o e) hb (neC b o e hx) (I.base.keep b o e n hb hx) (I.base.free b o e n hx)
 · obtain⟨sl,e1⟩:=I.base.slot b o e n hb hx
   obtain⟨sl',e2⟩:=slot b _ (neL b o e) hb (neC b o e hx) e1 (I.base.free b o e n hx)
   exact⟨sl',e2⟩
 · obtain⟨o',e1⟩:=I.base.there b o e hx
   exact free b o' (neC b o e hx) e1 (I.base.free b o e n hx)
 · obtain⟨o',e1⟩:=I.base.there b o e hx
   exact there b o' (neC b o e hx) e1
 · obtain⟨m1,e1⟩:=I.base.tbls b ps e
   obtain⟨m2,e2⟩:=tbls b _ e1
   exact⟨m1++m2,by rw[e2,Array.append_assoc]⟩
 · obtain⟨m,hn,hl⟩:=I.loc
   refine⟨m,ns m hn,fun i x v e1 e2 e3=>?_⟩
   obtain⟨u,r,l⟩:=hl i x v e1 e2 e3
   refine⟨u,r,?_⟩
   rcases l with l | ⟨k,c,e,z⟩
   · exact .inl l
   · exact .inr ⟨k,c,e,cellK x c e _ z⟩
 · obtain⟨v,z⟩:=I.cell x c e
   exact⟨v,cellK x c e v z⟩
 · obtain⟨m,⟨o,_,_,ho,_⟩,_⟩:=I.loc
   exact free _ o (fun z=>(hch _ z).2.1 rfl) ho I.free
 · obtain⟨v,o,ho,hd⟩:=I.cell x c e
   exact free c o (fun z=>(hch c z).2.2.1 x c e rfl) ho (I.freeC x c e)
 · obtain⟨e,n,ne,nf,d⟩:=I.pin p hp
   have nch:p.1 ∉ ch:=fun z=>(hch p.1 z).2.2.2 p hp rfl
   exact⟨keep p.1 p.2 ne nf nch e n,free p.1 p.2 nch e n,ne,nf,d⟩
theorem Inv.un {t':Nat}(I:Inv X pins σ H s)(u:Un X.fs [] H H' s.heap h')(hok:HOk X.prog X.w H' h'):Inv X pins σ H' { s with heap:=h',toks:=t' }:=by
 obtain⟨m,⟨o,es,ep,ho,r⟩,_⟩:=id I.loc
 obtain⟨sl,hL⟩:=u.any ho I.free (by simp)
 exact I.step (g':=s.gens) (d':=s.drawn) (ch:=[]) (fun _ z=>nomatch z) (fun b o _ hb _ e n=>u.keep b o e n hb (by simp)) (fun b o _ hb _ e n=>u.slot b o e n hb (by simp)) (fun b o _ e n=>u.free b o e n (by simp)) (fun b o _ e=>u.there b o e (by simp)) u.tups u.frzs u.tbls (fun m' hm=>by
   obtain⟨o',es',ep',ho',r'⟩:=hm
   rw[ho] at ho';cases ho'
   exact⟨_,es',ep',hL,r'⟩) hok I.bare
theorem Inv.call {g':Array GenState}{t':Nat}{d':Drawn}{ch:List Addr}(I:Inv X pins σ H s)(u:Un (frs X.stack) ch H H' s.heap h')(hok:HOk X.prog X.w H' h')(hg:AllBare g')
   (hch:∀b∈ch,(b∈X.ex∨X.s₀.heap.objs.size≤b)∧b≠X.env.locals∧(∀x c,X.env.cells.lookup x=some c→c≠b)∧∀p∈X.pn++pins,p.1≠b) :
   Inv X pins σ H' { s with heap:=h',gens:=g',drawn:=d',toks:=t' }:=by
 obtain⟨m,⟨o,es,ep,ho,r⟩,_⟩:=id I.loc
 obtain⟨sl,hL⟩:=u.any ho I.free fun z=>(hch _ z).2.1 rfl
 exact I.step (ch:=ch) hch (fun b o hL hb hc e n=>u.keep b o e n (fun z=>(List.mem_cons.mp (I.stkSub b z)).elim hL hb) hc) (fun b o _ _ hc e n=>u.any e n hc) (fun b o hc e n=>u.free b o e n hc) (fun b o hc e=>u.there b o e hc) u.tups u.frzs u.tbls (fun m' hm=>by
   obtain⟨o',es',ep',ho',r'⟩:=hm
   rw[ho] at ho';cases ho'
   exact⟨_,es',ep',hL,r'⟩) hok hg
theorem Inv.turned {t':Nat}{it:Addr}(I:Inv X pins σ H s)(k:∀b o,b≠it→s.heap.get? b=some o→h'.get? b=some o)(hn:H it=none)(hL:it≠X.env.locals)
   (h1:it∈X.ex∨X.s₀.heap.objs.size≤it) (h2:∀x c,X.env.cells.lookup x=some c→c≠it) (h3:∀p∈X.pn++pins,p.1≠it):Inv X pins σ H { s with heap:=h',toks:=t' }:=by
 have nit:∀b u,H b=some u→b≠it:=fun b u e z=>by rw[z,hn] at e;cases e
 refine I.step (g':=s.gens) (d':=s.drawn) (ch:=[it]) (fun b hb=>?_) (fun b o _ _ hc e _=>k b o (fun z=>hc (by simp [z])) e) (fun b o _ _ hc e _=>⟨o.slots,k b o (fun z=>hc (by simp [z])) e⟩) (fun _ _ _ _ n=>n)
   (fun b o hc e=>⟨o,k b o (fun z=>hc (by simp [z])) e⟩) (fun _ _ e=>e) (fun _ _ _ e=>e) (fun b ps e=>⟨#[],by rw[e];simp⟩) (fun m hm=>?_) (fun b u e=>?_) I.bare
 · have e:b=it:=by simpa using hb
   subst e
   exact⟨h1,hL,h2,h3⟩
 · obtain⟨o,es,ep,ho,r⟩:=hm
   exact⟨o,es,ep,k _ o (Ne.symm hL) ho,r⟩
 · refine(I.hok b u e).stay (fun c v hc q=>k c v ?_ q) (fun _ q=>q) fun _ _ q=>q
   rcases hc with z | z
   · rw[z];exact nit b u e
   · exact nit c _ z
theorem Inv.tok (I:Inv X pins σ H s)(t:Nat):Inv X pins σ H { s with toks:=t }:=I.un (h':=s.heap) (t':=t) Un.refl I.hok
theorem Inv.kept {t':Nat}(I:Inv X pins σ H s)(k:∀b u,s.heap.get? b=some u→h'.get? b=some u):Inv X pins σ H { s with heap:=h',toks:=t' }:=I.un (Un.kept k) (I.hok.kept k)
theorem Inv.laid {a:Addr}{o:HO}{t':Nat}(I:Inv X pins σ H s)(k:∀b u,s.heap.get? b=some u→h'.get? b=some u)(hp:s.heap.objs.size≤a)(new:Xdy X.prog X.w (upd H a o) h' a o) :
   Inv X pins σ (upd H a o) { s with heap:=h',toks:=t' }:=I.un (Un.laid k hp (I.hok.fresh hp)) (I.hok.laid k hp new)
theorem Inv.write {x e:Addr}{o:HO}{t':Nat}(I:Inv X pins σ H s)(mu:Mut (H x))(he:e=x∨H e=some (.own x))(k:∀b u,b≠e→s.heap.get? b=some u→h'.get? b=some u)(heo:∃u,h'.get? e=some u)
   (new:Xdy X.prog X.w (upd H x o) h' x o):Inv X pins σ (upd H x o) { s with heap:=h',toks:=t' }:=I.un (Un.write mu he k heo) (I.hok.write mu he k heo new)
theorem Inv.pins_of {pins':List (Addr×Obj)}(I:Inv X pins σ H s)(h:∀p∈pins',s.heap.get? p.1=some p.2∧H p.1=none∧p.1≠X.env.locals∧p.1 ∉ X.fs∧∀v,p.2.data≠.cell v):Inv X pins' σ H s :=
 ⟨I.ok,I.os,I.bare,I.base,I.loc,I.cell,I.free,I.freeC,fun p hp=>(List.mem_append.mp hp).elim (fun z=>I.pin p (List.mem_append_left _ z)) (h p),I.hok,I.len⟩
theorem Xjs {N:List Str}(hN:N.Nodup){i j:Nat}{x:Str}(a:N[i]?=some x)(b:N[j]?=some x):i=j:=by
 obtain⟨h1,e1⟩:=List.getElem?_eq_some_iff.mp a
 obtain⟨h2,e2⟩:=List.getElem?_eq_some_iff.mp b
 exact(List.getElem_inj hN).mp (e1.trans e2.symm)
theorem Xlp {M:Model}{A:Around}{E:Value→Shared→Prop}{i:Nat}{x:Str}{v:V}{u:Value}{Q:Unit→Shared→Prop}(I:Inv X pins σ H s)(hN:X.N.Nodup)(hi:X.N[i]?=some x)(hx:Loc X.env.scope x)(r:RelV v u)
   (h:∀s',Inv X pins (σ.set i (some v)) H s'→(∃a,Heap.SameBut a s.heap s'.heap∧(a=X.env.locals∨X.env.cells.lookup x=some a))→Q () s') (hf:X.fn x=true∨X.env.scope.names.lookup x=some .local:=by first | exact .inl rfl | exact .inr rfl | assumption):wpAny M A (storeName X.env x u) Q E s:=by
 obtain⟨m,hn,hl⟩:=id I.loc
 have hcls:(X.env.scope.kind==.class||(X.env.scope.kind==.module&&X.env.locals != X.env.globals))=false:=by rw[I.ok.kind];rfl
 have hiσ:i<σ.length:=by rw[I.len];exact(List.getElem?_eq_some_iff.mp hi).1
 have cne:=I.cne
 have tracked:∀{a:Addr} {h':Heap},(∃o,s.heap.get? a=some o∧H a=none)→Heap.SameBut a s.heap h'→HOk X.prog X.w H h':=fun {a h'} ha hs b ob e=>by
   obtain⟨_,_,hfree⟩:=ha
   refine(I.hok b ob e).stay (fun c w' hc q=>(hs.2 c ?_).trans q) (fun _ q=>q) fun _ _ q=>q
   rintro rfl
   rcases hc with rfl | hc
   · rw[hfree] at e;cases e
   · rw[hfree] at hc;cases hc
 rcases hx with hk | hk
 · refine wpAny_storeName_local hk hn (fun h' hn' hs=>?_) hcls
   obtain⟨oL,_,_,hoL,_⟩:=id hn
   refine h _ ⟨I.ok,I.os,I.bare,⟨fun b o e n hb hx=>?_,fun b o e n hb hx=>?_,I.base.free,fun b o e hx=>?_,I.base.tups,I.base.frzs,I.base.tbls⟩,⟨_,hn',fun j y v' e1 e2 e3=>?_⟩,fun y c e=>?_,I.free,I.freeC,fun p hp=>?_,tracked ⟨oL,hoL,I.free⟩ hs,by simpa using I.len⟩ ⟨_,hs,.inl rfl⟩
   · exact(hs.2 b (Nat.ne_of_lt (Nat.lt_of_lt_of_le (Heap.lt_size e) I.ok.above))).trans (I.base.keep b o e n hb hx)
   · obtain⟨sl,e1⟩:=I.base.slot b o e n hb hx
     exact⟨sl,(hs.2 b (Nat.ne_of_lt (Nat.lt_of_lt_of_le (Heap.lt_size e) I.ok.above))).trans e1⟩
   · obtain⟨o',e1⟩:=I.base.there b o e hx
     exact⟨o',(hs.2 b (Nat.ne_of_lt (Nat.lt_of_lt_of_le (Heap.lt_size e) I.ok.above))).trans e1⟩
   · by_cases hj:j=i
     · subst hj
       rw[hi] at e1;cases e1
       rw[List.getElem?_set_self hiσ] at e2
       cases e2
       exact⟨u,r,.inl ⟨hk,by simp⟩⟩
     · rw[List.getElem?_set_ne (Ne.symm hj)] at e2
       obtain⟨u',r',q⟩:=hl j y v' e1 e2 e3
       refine⟨u',r',?_⟩
       rcases q with ⟨k,e⟩ | ⟨k,c,e,z⟩
       · refine .inl ⟨k,?_⟩
         have:y≠x:=fun e=>hj (Xjs hN e1 (e▸hi))
         simp [this,e]
       · exact .inr ⟨k,c,e,z.sameBut hs (cne y c e)⟩
   · obtain⟨w',z⟩:=I.cell y c e
     exact⟨w',z.sameBut hs (cne y c e)⟩
   · obtain⟨e,n,ne,nf,d⟩:=I.pin p hp
     exact⟨(hs.2 p.1 ne).trans e,n,ne,nf,d⟩
 · have hfn:X.fn x=true:=by
     rcases hf with z | z
     · exact z
     · rw[z] at hk;cases hk
   obtain⟨c,hc⟩:=I.ok.has x (.inl hk)
   obtain⟨w',z⟩:=I.cell x c hc
   refine wpAny_storeName_cell I.ok.kind hk hc z (fun h' hc' hs=>?_)
   obtain⟨oc,hoc,hocd⟩:=id z
   refine h { s with heap:=h' } ⟨I.ok,I.os,I.bare,⟨fun b o e n hb hx=>?_,fun b o e n hb hx=>?_,I.base.free,fun b o e hx=>?_,I.base.tups,I.base.frzs,I.base.tbls⟩,⟨m,hn.sameBut hs (Ne.symm (cne x c hc)),fun j y v' e1 e2 e3=>?_⟩,fun y c' e=>?_,I.free,I.freeC,fun p hp=>?_,tracked ⟨oc,hoc,I.freeC x c hc⟩ hs,by simpa using I.len⟩ ⟨c,hs,.inr hc⟩
   · exact(hs.2 b (Nat.ne_of_lt (Nat.lt_of_lt_of_le (Heap.lt_size e) (I.ok.cab x c hfn hc)))).trans (I.base.keep b o e n hb hx)
   · obtain⟨sl,e1⟩:=I.base.slot b o e n hb hx
     exact⟨sl,(hs.2 b (Nat.ne_of_lt (Nat.lt_of_lt_of_le (Heap.lt_size e) (I.ok.cab x c hfn hc)))).trans e1⟩
   · obtain⟨o',e1⟩:=I.base.there b o e hx
     exact⟨o',(hs.2 b (Nat.ne_of_lt (Nat.lt_of_lt_of_le (Heap.lt_size e) (I.ok.cab x c hfn hc)))).trans e1⟩
   · by_cases hj:j=i
     · subst hj
       rw[hi] at e1;cases e1
       rw[List.getElem?_set_self hiσ] at e2
       cases e2
       exact⟨u,r,.inr ⟨.inl hk,c,hc,hc'⟩⟩
     · rw[List.getElem?_set_ne (Ne.symm hj)] at e2
       obtain⟨u',r',q⟩:=hl j y v' e1 e2 e3
       refine⟨u',r',?_⟩
       rcases q with q | ⟨k,c',e,z'⟩
       · exact .inl q
       · refine .inr ⟨k,c',e,z'.sameBut hs ?_⟩
         rintro rfl
         exact hj (Xjs hN e1 (I.ok.inj _ _ _ e hc▸hi))
   · by_cases hcc:c'=c
     · subst hcc;exact⟨_,hc'⟩
     · obtain⟨w2,z2⟩:=I.cell y c' e
       exact⟨w2,z2.sameBut hs hcc⟩
   · obtain⟨e,n,ne,nf,d⟩:=I.pin p hp
     refine⟨(hs.2 p.1 ?_).trans e,n,ne,nf,d⟩
     intro q
     rw[q,hoc] at e
     have q':oc=p.2:=Option.some.inj e
     exact d w' (by rw[←q'];exact hocd)
theorem Xgd {M:Model}{A:Around}{E:Value→Shared→Prop}{i:Nat}{x:Str}{v:V}{u:Value}{Q:Unit→Shared→Prop}(I:Inv X pins σ H s)(hN:X.N.Nodup)(hi:X.N[i]?=some x)(hx:Loc X.env.scope x)(r:RelV v u)
   (h:∀s',Inv X pins (σ.set i (some v)) H s'→Q () s') (hf:X.fn x=true∨X.env.scope.names.lookup x=some .local:=by first | exact .inl rfl | exact .inr rfl | assumption):wpAny M A (storeName X.env x u) Q E s :=
 Xlp I hN hi hx r (fun s' I' _=>h s' I') hf
theorem Inv.call' {s':Shared}{ch:List Addr}(I:Inv X pins σ H s)(ho:s'.os=s.os)(u:Un (frs X.stack) ch H H' s.heap s'.heap)(hok:HOk X.prog X.w H' s'.heap)(hg:AllBare s'.gens)
   (hch:∀b∈ch,(b∈X.ex∨X.s₀.heap.objs.size≤b)∧b≠X.env.locals∧(∀x c,X.env.cells.lookup x=some c→c≠b)∧∀p∈X.pn++pins,p.1≠b):Inv X pins σ H' s':=by
 obtain⟨h',g',d',t',o'⟩:=s'
 have e:o'=s.os:=ho
 subst e
 exact I.call (g':=g') (t':=t') (d':=d') u hok hg hch
end
abbrev XK:=Value→Option Addr→Hp→Prop
abbrev St:=List (Option V)
abbrev VK:=V→Hp→Prop
abbrev TE:=St→Hp→VK→Prop
abbrev TT:=St→Hp→(Bool→Hp→Prop)→Prop
abbrev TA:=St→Hp→(List V→Hp→Prop)→Prop
structure Ends where
 nx:St→Hp→Prop
 rt:VK
 bk:St→Hp→Prop:=fun _ _=>False
 ct:St→Hp→Prop:=fun _ _=>False
abbrev TS:=Ends→St→Hp→Prop
def EP (X:Cx)(pins:List (Addr×Obj))(σ:St)(Q:VK)(u:Value)(s':Shared):Prop:=∃v H',Inv X pins σ H' s'∧RelV v u∧Q v H'
def TP (X:Cx)(pins:List (Addr×Obj))(σ:St)(Q:Bool→Hp→Prop)(b:Bool)(s':Shared):Prop:=∃H',Inv X pins σ H' s'∧Q b H'
def AP (X:Cx)(pins:List (Addr×Obj))(σ:St)(Q:List V→Hp→Prop)(us:List Value)(s':Shared):Prop:=∃vs H',Inv X pins σ H' s'∧Vals vs us∧Q vs H'
def SP (X:Cx)(pins:List (Addr×Obj))(D:Ends)(f:Flow)(s':Shared):Prop :=
 match f with
 | .next=>∃σ' H',Inv X pins σ' H' s'∧D.nx σ' H'
 | .brk=>∃σ' H',Inv X pins σ' H' s'∧D.bk σ' H'
 | .cont=>∃σ' H',Inv X pins σ' H' s'∧D.ct σ' H'
 | .ret u=>∃v σ' H',Inv X pins σ' H' s'∧RelV v u∧D.rt v H'
def PE (X:Cx)(e:Expr)(t:TE):Prop :=
 ∀(pins:List (Addr×Obj)) (s:Shared) (σ:St) (H:Hp) (Q:VK),Inv X pins σ H s→t σ H Q→wpAny (model X.prog X.w) X.A (eval e X.env) (EP X pins σ Q) X.xe s
def PT (X:Cx)(e:Expr)(t:TT):Prop :=
 ∀(pins:List (Addr×Obj)) (s:Shared) (σ:St) (H:Hp) (Q:Bool→Hp→Prop),Inv X pins σ H s→t σ H Q→wpAny (model X.prog X.w) X.A (isTrue e X.env (eval e X.env)) (TP X pins σ Q) X.xe s
def PW (X:Cx)(e:Expr)(t:TT):Prop :=
 ∀(whole:Sem Value) (pins:List (Addr×Obj)) (s:Shared) (σ:St) (H:Hp) (Q:Bool→Hp→Prop),Inv X pins σ H s→t σ H Q→wpAny (model X.prog X.w) X.A (isTrue e X.env whole) (TP X pins σ Q) X.xe s
theorem PW.pt {X:Cx}{e:Expr}{t:TT}(h:PW X e t):PT X e t:=h _
def PA (X:Cx)(es:List Expr)(t:TA):Prop :=
 ∀(pos:Pos) (pins:List (Addr×Obj)) (s:Shared) (σ:St) (H:Hp) (Q:List V→Hp→Prop),Inv X pins σ H s→t σ H Q→wpAny (model X.prog X.w) X.A (spliced (backTo pos (starEach es X.env))) (AP X pins σ Q) X.xe s
def PS (X:Cx)(st:Stmt)(t:TS):Prop :=
 ∀(pins:List (Addr×Obj)) (s:Shared) (σ:St) (H:Hp) (D:Ends),Inv X pins σ H s→t D σ H→wpAny (model X.prog X.w) X.A (exec st X.env) (SP X pins D) X.xe s
def PSs (X:Cx)(st:List Stmt)(t:TS):Prop :=
 ∀(pins:List (Addr×Obj)) (s:Shared) (σ:St) (H:Hp) (D:Ends),Inv X pins σ H s→t D σ H→wpAny (model X.prog X.w) X.A (execs st X.env) (SP X pins D) X.xe s
theorem thn {α:Type}{t:Sem α}{Q Q':α→Shared→Prop}{M:Model}{A:Around}{E:Value→Shared→Prop}{s:Shared}(h:wpAny M A t Q E s)(hQ:∀a s,Q a s→Q' a s):wpAny M A t Q' E s:=wpAny_mono h hQ fun _ _ x=>x
end L2
namespace L2
open PySem PySem.Spec PyProof.Rows
section
variable {X:Cx}
theorem bin {a b:Expr}{ta tb:TE}(ha:PE X a ta)(hb:PE X b tb){pins:List (Addr×Obj)}{s:Shared}{σ:St}{H:Hp}{R:V→V→Hp→Prop}(I:Inv X pins σ H s)(h:ta σ H fun x H1=>tb σ H1 fun y H2=>R x y H2)
   {α:Type} {Q:α→Shared→Prop} {f:Value→Value→Sem α}
   (hf:∀v u s2 x y H2,Inv X pins σ H2 s2→RelV x v→RelV y u→R x y H2→wpAny (model X.prog X.w) X.A (f v u) Q X.xe s2) :
   wpAny (model X.prog X.w) X.A (eval a X.env) (fun v s₁=>wpAny (model X.prog X.w) X.A (eval b X.env) (fun u s₂=>wpAny (model X.prog X.w) X.A (f v u) Q X.xe s₂) X.xe s₁) X.xe s:=by
 refine thn (ha pins s σ H _ I h) fun v s1 ⟨x,H1,I1,r1,q1⟩=>?_
 refine thn (hb pins s1 σ H1 _ I1 q1) fun u s2 ⟨y,H2,I2,r2,q2⟩=>?_
 exact hf v u s2 x y H2 I2 r1 r2 q2
def tVar (i:Nat):TE:=fun σ H Q=>∃v,σ[i]?=some (some v)∧Q v H
def tC (v:V):TE:=fun _ H Q=>Q v H
theorem XPt {i:Nat}{x:Str}{pos:Pos}(hN:X.N[i]?=some x)(hv:Vis X.env.scope x)(hd:(x==("__debug__":Str))=false:=by decide)(hcd:(x==("__classdict__":Str))=false:=by decide):PE X (.Name x pos) (tVar i):=by
 intro pins s σ H Q I h
 obtain⟨v,e,h⟩:=h
 obtain⟨m,hn,hl⟩:=I.loc
 obtain⟨u,r,l⟩:=hl i x v hN e hv
 have fin:EP X pins σ Q u s:=⟨v,H,I,r,h⟩
 rcases l with ⟨hk,hm⟩ | ⟨hk,c,hc,hcell⟩
 · exact wpAny_Name (wpAny_loadName_local I.ok.kind hk hn hm fin) hd
 · rcases hk with hk | hk
   · exact wpAny_Name (wpAny_loadName_cell I.ok.kind hk hc hcell fin) hd
   · exact wpAny_Name (wpAny_loadName_free I.ok.kind hk hc hcell fin hcd) hd
theorem Xag {i j pos}:PE X (.Constant (.int i) j pos) (tC (.int i)):=fun _ _ _ H _ I h=>wpAny_Constant_int ⟨.int i,H,I.tok _,⟨_,rfl⟩,h⟩
theorem Xcz {b j pos}:PE X (.Constant (.bool b) j pos) (tC (.bl b)):=fun _ _ _ H _ I h=>Constant_bool ⟨.bl b,H,I,rfl,h⟩
theorem Xge {j pos}:PE X (.Constant .none j pos) (tC .non):=fun _ _ _ H _ I h=>Constant_none ⟨.non,H,I,rfl,h⟩
theorem Xay {x j pos}:PE X (.Constant (.str x) j pos) (tC (.str x)):=fun _ _ _ H _ I h=>Calls.Constant_str ⟨.str x,H,I.tok _,⟨_,rfl⟩,h⟩
def Gl (X:Cx)(x:Str):Prop:=X.env.kindOf x=some .globalImplicit
theorem Xde {E:Value→Shared→Prop}{pins:List (Addr×Obj)}{s:Shared}{σ:St}{H:Hp}{x:Str}{u:Value}{pos:Pos}{Q:Value→Shared→Prop}(I:Inv X pins σ H s)(hg:Gl X x)(hm:X.mg x=some u)(h:Q u s)
   (hd:(x==("__debug__":Str))=false:=by decide):wpAny (model X.prog X.w) X.A (eval (.Name x pos) X.env) Q E s :=
 Calls.Name_function_global I.ok.kind hg (Calls.loadGlobal_global (by rw[I.ok.glob];exact I.mod.glob.keeps I.bk) hm h) hd
theorem Xly {E:Value→Shared→Prop}{pins:List (Addr×Obj)}{s:Shared}{σ:St}{H:Hp}{x:Str}{u:Value}{pos:Pos}{Q:Value→Shared→Prop}(I:Inv X pins σ H s)(hg:Gl X x)(hm:X.mg x=none)(hv:bootBuiltins x=some u)(h:Q u s)
   (hn:x≠"__name__":=by decide) (hd:(x==("__debug__":Str))=false:=by decide):wpAny (model X.prog X.w) X.A (eval (.Name x pos) X.env) Q E s:=by
 obtain⟨mb,h1,h2⟩:=I.mod.blt
 exact Calls.Name_function_global I.ok.kind hg (Calls.loadGlobal_builtin (by rw[I.ok.glob];exact I.mod.glob.keeps I.bk) hm (by rw[I.ok.blt];exact h1.keeps I.bk) ((h2 x hn).trans hv) h) hd
theorem Xbb {x:Str}{v:V}{u:Value}{pos:Pos}(hg:Gl X x)(hm:X.mg x=some u)(r:RelV v u)(hd:(x==("__debug__":Str))=false:=by decide):PE X (.Name x pos) (tC v) :=
 fun _ _ _ H _ I h=>Xde I hg hm ⟨v,H,I,r,h⟩ hd
theorem Xgj {x:Str}{v:V}{u:Value}{pos:Pos}(hg:Gl X x)(hm:X.mg x=none)(hv:bootBuiltins x=some u)(r:RelV v u)(hn:x≠"__name__":=by decide)(hd:(x==("__debug__":Str))=false:=by decide):PE X (.Name x pos) (tC v) :=
 fun _ _ _ H _ I h=>Xly I hg hm hv ⟨v,H,I,r,h⟩ hn hd
variable {a b:Expr}{ta tb:TE}{pos:Pos}
def PC (X:Cx)(op:CmpOp)(a b:Expr)(t:TE):Prop :=
 ∀(pins:List (Addr×Obj)) (s:Shared) (σ:St) (H:Hp) (Q:VK),Inv X pins σ H s→t σ H Q →
   wpAny (model X.prog X.w) X.A (eval a X.env) (fun v s₁=>wpAny (model X.prog X.w) X.A (eval b X.env) (fun u s₂=>wpAny (model X.prog X.w) X.A (compareOp op v u) (EP X pins σ Q) X.xe s₂) X.xe s₁) X.xe s
theorem XAo (b:Expr){op:CmpOp}(h:op≠.In)(h2:op≠.NotIn):behindInMarks op b=false:=by
 have e1:(op==CmpOp.In)=false:=by cases op <;> first | rfl | exact absurd rfl h
 have e2:(op==CmpOp.NotIn)=false:=by cases op <;> first | rfl | exact absurd rfl h2
 cases b <;> simp [behindInMarks,e1,e2]
def tB (t:TE):TT:=fun σ H Q=>t σ H fun x H1=>∃c,x = .bl c∧Q c H1
theorem pt_cmp {op:CmpOp}{t:TE}(h:PC X op a b t)(h1:behindInMarks op b=false:=by first | exact XAo _ (by decide) (by decide) | rfl):PT X (.Compare a [op] [b] pos) (tB t):=by
 intro pins s σ H Q I hw
 refine wpAny_isTrue_Compare1 (thn (h pins s σ H _ I hw) fun v s1 h1=>thn h1 fun u s2 h2=>thn h2 fun c s3 ⟨x,H1,I1,r1,q1⟩=>?_) h1
 obtain⟨d,rfl,q⟩:=q1
 cases r1
 exact wpAny_truthy_bool ⟨H1,I1,q⟩
theorem Xfg {e:Expr}{t:TE}(h:PE X e t)(he:∀whole,isTrue e X.env whole=(do let v ←whole;standAt e.pos;holding [v] (truthy v)):=by intro _;rfl):PT X e (tB t):=by
 intro pins s σ H Q I hw
 refine isTrue_plain (thn (h pins s σ H _ I hw) fun v s1 ⟨x,H1,I1,r1,q1⟩=>?_) (he _)
 obtain⟨d,rfl,q⟩:=q1
 cases r1
 exact wpAny_truthy_bool ⟨H1,I1,q⟩
variable {tA tB':TT}{rest:List Expr}
def tAnd (t u:TT):TT:=fun σ H Q=>t σ H fun c H1=>if c=true then u σ H1 Q else Q false H1
def tOr (t u:TT):TT:=fun σ H Q=>t σ H fun c H1=>if c=true then Q true H1 else u σ H1 Q
def tNot (t:TT):TT:=fun σ H Q=>t σ H fun c H1=>Q (!c) H1
theorem Xfm (ha:PT X a tA):PW X (.BoolOp .And [a] pos) tA:=by
 intro wh pins s σ H Q I h
 refine isTrue_and (thn (ha pins s σ H Q I h) fun c s1 e=>?_)
 cases c with
 | true=>exact isTrue_and_nil e
 | false=>exact e
theorem Xgr (ha:PT X a tA):PW X (.BoolOp .Or [a] pos) tA:=by
 intro wh pins s σ H Q I h
 refine isTrue_or (thn (ha pins s σ H Q I h) fun c s1 e=>?_)
 cases c with
 | false=>exact isTrue_or_nil e
 | true=>exact e
theorem Xih (ha:PT X a tA)(hb:PW X (.BoolOp .And (b::rest) pos) tB'):PW X (.BoolOp .And (a::b::rest) pos) (tAnd tA tB'):=by
 intro wh pins s σ H Q I h
 refine isTrue_and (thn (ha pins s σ H _ I h) fun c s1 ⟨H1,I1,q1⟩=>?_)
 cases c with
 | true=>exact hb wh pins s1 σ H1 Q I1 q1
 | false=>exact⟨H1,I1,q1⟩
theorem Xir (ha:PT X a tA)(hb:PW X (.BoolOp .Or (b::rest) pos) tB'):PW X (.BoolOp .Or (a::b::rest) pos) (tOr tA tB'):=by
 intro wh pins s σ H Q I h
 refine isTrue_or (thn (ha pins s σ H _ I h) fun c s1 ⟨H1,I1,q1⟩=>?_)
 cases c with
 | true=>exact⟨H1,I1,q1⟩
 | false=>exact hb wh pins s1 σ H1 Q I1 q1
theorem Xcs (ha:PT X a tA):PT X (.UnaryOp .Not a pos) (tNot tA):=by
 intro pins s σ H Q I h
 exact isTrue_not (ha pins s σ H (fun c H1=>Q (!c) H1) I h)
def XAf (ta tb:TE):TE:=fun σ H Q=>ta σ H fun x H1=>∃c,x = .bl c∧if c=true then tb σ H1 Q else Q (.bl false) H1
def tOrV (ta tb:TE):TE:=fun σ H Q=>ta σ H fun x H1=>∃c,x = .bl c∧if c=true then Q (.bl true) H1 else tb σ H1 Q
def XMx (ta:TE):TE:=fun σ H Q=>ta σ H fun x H1=>∃c,x = .bl c∧Q (.bl (!c)) H1
theorem Xfj {op}{t:TE}(h:PE X a t):PE X (.BoolOp op [a] pos) t:=fun pins s σ H Q I hw=>BoolOp_one (h pins s σ H Q I hw)
theorem Xej (ha:PE X a ta)(hb:PE X (.BoolOp .And (b::rest) pos) tb):PE X (.BoolOp .And (a::b::rest) pos) (XAf ta tb):=by
 intro pins s σ H Q I h
 refine BoolOp_and (thn (ha pins s σ H _ I h) fun v s1 ⟨x,H1,I1,r1,q1⟩=>?_)
 obtain⟨c,rfl,q1⟩:=q1
 cases r1
 refine wpAny_truthy_bool ?_
 cases c with
 | true=>exact hb pins s1 σ H1 Q I1 q1
 | false=>exact⟨.bl false,H1,I1,rfl,q1⟩
theorem pe_or (ha:PE X a ta)(hb:PE X (.BoolOp .Or (b::rest) pos) tb):PE X (.BoolOp .Or (a::b::rest) pos) (tOrV ta tb):=by
 intro pins s σ H Q I h
 refine BoolOp_or (thn (ha pins s σ H _ I h) fun v s1 ⟨x,H1,I1,r1,q1⟩=>?_)
 obtain⟨c,rfl,q1⟩:=q1
 cases r1
 refine wpAny_truthy_bool ?_
 cases c with
 | false=>exact hb pins s1 σ H1 Q I1 q1
 | true=>exact⟨.bl true,H1,I1,rfl,q1⟩
theorem XCc (ha:PE X a ta):PE X (.UnaryOp .Not a pos) (XMx ta):=by
 intro pins s σ H Q I h
 refine UnaryOp_ (thn (ha pins s σ H _ I h) fun v s1 ⟨x,H1,I1,r1,q1⟩=>?_)
 obtain⟨c,rfl,q1⟩:=q1
 cases r1
 exact not_of (wpAny_truthy_bool ⟨.bl (!c),H1,I1,rfl,q1⟩)
def tIf (t:TT)(ta tb:TE):TE:=fun σ H Q=>t σ H fun c H1=>if c=true then ta σ H1 Q else tb σ H1 Q
theorem XBl {c:Expr}(hc:PT X c tA)(ha:PE X a ta)(hb:PE X b tb):PE X (.IfExp c a b pos) (tIf tA ta tb):=by
 intro pins s σ H Q I h
 refine wpAny_IfExp (thn (hc pins s σ H _ I h) fun d s1 ⟨H1,I1,q1⟩=>?_)
 cases d with
 | true=>exact ha pins s1 σ H1 Q I1 q1
 | false=>exact hb pins s1 σ H1 Q I1 q1
end
end L2
namespace L2
open PySem PySem.Spec PyProof.Rows
def SqL (K:PySem.W.Frag)(H:Hp)(a:Addr)(xs:List V):Prop :=
 Rd H a (.lst xs) ∨
   ∃(o:Obj) (its:Array Value) (n:Nat),K.lookup a=some o∧o.cls = .type "list"∧o.dict=none∧o.data = .seq its n∧its.size≤sizeLine∧Vals xs its.toList
def SqT (K:PySem.W.Frag)(H:Hp)(a:Addr)(xs:List V):Prop :=
 Rd H a (.tup xs) ∨
   ∃(o:Obj) (its:Array Value) (n:Nat),K.lookup a=some o∧o.cls = .type "tuple"∧o.data = .seq its n∧its.size≤sizeLine∧Vals xs its.toList
def absV:Value→Option V
 | .none=>some .non
 | .bool b=>some (.bl b)
 | .int i _=>some (.int i)
 | .str x _=>some (.str x)
 | .bytes b _=>some (.byt b)
 | .float b _=>some (.flt b)
 | .ref a=>some (.ref a)
 | .type n=>some (.ty n)
 | _=>none
theorem RelV.abs {x:V}{u:Value}(r:RelV x u):absV u=some x:=by
 cases x with
 | non=>cases r;rfl
 | bl _=>cases r;rfl
 | int _=>obtain⟨t,rfl⟩:=r;rfl
 | str _=>obtain⟨t,rfl⟩:=r;rfl
 | byt _=>obtain⟨t,rfl⟩:=r;rfl
 | flt _=>obtain⟨t,rfl⟩:=r;rfl
 | ref _=>cases r;rfl
 | ty _=>cases r;rfl
theorem RelV.inj {x y:V}{u:Value}(r:RelV x u)(q:RelV y u):x=y:=Option.some.inj (r.abs.symm.trans q.abs)
theorem Vals.inj:∀{xs ys:List V} {us:List Value},Vals xs us→Vals ys us→xs=ys
 | _,_,_,.nil,.nil=>rfl
 | _,_,_,.cons r t,.cons r' t'=>by rw[r.inj r',Vals.inj t t']
section
variable {X:Cx}{pins:List (Addr×Obj)}{σ:St}{H:Hp}{s:Shared}{a:Addr}{xs ys:List V}
theorem SqL.of {K:PySem.W.Frag}(h:H a=some (.lst xs)):SqL K H a xs:=.inl (.inl h)
theorem SqT.of {K:PySem.W.Frag}(h:H a=some (.tup xs)):SqT K H a xs:=.inl (.inl h)
theorem Inv.list (I:Inv X pins σ H s)(h:SqL X.K H a xs):∃its:List Value,Vals xs its∧PlainL s.heap a its.toArray∧xs.length≤sizeLine:=by
 rcases h with h | ⟨o,its,n,hk,hc,hd,hs,hz,r⟩
 · obtain⟨z,its,n,r,e⟩:=h.ok I.hok
   exact⟨its,r,⟨_,n,e,rfl,rfl,rfl⟩,z⟩
 · refine⟨its.toList,r,⟨o,n,I.kIn a o hk,hc,hd,by simpa using hs⟩,?_⟩
   have e:=r.length
   simp only [Array.length_toList] at e
   omega
theorem Inv.tuple (I:Inv X pins σ H s)(h:SqT X.K H a xs):∃its:List Value,Vals xs its∧IsTup s.heap a its.toArray∧xs.length≤sizeLine:=by
 rcases h with h | ⟨o,its,n,hk,hc,hs,hz,r⟩
 · obtain⟨z,its,r,p⟩:=h.ok I.hok
   exact⟨its,r,p,z⟩
 · refine⟨its.toList,r,⟨o,I.kIn a o hk,hc,n,by simpa using hs⟩,?_⟩
   have e:=r.length
   simp only [Array.length_toList] at e
   omega
theorem Inv.list_inj (I:Inv X pins σ H s)(h:SqL X.K H a xs)(h':SqL X.K H a ys):xs=ys:=by
 obtain⟨its,r,⟨o,n,e,_,_,d⟩,_⟩:=I.list h
 obtain⟨its',r',⟨o',n',e',_,_,d'⟩,_⟩:=I.list h'
 rw[e] at e';cases e'
 rw[d] at d'
 injection d' with d1 _
 have:its=its':=by simpa using congrArg Array.toList d1
 subst this
 exact r.inj r'
end
abbrev Cx.wish (X:Cx)(E:Value→Shared→Prop):Cx:={ X with xe:=E }
abbrev Cx.nox (X:Cx):Cx:=X.wish fun _ _=>False
theorem Cx.Ok.wish {X:Cx}(ok:X.Ok)(E:Value→Shared→Prop):(X.wish E).Ok :=
 ⟨ok.mod,ok.kind,ok.glob,ok.blt,ok.above,ok.inj,ok.has,ok.cab,ok.hd,ok.frames,ok.stk,ok.exf,ok.bs,ok.bsz,ok.noex,ok.exfs,ok.funs,ok.frf⟩
theorem Cx.Ok.unwish {X:Cx}{E:Value→Shared→Prop}(ok:(X.wish E).Ok):X.Ok :=
 ⟨ok.mod,ok.kind,ok.glob,ok.blt,ok.above,ok.inj,ok.has,ok.cab,ok.hd,ok.frames,ok.stk,ok.exf,ok.bs,ok.bsz,ok.noex,ok.exfs,ok.funs,ok.frf⟩
section
variable {X:Cx}{pins:List (Addr×Obj)}{σ:St}{H:Hp}{s:Shared}{E:Value→Shared→Prop}
theorem Inv.wish (I:Inv X pins σ H s)(E:Value→Shared→Prop):Inv (X.wish E) pins σ H s:=⟨I.ok.wish E,I.os,I.bare,I.base,I.loc,I.cell,I.free,I.freeC,I.pin,I.hok,I.len⟩
theorem Inv.unwish (I:Inv (X.wish E) pins σ H s):Inv X pins σ H s:=⟨I.ok.unwish,I.os,I.bare,I.base,I.loc,I.cell,I.free,I.freeC,I.pin,I.hok,I.len⟩
theorem SP.unwish {D:Ends}{f:Flow}{s':Shared}(h:SP (X.wish E) pins D f s'):SP X pins D f s':=by
 cases f with
 | next=>obtain⟨σ',H',I,q⟩:=h;exact⟨σ',H',I.unwish,q⟩
 | brk=>obtain⟨σ',H',I,q⟩:=h;exact⟨σ',H',I.unwish,q⟩
 | cont=>obtain⟨σ',H',I,q⟩:=h;exact⟨σ',H',I.unwish,q⟩
 | ret u=>obtain⟨v,σ',H',I,r,q⟩:=h;exact⟨v,σ',H',I.unwish,r,q⟩
theorem PE.nox {e:Expr}{t:TE}(h:PE X.nox e t):PE X e t:=fun pins s σ H Q I hw =>
 wpAny_mono (h pins s σ H Q (I.wish _) hw) (fun _ _ ⟨v,H',I',r,q⟩=>⟨v,H',I'.unwish,r,q⟩) fun _ _ z=>False.elim z
theorem PT.nox {e:Expr}{t:TT}(h:PT X.nox e t):PT X e t:=fun pins s σ H Q I hw =>
 wpAny_mono (h pins s σ H Q (I.wish _) hw) (fun _ _ ⟨H',I',q⟩=>⟨H',I'.unwish,q⟩) fun _ _ z=>False.elim z
theorem PSs.nox {st:List Stmt}{t:TS}(h:PSs X.nox st t):PSs X st t:=fun pins s σ H D I hw =>
 wpAny_mono (h pins s σ H D (I.wish _) hw) (fun _ _ q=>q.unwish) fun _ _ z=>False.elim z
end
section
variable {X:Cx}{st:Stmt}{rest:List Stmt}{t u:TS}{e:Expr}{te:TE}{pos:Pos}
def XIr:TS:=fun D σ H=>D.nx σ H
def tSeq (t u:TS):TS:=fun D σ H=>t { D with nx:=u D } σ H
theorem Xan:PSs X [] XIr:=fun _ _ σ H _ I h=>wpAny_execs_nil ⟨σ,H,I,h⟩
theorem Xab (h1:PS X st t)(h2:PSs X rest u):PSs X (st::rest) (tSeq t u):=by
 intro pins s σ H D I h
 refine wpAny_execs_cons (thn (h1 pins s σ H { D with nx:=u D } I h) fun f s1 q=>?_)
 cases f with
 | next =>
   obtain⟨σ',H',I',q⟩:=q
   exact h2 pins s1 σ' H' D I' q
 | ret v=>exact q
 | brk=>exact q
 | cont=>exact q
theorem Xae (h1:PS X st t):PSs X [st] t:=by
 intro pins s σ H D I h
 refine wpAny_execs_cons (thn (h1 pins s σ H D I h) fun f s1 q=>?_)
 cases f with
 | next=>exact wpAny_execs_nil q
 | ret v=>exact q
 | brk=>exact q
 | cont=>exact q
theorem XDm:PS X (.Pass pos) XIr:=fun _ _ σ H _ I h=>wpAny_Pass ⟨σ,H,I,h⟩
theorem Inv.quiet {pins:List (Addr×Obj)}{σ:St}{H:Hp}{s:Shared}(I:Inv X pins σ H s):interactive X.env=false:=by simp [interactive,I.ok.kind]
def XTe (te:TE):TS:=fun D σ H=>te σ H fun _ H1=>D.nx σ H1
theorem Xce (he:PE X e te)(hs:swapsWith e none pos.line X.env=pure false:=by rfl):PS X (.Expr e pos) (XTe te):=by
 intro pins s σ H D I h
 exact wpAny_Expr_any (thn (he pins s σ H _ I h) fun v s1 ⟨x,H1,I1,r1,q1⟩=>⟨σ,H1,I1,q1⟩) I.quiet hs
def tRet (te:TE):TS:=fun D σ H=>te σ H D.rt
theorem Xai (he:PE X e te):PS X (.Return (some e) pos) (tRet te):=by
 intro pins s σ H D I h
 exact wpAny_Return_some (thn (he pins s σ H _ I h) fun v s1 ⟨x,H1,I1,r1,q1⟩=>⟨x,σ,H1,I1,r1,q1⟩)
def tIfS (c:TT)(t u:TS):TS:=fun D σ H=>c σ H fun b H1=>if b=true then t D σ H1 else u D σ H1
theorem Xbe {c:Expr}{a b:List Stmt}{tc:TT}(hc:PT X c tc)(ha:PSs X a t)(hb:PSs X b u):PS X (.If c a b pos) (tIfS tc t u):=by
 intro pins s σ H D I h
 refine wpAny_If (thn (hc pins s σ H _ I h) fun d s1 ⟨H1,I1,q1⟩=>?_)
 cases d with
 | true=>exact ha pins s1 σ H1 D I1 q1
 | false=>exact hb pins s1 σ H1 D I1 q1
def XTu:TS:=fun _ _ _=>False
theorem XAa:PS X st XTu:=fun _ _ _ _ _ _ h=>h.elim
end
abbrev TG:=V→St→Hp→(St→Hp→Prop)→Prop
abbrev TGs:=List V→St→Hp→(St→Hp→Prop)→Prop
def PG (X:Cx)(target:Expr)(t:TG):Prop :=
 ∀(pins:List (Addr×Obj)) (s:Shared) (σ:St) (H:Hp) (v:V) (u:Value) (Q:St→Hp→Prop),Inv X pins σ H s→RelV v u→t v σ H Q →
   wpAny (model X.prog X.w) X.A (assign target X.env u) (fun _ s'=>∃σ' H',Inv X pins σ' H' s'∧Q σ' H') X.xe s
def PGs (X:Cx)(ts:List Expr)(t:TGs):Prop :=
 ∀(pins:List (Addr×Obj)) (s:Shared) (σ:St) (H:Hp) (vs:List V) (us:List Value) (Q:St→Hp→Prop),Inv X pins σ H s→Vals vs us→t vs σ H Q →
   wpAny (model X.prog X.w) X.A (assignInOrder ((assignEach ts X.env).map (·.2)) us) (fun _ s'=>∃σ' H',Inv X pins σ' H' s'∧Q σ' H') X.xe s
abbrev TSet:=V→V→V→Hp→(Hp→Prop)→Prop
def PSet (X:Cx)(t:TSet):Prop :=
 ∀(pins:List (Addr×Obj)) (s:Shared) (σ:St) (H:Hp) (o i v:V) (ov iv u:Value) (Q:Hp→Prop),Inv X pins σ H s→RelV o ov→RelV i iv→RelV v u→t o i v H Q →
   wpAny (model X.prog X.w) X.A (setItem ov iv u) (fun _ s'=>∃H',Inv X pins σ H' s'∧Q H') X.xe s
section
variable {X:Cx}{pos:Pos}
def Xox (i:Nat):TG:=fun v σ H Q=>Q (σ.set i (some v)) H
theorem Xar {i:Nat}{x:Str}(hN:X.N.Nodup)(hi:X.N[i]?=some x)(hx:Loc X.env.scope x)(hf:X.fn x=true∨X.env.scope.names.lookup x=some .local:=by first | exact .inl rfl | exact .inr rfl | assumption):PG X (.Name x pos) (Xox i):=by
 intro pins s σ H v u Q I r h
 exact wpAny_assign_Name (Xgd I hN hi hx r (fun s' I'=>⟨_,H,I',h⟩) hf)
def gNil:TGs:=fun vs σ H Q=>vs=[]∧Q σ H
def XNp (t:TG)(u:TGs):TGs:=fun vs σ H Q=>∃v r,vs=v::r∧t v σ H fun σ' H'=>u r σ' H' Q
theorem Xcq:PGs X [] gNil:=by
 intro pins s σ H vs us Q I r h
 obtain⟨e,h⟩:=h
 subst e
 cases r
 exact assignInOrder_nil ⟨σ,H,I,h⟩
theorem Xaq {e:Expr}{es:List Expr}{t:TG}{u:TGs}(h1:PG X e t)(h2:PGs X es u)
   (hs:(assignEach (e::es) X.env).map (·.2)=assign e X.env::(assignEach es X.env).map (·.2):=by rfl):PGs X (e::es) (XNp t u):=by
 intro pins s σ H vs us Q I r h
 obtain⟨v,vr,e1,h⟩:=h
 subst e1
 cases r with
 | cons r rr =>
   rw[hs]
   refine assignInOrder_cons (thn (h1 pins s σ H _ _ _ I r h) fun _ s1 ⟨σ1,H1,I1,q1⟩=>?_)
   exact h2 pins s1 σ1 H1 _ _ Q I1 rr q1
def gTup (K:PySem.W.Frag)(n:Nat)(t:TGs):TG:=fun v σ H Q=>∃a xs,v = .ref a∧SqT K H a xs∧xs.length=n∧t xs σ H Q
theorem Xhz {es:List Expr}{k:Nat}{t:TGs}{n:Nat}(hc:X.calm=true)(h:PGs X es t)
   (hn:(assignEach es X.env).length=n:=by rfl) (hst:(assignEach es X.env).findIdx? (·.1)=none:=by rfl):PG X (.Tuple es k pos) (gTup X.K n t):=by
 intro pins s σ H v u Q I r hw
 obtain⟨a,xs,e1,hq,hl,hw⟩:=hw
 subst e1
 cases r
 obtain⟨its,rv,ht,hz⟩:=I.tuple hq
 refine assign_Tuple_tuple (I.ok.hd hc) ht (by simp [hn,←hl,rv.length]) hst fun h' hx=>?_
 have I1:Inv X pins σ H { s with heap:=h' }:=I.kept (t':=s.toks) fun b o e=>hx b o (Nat.ne_of_lt (Heap.lt_size e)) e
 exact h pins _ σ H xs _ Q I1 (by simpa using rv) hw
def gSub (to ti:TE)(t:TSet):TG:=fun v σ H Q=>to σ H fun o H1=>ti σ H1 fun i H2=>t o i v H2 fun H3=>Q σ H3
theorem Xnf {o i:Expr}{to ti:TE}{t:TSet}(ho:PE X o to)(hi:PE X i ti)(hs:PSet X t)
   (ha:∀v,assign (.Subscript o i pos) X.env v=(do
     let ov ←holding [v] (eval o X.env)
     let iv ←holding [v,ov] (eval i X.env)
     standAt pos
     holding [v,ov,iv] (setItem ov iv v)
     release [v,ov,iv] []):=by intro _;rfl):PG X (.Subscript o i pos) (gSub to ti t):=by
 intro pins s σ H v u Q I r h
 rw[ha]
 refine wpAny_bind (wpAny_holding (thn (ho pins s σ H _ I h) fun ov s1 ⟨x,H1,I1,r1,q1⟩=>?_))
 refine wpAny_bind (wpAny_holding (thn (hi pins s1 σ H1 _ I1 q1) fun iv s2 ⟨y,H2,I2,r2,q2⟩=>?_))
 refine wpAny_bind (wpAny_standAt (wpAny_bind (wpAny_holding (thn (hs pins s2 σ H2 x y v ov iv u _ I2 r1 r2 r q2) fun _ s3 ⟨H3,I3,q3⟩=>?_))))
 exact wpAny_release ⟨σ,H3,I3,q3⟩
def tAsg (te:TE)(g:TG):TS:=fun D σ H=>te σ H fun x H1=>g x σ H1 D.nx
theorem Xfl {tg e:Expr}{te:TE}{g:TG}(he:PE X e te)(hg:PG X tg g)(hs:swapsWithSole [tg] e pos.line X.env=pure false:=by rfl)(hw:swappedStores [tg] e X.env=pure none:=by rfl)
   (h1:(assignEach [tg] X.env).map (·.2)=[assign tg X.env]:=by rfl):PS X (.Assign [tg] e pos) (tAsg te g):=by
 intro pins s σ H D I h
 refine wpAny_Assign_stores (thn (he pins s σ H _ I h) fun v s1 ⟨x,H1,I1,r1,q1⟩=>?_) hs hw
 rw[h1]
 exact thn (hg pins s1 σ H1 x v _ I1 r1 q1) fun _ s2 q=>q
theorem Xao {i:Nat}{x:Str}{e:Expr}{te:TE}{pos':Pos}(hN:X.N.Nodup)(hi:X.N[i]?=some x)(hx:Loc X.env.scope x)(he:PE X e te)(hs:swapsWith e (some (.Name x pos')) pos.line X.env=pure false:=by rfl)(hf:X.fn x=true∨X.env.scope.names.lookup x=some .local:=by first | exact .inl rfl | exact .inr rfl | assumption) :
   PS X (.Assign [.Name x pos'] e pos) (tAsg te (Xox i)):=by
 intro pins s σ H D I h
 refine wpAny_Assign_Name (thn (he pins s σ H _ I h) fun v s1 ⟨y,H1,I1,r1,q1⟩=>?_) hs
 exact Xgd I1 hN hi hx r1 (fun s2 I2=>⟨_,H1,I2,q1⟩) hf
end
section
variable {X:Cx}{pos:Pos}
def XMk (c:TT)(tb:TS):TS:=fun D σ H=>∃W:Nat→St→Hp→Prop,(∃m,W m σ H)∧∀m σ H,W m σ H →
 c σ H fun b H1=>if b=true then ∃N:St→Hp→Prop,(∀σ' H',N σ' H'→∃m',m'<m∧W m' σ' H')∧tb { D with nx:=N,ct:=N,bk:=D.nx } σ H1 else D.nx σ H1
theorem Xob {c:Expr}{body:List Stmt}{tc:TT}{tb:TS}(hp:PassesOwn (model X.prog X.w) X.A X.env X.xe)(hc:PT X c tc)(hb:PSs X body tb):PS X (.While c body [] pos) (XMk tc tb):=by
 intro pins s σ H D I h
 obtain⟨W,⟨m0,w0⟩,turn⟩:=h
 refine wpAny_While (codeAny_whileLoop (fun n s'=>∃σ' H',Inv X pins σ' H' s'∧W n σ' H') ?_ m0 ⟨σ,H,I,w0⟩)
 rintro n s1 ⟨σ1,H1,I1,w1⟩
 refine wpAny_passesOwn hp (thn (hc pins s1 σ1 H1 _ I1 (turn n σ1 H1 w1)) fun b s2 ⟨H2,I2,q2⟩=>?_)
 cases b with
 | true =>
   obtain⟨N,hN,q2⟩:=q2
   rw[if_pos rfl]
   refine wpAny_passesOwn hp (thn (hb pins s2 σ1 H2 _ I2 q2) fun f s3 q3=>?_)
   cases f with
   | next =>
     obtain⟨σ3,H3,I3,n3⟩:=q3
     obtain⟨m',hm,w3⟩:=hN σ3 H3 n3
     exact⟨m',hm,σ3,H3,I3,w3⟩
   | cont =>
     obtain⟨σ3,H3,I3,n3⟩:=q3
     obtain⟨m',hm,w3⟩:=hN σ3 H3 n3
     exact⟨m',hm,σ3,H3,I3,w3⟩
   | brk=>exact q3
   | ret v=>exact q3
 | false =>
   rw[if_neg Bool.false_ne_true]
   exact wpAny_execs_nil ⟨σ1,H2,I2,q2⟩
end
structure It where
 go:Nat→Hp→Prop
 yld:Nat→Hp→V→Hp→Prop
 stop:Nat→Hp→Prop
def FpOk (X:Cx)(pins:List (Addr×Obj))(H:Hp)(b:Addr):Prop :=
 H b=none∧b≠X.env.locals∧b ∉ X.fs∧(b∈X.ex∨X.s₀.heap.objs.size≤b)∧(∀x c,X.env.cells.lookup x=some c→c≠b)∧∀p∈X.pn++pins,p.1≠b
theorem Inv.fpOk {X:Cx}{pins:List (Addr×Obj)}{σ:St}{H H':Hp}{s:Shared}{b:Addr}(I:Inv X pins σ H s)(hb:s.heap.objs.size≤b)(hn:H' b=none):FpOk X pins H' b:=by
 refine⟨hn,Nat.ne_of_gt (Nat.lt_of_lt_of_le I.lt hb),I.nofs hb,.inr (Nat.le_trans I.sz hb),fun x c e z=>?_,fun p hp z=>?_⟩
 · obtain⟨v,q⟩:=I.cell x c e
   exact absurd (Nat.lt_of_lt_of_le q.lt (by rw[z];exact hb)) (Nat.lt_irrefl _)
 · exact absurd (Nat.lt_of_lt_of_le (Heap.lt_size (I.pin p hp).1) (by rw[z];exact hb)) (Nat.lt_irrefl _)
structure Turn (P:Program)(w:World)(K:PySem.W.Frag)(tg:Expr)(J:It)(fp:List Addr)(it:Addr)(tn:Nat→Heap→Prop):Prop where
 mem:it∈fp
 obj:∀i h,tn i h→∀b∈fp,∃o,h.get? b=some o∧∀v,o.data≠.cell v
 keep:∀i h h',tn i h→(∀b∈fp,∀o,h.get? b=some o→h'.get? b=some o)→tn i h'
 item:∀(X:Cx),X.prog=P→X.w=w→X.K=K→X.calm=true→∀(i:Nat) (pins:List (Addr×Obj)) (s:Shared) (σ:St) (H:Hp) (E:Value→Shared→Prop),Inv X pins σ H s→(∀b∈fp,FpOk X pins H b)→tn i s.heap→J.go i H →
   wpAny (model P w) X.A (pyNext (.ref it)) (fun r s1=>∃u,r=some u ∧
     wpAny (model P w) X.A (letOwnedTupleGo tg (.ref it) u) (fun _ s2=>∃x H',Inv X pins σ H' s2∧RelV x u∧J.yld i H x H'∧tn (i+1) s2.heap∧∀b∈fp,H' b=none) E s1) E s
 done:∀(X:Cx),X.prog=P→X.w=w→X.K=K→X.calm=true→∀(i:Nat) (pins:List (Addr×Obj)) (s:Shared) (σ:St) (H:Hp) (E:Value→Shared→Prop),Inv X pins σ H s→(∀b∈fp,FpOk X pins H b)→tn i s.heap→J.stop i H →
   wpAny (model P w) X.A (pyNext (.ref it)) (fun r s1=>r=none∧Inv X pins σ H s1) E s
 self:∀(A:Around) (i:Nat) (s:Shared) (Q:Value→Shared→Prop) (E:Value→Shared→Prop),tn i s.heap→Q (.ref it) s→wpAny (model P w) A (pyIter (.ref it)) Q E s
abbrev TI:=St→Hp→(It→Hp→Prop)→Prop
def PIE (X:Cx)(pins:List (Addr×Obj))(σ:St)(tg:Expr)(R:It→Hp→Prop)(itv:Value)(s2:Shared):Prop :=
 ∃(it:Addr) (fp:List Addr) (tn:Nat→Heap→Prop) (J:It) (H':Hp),itv = .ref it∧Inv X pins σ H' s2∧Turn X.prog X.w X.K tg J fp it tn∧tn 0 s2.heap∧(∀b∈fp,FpOk X pins H' b)∧R J H'
def PI (X:Cx)(tg iter:Expr)(wi:TI):Prop :=
 ∀(pins:List (Addr×Obj)) (s:Shared) (σ:St) (H:Hp) (R:It→Hp→Prop),Inv X pins σ H s→wi σ H R →
   wpAny (model X.prog X.w) X.A (eval iter X.env) (fun v s1=>wpAny (model X.prog X.w) X.A (pyIter v) (PIE X pins σ tg R) X.xe s1) X.xe s
theorem XGu {M:Model}{A:Around}{E:Value→Shared→Prop}{s:Shared}{tg:Expr}{it:Addr}{u:Value}{o:Obj}{n:String}{vs:Array Value}{Q:Unit→Shared→Prop}(ho:s.heap.get? it=some o)(hc:o.cls = .type n)(hd:o.data = .fields vs)
   (hn:["enumerate","zip","dict_itemiterator","dict_reverseitemiterator","odict_iterator","itertools.zip_longest","itertools.pairwise"].contains n=false) (hQ:Q () s):wpAny M A (letOwnedTupleGo tg (.ref it) u) Q E s:=by
 unfold letOwnedTupleGo
 cases tg <;> first
   | exact wpAny_pure hQ
   | (cases u <;> first
       | exact wpAny_pure hQ
       | (refine wpAny_bind (wpAny_load ho ?_)
          rw[hc,hd]
          show wpAny M A (if (["enumerate","zip","dict_itemiterator","dict_reverseitemiterator","odict_iterator","itertools.zip_longest","itertools.pairwise"].contains n&&vs[0]?==some (rawInt _))=true then _ else _) Q E s
          rw[if_neg (by intro h;rw[hn,Bool.false_and] at h;cases h)]
          exact wpAny_pure hQ))
def Itl (K:PySem.W.Frag)(a:Addr):It :=
 ⟨fun i H=>∃xs x,SqL K H a xs∧xs[i]?=some x,fun i H x H'=>H'=H∧∀xs,SqL K H a xs→xs[i]?=some x,fun i H=>∃xs,SqL K H a xs∧xs.length≤i⟩
def Itr (lo:Int)(n:Nat):It:=⟨fun i _=>i<n,fun i H x H'=>H'=H∧x = .int (lo+i),fun i _=>n≤i⟩
theorem Xuq {P:Program}{w:World}{K:PySem.W.Frag}{tg:Expr}(a it:Addr):Turn P w K tg (Itl K a) [it] it (fun i h=>h.IsListIter it a i) where
 mem:=by simp
 obj:=fun i h st b hb=>by
   have e:b=it:=by simpa using hb
   subst e
   obtain⟨o,e,c,d⟩:=st
   exact⟨o,e,fun v z=>by rw[d] at z;cases z⟩
 keep:=fun i h h' st k=>st.at fun o e=>k it (by simp) o e
 item:=by
   intro X hP hw hK hc i pins s σ H E I hf st hg
   subst hP hw hK
   obtain⟨xs,x,hq,hx⟩:=hg
   obtain⟨its,rv,p,hz⟩:=I.list hq
   obtain⟨u,hu,ru⟩:=rv.get hx
   obtain⟨f0,f1,f2,f3,f4,f5⟩:=hf it (by simp)
   refine wpAny_pyNext_list_item st p.isList (x:=u) (by simpa using hu) fun h' st' sb=>?_
   have I1:Inv X pins σ H { s with heap:=h' }:=I.turned (t':=s.toks) (fun b o hb e=>(sb.2 b hb).trans e) f0 f1 f3 f4 f5
   obtain⟨o,e,c,d⟩:=id st'
   exact⟨u,rfl,XGu (s:={ s with heap:=h' }) e c d (by decide) ⟨x,H,I1,ru,⟨rfl,fun ys hy=>by rw[I.list_inj hy hq];exact hx⟩,st',fun b hb=>(hf b hb).1⟩⟩
 done:=by
   intro X hP hw hK hc i pins s σ H E I hf st hg
   subst hP hw hK
   obtain⟨xs,hq,hx⟩:=hg
   obtain⟨its,rv,p,hz⟩:=I.list hq
   obtain⟨f0,f1,f2,f3,f4,f5⟩:=hf it (by simp)
   have hl:=rv.length
   exact wpAny_pyNext_list_end (I.ok.hd hc) st p.isList (by simp;omega) fun h' eb=>⟨rfl,I.turned (t':=s.toks) (fun b o hb e=>eb b o hb e) f0 f1 f3 f4 f5⟩
 self:=fun _ _ _ _ _ st h=>wpAny_pyIter_listiter st h
theorem Xok {P:Program}{w:World}{K:PySem.W.Frag}{tg:Expr}(it:Addr)(lo:Int)(n:Nat):Turn P w K tg (Itr lo n) [it] it (fun i h=>IsRangeIter h it (lo+(i:Nat)*1) ((n:Int)-(i:Nat)) 1) where
 mem:=by simp
 obj:=fun i h st b hb=>by
   have e:b=it:=by simpa using hb
   subst e
   exact⟨_,st,fun v z=>by
     have z':Data.fields _=Data.cell v:=z
     cases z'⟩
 keep:=fun i h h' st k=>k it (by simp) _ st
 item:=by
   intro X hP hw hK hc i pins s σ H E I hf st hg
   subst hP hw hK
   obtain⟨f0,f1,f2,f3,f4,f5⟩:=hf it (by simp)
   have W:=Walks.range (prog:=X.prog) (w:=X.w) (I.ok.hd hc) it lo 1 n
   refine W.item i s _ _ hg st fun v h' tk hv st' kk=>?_
   obtain⟨t,rfl⟩:=hv
   have I1:Inv X pins σ H { s with heap:=h',toks:=tk }:=I.turned (fun b o hb e=>kk b o (by simpa using hb) e) f0 f1 f3 f4 f5
   refine⟨_,rfl,XGu (s:={ s with heap:=h',toks:=tk }) (n:="range_iterator") st' rfl rfl (by decide) ⟨.int (lo+i),H,I1,⟨t,?_⟩,⟨rfl,rfl⟩,st',fun b hb=>(hf b hb).1⟩⟩
   rw[Int.mul_one]
 done:=by
   intro X hP hw hK hc i pins s σ H E I hf st hg
   subst hP hw hK
   obtain⟨f0,f1,f2,f3,f4,f5⟩:=hf it (by simp)
   exact wpAny_pyNext_range_end (I.ok.hd hc) st (by have:n≤i:=hg;omega) fun h' eb=>⟨rfl,I.turned (t':=s.toks) (fun b o hb e=>eb b o hb e) f0 f1 f3 f4 f5⟩
 self:=fun _ _ _ _ _ st h=>wpAny_pyIter_rangeiter st h
end L2
namespace L2
open PySem PySem.Spec PyProof.Rows
section
variable {X:Cx}{tg:Expr}
def iList (K:PySem.W.Frag)(tl:TE):TI:=fun σ H R=>tl σ H fun x H1=>∃a,x = .ref a∧(∃xs,SqL K H1 a xs)∧R (Itl K a) H1
theorem Xda {l:Expr}{tl:TE}(hl:PE X l tl):PI X tg l (iList X.K tl):=by
 intro pins s σ H R I h
 refine thn (hl pins s σ H _ I h) fun v s1 ⟨x,H1,I1,r1,q1⟩=>?_
 obtain⟨a,e,⟨xs,hq⟩,q⟩:=q1
 subst e
 cases r1
 obtain⟨its,rv,p,hz⟩:=I1.list hq
 refine wpAny_pyIter_list p.isList ?_
 refine⟨s1.heap.objs.size,[s1.heap.objs.size],_,_,H1,rfl,I1.kept (t':=s1.toks) fun b o e=>Heap.get?_push_of_some _ e,Xuq a _,⟨_,Heap.get?_push_size _ rfl,rfl,rfl⟩,fun b hb=>?_,q⟩
 have e:b=s1.heap.objs.size:=by simpa using hb
 subst e
 exact I1.fpOk (Nat.le_refl _) (I1.hok.fresh (Nat.le_refl _))
theorem XAc {pins:List (Addr×Obj)}{σ:St}{H:Hp}{s:Shared}{R:It→Hp→Prop}{E:Value→Shared→Prop}{lo hi:Int}{t u v:Tok}{tk:Nat}(I:Inv X pins σ H s)(h1 : -(2^62)≤lo)(h2:lo<2^62)(h3 : -(2^62)≤hi)(h4:hi<2^62)
   (q:R (Itr lo (hi-lo).toNat) H):wpAny (model X.prog X.w) X.A (pyIter (.ref s.heap.objs.size)) (PIE X pins σ tg R) E { s with heap:=s.heap.push { cls:=.type "range",data:=.fields #[.int lo t,.int hi u,.int 1 v] },toks:=tk }:=by
 refine wpAny_pyIter_range (IsRange.new ..) (small_one h1 h2 h3 h4) ?_
 have I1:Inv X pins σ H { s with heap:=s.heap.push { cls:=.type "range",data:=.fields #[.int lo t,.int hi u,.int 1 v] },toks:=tk }:=I.kept fun b o e=>Heap.get?_push_of_some _ e
 refine⟨(s.heap.push { cls:=.type "range",data:=.fields #[.int lo t,.int hi u,.int 1 v] }).objs.size,[(s.heap.push { cls:=.type "range",data:=.fields #[.int lo t,.int hi u,.int 1 v] }).objs.size],_,_,H,rfl,
   I1.kept (t':=tk) fun b o e=>Heap.get?_push_of_some _ e,Xok _ lo (hi-lo).toNat,?_,fun b hb=>?_,q⟩
 · have e1:lo+((0:Nat):Int)*1=lo:=by simp
   have e2:(((hi-lo).toNat:Nat):Int)-((0:Nat):Int)=Builtin.Range.rangeSize lo hi 1:=by rw[rangeSize_one];split <;> omega
   show IsRangeIter _ _ (lo+((0:Nat):Int)*1) ((((hi-lo).toNat:Nat):Int)-((0:Nat):Int)) 1
   rw[e1,e2]
   exact Heap.get?_push_size _ rfl
 · have e:b=(s.heap.push { cls:=.type "range",data:=.fields #[.int lo t,.int hi u,.int 1 v] }).objs.size:=by simpa using hb
   subst e
   exact I1.fpOk (Nat.le_refl _) (I1.hok.fresh (Nat.le_refl _))
def XOz (ta:TA):TI:=fun σ H R=>ta σ H fun vs H1=>∃j:Int,vs=[.int j]∧-(2^62)≤j∧j<2^62∧R (Itr 0 j.toNat) H1
theorem Xlh {a:Expr}{ta:TA}{p pos:Pos}(hg:Gl X "range")(hm:X.mg "range"=none)(ha:PA X [a] ta)(hs:starEach [a] X.env=[(false,eval a X.env)]:=by rfl):PI X tg (.Call (.Name "range" p) [a] [] pos) (XOz ta):=by
 intro pins s σ H R I h
 refine Call_ (Xly I hg hm boot_range (PyProof.Rows.callWith_type1 (thn (ha pos pins s σ H _ I h) fun us s1 ⟨vs,H1,I1,r1,q1⟩=>?_) hs rfl))
 obtain⟨j,e,q1,q2,q⟩:=q1
 subst e
 cases r1 with
 | cons r rr =>
   cases rr
   obtain⟨t,rfl⟩:=r
   exact call_range_1 (XAc I1 (by omega) (by omega) q1 q2 (by simpa using q))
def tFor (wi:TI)(g:TG)(tb:TS):TS:=fun D σ H=>wi σ H fun J H1=>∃W:Nat→Nat→St→Hp→Prop,(∃m,W 0 m σ H1)∧∀i m σ H,W i m σ H →
 (J.stop i H∧D.nx σ H)∨(J.go i H∧∃N:St→Hp→Prop,(∀σ' H',N σ' H'→∃m',m'<m∧W (i+1) m' σ' H')∧∀x H',J.yld i H x H'→g x σ H' fun σ2 H2=>tb { D with nx:=N,ct:=N,bk:=D.nx } σ2 H2)
def Xlr (fp:List Addr)(h:Heap):List (Addr×Obj):=fp.filterMap fun b=>(h.get? b).map fun o=>(b,o)
theorem Xfc {fp:List Addr}{h:Heap}{b:Addr}{o:Obj}(hb:b∈fp)(e:h.get? b=some o):(b,o)∈Xlr fp h:=List.mem_filterMap.mpr ⟨b,hb,by rw[e];rfl⟩
theorem Xtj {fp:List Addr}{h:Heap}{p:Addr×Obj}(hp:p∈Xlr fp h):p.1∈fp∧h.get? p.1=some p.2:=by
 obtain⟨b,hb,e⟩:=List.mem_filterMap.mp hp
 cases q:h.get? b with
 | none=>rw[q] at e;cases e
 | some o =>
   rw[q] at e
   have e':(b,o)=p:=Option.some.inj e
   subst e'
   exact⟨hb,q⟩
theorem Inv.pinned {pins:List (Addr×Obj)}{σ:St}{H:Hp}{s:Shared}{fp:List Addr}(I:Inv X pins σ H s)(hf:∀b∈fp,FpOk X pins H b)(ho:∀b∈fp,∃o,s.heap.get? b=some o∧∀v,o.data≠.cell v):Inv X (pins++Xlr fp s.heap) σ H s :=
 I.pins_of fun p hp=>(List.mem_append.mp hp).elim (fun z=>I.pin p (List.mem_append_right _ z)) fun z=>by
   obtain⟨hb,e⟩:=Xtj z
   obtain⟨f0,f1,f2,_⟩:=hf p.1 hb
   obtain⟨o,e',d⟩:=ho p.1 hb
   rw[e] at e';cases e'
   exact⟨e,f0,f1,f2,d⟩
theorem Inv.unpinned {pins pl:List (Addr×Obj)}{σ:St}{H:Hp}{s:Shared}(I:Inv X (pins++pl) σ H s):Inv X pins σ H s:=I.pins_of fun p hp=>I.pin p (List.mem_append_right _ (List.mem_append_left _ hp))
theorem Xks {iter:Expr}{body:List Stmt}{wi:TI}{g:TG}{tb:TS}{pos:Pos}(hp:PassesOwn (model X.prog X.w) X.A X.env X.xe)(hc:X.calm=true)(hi:PI X tg iter wi)(hg:PG X tg g)(hb:PSs X body tb)
   (hs:∀x,foldedSetIterable iter X.env x=pure x:=by intro _;rfl):PS X (.For tg iter body [] pos) (tFor wi g tb):=by
 intro pins s σ H D I h
 refine wpAny_For (thn (hi pins s σ H _ I h) fun v s1 h1=>thn h1 fun itv s2 h2=>?_) hs
 obtain⟨it,fp,tn,J,H2,e,I2,T,st2,f2,W,⟨m0,w0⟩,turn⟩:=h2
 subst e
 -- what stays true of the iterator's objects through the loop
 have stat:∀{H':Hp},(∀b∈fp,H' b=none)→∀b∈fp,FpOk X pins H' b:=fun hn b hb=>⟨hn b hb,(f2 b hb).2⟩
 refine codeAny_forLoop_any (fun n s'=>∃i σ' H',Inv X pins σ' H' s'∧tn i s'.heap∧(∀b∈fp,H' b=none)∧W i n σ' H') ?_ m0 ⟨0,σ,H2,I2,st2,fun b hb=>(f2 b hb).1,w0⟩
 rintro n s3 ⟨i,σ3,H3,I3,st3,fr3,w3⟩
 rcases turn i n σ3 H3 w3 with ⟨stop,qn⟩ | ⟨go,N,hN,step⟩
 · refine wpAny_passesOwn hp (thn (T.done X rfl rfl rfl hc i pins s3 σ3 H3 X.xe I3 (stat fr3) st3 stop) fun r s4 ⟨hr,I4⟩=>?_)
   subst hr
   exact wpAny_execs_nil ⟨σ3,H3,I4,qn⟩
 · refine wpAny_passesOwn hp (thn (T.item X rfl rfl rfl hc i pins s3 σ3 H3 X.xe I3 (stat fr3) st3 go) fun r s4 ⟨u,hr,h4⟩=>?_)
   subst hr
   refine wpAny_passesOwn hp (thn h4 fun _ s5 ⟨x,H5,I5,r5,y5,st5,fr5⟩=>?_)
   have I5':=I5.pinned (stat fr5) (T.obj _ _ st5)
   refine wpAny_passesOwn hp (thn (hg _ s5 σ3 H5 x u _ I5' r5 (step x H5 y5)) fun _ s6 ⟨σ6,H6,I6,q6⟩=>?_)
   refine wpAny_passesOwn hp (thn (hb _ s6 σ6 H6 _ I6 q6) fun f s7 q7=>?_)
   have again:∀{σ7:St} {H7:Hp},Inv X (pins++Xlr fp s5.heap) σ7 H7 s7→N σ7 H7→∃m,m<n∧∃i σ' H',Inv X pins σ' H' s7∧tn i s7.heap∧(∀b∈fp,H' b=none)∧W i m σ' H':=fun {σ7 H7} I7 n7=>by
     obtain⟨m',hm,w7⟩:=hN σ7 H7 n7
     refine⟨m',hm,i+1,σ7,H7,I7.unpinned,T.keep _ _ _ st5 fun b hb o e=>(I7.pin (b,o) (List.mem_append_right _ (List.mem_append_right _ (Xfc hb e)))).1,fun b hb=>?_,w7⟩
     obtain⟨o,e,d⟩:=T.obj _ _ st5 b hb
     exact(I7.pin (b,o) (List.mem_append_right _ (List.mem_append_right _ (Xfc hb e)))).2.1
   cases f with
   | next=>obtain⟨σ7,H7,I7,n7⟩:=q7;exact again I7 n7
   | cont=>obtain⟨σ7,H7,I7,n7⟩:=q7;exact again I7 n7
   | brk=>obtain⟨σ7,H7,I7,q7⟩:=q7;exact⟨σ7,H7,I7.unpinned,q7⟩
   | ret v=>obtain⟨x7,σ7,H7,I7,r7,q7⟩:=q7;exact⟨x7,σ7,H7,I7.unpinned,r7,q7⟩
end
theorem Xkc {K:PySem.W.Frag}{a:Addr}{xs:List V}{g:TG}{tb:TS}{D:Ends}{σ:St}{H:Hp}(Pv:Nat→St→Hp→Prop)(h0:Pv 0 σ H)(hl:∀i σ H,i≤xs.length→Pv i σ H→SqL K H a xs)
   (hs:∀i x σ H,xs[i]?=some x→Pv i σ H→g x σ H fun σ2 H2=>tb { D with nx:=Pv (i+1),ct:=Pv (i+1),bk:=D.nx } σ2 H2) (hd:∀σ H,Pv xs.length σ H→D.nx σ H) :
   ∃W:Nat→Nat→St→Hp→Prop,(∃m,W 0 m σ H)∧∀i m σ H,W i m σ H →
     ((Itl K a).stop i H∧D.nx σ H)∨((Itl K a).go i H∧∃N:St→Hp→Prop,(∀σ' H',N σ' H'→∃m',m'<m∧W (i+1) m' σ' H')∧∀x H',(Itl K a).yld i H x H'→g x σ H' fun σ2 H2=>tb { D with nx:=N,ct:=N,bk:=D.nx } σ2 H2):=by
 refine⟨fun i m σ H=>m=xs.length-i∧i≤xs.length∧Pv i σ H,⟨xs.length,by simp,Nat.zero_le _,h0⟩,?_⟩
 rintro i m σ H ⟨rfl,hi,p⟩
 have q:=hl i σ H hi p
 by_cases hlt:i<xs.length
 · refine .inr ⟨⟨xs,xs[i],q,by simp [hlt]⟩,Pv (i+1),fun σ' H' p'=>⟨xs.length-(i+1),by omega,rfl,hlt,p'⟩,fun x H' y=>?_⟩
   obtain⟨e,y⟩:=y
   subst e
   exact hs i x σ _ (y xs q) p
 · have e:i=xs.length:=by omega
   subst e
   exact .inl ⟨⟨xs,q,Nat.le_refl _⟩,hd σ H p⟩
end L2
namespace L2
open PySem PySem.Spec PyProof.Rows
abbrev R2:=V→V→Hp→VK→Prop
def OpR (X:Cx)(f:Value→Value→Sem Value)(r:R2):Prop :=
 ∀(pins:List (Addr×Obj)) (s:Shared) (σ:St) (H:Hp) (x y:V) (v u:Value) (Q:VK),Inv X pins σ H s→RelV x v→RelV y u→r x y H Q →
   wpAny (model X.prog X.w) X.A (f v u) (EP X pins σ Q) X.xe s
def UnR (X:Cx)(f:Value→Sem Value)(r:V→Hp→VK→Prop):Prop :=
 ∀(pins:List (Addr×Obj)) (s:Shared) (σ:St) (H:Hp) (x:V) (v:Value) (Q:VK),Inv X pins σ H s→RelV x v→r x H Q →
   wpAny (model X.prog X.w) X.A (f v) (EP X pins σ Q) X.xe s
def Xgw (X:Cx)(f:Value)(r:List V→Hp→VK→Prop):Prop :=
 ∀(pins:List (Addr×Obj)) (s:Shared) (σ:St) (H:Hp) (xs:List V) (us:List Value) (Q:VK),Inv X pins σ H s→Vals xs us→r xs H Q →
   wpAny (model X.prog X.w) X.A (call f us) (EP X pins σ Q) X.xe s
def TruR (X:Cx)(r:V→Hp→(Bool→Hp→Prop)→Prop):Prop :=
 ∀(pins:List (Addr×Obj)) (s:Shared) (σ:St) (H:Hp) (x:V) (v:Value) (Q:Bool→Hp→Prop),Inv X pins σ H s→RelV x v→r x H Q →
   wpAny (model X.prog X.w) X.A (truthy v) (TP X pins σ Q) X.xe s
def tOp (r:R2)(ta tb:TE):TE:=fun σ H Q=>ta σ H fun x H1=>tb σ H1 fun y H2=>r x y H2 Q
def tUn (r:V→Hp→VK→Prop)(ta:TE):TE:=fun σ H Q=>ta σ H fun x H1=>r x H1 Q
def rI (C:Int→Int→Prop)(g:Int→Int→V):R2:=fun x y H Q=>∃i j,x = .int i∧y = .int j∧C i j∧Q (g i j) H
def rI0 (g:Int→Int→V):R2:=fun x y H Q=>∃i j,x = .int i∧y = .int j∧Q (g i j) H
def rU (g:Int→V):V→Hp→VK→Prop:=fun x H Q=>∃i,x = .int i∧Q (g i) H
section
variable {X:Cx}{a b c:Expr}{ta tb tc:TE}{pos:Pos}
theorem binT (ha:PE X a ta)(hb:PE X b tb){pins:List (Addr×Obj)}{s:Shared}{σ:St}{H:Hp}{R:V→V→Hp→Prop}(I:Inv X pins σ H s)
   (h:ta σ H fun x H1=>tb σ H1 fun y H2=>R x y H2) {Q:Value→Shared→Prop} {f:Value→Value→Sem Value}
   (hf:∀v u s2 x y H2,Inv X pins σ H2 s2→RelV x v→RelV y u→R x y H2→wpAny (model X.prog X.w) X.A (f v u) Q X.xe s2) :
   wpAny (model X.prog X.w) X.A (eval a X.env) (fun v s₁=>wpAny (model X.prog X.w) X.A (eval b X.env) (fun u s₂=>wpAny (model X.prog X.w) X.A (f v u) Q X.xe s₂) X.xe s₁) X.xe s:=by
 refine thn (ha pins s σ H _ I h) fun v s1 ⟨x,H1,I1,r1,q1⟩=>?_
 refine thn (hb pins s1 σ H1 _ I1 q1) fun u s2 ⟨y,H2,I2,r2,q2⟩=>?_
 exact hf v u s2 x y H2 I2 r1 r2 q2
theorem Xak {op:Operator}{r:R2}(ho:OpR X (binaryOp op) r)(ha:PE X a ta)(hb:PE X b tb):PE X (.BinOp a op b pos) (tOp r ta tb):=by
 intro pins s σ H Q I h
 exact wpAny_BinOp (binT ha hb I h fun v u s2 x y H2 I2 rx ry q=>ho pins s2 σ H2 x y v u Q I2 rx ry q)
theorem XEo {op:UnaryOp}{r:V→Hp→VK→Prop}(ho:UnR X (unaryOp op) r)(ha:PE X a ta):PE X (.UnaryOp op a pos) (tUn r ta):=by
 intro pins s σ H Q I h
 exact UnaryOp_ (thn (ha pins s σ H _ I h) fun v s1 ⟨x,H1,I1,r1,q1⟩=>ho pins s1 σ H1 x v Q I1 r1 q1)
theorem opI {f:Value→Value→Sem Value}{C:Int→Int→Prop}{g:Int→Int→Int}
   (rule:∀(i j:Int) (t u:Tok) (s:Shared) (Q:Value→Shared→Prop) (E:Value→Shared→Prop),C i j→Q (.int (g i j) s.toks) { s with toks:=s.toks+1 }→wpAny (model X.prog X.w) X.A (f (.int i t) (.int j u)) Q E s) :
   OpR X f (rI C fun i j=>.int (g i j)):=by
 intro pins s σ H x y v u Q I rx ry h
 obtain⟨i,j,rfl,rfl,hc,q⟩:=h
 obtain⟨t,rfl⟩:=rx
 obtain⟨t',rfl⟩:=ry
 exact rule i j t t' s _ _ hc ⟨.int (g i j),H,I.tok _,⟨_,rfl⟩,q⟩
theorem opI0 {f:Value→Value→Sem Value}{g:Int→Int→Int}
   (rule:∀(i j:Int) (t u:Tok) (s:Shared) (Q:Value→Shared→Prop) (E:Value→Shared→Prop),Q (.int (g i j) s.toks) { s with toks:=s.toks+1 }→wpAny (model X.prog X.w) X.A (f (.int i t) (.int j u)) Q E s) :
   OpR X f (rI0 fun i j=>.int (g i j)):=by
 intro pins s σ H x y v u Q I rx ry h
 obtain⟨i,j,rfl,rfl,q⟩:=h
 obtain⟨t,rfl⟩:=rx
 obtain⟨t',rfl⟩:=ry
 exact rule i j t t' s _ _ ⟨.int (g i j),H,I.tok _,⟨_,rfl⟩,q⟩
theorem opB0 {f:Value→Value→Sem Value}{g:Int→Int→Bool}
   (rule:∀(i j:Int) (t u:Tok) (s:Shared) (Q:Value→Shared→Prop) (E:Value→Shared→Prop),Q (.bool (g i j)) s→wpAny (model X.prog X.w) X.A (f (.int i t) (.int j u)) Q E s) :
   OpR X f (rI0 fun i j=>.bl (g i j)):=by
 intro pins s σ H x y v u Q I rx ry h
 obtain⟨i,j,rfl,rfl,q⟩:=h
 obtain⟨t,rfl⟩:=rx
 obtain⟨t',rfl⟩:=ry
 exact rule i j t t' s _ _ ⟨.bl (g i j),H,I,rfl,q⟩
def CDiv (i j:Int):Prop:=0<j∧j<1073741824
def CPow (i j:Int):Prop:=0≤j∧j≤1000000∧i.natAbs<2^64
def CMul (i j:Int):Prop:=(-(2^64)<i∧i<2^64)∨(-(2^64)<j∧j<2^64)
theorem CMul.ok {i j:Int}(h:CMul i j):IntMulOk i j:=by
 rcases h with ⟨h1,h2⟩ | ⟨h1,h2⟩
 · exact .of_left (intBits_le_64 h1 h2)
 · exact .of_right (intBits_le_64 h1 h2)
theorem Xon (k:Nat):(0:Int)≤2^k:=by
 rw[two_pow_cast]
 exact Int.natCast_nonneg _
theorem Xbq:OpR X (binaryOp .Add) (rI0 fun i j=>.int (i+j)):=opI0 fun _ _ _ _ _ _ _ q=>add_int q
theorem Xdn:OpR X (binaryOp .Sub) (rI0 fun i j=>.int (i-j)):=opI0 fun _ _ _ _ _ _ _ q=>sub_int q
theorem Xsr:OpR X (binaryOp .Mult) (rI CMul fun i j=>.int (i*j)):=opI fun _ _ _ _ _ _ _ hc q=>mul_int q hc.ok
theorem Xcv:OpR X (binaryOp .FloorDiv) (rI CDiv fun i j=>.int (i/j)):=opI fun i j _ _ _ _ _ hc q=>by
 have h1:(0:Int)<j:=hc.1
 have h2:j<1073741824:=hc.2
 exact floordiv_int (by omega) (by rw[Int.fdiv_eq_ediv_of_nonneg i (by omega)];exact q) (.inl (PyProof.noPylong_small (by omega)))
theorem Xbz:OpR X (binaryOp .Mod) (rI (fun _ j=>0<j) fun i j=>.int (i%j)):=opI fun i j _ _ _ _ _ hc q=>by
 have h1:(0:Int)<j:=hc
 exact mod_int' (by omega) (by rw[Int.fmod_eq_emod_of_nonneg i (by omega)];exact q)
theorem XCu:OpR X (binaryOp .Pow) (rI CPow fun i j=>.int (i^j.toNat)):=opI fun _ _ _ _ _ _ _ hc q=>pow_int_small hc.1 hc.2.1 hc.2.2 q
theorem XMr:OpR X (binaryOp .RShift) (rI (fun _ j=>0≤j) fun i j=>.int (i/2^j.toNat)):=opI fun i j _ _ _ _ _ hc q =>
 rshift_int hc (by rw[Int.fdiv_eq_ediv_of_nonneg i (Xon _)];exact q)
theorem Xsu:OpR X (binaryOp .BitAnd) (rI0 fun i j=>.int (Builtin.bitAnd i j)):=opI0 fun _ _ _ _ _ _ _ q=>and_int q
theorem op_or:OpR X (binaryOp .BitOr) (rI0 fun i j=>.int (Builtin.bitOr i j)):=opI0 fun _ _ _ _ _ _ _ q=>or_int q
theorem unI {f:Value→Sem Value}{g:Int→Int}
   (rule:∀(i:Int) (t:Tok) (s:Shared) (Q:Value→Shared→Prop) (E:Value→Shared→Prop),Q (.int (g i) s.toks) { s with toks:=s.toks+1 }→wpAny (model X.prog X.w) X.A (f (.int i t)) Q E s) :
   UnR X f (rU fun i=>.int (g i)):=by
 intro pins s σ H x v Q I rx h
 obtain⟨i,rfl,q⟩:=h
 obtain⟨t,rfl⟩:=rx
 exact rule i t s _ _ ⟨.int (g i),H,I.tok _,⟨_,rfl⟩,q⟩
theorem Xuo:UnR X (unaryOp .USub) (rU fun i=>.int (-i)):=unI fun _ _ _ _ _ q=>neg_int q
end
def scal:V→V→Bool
 | .non,.non=>true | .non,.int _=>true | .int _,.non=>true | .non,.bl _=>true | .bl _,.non=>true | .non,.str _=>true | .str _,.non=>true
 | .int _,.int _=>true | .bl _,.bl _=>true | .str _,.str _=>true | .byt _,.byt _=>true
 | .int _,.str _=>true | .str _,.int _=>true | .bl _,.str _=>true | .str _,.bl _=>true
 | _,_=>false
def rEq:R2:=fun x y H Q=>scal x y=true∧Q (.bl (decide (x=y))) H
def rNe:R2:=fun x y H Q=>scal x y=true∧Q (.bl (!decide (x=y))) H
theorem Xjy {i j:Int}:decide (V.int i=V.int j)=(i==j):=by
 rw[Bool.eq_iff_iff]
 simp
theorem XDd {i j:Bool}:decide (V.bl i=V.bl j)=(i==j):=by
 rw[Bool.eq_iff_iff]
 simp
theorem Xmy {i j:Str}:decide (V.str i=V.str j)=(i==j):=by
 rw[Bool.eq_iff_iff]
 simp
theorem Xpw {i j:Array UInt8}:decide (V.byt i=V.byt j)=(i.toList==j.toList):=by
 rw[Bool.eq_iff_iff]
 cases i
 cases j
 simp
section
variable {X:Cx}{a b c:Expr}{ta tb tc:TE}{pos:Pos}
theorem Xbg {pins:List (Addr×Obj)}{σ:St}{H:Hp}{s:Shared}{Q:VK}{k k':Bool}(I:Inv X pins σ H s)(q:Q (.bl k) H)(e:k=k'):EP X pins σ Q (.bool k') s:=by
 subst e
 exact⟨.bl k,H,I,rfl,q⟩
theorem Xcn:OpR X (compareOp .Eq) rEq:=by
 intro pins s σ H x y v u Q I rx ry h
 obtain⟨hs,q⟩:=h
 cases x with
 | non =>
   cases rx
   cases y with
   | non=>cases ry;exact PySem.EqNone.eq_none_none (Xbg I q (by simp))
   | bl j=>cases ry;exact PySem.EqNone.eq_none_bool (Xbg I q (by simp))
   | int j=>obtain⟨t',rfl⟩:=ry;exact PySem.EqNone.eq_none_int (Xbg I q (by simp))
   | str j=>obtain⟨t',rfl⟩:=ry;exact PySem.EqNone.eq_none_str (Xbg I q (by simp))
   | _=>exact absurd (show false=true from hs) Bool.false_ne_true
 | bl i =>
   cases rx
   cases y with
   | non=>cases ry;exact PySem.EqNone.eq_bool_none (Xbg I q (by simp))
   | bl j=>cases ry;exact eq_bool (Xbg I q XDd)
   | str j=>obtain⟨t',rfl⟩:=ry;exact PySem.EqMixed.eq_bool_str (Xbg I q (by simp))
   | _=>exact absurd (show false=true from hs) Bool.false_ne_true
 | int i =>
   obtain⟨t,rfl⟩:=rx
   cases y with
   | non=>cases ry;exact PySem.EqNone.eq_int_none (Xbg I q (by simp))
   | int j=>obtain⟨t',rfl⟩:=ry;exact eq_int (Xbg I q Xjy)
   | str j=>obtain⟨t',rfl⟩:=ry;exact PySem.EqMixed.eq_int_str (Xbg I q (by simp))
   | _=>exact absurd (show false=true from hs) Bool.false_ne_true
 | str i =>
   obtain⟨t,rfl⟩:=rx
   cases y with
   | non=>cases ry;exact PySem.EqNone.eq_str_none (Xbg I q (by simp))
   | bl j=>cases ry;exact PySem.EqMixed.eq_str_bool (Xbg I q (by simp))
   | int j=>obtain⟨t',rfl⟩:=ry;exact PySem.EqMixed.eq_str_int (Xbg I q (by simp))
   | str j=>obtain⟨t',rfl⟩:=ry;exact eq_str (Xbg I q Xmy)
   | _=>exact absurd (show false=true from hs) Bool.false_ne_true
 | byt i =>
   obtain⟨t,rfl⟩:=rx
   cases y with
   | byt j=>obtain⟨t',rfl⟩:=ry;exact PySem.W.eq_bytes (Xbg I q Xpw)
   | _=>exact absurd (show false=true from hs) Bool.false_ne_true
 | _=>cases y <;> exact absurd (show false=true from hs) Bool.false_ne_true
theorem Xov:OpR X (compareOp .NotEq) rNe:=by
 intro pins s σ H x y v u Q I rx ry h
 obtain⟨hs,q⟩:=h
 cases x with
 | non =>
   cases rx
   cases y with
   | non=>cases ry;exact PySem.EqNone.ne_none_none (Xbg I q (by simp))
   | bl j=>cases ry;exact PySem.EqNone.ne_none_bool (Xbg I q (by simp))
   | int j=>obtain⟨t',rfl⟩:=ry;exact PySem.EqNone.ne_none_int (Xbg I q (by simp))
   | str j=>obtain⟨t',rfl⟩:=ry;exact PySem.EqNone.ne_none_str (Xbg I q (by simp))
   | _=>exact absurd (show false=true from hs) Bool.false_ne_true
 | bl i =>
   cases rx
   cases y with
   | non=>cases ry;exact PySem.EqNone.ne_bool_none (Xbg I q (by simp))
   | bl j=>cases ry;exact ne_bool (Xbg I q (congrArg not XDd))
   | str j=>obtain⟨t',rfl⟩:=ry;exact PySem.EqMixed.ne_bool_str (Xbg I q (by simp))
   | _=>exact absurd (show false=true from hs) Bool.false_ne_true
 | int i =>
   obtain⟨t,rfl⟩:=rx
   cases y with
   | non=>cases ry;exact PySem.EqNone.ne_int_none (Xbg I q (by simp))
   | int j=>obtain⟨t',rfl⟩:=ry;exact ne_int (Xbg I q (congrArg not Xjy))
   | str j=>obtain⟨t',rfl⟩:=ry;exact PySem.EqMixed.ne_int_str (Xbg I q (by simp))
   | _=>exact absurd (show false=true from hs) Bool.false_ne_true
 | str i =>
   obtain⟨t,rfl⟩:=rx
   cases y with
   | non=>cases ry;exact PySem.EqNone.ne_str_none (Xbg I q (by simp))
   | bl j=>cases ry;exact PySem.EqMixed.ne_str_bool (Xbg I q (by simp))
   | int j=>obtain⟨t',rfl⟩:=ry;exact PySem.EqMixed.ne_str_int (Xbg I q (by simp))
   | str j=>obtain⟨t',rfl⟩:=ry;exact ne_str (Xbg I q (congrArg not Xmy))
   | _=>exact absurd (show false=true from hs) Bool.false_ne_true
 | byt i =>
   obtain⟨t,rfl⟩:=rx
   cases y with
   | byt j=>obtain⟨t',rfl⟩:=ry;exact PySem.W.ne_bytes (Xbg I q (congrArg not Xpw))
   | _=>exact absurd (show false=true from hs) Bool.false_ne_true
 | _=>cases y <;> exact absurd (show false=true from hs) Bool.false_ne_true
theorem Xis:OpR X (compareOp .Lt) (rI0 fun i j=>.bl (decide (i<j))):=opB0 fun _ _ _ _ _ _ _ q=>lt_int q
theorem op_le:OpR X (compareOp .LtE) (rI0 fun i j=>.bl (decide (i≤j))):=opB0 fun _ _ _ _ _ _ _ q=>le_int q
theorem Xhh:OpR X (compareOp .Gt) (rI0 fun i j=>.bl (decide (j<i))):=opB0 fun _ _ _ _ _ _ _ q=>gt_int q
theorem Xtw:OpR X (compareOp .GtE) (rI0 fun i j=>.bl (decide (j≤i))):=opB0 fun _ _ _ _ _ _ _ q=>ge_int q
theorem Xtq:OpR X (compareOp .Is) (fun x y H Q=>y = .non∧Q (.bl (decide (x = .non))) H):=by
 intro pins s σ H x y v u Q I rx ry h
 obtain⟨rfl,q⟩:=h
 cases ry
 refine is_none_gen (Xbg I q ?_)
 cases x <;> first
   | (cases rx;rfl)
   | (obtain⟨t,rfl⟩:=rx;rfl)
theorem Xqi:OpR X (compareOp .IsNot) (fun x y H Q=>y = .non∧Q (.bl (!decide (x = .non))) H):=by
 intro pins s σ H x y v u Q I rx ry h
 obtain⟨rfl,q⟩:=h
 cases ry
 refine isnot_none_gen (Xbg I q ?_)
 cases x <;> first
   | (cases rx;rfl)
   | (obtain⟨t,rfl⟩:=rx;rfl)
theorem Xaj (b:Expr){op:CmpOp}(h:op≠.In:=by decide)(h2:op≠.NotIn:=by decide):behindInMarks op b=false:=by
 have e1:(op==CmpOp.In)=false:=by cases op <;> first | rfl | exact absurd rfl h
 have e2:(op==CmpOp.NotIn)=false:=by cases op <;> first | rfl | exact absurd rfl h2
 cases b <;> simp [behindInMarks,e1,e2]
theorem Xbj {op:CmpOp}{r:R2}(ho:OpR X (compareOp op) r)(ha:PE X a ta)(hb:PE X b tb)(hm:behindInMarks op b=false):PE X (.Compare a [op] [b] pos) (tOp r ta tb):=by
 intro pins s σ H Q I h
 exact wpAny_Compare1 (binT ha hb I h fun v u s2 x y H2 I2 rx ry q=>ho pins s2 σ H2 x y v u Q I2 rx ry q) hm
def XOl (t:TE):TT:=fun σ H Q=>t σ H fun x H'=>∃k,x = .bl k∧Q k H'
theorem Xal {op:CmpOp}{r:R2}(ho:OpR X (compareOp op) r)(ha:PE X a ta)(hb:PE X b tb)(hm:behindInMarks op b=false):PT X (.Compare a [op] [b] pos) (XOl (tOp r ta tb)):=by
 intro pins s σ H Q I h
 refine wpAny_isTrue_Compare1 (thn (ha pins s σ H _ I h) fun v s1 ⟨x,H1,I1,r1,q1⟩=>thn (hb pins s1 σ H1 _ I1 q1) fun u s2 ⟨y,H2,I2,r2,q2⟩ =>
   thn (ho pins s2 σ H2 x y v u _ I2 r1 r2 q2) fun c s3 ⟨z,H3,I3,r3,k,e,q3⟩=>?_) hm
 subst e
 cases r3
 exact wpAny_truthy_bool ⟨H3,I3,q3⟩
def TruV (K:PySem.W.Frag)(x:V)(H:Hp)(k:Bool):Prop :=
 match x with
 | .non=>k=false
 | .bl b=>k=b
 | .int i=>k=(i != 0)
 | .str y=>y.length≤sizeLine∧k=((y.length:Int) != 0)
 | .byt y=>y.size≤sizeLine∧k=((y.size:Int) != 0)
 | .ref p=>(∃xs,SqL K H p xs∧k = !xs.isEmpty)∨(∃xs,SqT K H p xs∧k = !xs.isEmpty)∨∃kvs,H p=some (.dK kvs)∧k = !kvs.isEmpty
 | _=>False
theorem Xou {κ:Type}{kvs:List (κ×V)}{vs:List (κ×Value)}(r:KV kvs vs):(!vs.isEmpty) = !kvs.isEmpty:=by
 cases r <;> rfl
theorem Xjd {xs:List V}{its:List Value}(r:Vals xs its):(!its.toArray.isEmpty) = !xs.isEmpty:=by
 cases r <;> simp
theorem Xif:(sizeLine:Nat)<2^63:=by rw[sizeLine_eq];decide
theorem XNj:TruR X (fun x H Q=>∃k,TruV X.K x H k∧Q k H):=by
 intro pins s σ H x v Q I rx h
 obtain⟨k,e,q⟩:=h
 have hl:=Xif
 have hs:sizeLine=16777216:=sizeLine_eq
 cases x with
 | non =>
   cases rx
   have e':k=false:=e
   subst e'
   exact truthy_none ⟨H,I,q⟩
 | bl b =>
   cases rx
   have e':k=b:=e
   subst e'
   exact wpAny_truthy_bool ⟨H,I,q⟩
 | int i =>
   obtain⟨t,rfl⟩:=rx
   have e':k=(i != 0):=e
   subst e'
   exact PySem.P.truthy_int ⟨H,I,q⟩
 | str y =>
   obtain⟨t,rfl⟩:=rx
   obtain⟨hy,e'⟩:y.length≤sizeLine∧k=((y.length:Int) != 0):=e
   subst e'
   exact PySem.P.truthy_str (by omega) ⟨H,I.tok _,q⟩
 | byt y =>
   obtain⟨t,rfl⟩:=rx
   obtain⟨hy,e'⟩:y.size≤sizeLine∧k=((y.size:Int) != 0):=e
   subst e'
   exact PySem.W.truthy_bytes (by omega) ⟨H,I.tok _,q⟩
 | ref p =>
   cases rx
   have e':(∃xs,SqL X.K H p xs∧k = !xs.isEmpty)∨(∃xs,SqT X.K H p xs∧k = !xs.isEmpty)∨∃kvs,H p=some (.dK kvs)∧k = !kvs.isEmpty:=e
   rcases e' with ⟨xs,hx,e'⟩ | ⟨xs,hx,e'⟩ | ⟨kvs,hx,e'⟩
   · subst e'
     obtain⟨its,r,pl,hz⟩:=I.list hx
     have hlen:=r.length
     exact wpAny_truthy_list pl.isList (by simp only [List.size_toArray];omega) ⟨H,I.tok _,by rw[Xjd r];exact q⟩
   · subst e'
     obtain⟨its,r,pl,hz⟩:=I.tuple hx
     have hlen:=r.length
     exact truthy_tuple pl (by simp only [List.size_toArray];omega) ⟨H,I.tok _,by rw[Xjd r];exact q⟩
   · subst e'
     obtain⟨hz,hS,vs,r,m⟩:kvs.length≤sizeLine∧(p==sysModules)=false∧∃vs,KV kvs vs∧s.heap.DictOf (Xmz X.prog X.w) p vs:=I.hok p _ hx
     have hlen:kvs.length=vs.length:=Paired.length r
     exact wpAny_truthy_dict hS m (by omega) ⟨H,I.tok _,by rw[Xou r];exact q⟩
 | _=>exact(show False from e).elim
theorem Xck (ha:PE X a ta)(he:∀whole,isTrue a X.env whole=(do let v ←whole;standAt a.pos;holding [v] (truthy v))) :
   PT X a (fun σ H Q=>ta σ H fun x H'=>∃k,TruV X.K x H' k∧Q k H'):=by
 intro pins s σ H Q I h
 exact isTrue_plain (thn (ha pins s σ H _ I h) fun v s1 ⟨x,H1,I1,r1,q1⟩=>XNj pins s1 σ H1 x v Q I1 r1 q1) (he _)
theorem Xsd {x:V}{us:List Value}(r:Vals [x] us):∃u,us=[u]∧RelV x u:=by
 cases r with
 | cons r1 r2=>cases r2;exact⟨_,rfl,r1⟩
theorem Xss {x y:V}{us:List Value}(r:Vals [x,y] us):∃u w',us=[u,w']∧RelV x u∧RelV y w':=by
 cases r with
 | cons r1 r2 =>
   cases r2 with
   | cons r3 r4=>cases r4;exact⟨_,_,rfl,r1,r3⟩
theorem Xqy (hc:X.calm=true):Xgw X (.builtin "max") (fun xs H Q=>∃i j,xs=[.int i,.int j]∧Q (.int (if j>i then j else i)) H):=by
 intro pins s σ H xs us Q I r h
 obtain⟨i,j,rfl,q⟩:=h
 obtain⟨u,w',rfl,⟨t,rfl⟩,⟨t',rfl⟩⟩:=Xss r
 refine max_two_ints (I.ok.hd hc) fun h' tk k=>⟨_,H,I.kept k,?_,q⟩
 by_cases hj:j>i
 · rw[if_pos hj,if_pos hj];exact⟨_,rfl⟩
 · rw[if_neg hj,if_neg hj];exact⟨_,rfl⟩
theorem Xmc (hc:X.calm=true):Xgw X (.builtin "min") (fun xs H Q=>∃i j,xs=[.int i,.int j]∧Q (.int (if j<i then j else i)) H):=by
 intro pins s σ H xs us Q I r h
 obtain⟨i,j,rfl,q⟩:=h
 obtain⟨u,w',rfl,⟨t,rfl⟩,⟨t',rfl⟩⟩:=Xss r
 refine min_two_ints (I.ok.hd hc) fun h' tk k=>⟨_,H,I.kept k,?_,q⟩
 by_cases hj:j<i
 · rw[if_pos hj,if_pos hj];exact⟨_,rfl⟩
 · rw[if_neg hj,if_neg hj];exact⟨_,rfl⟩
theorem Xvg:Xgw X (.type "int") (fun xs H Q=>(∃i,xs=[.int i]∧Q (.int i) H)∨∃k,xs=[.bl k]∧Q (.int (if k then 1 else 0)) H):=by
 intro pins s σ H xs us Q I r h
 rcases h with ⟨i,rfl,q⟩ | ⟨k,rfl,q⟩
 · obtain⟨u,rfl,t,rfl⟩:=Xsd r
   exact call_int_int ⟨.int i,H,I,⟨_,rfl⟩,q⟩
 · obtain⟨u,rfl,r1⟩:=Xsd r
   cases r1
   exact call_int_bool ⟨.int (if k then 1 else 0),H,I.tok _,⟨_,rfl⟩,q⟩
def LenV (K:PySem.W.Frag)(x:V)(H:Hp)(n:Nat):Prop :=
 match x with
 | .str y=>y.length≤sizeLine∧n=y.length
 | .byt y=>y.size≤sizeLine∧n=y.size
 | .ref p=>(∃xs,SqL K H p xs∧n=xs.length)∨∃xs,SqT K H p xs∧n=xs.length
 | _=>False
theorem Xyz:Xgw X (.builtin "len") (fun xs H Q=>∃x n,xs=[x]∧LenV X.K x H n∧Q (.int n) H):=by
 intro pins s σ H xs us Q I r h
 obtain⟨x,n,rfl,e,q⟩:=h
 obtain⟨u,rfl,rx⟩:=Xsd r
 have hl:=Xif
 have hs:sizeLine=16777216:=sizeLine_eq
 cases x with
 | str y =>
   obtain⟨t,rfl⟩:=rx
   obtain⟨hy,e'⟩:y.length≤sizeLine∧n=y.length:=e
   subst e'
   exact len_str (by omega) ⟨.int _,H,I.tok _,⟨_,rfl⟩,q⟩
 | byt y =>
   obtain⟨t,rfl⟩:=rx
   obtain⟨hy,e'⟩:y.size≤sizeLine∧n=y.size:=e
   subst e'
   exact PySem.W.len_bytes (by omega) ⟨.int _,H,I.tok _,⟨_,rfl⟩,q⟩
 | ref p =>
   cases rx
   have e':(∃xs,SqL X.K H p xs∧n=xs.length)∨∃xs,SqT X.K H p xs∧n=xs.length:=e
   rcases e' with ⟨xs,hx,e'⟩ | ⟨xs,hx,e'⟩
   · subst e'
     obtain⟨its,r',pl,hz⟩:=I.list hx
     have hlen:=r'.length
     exact Calls.call_len_list pl.isList (by simp only [List.size_toArray];omega) ⟨.int xs.length,H,I.tok _,⟨_,by simp only [List.size_toArray];rw[hlen]⟩,q⟩
   · subst e'
     obtain⟨its,r',pl,hz⟩:=I.tuple hx
     have hlen:=r'.length
     exact len_tuple pl (by simp only [List.size_toArray];omega) ⟨.int xs.length,H,I.tok _,⟨_,by simp only [List.size_toArray];rw[hlen]⟩,q⟩
 | _=>exact(show False from e).elim
end
end L2
namespace L2
open PySem PySem.Spec PyProof.Rows
structure ObjM (h:Heap)(x dx C:Addr)(mA:Str→Option Value):Prop where
 obj:h.get? x=some (PySem.W.instObj C dx)
 ns:h.Ns1 dx mA
 ne:dx≠x
theorem Xve {h:Heap}{dx:Addr}{mA:Str→Option Value}(n:h.Ns1 dx mA):∃od,h.get? dx=some od∧∀name,PySem.W.lookIn name od=some (mA name):=by
 obtain⟨o,es,ep,ho,hd,hk,_,hm⟩:=n
 refine⟨o,ho,fun name=>?_⟩
 have e:=hm name
 unfold nsFind findBy at e
 rw[←Array.find?_toList] at e
 unfold PySem.W.lookIn
 rw[hd]
 dsimp only
 split
 · rename_i y q
   rw[q] at e
   exact congrArg some e
 · rename_i q
   rw[q] at e
   have a:es.toList.any (·.refKey)=false:=by
     rw[List.any_eq_false]
     intro y hy
     obtain⟨z,t,hkey⟩:=hk y (Array.mem_toList_iff.mp hy)
     simp [DictEntry.refKey,hkey]
   have a':¬es.toList.any (·.refKey)=true:=by rw[a];exact Bool.false_ne_true
   rw[if_neg a']
   exact congrArg some e
theorem ObjM.look {h:Heap}{x dx C:Addr}{mA:Str→Option Value}(I:ObjM h x dx C mA):∃od,PySem.W.InstAt h x (PySem.W.instObj C dx) C (some od)∧∀name,PySem.W.lookIn name od=some (mA name) :=
 let ⟨od,ho,hl⟩:=Xve I.ns
 ⟨od,⟨I.obj,rfl,rfl,ho⟩,hl⟩
section
variable {prog:Program}{w:World}{A:Around}{E:Value→Shared→Prop}{s:Shared}{K:PySem.W.Frag}{x dx C f:Addr}{mA:Str→Option Value}{name:Str}{v:Value}
theorem XHu {expr:Bool}{Q:Value→Shared→Prop}(X:K.In s.heap)(I:ObjM s.heap x dx C mA)(hg:PySem.W.plainGet K C name=true)(hh:PySem.W.hasDictIn K C=true)
   (ha:PySem.W.findIn K (.ref C) name=some none) (hv:mA name=some v) (hv':PySem.W.handedIn v=true) (h:Q v { s with toks:=s.toks+1 }) :
   wpAny (model prog w) A (getAttr (.ref x) name expr) Q E s:=by
 obtain⟨od,J,hl⟩:=I.look
 exact PySem.W.get_value X J (PySem.W.plainGet_of hg).1 (PySem.W.findObj_own hh ha rfl (by rw[hl,hv])) hv' h
theorem XBj {pl:Sem Bool}{Q:Value×List Value→Shared→Prop}(X:K.In s.heap)(I:ObjM s.heap x dx C mA)(hg:PySem.W.plainGet K C name=true)
   (hf:PySem.W.findIn K (.ref C) name=some (some (.ref f))) (ht:PySem.W.isFn K (.ref f)=true) (hv:mA name=none) (h:Q (.ref f,[.ref x]) s) :
   wpAny (model prog w) A (getMethod (.ref x) name pl) Q E s:=by
 obtain⟨od,J,hl⟩:=I.look
 exact PySem.W.method_fn X J (PySem.W.plainGet_of hg).1 (PySem.W.plainGet_of hg).2 hf (beq_iff_eq.mp ht) (by show (PySem.W.lookIn name od).map (·.isSome)=some false;rw[hl,hv];rfl) h
theorem XFc {ns:List Str}{Q:Unit→Shared→Prop}(X:K.In s.heap)(I:ObjM s.heap x dx C mA)
   (hs:PySem.W.findIn K (.ref C) "__setattr__"=some (some (.builtin "object.__setattr__"))) (hp:PySem.W.plainOver K C=true) (ht:PySem.W.takerIn K C name=some none) (hh:PySem.W.hasDictIn K C=true)
   (hw:PySem.Within mA ns) (hsz:ns.length≤sizeLine)
   (h:∀h',ObjM h' x dx C (fun y=>if y=name then some v else mA y)→Heap.SameBut dx s.heap h'→Q () { s with heap:=h',toks:=s.toks+2 }) :
   wpAny (model prog w) A (setAttr (.ref x) name v) Q E s:=by
 obtain⟨od,J,hl⟩:=I.look
 refine PySem.W.set_plain X J hs (PySem.W.osa_open (s:={ s with toks:=s.toks+1 }) (r:=none) X J hp ht fun b=>?_)
 obtain⟨cd,hc,hd'⟩:=PySem.W.any_some hh
 have hx:s.heap.get? x=some ⟨.ref C,some dx,.plain,#[]⟩:=I.obj
 refine wpAny_bind (wpAny_pure (wpAny_bind (wpAny_bind (wpAny_loadPart hx (wpAny_bind (PySem.W.Looks.here (s:={ s with toks:=s.toks+1 }) (PySem.W.looks_clsIn X hc) ?_))))))
 rw[hd']
 refine wpAny_pure (a:=some dx) (wpAny_bind (wpAny_pure (wpAny_bind ?_)))
 refine wpAny_nsSet1 (s:={ s with toks:=s.toks+1 }) I.ns fun h' hn2 hs2=>?_
 obtain⟨oD,esD,epD,hoD,hdD,hcD⟩:=hn2.count (PySem.Within.cons name v hw)
 refine wpAny_bind (wpAny_lookBehind hoD (by rw[hdD];exact pastItsLine_dict (Nat.le_trans hcD (by rw[List.length_cons];omega))) ?_)
 exact wpAny_pure (h _ ⟨(hs2.2 _ (Ne.symm I.ne)).trans I.obj,hn2,I.ne⟩ hs2)
theorem Xya {R:Result→Shared→Prop}{vs:List Value}{kw:List (Str×Value)}(X:K.In s.heap)(hm:PySem.W.makesIn K C=true)
   (hi:PySem.W.findIn K (.ref C) "__init__"=some (some (.ref f))) (hf:PySem.W.typeIn K (.ref f)=some (.type "function"))
   (h:codeAny (model prog w) (A.under (.builtin "type.__call__" ⟨.ref C::vs,kw⟩)) (.call (.ref f) ⟨.ref (s.heap.objs.size+1)::vs,kw⟩) (PySem.W.InitBack (s.heap.objs.size+1) R)
     { s with heap:=(s.heap.push PySem.W.emptyDict).push (PySem.W.instObj C s.heap.objs.size) }) :
   codeAny (model prog w) A (.call (.ref C) ⟨vs,kw⟩) R s:=by
 obtain⟨hh,g,d,t,os⟩:=s
 exact PySem.W.make_core (PySem.W.makes_of X hm) (PySem.W.looks_findIn X hi) (fun self=>PySem.W.bind_fn X self hf) (.inl rfl) h
end
def putF (f:Str)(v:V):List (Str×V)→List (Str×V)
 | []=>[(f,v)]
 | (g,x)::r=>if g=f then (g,v)::r else (g,x)::putF f v r
theorem Xhr (f g:Str)(v:V):∀fs:List (Str×V),(putF f v fs).lookup g=if g=f then some v else fs.lookup g
 | []=>by
   show List.lookup g [(f,v)]=_
   by_cases h:g=f
   · have hb:(g==f)=true:=beq_iff_eq.mpr h
     simp only [List.lookup,hb,if_pos h]
   · have hb:(g==f)=false:=beq_eq_false_iff_ne.mpr h
     simp only [List.lookup,hb,if_neg h]
 | (k,x)::r=>by
   have ih:=Xhr f g v r
   rw[show putF f v ((k,x)::r)=(if k=f then (k,v)::r else (k,x)::putF f v r) from rfl]
   by_cases hk:k=f
   · rw[if_pos hk]
     by_cases h:g=k
     · have hb:(g==k)=true:=beq_iff_eq.mpr h
       simp only [List.lookup,hb,if_pos (h.trans hk)]
     · have hb:(g==k)=false:=beq_eq_false_iff_ne.mpr h
       simp only [List.lookup,hb,if_neg (fun e:g=f=>h (e.trans hk.symm))]
   · rw[if_neg hk]
     by_cases h:g=k
     · have hb:(g==k)=true:=beq_iff_eq.mpr h
       simp only [List.lookup,hb,if_neg (fun e:g=f=>hk (h.symm.trans e))]
     · have hb:(g==k)=false:=beq_eq_false_iff_ne.mpr h
       simp only [List.lookup,hb]
       exact ih
theorem Xhg (f:Str)(v:V):∀fs:List (Str×V),f∈(putF f v fs).map (·.1)∧∀g,g∈fs.map (·.1)→g∈(putF f v fs).map (·.1)
 | []=>⟨by simp [putF],fun g h=>by simp at h⟩
 | (k,x)::r=>by
   obtain⟨i1,i2⟩:=Xhg f v r
   rw[show putF f v ((k,x)::r)=(if k=f then (k,v)::r else (k,x)::putF f v r) from rfl]
   by_cases hk:k=f
   · rw[if_pos hk]
     subst hk
     exact⟨by simp,fun g h=>by simpa using h⟩
   · rw[if_neg hk]
     refine⟨?_,fun g h=>?_⟩
     · rw[List.map_cons]
       exact List.mem_cons_of_mem _ i1
     · rw[List.map_cons] at h ⊢
       rcases List.mem_cons.mp h with e | e
       · exact List.mem_cons.mpr (.inl e)
       · exact List.mem_cons_of_mem _ (i2 g e)
theorem Xik (f:Str)(v:V):∀fs:List (Str×V),(putF f v fs).length≤fs.length+1
 | []=>by simp [putF]
 | (k,x)::r=>by
   have ih:=Xik f v r
   rw[show putF f v ((k,x)::r)=(if k=f then (k,v)::r else (k,x)::putF f v r) from rfl]
   by_cases hk:k=f
   · rw[if_pos hk,List.length_cons,List.length_cons];omega
   · rw[if_neg hk,List.length_cons,List.length_cons];omega
theorem RelO.some_of {v:V}{o:Option Value}(r:RelO (some v) o):∃u,o=some u∧RelV v u:=by
 cases o with
 | none=>exact(show False from r).elim
 | some u=>exact⟨u,rfl,r⟩
theorem RelO.none_of {o:Option Value}(r:RelO none o):o=none:=by
 cases o with
 | none=>rfl
 | some u=>exact(show False from r).elim
theorem Xvl {v:V}{u:Value}(r:RelV v u):PySem.W.handedIn u=true:=by
 cases v with
 | non=>cases (show u=Value.none from r);rfl
 | bl b=>cases (show u=Value.bool b from r);rfl
 | int i=>obtain⟨t,e⟩:=(show ∃t,u=Value.int i t from r);cases e;rfl
 | str x=>obtain⟨t,e⟩:=(show ∃t,u=Value.str x t from r);cases e;rfl
 | byt b=>obtain⟨t,e⟩:=(show ∃t,u=Value.bytes b t from r);cases e;rfl
 | flt b=>obtain⟨t,e⟩:=(show ∃t,u=Value.float b t from r);cases e;rfl
 | ref a=>cases (show u=Value.ref a from r);rfl
 | ty n=>cases (show u=Value.type n from r);rfl
section
variable {P:Program}{w:World}{H H':Hp}{h h':Heap}{a C dx:Addr}{fs fs':List (Str×V)}
theorem Xke (hok:HOk P w H h)(e:H a=some (.ins C dx fs)):∃mA,ObjM h a dx C mA∧(∀f,RelO (fs.lookup f) (mA f))∧PySem.Within mA (fs.map (·.1))∧fs.length≤1000∧H dx=some (.own a):=by
 obtain⟨d,z,ne,ob,mA,n,r,q⟩:=(show Xdy P w H h a (.ins C dx fs) from hok a _ e)
 exact⟨mA,⟨ob,n,ne⟩,r,q,z,d⟩
end
structure Cls (K:PySem.W.Frag)(C:Addr):Prop where
 pg:PySem.W.plainGet K C Str.empty=true
 hd:PySem.W.hasDictIn K C=true
 po:PySem.W.plainOver K C=true
 sa:PySem.W.findIn K (.ref C) "__setattr__"=some (some (.builtin "object.__setattr__"))
theorem Cls.get {K:PySem.W.Frag}{C:Addr}(c:Cls K C)(f:Str):PySem.W.plainGet K C f=true:=c.pg
def Xca (K:PySem.W.Frag)(C:Addr)(f:Str):Prop:=PySem.W.findIn K (.ref C) f=some none
theorem Xca.taker {K:PySem.W.Frag}{C:Addr}{f:Str}(n:Xca K C f):PySem.W.takerIn K C f=some none:=by
 unfold PySem.W.takerIn
 rw[show PySem.W.findIn K (.ref C) f=some none from n]
 rfl
structure Con (K:PySem.W.Frag)(C:Addr)(f:Str)(v:V)(u:Value):Prop where
 at_:PySem.W.findIn K (.ref C) f=some (some u)
 rel:RelV v u
 get:PySem.W.specialIn K u "__get__"=some none
 cp:PySem.W.copiedNames.contains f=false
structure Meth (K:PySem.W.Frag)(C:Addr)(m:Str)(f:Addr):Prop where
 at_:PySem.W.findIn K (.ref C) m=some (some (.ref f))
 fn:PySem.W.isFn K (.ref f)=true
 kp:PySem.W.keepIn K (.ref f)=true
section
variable {X:Cx}{pins:List (Addr×Obj)}{σ:St}{H:Hp}{s:Shared}{a C dx:Addr}{fs:List (Str×V)}{f:Str}{v:V}{A:Around}{E:Value→Shared→Prop}
theorem Xpg {b:Bool}{Q:Value→Shared→Prop}(I:Inv X pins σ H s)(e:H a=some (.ins C dx fs))(c:Cls X.K C)(n:Xca X.K C f)(l:fs.lookup f=some v)
   (h:∀u s',Inv X pins σ H s'→RelV v u→Q u s'):wpAny (model X.prog X.w) A (getAttr (.ref a) f b) Q E s:=by
 obtain⟨mA,O,r,_,_,_⟩:=Xke I.hok e
 obtain⟨u,hu,ru⟩:=RelO.some_of (v:=v) (o:=mA f) (by rw[←l];exact r f)
 exact XHu I.kIn O (c.get f) c.hd n hu (Xvl ru) (h u _ (I.tok _) ru)
theorem Xdw {m:Str}{g:Addr}{pl:Sem Bool}{Q:Value×List Value→Shared→Prop}(I:Inv X pins σ H s)(e:H a=some (.ins C dx fs))(c:Cls X.K C)(k:Meth X.K C m g)(l:fs.lookup m=none)
   (h:Q (.ref g,[.ref a]) s):wpAny (model X.prog X.w) A (getMethod (.ref a) m pl) Q E s:=by
 obtain⟨mA,O,r,_,_,_⟩:=Xke I.hok e
 have hn:mA m=none:=RelO.none_of (by rw[←l];exact r m)
 exact XBj I.kIn O (c.get m) k.at_ k.fn hn h
theorem Xot {y:V}{u:Value}{Q:Unit→Shared→Prop}(I:Inv X pins σ H s)(e:H a=some (.ins C dx fs))(c:Cls X.K C)(n:Xca X.K C f)(hl:fs.length<1000)(ry:RelV y u)
   (h:∀s',Inv X pins σ (upd H a (.ins C dx (putF f y fs))) s'→Q () s'):wpAny (model X.prog X.w) A (setAttr (.ref a) f u) Q E s:=by
 obtain⟨mA,O,r,wi,_,ho⟩:=Xke I.hok e
 have hz:(fs.map (·.1)).length≤sizeLine:=by rw[List.length_map,sizeLine_eq];omega
 refine XFc I.kIn O c.sa c.po n.taker c.hd wi hz fun h' O' sb=>h _ ?_
 have hd:∃o,h'.get? dx=some o:=let ⟨o,_,_,e',_⟩:=O'.ns;⟨o,e'⟩
 refine I.write (x:=a) (e:=dx) (by rw[e];exact True.intro) (.inr ho) (fun b q hb z=>(sb.2 b hb).trans z) hd ?_
 refine⟨by rw[Xap O.ne];exact ho,?_,O.ne,O'.obj,_,O'.ns,fun g=>?_,fun g hg=>?_⟩
 · have:=Xik f y fs;omega
 · show RelO ((putF f y fs).lookup g) (if g=f then some u else mA g)
   rw[Xhr]
   by_cases q:g=f
   · rw[if_pos q,if_pos q];exact ry
   · rw[if_neg q,if_neg q];exact r g
 · by_cases q:g=f
   · rw[q];exact(Xhg f y fs).1
   · refine(Xhg f y fs).2 g (wi g fun z=>hg ?_)
     show (if g=f then some u else mA g)=none
     rw[if_neg q];exact z
theorem Inv.made (I:Inv X pins σ H s):Inv X pins σ (upd (upd H s.heap.objs.size (.own (s.heap.objs.size+1))) (s.heap.objs.size+1) (.ins C s.heap.objs.size []))
   { s with heap:=(s.heap.push PySem.W.emptyDict).push (PySem.W.instObj C s.heap.objs.size) }:=by
 have e1:(s.heap.push PySem.W.emptyDict).get? s.heap.objs.size=some PySem.W.emptyDict:=Heap.get?_push_size s.heap rfl
 have e2:((s.heap.push PySem.W.emptyDict).push (PySem.W.instObj C s.heap.objs.size)).get? (s.heap.objs.size+1)=some (PySem.W.instObj C s.heap.objs.size):=by
   have:=Heap.get?_push_size (s.heap.push PySem.W.emptyDict) (o:=PySem.W.instObj C s.heap.objs.size) rfl
   rwa [Heap.size_push] at this
 have e3:(s.heap.push PySem.W.emptyDict).Ns s.heap.objs.size (fun _=>none):=⟨PySem.W.emptyDict,#[],_,e1,rfl,(fun e he=>absurd he (by simp)),fun _=>rfl⟩
 have I1:=I.laid (a:=s.heap.objs.size) (o:=.own (s.heap.objs.size+1)) (h':=s.heap.push PySem.W.emptyDict) (t':=s.toks) (fun b u q=>Heap.get?_push_of_some _ q) (Nat.le_refl _) ⟨_,e1⟩
 refine I1.laid (a:=s.heap.objs.size+1) (o:=.ins C s.heap.objs.size []) (t':=s.toks) (fun b u q=>Heap.get?_push_of_some _ q) (Nat.le_of_eq (Heap.size_push _ _)) ?_
 have ne:s.heap.objs.size≠s.heap.objs.size+1:=Nat.ne_of_lt (Nat.lt_succ_self _)
 refine⟨by rw[Xap ne,upd_same],Nat.zero_le _,ne,e2,fun _=>none,(Heap.Ns1.of_empty e3).at fun o q=>Heap.get?_push_of_some _ q,fun _=>True.intro,fun y hy=>absurd rfl hy⟩
theorem XEs {prog:Program}{w:World}{env:Env}{e:Expr}{f:Str}{pos:Pos}{s:Shared}{Q:Value→Shared→Prop}(hb:attributeBase e f env (eval e env)=eval e env)
   (h:wpAny (model prog w) A (eval e env) (fun o s₁=>wpAny (model prog w) A (getAttr o f true) Q E s₁) E s):wpAny (model prog w) A (eval (.Attribute e f pos) env) Q E s :=
 Attribute_any_ h (by rw[arm_eval_Attribute,hb])
end
def tFld (K:PySem.W.Frag)(ta:TE)(f:Str):TE:=fun σ H Q=>ta σ H fun x H1=>∃a C dx fs v,x = .ref a∧H1 a=some (.ins C dx fs)∧Cls K C∧Xca K C f∧fs.lookup f=some v∧Q v H1
def sFld (K:PySem.W.Frag)(ta tv:TE)(f:Str):TS:=fun D σ H=>tv σ H fun y H1=>ta σ H1 fun x H2=>∃a C dx fs,x = .ref a∧H2 a=some (.ins C dx fs)∧Cls K C∧Xca K C f∧fs.length<1000 ∧
 D.nx σ (upd H2 a (.ins C dx (putF f y fs)))
section
variable {X:Cx}{o e value:Expr}{f:Str}{pos pos' tpos:Pos}{ta tv:TE}
theorem Xeh (he:PE X e ta)(hb:attributeBase e f X.env (eval e X.env)=eval e X.env):PE X (.Attribute e f pos) (tFld X.K ta f):=by
 intro pins s σ H Q I h
 refine XEs hb (thn (he pins s σ H _ I h) fun u s1 ⟨x,H1,I1,rx,a,C,dx,fs,v,ex,ea,c,n,l,q⟩=>?_)
 subst ex
 obtain rfl:u=Value.ref a:=rx
 exact Xpg I1 ea c n l fun u' s2 I2 ru=>⟨v,H1,I2,ru,q⟩
theorem Xet (ha:PE X o ta)(hv:PE X value tv)(hs:swapsWith value (some (.Attribute o f pos')) pos.line X.env=pure false):PS X (.Assign [.Attribute o f pos'] value pos) (sFld X.K ta tv f):=by
 intro pins s σ H D I h
 refine plainObj_wpAny_Assign_Attribute (thn (hv pins s σ H _ I h) fun u s1 ⟨y,H1,I1,ry,q⟩=>thn (ha pins s1 σ H1 _ I1 q) fun ov s2 ⟨x,H2,I2,rx,a,C,dx,fs,ex,ea,c,n,l,q2⟩=>?_) hs
 subst ex
 obtain rfl:ov=Value.ref a:=rx
 exact Xot I2 ea c n l ry fun s3 I3=>⟨σ,_,I3,q2⟩
end
section
variable {X:Cx}{pins:List (Addr×Obj)}{σ:St}{H:Hp}{s:Shared}{A:Around}{E:Value→Shared→Prop}{Q:Value→Shared→Prop}{c:Value}{b:Bool}
inductive TyOf (K:PySem.W.Frag)(H:Hp):V→Value→Prop where
 | non:TyOf K H .non (.type "NoneType")
 | bl (x:Bool):TyOf K H (.bl x) (.type "bool")
 | int (i:Int):TyOf K H (.int i) (.type "int")
 | str (x:Str):TyOf K H (.str x) (.type "str")
 | flt (x:UInt64):TyOf K H (.flt x) (.type "float")
 | lst {a:Addr} {xs:List V} (e:H a=some (.lst xs)):TyOf K H (.ref a) (.type "list")
 | frz {a:Addr} {o:Obj} {xs:List V} (e:H a=some (.frz o (.lst xs))):TyOf K H (.ref a) (.type "list")
 | tup {a:Addr} {xs:List V} (e:H a=some (.tup xs)):TyOf K H (.ref a) (.type "tuple")
 | dK {a:Addr} {kvs:List (Key×V)} (e:H a=some (.dK kvs)):TyOf K H (.ref a) (.type "dict")
 | dT {a:Addr} {kvs:List (List Key×V)} (e:H a=some (.dT kvs)):TyOf K H (.ref a) (.type "dict")
 | ins {a C dx:Addr} {fs:List (Str×V)} (e:H a=some (.ins C dx fs)) (cl:Cls K C) (ha:PySem.W.findIn K (.ref C) "__class__"=some (some (.builtin "object.__class__")))
     (hn:PySem.W.specialIn K (.builtin "object.__class__") "__get__"=some (some (.builtin "getset_descriptor.__get__"))) (htk:PySem.W.takesIn K (.builtin "object.__class__")=some true)
     (hm:PySem.W.mroIn K C (.type "object")=some true):TyOf K H (.ref a) (.ref C)
theorem Xlz {x:V}{u t:Value}(I:Inv X pins σ H s)(rx:RelV x u)(ty:TyOf X.K H x t)(e:PySem.W.kitOne X.K t c=some b)(h:∀tk,Q (.bool b) { s with toks:=tk }) :
   wpAny (model X.prog X.w) A (call (.builtin "isinstance") [u,c]) Q E s:=by
 cases ty with
 | non=>cases (show u=Value.none from rx);exact PySem.W.kia_one PySem.W.kitx_none I.kIn True.intro e (fun z=>nomatch z) h
 | bl y=>cases (show u=Value.bool y from rx);exact PySem.W.kia_one PySem.W.kitx_bool I.kIn True.intro e (fun z=>nomatch z) h
 | int i=>obtain⟨t,q⟩:=(show ∃t,u=Value.int i t from rx);cases q;exact PySem.W.kia_one PySem.W.kitx_int I.kIn True.intro e (fun z=>nomatch z) h
 | str y=>obtain⟨t,q⟩:=(show ∃t,u=Value.str y t from rx);cases q;exact PySem.W.kia_one PySem.W.kitx_str I.kIn True.intro e (fun z=>nomatch z) h
 | flt y=>obtain⟨t,q⟩:=(show ∃t,u=Value.float y t from rx);cases q;exact PySem.W.kia_one PySem.W.kitx_float I.kIn True.intro e (fun z=>nomatch z) h
 | @lst a xs ea =>
   cases (show u=Value.ref a from rx)
   obtain⟨_,_,n,_,h1⟩:=(show Xdy X.prog X.w H s.heap a (.lst xs) from I.hok a _ ea)
   exact PySem.W.kia_one PySem.W.kitx_list I.kIn ⟨_,h1,rfl⟩ e (fun z=>nomatch z) h
 | @frz a ob xs ea =>
   cases (show u=Value.ref a from rx)
   obtain⟨_,_,_,n,_,h1⟩:=(show Xdy X.prog X.w H s.heap a (.frz ob (.lst xs)) from I.hok a _ ea)
   exact PySem.W.kia_one PySem.W.kitx_list I.kIn ⟨_,h1,rfl⟩ e (fun z=>nomatch z) h
 | @tup a xs ea =>
   cases (show u=Value.ref a from rx)
   obtain⟨_,_,_,p⟩:=(show Xdy X.prog X.w H s.heap a (.tup xs) from I.hok a _ ea)
   obtain⟨o,h1,h2,_⟩:=p
   exact PySem.W.kia_one PySem.W.kitx_tuple I.kIn ⟨o,h1,h2⟩ e (fun z=>nomatch z) h
 | @dK a kvs ea =>
   cases (show u=Value.ref a from rx)
   obtain⟨_,_,vs,_,p⟩:=(show Xdy X.prog X.w H s.heap a (.dK kvs) from I.hok a _ ea)
   obtain⟨o,es,ep,h1,h2,_⟩:=p
   exact PySem.W.kia_one PySem.W.kitx_dict I.kIn ⟨o,h1,h2.1⟩ e (fun z=>nomatch z) h
 | @dT a kvs ea =>
   cases (show u=Value.ref a from rx)
   obtain⟨_,_,xs,_,o,es,ep,h1,h2,_⟩:=(show Xdy X.prog X.w H s.heap a (.dT kvs) from I.hok a _ ea)
   exact PySem.W.kia_one PySem.W.kitx_dict I.kIn ⟨o,h1,h2.1⟩ e (fun z=>nomatch z) h
 | @ins a C dx fs ea cl ha hn htk hm =>
   cases (show u=Value.ref a from rx)
   obtain⟨mA,O,_⟩:=Xke I.hok ea
   obtain⟨od,J,_⟩:=O.look
   exact PySem.W.kia_one (PySem.W.kitx_own (cl.get _) cl.hd ha hn htk hm) I.kIn J e (fun z=>nomatch z) h
end
end L2
namespace L2
open PySem PySem.Spec PyProof.Rows
structure Room (k:Nat)(A:Around):Prop where
 hd:A.handled=none
 dp:A.depth+3*k+5<recursionLimit
 un:A.units+16*k+200<cLine
theorem Room.mono {j k:Nat}{A:Around}(r:Room k A)(h:j≤k):Room j A:=⟨r.hd,by have:=r.dp;omega,by have:=r.un;omega⟩
theorem Room.deeper {k:Nat}{A:Around}(r:Room (k+1) A)(env:Env):Room k (A.deeper env) :=
 ⟨r.hd,by have:=r.dp;show A.depth+1+3*k+5<_;omega,by have:=r.un;show A.units+3+16*k+200<_;omega⟩
theorem Room.in1 {k:Nat}{A:Around}(r:Room (k+1) A):Room k A.in1 :=
 ⟨r.hd,by have:=r.dp;show A.depth+3*k+5<_;omega,by have:=r.un;show A.units+1+16*k+200<_;omega⟩
theorem Xom {A:Around}{C:Addr}{us:List Value}{kw:List (Str×Value)}:(A.under (.builtin "type.__call__" ⟨.ref C::us,kw⟩)).depth=A.depth+1:=by
 first | rfl | simp [Around.under,Code.weight,Code.isCreation,Code.isGuard,Code.isCaller,Code.frames,Code.isFrame,guardIds]
theorem Xos {A:Around}{C:Addr}{us:List Value}{kw:List (Str×Value)}:(A.under (.builtin "type.__call__" ⟨.ref C::us,kw⟩)).units=A.units+1:=by
 first | rfl | simp [Around.under,Code.cUnits,Code.frames,Code.isFrame]
theorem Room.make {k:Nat}{A:Around}(r:Room (k+1) A)(C:Addr)(us:List Value)(kw:List (Str×Value)):Room k (A.under (.builtin "type.__call__" ⟨.ref C::us,kw⟩)) :=
 ⟨r.hd,by have:=r.dp;rw[Xom];omega,by have:=r.un;rw[Xos];omega⟩
theorem Room.depth {k:Nat}{A:Around}(r:Room k A):A.depth<recursionLimit:=by have:=r.dp;omega
theorem Room.units {k:Nat}{A:Around}(r:Room k A):A.units+64<cLine:=by have:=r.un;omega
theorem Room.units0 {k:Nat}{A:Around}(r:Room k A):A.units<cLine:=by have:=r.un;omega
def tNil:TA:=fun _ H Q=>Q [] H
def XTj (ta:TE)(tr:TA):TA:=fun σ H Q=>ta σ H fun x H1=>tr σ H1 fun xs H2=>Q (x::xs) H2
section
variable {X:Cx}{e:Expr}{es:List Expr}{te:TE}{t:TA}{pos:Pos}
theorem Xac:PA X [] tNil:=fun _ _ _ _ H Q I h=>Calls.spliced_nil ⟨[],H,I,.nil,h⟩
theorem Xaa (ha:PE X e te)(hr:PA X es t)(hs:starEach (e::es) X.env=(false,eval e X.env)::starEach es X.env:=by rfl):PA X (e::es) (XTj te t):=by
 intro pos pins s σ H Q I h
 rw[hs]
 show wpAny _ _ (spliced ((false,eval e X.env)::backTo pos (starEach es X.env))) _ _ s
 refine Calls.spliced_cons (thn (ha pins s σ H _ I h) fun u s1 ⟨x,H1,I1,r1,q1⟩=>?_)
 exact thn (hr pos pins s1 σ H1 _ I1 q1) fun us s2 ⟨xs,H2,I2,r2,q2⟩=>⟨x::xs,H2,I2,.cons r1 r2,q2⟩
def tTup (t:TA):TE:=fun σ H Q=>t σ H fun xs H1=>xs.length≤sizeLine∧∀p,H1 p=none→Q (.ref p) (upd H1 p (.tup xs))
def tLst (t:TA):TE:=fun σ H Q=>t σ H fun xs H1=>xs.length≤sizeLine∧∀p,H1 p=none→Q (.ref p) (upd H1 p (.lst xs))
theorem Xdl {x1}(h:PA X es t):PE X (.Tuple es x1 pos) (tTup t):=by
 intro pins s σ H Q I hq
 refine wpAny_Tuple_spliced (thn (h pos pins s σ H _ I hq) fun us s1 ⟨xs,H1,I1,r,z,q⟩=>⟨by rw[←r.length];exact z,?_⟩)
 have hf:H1 s1.heap.objs.size=none:=I1.hok.fresh (Nat.le_refl _)
 refine⟨.ref s1.heap.objs.size,upd H1 s1.heap.objs.size (.tup xs),I1.laid (t':=s1.toks) (fun b u e=>Heap.get?_push_of_some _ e) (Nat.le_refl _) ?_,rfl,q _ hf⟩
 exact⟨z,us,r,⟨_,Heap.get?_push_size _ rfl,rfl,_,rfl⟩⟩
theorem Xby (h:PA X es t):PE X (.List es pos) (tLst t):=by
 intro pins s σ H Q I hq
 refine wpAny_List_spliced (thn (h pos pins s σ H _ I hq) fun us s1 ⟨xs,H1,I1,r,z,q⟩=>⟨by rw[←r.length];exact z,?_⟩)
 have hf:H1 s1.heap.objs.size=none:=I1.hok.fresh (Nat.le_refl _)
 refine⟨.ref s1.heap.objs.size,upd H1 s1.heap.objs.size (.lst xs),I1.laid (t':=s1.toks) (fun b u e=>Heap.get?_push_of_some _ e) (Nat.le_refl _) ?_,rfl,q _ hf⟩
 exact⟨z,us,0,r,Heap.get?_push_size _ rfl⟩
end
abbrev Sp:=List V→Hp→VK→XK→Prop
abbrev CXT:=List Env→Hp→Shared→XK→Value→Shared→Prop
structure Env0 (P:Program)(w:World)(K:PySem.W.Frag)(mg:Str→Option Value)(base:Heap)(A:Around)(outer:List Env)(s:Shared)(H:Hp):Prop where
 frames:A.frames=some outer
 mod:Mod K mg base
 bs:∀b o,base.get? b=some o→s.heap.get? b=some o∧H b=none
 bsz:base.objs.size≤s.heap.objs.size
 funs:s.heap.FunFrames base outer
 frf:∀b∈frs outer,H b=none
 hok:HOk P w H s.heap
 bare:AllBare s.gens
def CE (outer:List Env)(P:Program)(w:World)(H:Hp)(s:Shared)(Q:VK)(u:Value)(s':Shared):Prop :=
 ∃v H',s'.os=s.os∧AllBare s'.gens∧Un (frs outer) [] H H' s.heap s'.heap∧HOk P w H' s'.heap∧RelV v u∧Q v H'
def CR (CX:CXT)(outer:List Env)(P:Program)(w:World)(H:Hp)(s:Shared)(Q:VK)(E:XK)(r:Result)(s':Shared):Prop :=
 match r with
 | .ok (.ret u)=>CE outer P w H s Q u s'
 | .ok _=>False
 | .error e=>CX outer H s E e s'
structure FnOk (P:Program)(w:World)(K:PySem.W.Frag)(mg:Str→Option Value)(base:Heap)(CX:CXT)(k:Nat)(f:Addr)(fd:FuncData)(ps:List Str)(sp:Sp):Prop where
 len:∀vs H Q E,sp vs H Q E→vs.length=ps.length
 run:∀(A:Around) (outer:List Env) (s:Shared) (H:Hp) (args:Args) (us:List Value) (vs:List V) (Q:VK) (E:XK),Room k A→Env0 P w K mg base A outer s H→BindsTo s fd args (ps.zip us)→Vals vs us→sp vs H Q E →
   codeAny (model P w) A (.call (.ref f) args) (CR CX outer P w H s Q E) s
theorem FnOk.mono {P:Program}{w:World}{K:PySem.W.Frag}{mg:Str→Option Value}{base:Heap}{CX:CXT}{j k:Nat}{f:Addr}{fd:FuncData}{ps:List Str}{sp:Sp}(F:FnOk P w K mg base CX j f fd ps sp)(h:j≤k) :
   FnOk P w K mg base CX k f fd ps sp:=⟨F.len,fun A outer s H args us vs Q E hr=>F.run A outer s H args us vs Q E (hr.mono h)⟩
theorem FnOk.imp {P:Program}{w:World}{K:PySem.W.Frag}{mg:Str→Option Value}{base:Heap}{CX:CXT}{k:Nat}{f:Addr}{fd:FuncData}{ps:List Str}{sp sp':Sp}(F:FnOk P w K mg base CX k f fd ps sp)
   (h:∀vs H Q E,sp' vs H Q E→sp vs H Q E):FnOk P w K mg base CX k f fd ps sp' :=
 ⟨fun vs H Q E q=>F.len vs H Q E (h _ _ _ _ q),fun A outer s H args us vs Q E hr he hb hv hs=>F.run A outer s H args us vs Q E hr he hb hv (h _ _ _ _ hs)⟩
theorem Env0.make {P:Program}{w:World}{K:PySem.W.Frag}{mg:Str→Option Value}{base:Heap}{A:Around}{outer:List Env}{s:Shared}{H:Hp}(e:Env0 P w K mg base A outer s H)(C:Addr)(us:List Value)(kw:List (Str×Value)) :
   Env0 P w K mg base (A.under (.builtin "type.__call__" ⟨.ref C::us,kw⟩)) outer s H:=⟨by first | exact e.frames | (simpa [Around.under,Code.envs,Code.isFrame,pushEnvs] using e.frames),e.mod,e.bs,e.bsz,e.funs,e.frf,e.hok,e.bare⟩
theorem Env0.in1 {P:Program}{w:World}{K:PySem.W.Frag}{mg:Str→Option Value}{base:Heap}{A:Around}{outer:List Env}{s:Shared}{H:Hp}(e:Env0 P w K mg base A outer s H) :
   Env0 P w K mg base A.in1 outer s H:=⟨e.frames,e.mod,e.bs,e.bsz,e.funs,e.frf,e.hok,e.bare⟩
section
variable {X:Cx}{pins:List (Addr×Obj)}{σ:St}{H:Hp}{s s':Shared}
theorem Inv.env0 (I:Inv X pins σ H s):Env0 X.prog X.w X.K X.mg X.base X.A X.stack s H :=
 ⟨I.ok.frames,I.ok.mod,I.bs,Nat.le_trans I.ok.bsz I.sz,I.stack,I.stkFree,I.hok,I.bare⟩
theorem Inv.after {Q:VK}{u:Value}(I:Inv X pins σ H s)(h:CE X.stack X.prog X.w H s Q u s'):EP X pins σ Q u s':=by
 obtain⟨v,H',os,bare,un,hok,r,q⟩:=h
 obtain⟨hh,g,d,t,os'⟩:=s'
 obtain rfl:os'=s.os:=os
 exact⟨v,H',I.call (h':=hh) (g':=g) (d':=d) (t':=t) (ch:=[]) un hok bare (fun b z=>absurd z (by simp)),r,q⟩
end
def Xtr (sp:Sp)(dvs:List V)(E:XK)(t:TA):TE:=fun σ H Q=>t σ H fun vs H1=>sp (vs++dvs) H1 Q E
def XAb (C:Addr)(sp:Sp)(dvs:List V)(E:XK)(t:TA):TE:=fun σ H Q=>t σ H fun vs H1=>∀x dx,H1 x=none→H1 dx=none→dx≠x →
 sp (.ref x::(vs++dvs)) (upd (upd H1 dx (.own x)) x (.ins C dx [])) (fun v H2=>v = .non∧Q (.ref x) H2) E
def Xco (K:PySem.W.Frag)(fd:FuncData)(ps:List Str)(ds:List Value):Prop :=
 ∀(s:Shared) (us:List Value),K.In s.heap→(us++ds).length=ps.length→BindsTo s fd ⟨us,[]⟩ (ps.zip (us++ds))
theorem Xco.all {K:PySem.W.Frag}{fd:FuncData}{ps:List Str}(h:∀us:List Value,us.length=ps.length→bindArgs fd ⟨us,[]⟩=pure (ps.zip us)):Xco K fd ps []:=fun s us _ hl=>by
 rw[List.append_nil] at hl ⊢
 exact .of_eq (h us hl)
def Xek (CX:CXT)(X:Cx)(E:XK):Prop:=∀(pins:List (Addr×Obj)) (σ:St) (H:Hp) (s:Shared) (e:Value) (s':Shared),Inv X pins σ H s→CX X.stack H s E e s'→X.xe e s'
section
variable {X:Cx}{CX:CXT}{k:Nat}{f C:Addr}{fd:FuncData}{ps:List Str}{sp:Sp}{dvs:List V}{ds:List Value}{E:XK}{x m:Str}{p pos apos:Pos}{e o:Expr}{es:List Expr}{ta:TE}{t:TA}
theorem Xku {pins:List (Addr×Obj)}{σ:St}{H:Hp}{s:Shared}{Q:VK}{us:List Value}{vs:List V}(F:FnOk X.prog X.w X.K X.mg X.base CX k f fd ps sp)(hr:Room k X.A)(hb:Xco X.K fd ps ds)(hd:Vals dvs ds)(hx:Xek CX X E)
   (I:Inv X pins σ H s) (r:Vals vs us) (h:sp (vs++dvs) H Q E):wpAny (model X.prog X.w) X.A (call (.ref f) us) (EP X pins σ Q) X.xe s:=by
 have r2:Vals (vs++dvs) (us++ds):=r.append hd
 have hl:(us++ds).length=ps.length:=by rw[←r2.length];exact F.len _ _ _ _ h
 refine wpAny_call (codeAny_mono (F.run X.A X.stack s H ⟨us,[]⟩ (us++ds) (vs++dvs) Q E hr I.env0 (hb s us I.kIn hl) r2 h) fun r s' hq=>?_)
 cases r with
 | error e=>exact hx pins σ H s e s' I hq
 | ok fl =>
   cases fl with
   | ret u=>exact I.after hq
   | next=>exact False.elim hq
   | brk=>exact False.elim hq
   | cont=>exact False.elim hq
theorem Xrf (F:FnOk X.prog X.w X.K X.mg X.base CX k f fd ps sp)(hr:Room k X.A)(hg:Gl X x)(hm:X.mg x=some (.ref f))(hk:PySem.W.keepIn X.K (.ref f)=true)(hb:Xco X.K fd ps ds)(hd:Vals dvs ds)(hx:Xek CX X E)
   (ha:PA X (e::es) t) (hdb:(x==("__debug__":Str))=false:=by decide) (he:starEach (e::es) X.env=(false,eval e X.env)::starEach es X.env:=by rfl) (hpl:(backTo pos (starEach es X.env)).any (·.1)=false:=by rfl) :
   PE X (.Call (.Name x p) (e::es) [] pos) (Xtr sp dvs E t):=by
 intro pins s σ H Q I h
 refine wpAny_Call_Name_kw (Xde I hg hm ?_ hdb)
 refine PySem.W.callWith_K (h₀:=X.base) I.ok.mod.kin hk (thn (ha pos pins s σ H _ I h) fun us s1 ⟨vs,H1,I1,r,q⟩=>⟨I1.kIn,?_⟩) he hpl
 exact Xku F hr hb hd hx I1 r q
structure Mk (K:PySem.W.Frag)(C f:Addr):Prop where
 makes:PySem.W.makesIn K C=true
 init:PySem.W.findIn K (.ref C) "__init__"=some (some (.ref f))
 fn:PySem.W.isFn K (.ref f)=true
 kp:PySem.W.keepIn K (.ref C)=true
theorem XAn {pins:List (Addr×Obj)}{σ:St}{H:Hp}{s:Shared}{Q:VK}{us:List Value}{vs:List V}(M:Mk X.K C f)(F:FnOk X.prog X.w X.K X.mg X.base CX k f fd ps sp)(hr:Room (k+1) X.A)(hb:Xco X.K fd ps ds)(hd:Vals dvs ds)
   (hx:Xek CX X E) (I:Inv X pins σ H s) (r:Vals vs us)
   (h:∀x dx,H x=none→H dx=none→dx≠x→sp (.ref x::(vs++dvs)) (upd (upd H dx (.own x)) x (.ins C dx [])) (fun v H2=>v = .non∧Q (.ref x) H2) E) :
   wpAny (model X.prog X.w) X.A (call (.ref C) us) (EP X pins σ Q) X.xe s:=by
 have hq:=h (s.heap.objs.size+1) s.heap.objs.size (I.hok.fresh (Nat.le_succ _)) (I.hok.fresh (Nat.le_refl _)) (Nat.ne_of_lt (Nat.lt_succ_self _))
 have I2:=Inv.made (C:=C) I
 have r2:Vals (V.ref (s.heap.objs.size+1)::(vs++dvs)) (Value.ref (s.heap.objs.size+1)::(us++ds)):=.cons rfl (r.append hd)
 have hl:(Value.ref (s.heap.objs.size+1)::us++ds).length=ps.length:=by
   have e:=r2.length
   rw[F.len _ _ _ _ hq] at e
   exact e.symm
 refine wpAny_call (Xya (f:=f) I.kIn M.makes M.init (beq_iff_eq.mp M.fn) (codeAny_mono (F.run _ X.stack _ _ ⟨Value.ref (s.heap.objs.size+1)::us,[]⟩ (Value.ref (s.heap.objs.size+1)::(us++ds)) _ _ E (hr.make C us [])
   (I2.env0.make C us []) (hb _ (Value.ref (s.heap.objs.size+1)::us) I2.kIn hl) r2 hq) fun r s' hq'=>?_))
 cases r with
 | error e=>exact hx pins σ _ _ e s' I2 hq'
 | ok fl =>
   cases fl with
   | ret u =>
     obtain⟨v,H',I3,rv,ev,q3⟩:=I2.after hq'
     subst ev
     exact⟨rv,⟨V.ref (s.heap.objs.size+1),H',I3,rfl,q3⟩⟩
   | next=>exact False.elim hq'
   | brk=>exact False.elim hq'
   | cont=>exact False.elim hq'
theorem XGr (M:Mk X.K C f)(F:FnOk X.prog X.w X.K X.mg X.base CX k f fd ps sp)(hr:Room (k+1) X.A)(hg:Gl X x)(hm:X.mg x=some (.ref C))(hb:Xco X.K fd ps ds)(hd:Vals dvs ds)(hx:Xek CX X E)
   (ha:PA X (e::es) t) (hdb:(x==("__debug__":Str))=false:=by decide) (he:starEach (e::es) X.env=(false,eval e X.env)::starEach es X.env:=by rfl) (hpl:(backTo pos (starEach es X.env)).any (·.1)=false:=by rfl) :
   PE X (.Call (.Name x p) (e::es) [] pos) (XAb C sp dvs E t):=by
 intro pins s σ H Q I h
 refine wpAny_Call_Name_kw (Xde I hg hm ?_ hdb)
 refine PySem.W.callWith_K (h₀:=X.base) I.ok.mod.kin M.kp (thn (ha pos pins s σ H _ I h) fun us s1 ⟨vs,H1,I1,r,q⟩=>⟨I1.kIn,?_⟩) he hpl
 exact XAn M F hr hb hd hx I1 r q
end
section
variable {X:Cx}{CX:CXT}{k:Nat}{f C:Addr}{fd:FuncData}{ps ks:List Str}{sp:Sp}{E:XK}{x m:Str}{p pos apos kpos:Pos}{e o:Expr}{es:List Expr}{kws:List Keyword}{te ta:TE}{t tk:TA}{nm:Option Str}
structure KBinds (K:PySem.W.Frag)(fd:FuncData)(ps ks:List Str)(g:List Value→List Value→List Value)(gV:List V→List V→List V):Prop where
 to:∀(s:Shared) (us ws:List Value),K.In s.heap→(g us ws).length=ps.length→BindsTo s fd ⟨us,ks.zip ws⟩ (ps.zip (g us ws))
 rel:∀{vs:List V} {us:List Value} {zs:List V} {ws:List Value},Vals vs us→Vals zs ws→Vals (gV vs zs) (g us ws)
variable {g:List Value→List Value→List Value}{gV:List V→List V→List V}
end
structure FnScope (N P:List Str)(sc:Scope):Prop where
 kind:sc.kind = .function
 co:sc.isCoroutine=false
 gen:sc.isGenerator=false
 nd:N.Nodup
 pre:N.take P.length=P
 par:∀x∈P,sc.names.lookup x=some .local∨sc.names.lookup x=some .cell
 nofree:∀y∈sc.names,y.2≠.free
theorem Xky {kindOf:Str→Option NameKind}{x:Str}:∀{binds:List (Str×Value)} {m:Str→Option Value},(∀v,(x,v) ∉ binds)→bindL kindOf binds m x=m x
 | [],_,_=>rfl
 | (n,v)::r,m,h=>by
   unfold bindL
   rw[Xky fun w hw=>h w (List.mem_cons_of_mem _ hw)]
   split
   · have:x≠n:=by rintro rfl;exact h v List.mem_cons_self
     simp [this]
   · rfl
theorem Xlg {kindOf:Str→Option NameKind}{x:Str}:∀{binds:List (Str×Value)} {m:Str→Option Value},(∀v,(x,v) ∉ binds)→bindC kindOf binds m x=m x
 | [],_,_=>rfl
 | (n,v)::r,m,h=>by
   unfold bindC
   rw[Xlg fun w hw=>h w (List.mem_cons_of_mem _ hw)]
   split
   · rfl
   · have:x≠n:=by rintro rfl;exact h v List.mem_cons_self
     simp [this]
theorem Xlk {kindOf:Str→Option NameKind}{x:Str}{v:Value}:∀{P:List Str} {vs:List Value} {i:Nat} {m:Str→Option Value},P.Nodup→P[i]?=some x→vs[i]?=some v→kindOf x=some .local →
   bindL kindOf (P.zip vs) m x=some v
 | [],_,_,_,_,h,_,_=>by simp at h
 | _::_,[],_,_,_,_,h,_=>by simp at h
 | p::P,w::vs,0,m,nd,h1,h2,hk=>by
   simp at h1 h2;subst h1;subst h2
   show bindL kindOf ((p,w)::P.zip vs) m p=_
   unfold bindL
   rw[Xky fun v hv=>(List.nodup_cons.mp nd).1 (List.of_mem_zip hv).1,if_pos hk]
   simp
 | p::P,w::vs,i+1,m,nd,h1,h2,hk=>by
   show bindL kindOf ((p,w)::P.zip vs) m x=_
   unfold bindL
   exact Xlk (i:=i) (List.nodup_cons.mp nd).2 (by simpa using h1) (by simpa using h2) hk
theorem Xmg {kindOf:Str→Option NameKind}{x:Str}{v:Value}:∀{P:List Str} {vs:List Value} {i:Nat} {m:Str→Option Value},P.Nodup→P[i]?=some x→vs[i]?=some v→kindOf x≠some .local →
   bindC kindOf (P.zip vs) m x=some v
 | [],_,_,_,_,h,_,_=>by simp at h
 | _::_,[],_,_,_,_,h,_=>by simp at h
 | p::P,w::vs,0,m,nd,h1,h2,hk=>by
   simp at h1 h2;subst h1;subst h2
   show bindC kindOf ((p,w)::P.zip vs) m p=_
   unfold bindC
   rw[Xlg fun v hv=>(List.nodup_cons.mp nd).1 (List.of_mem_zip hv).1,if_neg hk]
   simp
 | p::P,w::vs,i+1,m,nd,h1,h2,hk=>by
   show bindC kindOf ((p,w)::P.zip vs) m x=_
   unfold bindC
   exact Xmg (i:=i) (List.nodup_cons.mp nd).2 (by simpa using h1) (by simpa using h2) hk
def start (N:List Str)(vs:List V):St:=vs.map some++List.replicate (N.length-vs.length) none
def cxOf (CX:CXT)(P:Program)(w:World)(K:PySem.W.Frag)(mg:Str→Option Value)(base:Heap)(N:List Str)(qual:Str)(scope:Scope)(f:Addr)(cd:Value)(A:Around)(outer:List Env)(s:Shared)(H:Hp)(E:XK):Cx where
 prog:=P
 w:=w
 K:=K
 mg:=mg
 base:=base
 A:=A.deeper (envOfC qual scope s.heap.objs.size f cd)
 N:=N
 s₀:=s
 H₀:=H
 env:=envOfC qual scope s.heap.objs.size f cd
 outer:=outer
 stack:=envOfC qual scope s.heap.objs.size f cd::outer
 ex:=[]
 calm:=true
 fn:=fun _=>true
 pn:=[]
 xe:=fun e s'=>wpAny (model P w) (A.deeper (envOfC qual scope s.heap.objs.size f cd)) (leaving (envOfC qual scope s.heap.objs.size f cd) e) (fun _ s''=>CX outer H s E e s'') (fun e' s''=>CX outer H s E e' s'') s'
theorem Xny {sc:Scope}{n:Nat}{x:Str}(h:sc.names.lookup x=some .cell):∃c,(cellsFrom n sc.names []).lookup x=some c:=by
 have q:=PySem.W.cellsFrom_some sc.names n [] (.inl h)
 exact Option.isSome_iff_exists.mp q
theorem Xrs {CX:CXT}{P:Program}{w:World}{K:PySem.W.Frag}{mg:Str→Option Value}{base:Heap}{N ps:List Str}{qual:Str}{scope:Scope}{f:Addr}{cd:Value}{A:Around}{outer:List Env}{s s1:Shared}{H:Hp}{E:XK}{us:List Value}{vs:List V}
   (S:FnScope N ps scope) (hd:A.handled=none) (e0:Env0 P w K mg base A outer s H) (hl:vs.length=ps.length) (r:Vals vs us)
   (x:InCallC s s.heap.objs.size (bindL (envOfC qual scope s.heap.objs.size f cd).kindOf (ps.zip us) fun _=>none) (cellsFrom (s.heap.objs.size+1) scope.names []) (bindC (envOfC qual scope s.heap.objs.size f cd).kindOf (ps.zip us) fun _=>none) s1) :
   Inv (cxOf CX P w K mg base N qual scope f cd A outer s H E) [] (start N vs) H s1:=by
 have hpl:ps.length≤N.length:=by have:=congrArg List.length S.pre;rw[List.length_take] at this;omega
 obtain⟨h1,tk,rfl,hk⟩:=x.done
 have noA:∀b:Addr,b ∉ (cxOf CX P w K mg base N qual scope f cd A outer s H E).ex:=fun b z=>absurd (show b∈([]:List Addr) from z) (by simp)
 refine⟨⟨e0.mod,S.kind,rfl,rfl,Nat.le_refl _,fun y z c h1 h2=>?_,fun y hy=>?_,fun y c _ h=>?_,fun _=>hd,Around.frames_deeper e0.frames,.inr ⟨rfl,rfl⟩,fun b z=>absurd z (noA b),e0.bs,e0.bsz,fun b _ _=>noA b,fun b z=>absurd z (noA b),e0.funs,e0.frf⟩,
   rfl,e0.bare,Un.kept hk,⟨_,x.toInCall.ns,fun i y v h1 h2 h3=>?_⟩,fun y c h=>⟨_,x.cell y c h⟩,e0.hok.fresh (Nat.le_refl _),fun y c h=>?_,fun p hp=>absurd (show p∈([]:List (Addr×Obj)) from hp) (by simp),e0.hok.kept hk,?_⟩
 · exact name_of_addr x.apart (PySem.mem_of_lookup h1) (PySem.mem_of_lookup h2)
 · have hy:scope.names.lookup y=some .cell∨scope.names.lookup y=some .free:=hy
   rcases hy with hy | hy
   · exact Xny hy
   · exact absurd rfl (S.nofree _ (PySem.mem_of_lookup hy))
 · exact Nat.le_of_lt (x.above y c (PySem.mem_of_lookup h))
 · have hi:i<vs.length:=by
     unfold start at h2
     by_cases hi:i<vs.length
     · exact hi
     · rw[List.getElem?_append_right (by simpa using hi)] at h2
       rw[List.getElem?_replicate] at h2
       split at h2 <;> cases h2
   have ha:vs[i]?=some v:=by
     unfold start at h2
     rw[List.getElem?_append_left (by simpa using hi),List.getElem?_map] at h2
     cases e:vs[i]? with
     | none=>rw[e] at h2;cases h2
     | some a=>rw[e] at h2;cases h2;rfl
   obtain⟨u,hu,rv⟩:=r.get ha
   have hp:ps[i]?=some y:=by
     rw[←S.pre,List.getElem?_take_of_lt (by omega)];exact h1
   have ndP:ps.Nodup:=by rw[←S.pre];exact S.nd.sublist (List.take_sublist _ _)
   refine⟨u,rv,?_⟩
   rcases S.par y (List.mem_of_getElem? hp) with k | k
   · exact .inl ⟨k,Xlk ndP hp hu k⟩
   · obtain⟨c,e⟩:=Xny (n:=s.heap.objs.size+1) k
     refine .inr ⟨.inl k,c,e,?_⟩
     have q:=x.cell y c e
     rw[Xmg ndP hp hu (by show scope.names.lookup y≠_;rw[k];decide)] at q
     exact q
 · exact e0.hok.fresh (Nat.le_of_lt (x.above y c (PySem.mem_of_lookup h)))
 · unfold start
   show _=N.length
   rw[List.length_append,List.length_map,List.length_replicate]
   omega
theorem XIq {CX:CXT}{P:Program}{w:World}{K:PySem.W.Frag}{mg:Str→Option Value}{base:Heap}{k:Nat}{f:Addr}{name qual:Str}{params:Arguments}{body:List Stmt}{scope:Scope}{dV kV doc pm cdv ct oc:Value}{an od:Option Addr}
   {osl:Array (Option Value)} {N ps:List Str} {sp:Sp} (lk:K.lookup f=some ⟨oc,od,.func (PySem.W.fnOf name qual params body scope dV kV doc pm an cdv ct),osl⟩) (hcd:PySem.W.codeIn K cdv qual=true) (S:FnScope N ps scope)
   (len:∀vs H Q E,sp vs H Q E→vs.length=ps.length)
   (hbody:∀(A:Around) (outer:List Env) (s:Shared) (H:Hp) (vs:List V) (Q:VK) (E:XK),Room k (A.deeper (envOfC qual scope s.heap.objs.size f cdv))→sp vs H Q E →
     ∃t,PSs (cxOf CX P w K mg base N qual scope f cdv A outer s H E) body t∧t { nx:=fun _ H'=>Q .non H',rt:=Q } (start N vs) H) :
   FnOk P w K mg base CX (k+1) f (PySem.W.fnOf name qual params body scope dV kV doc pm an cdv ct) ps sp:=by
 refine⟨len,fun A outer s H args us vs Q E hr e0 hb r hsp=>?_⟩
 have hl:=len _ _ _ _ hsp
 have KX:K.In s.heap:=e0.mod.kin.keeps fun b o e=>(e0.bs b o e).1
 have lim:s.heap.NoLimit:=e0.mod.nolimit.keeps fun b o e=>(e0.bs b o e).1
 have hkind:∀y∈ps.zip us,scope.names.lookup y.1=some .local∨(scope.names.lookup y.1=some .cell∧((cellsFrom (s.heap.objs.size+1) scope.names []).lookup y.1).isSome=true):=fun ⟨n,v⟩ hy=>by
   rcases S.par n (List.of_mem_zip hy).1 with q | q
   · exact .inl q
   · exact .inr ⟨q,PySem.W.cellsFrom_some _ _ _ (.inl q)⟩
 refine codeAny_call_function hr.depth (KX _ _ lk) rfl S.co S.gen rfl (PySem.W.codeRec_of KX hcd) (hb _ _ _ _ ?_)
 refine wpAny_newFunctionEnv_cells S.kind hkind fun env he s1 x=>?_
 subst he
 refine⟨lim.keeps x.toInCall.keep,codeAny_func ?_⟩
 obtain⟨t,ht,hq⟩:=hbody A outer s H vs Q E (hr.deeper _) hsp
 have I:Inv (cxOf CX P w K mg base N qual scope f cdv A outer s H E) [] (start N vs) H s1:=Xrs S hr.hd e0 hl r x
 refine wpAny_mono (ht [] s1 (start N vs) H _ I hq) (fun fl s' hs=>?_) fun e s' hs=>hs
 have fin:∀{σ':St} {H':Hp} {v:V} {u:Value},Inv (cxOf CX P w K mg base N qual scope f cdv A outer s H E) [] σ' H' s'→RelV v u→Q v H'→CE outer P w H s Q u s' :=
   fun {σ' H' v u} J rv q=>⟨v,H',J.os,J.bare,J.base,J.hok,rv,q⟩
 cases fl with
 | ret u =>
   obtain⟨v,σ',H',J,rv,q⟩:=hs
   exact fin J rv q
 | next =>
   obtain⟨σ',H',J,q⟩:=hs
   exact fin (v:=V.non) (u:=Value.none) J rfl q
 | brk =>
   obtain⟨_,_,_,q⟩:=hs
   exact False.elim q
 | cont =>
   obtain⟨_,_,_,q⟩:=hs
   exact False.elim q
end L2
namespace L2
open PySem PySem.Spec PyProof.Rows
section
variable {X:Cx}{x:Str}{p pos:Pos}{e:Expr}{es:List Expr}{t:TA}{id T:String}{r:List V→Hp→VK→Prop}
def tCB (r:List V→Hp→VK→Prop)(t:TA):TE:=fun σ H Q=>t σ H fun vs H1=>r vs H1 Q
theorem Xam (hc:Xgw X (.builtin id) r)(hg:Gl X x)(hm:X.mg x=none)(hv:bootBuiltins x=some (.builtin id))(ha:PA X (e::es) t)(hn:x≠"__name__":=by decide)(hdb:(x==("__debug__":Str))=false:=by decide)
   (he:starEach (e::es) X.env=(false,eval e X.env)::starEach es X.env:=by rfl) (hpl:(backTo pos (starEach es X.env)).any (·.1)=false:=by rfl):PE X (.Call (.Name x p) (e::es) [] pos) (tCB r t):=by
 intro pins s σ H Q I h
 refine wpAny_Call_Name_kw (Xly I hg hm hv ?_ hn hdb)
 exact PyProof.Rows.callWith_builtin1 (thn (ha pos pins s σ H _ I h) fun us s1 ⟨vs,H1,I1,r1,q1⟩=>hc pins s1 σ H1 vs us Q I1 r1 q1) he hpl
theorem Xdd (hc:Xgw X (.type T) r)(hg:Gl X x)(hm:X.mg x=none)(hv:bootBuiltins x=some (.type T))(ha:PA X (e::es) t)(hn:x≠"__name__":=by decide)(hdb:(x==("__debug__":Str))=false:=by decide)
   (he:starEach (e::es) X.env=(false,eval e X.env)::starEach es X.env:=by rfl) (hpl:(backTo pos (starEach es X.env)).any (·.1)=false:=by rfl):PE X (.Call (.Name x p) (e::es) [] pos) (tCB r t):=by
 intro pins s σ H Q I h
 refine wpAny_Call_Name_kw (Xly I hg hm hv ?_ hn hdb)
 exact PyProof.Rows.callWith_type1 (thn (ha pos pins s σ H _ I h) fun us s1 ⟨vs,H1,I1,r1,q1⟩=>hc pins s1 σ H1 vs us Q I1 r1 q1) he hpl
end
end L2
namespace HT
open PySem PyProof.Rows
def lexLt:List Int→List Int→Bool
 | [],[]=>false
 | [],_::_=>true
 | _::_,[]=>false
 | x::xs,y::ys=>if x=y then lexLt xs ys else decide (x<y)
theorem Xpk (x y:Int)(xs ys:List Int):lexLt (x::xs) (y::ys)=if x=y then lexLt xs ys else decide (x<y):=rfl
theorem Xjj:lexLt [] []=false:=rfl
theorem Xio (y:Int)(ys:List Int):lexLt [] (y::ys)=true:=rfl
theorem Xiq (x:Int)(xs:List Int):lexLt (x::xs) []=false:=rfl
theorem Xxt (A:Around)(s:Shared)(a:Int)(t:Tok)(c:Int)(u:Tok):∃e,SeqAt.EqAt A s (.int a t) (.int c u) e∧(e=true↔a=c) :=
 ⟨(a==c),SeqAt.EqAt.int_int a t c u,by simp⟩
theorem XAk (A:Around)(s:Shared)(a:Int)(t:Tok)(c:Int)(u:Tok)(prog:Program)(w:World)(E:Value→Shared→Prop)(Q:Value→Shared→Prop)(h:Q (.bool (decide (a<c))) s) :
   wpAny (model prog w) A (richCompare .Lt (.int a t) (.int c u)) Q E s :=
 (PyProof.Rows.lt_int h:wpAny (model prog w) A (compareOp .Lt (.int a t) (.int c u)) Q E s)
section
open PySem.SeqAt
open PySem.AutoSeq1 (wpAny_loadPart')
open PySem.MeetsSeq PySem.MeetsSeq2 PySem.MeetsSeq3
theorem Xjh (l b:Addr)(items items2:Array Value)(n n2:Nat)(dd dd2:Option Addr)(sl sl2:Array (Option Value))(ns ms:List Int)(hi:IntsAre items.toList ns)(hj:IntsAre items2.toList ms) :
   Meets (Builtin.«tuple.__lt__» ⟨[.ref l,.ref b],[]⟩)
     (fun _ R s=>s.heap.get? l=some { cls:=.type "tuple",dict:=dd,data:=.seq items n,slots:=sl }∧s.heap.get? b=some { cls:=.type "tuple",dict:=dd2,data:=.seq items2 n2,slots:=sl2 } ∧
       R (.ok (.ret (.bool (lexLt ns ms)))) s) :=
 .of_wp fun prog w A R s h=>by
   obtain⟨hp,g,d,tk,os⟩:=s;obtain⟨hl,hb,h⟩:=h
   have f2:=AutoSeq1.sub_tuple_tuple
   have z1:items.size=ns.length:=by rw[←hi.length];simp
   have z2:items2.size=ms.length:=by rw[←hj.length];simp
   wp_walk using wpAny_loadPart' hl,wpAny_loadPart' hb,wpAny_forIn_list _ (fun rest b s'=>b.1=none∧s'=⟨hp,g,d,tk,os⟩∧∃(vs ws:List Value) (ns' ms':List Int),rest=vs.zip ws ∧
     IntsAre vs ns'∧IntsAre ws ms'∧ns'.length+items2.size=ms'.length+items.size∧R (.ok (.ret (.bool (lexLt ns' ms')))) ⟨hp,g,d,tk,os⟩) _
   case turn =>
     rintro⟨y,x⟩ rest b s' ⟨hb',rfl,vs,ws,ns',ms',hz,hvi,hwi,hlen,hR⟩
     cases hvi with
     | nil=>rw[List.zip_nil_left] at hz;cases hz
     | cons a t hvi' =>
       cases hwi with
       | nil=>rw[List.zip_nil_right] at hz;cases hz
       | cons c u hwi' =>
         rw[List.zip_cons_cons] at hz
         injection hz with hyx hrest
         injection hyx with hy hx
         subst hy hx
         rw[Xpk] at hR
         simp only [List.length_cons] at hlen
         obtain⟨e,he,hiff⟩:=Xxt A.in1 ⟨hp,g,d,tk,os⟩ a t c u
         refine wpAny_bind (he prog w _ _ ?_)
         cases e with
         | true =>
           rw[if_pos (hiff.mp rfl)] at hR
           wp_walk
           exact⟨rfl,rfl,_,_,_,_,hrest,hvi',hwi',by omega,hR⟩
         | false =>
           rw[if_neg (fun q=>absurd (hiff.mpr q) Bool.false_ne_true)] at hR
           have hri:=XAk A.in1 ⟨hp,g,d,tk,os⟩ a t c u prog w
           wp_walk using hri
           exact⟨_,rfl,by simpa using hR⟩
   case fin =>
     rintro⟨b1,b2⟩ s' ⟨hb',rfl,vs,ws,ns',ms',hz,hvi,hwi,hlen,hR⟩
     simp only at hb'
     subst hb'
     have hv:lexLt ns' ms'=decide (items.size<items2.size):=by
       cases hvi with
       | nil =>
         cases hwi with
         | nil =>
           simp only [List.length_nil] at hlen
           rw[Xjj]
           exact(decide_eq_false (by omega)).symm
         | cons c u hw =>
           simp only [List.length_nil,List.length_cons] at hlen
           rw[Xio]
           exact(decide_eq_true (by omega)).symm
       | cons a t hv =>
         cases hwi with
         | nil =>
           simp only [List.length_nil,List.length_cons] at hlen
           rw[Xiq]
           exact(decide_eq_false (by omega)).symm
         | cons c u hw =>
           rw[List.zip_cons_cons] at hz
           cases hz
     rw[hv] at hR
     wp_walk
     exact⟨_,rfl,by simpa [Builtin.Tuple.tupleCompareSizes] using hR⟩
   case h =>
     exact⟨rfl,rfl,items.toList,items2.toList,ns,ms,rfl,hi,hj,by omega,h⟩
end
section
variable {prog:Program}{w:World}{A:Around}{E:Value→Shared→Prop}{s:Shared}
theorem lt_tupInts {l b:Addr}{items items2:Array Value}{ns ms:List Int}{Q:Value→Shared→Prop}(hl:IsTup s.heap l items)(hb:IsTup s.heap b items2)(hi:IntsAre items.toList ns)(hj:IntsAre items2.toList ms)
   (hu:A.units<cLine) (h:Q (.bool (lexLt ns ms)) s):wpAny (model prog w) A (compareOp .Lt (.ref l) (.ref b)) Q E s:=by
 obtain⟨⟨cls,dd,data,sl⟩,ho,hc,n,hd⟩:=id hl
 obtain⟨⟨cls2,dd2,data2,sl2⟩,ho2,hc2,n2,hd2⟩:=id hb
 simp only at hc hd hc2 hd2
 subst hc hd hc2 hd2
 exact richCompare_meets_room (op:=.Lt) ⟨_,ho,rfl⟩ ⟨_,ho2,rfl⟩ PySem.F.slot_tuple_lt PySem.F.entry_tuple_lt (PySem.F.args_tuple_lt_2 _ _) (Xjh l b items items2 n n2 dd dd2 sl sl2 ns ms hi hj)
   ⟨ho,ho2,show Value.bool (lexLt ns ms)≠Value.notImplemented∧Q (.bool (lexLt ns ms)) s from ⟨(fun x=>nomatch x),h⟩⟩ hu
def sIx (n d:Nat):Option Int→Nat
 | none=>d
 | some v=>if v<0 then (v+(n:Int)).toNat else min v.toNat n
end
end HT
namespace L2
open PySem PySem.Spec PyProof.Rows
abbrev TO:=St→Hp→(Option Int→Hp→Prop)→Prop
def PO (X:Cx)(e:Option Expr)(t:TO):Prop :=
 ∀(pins:List (Addr×Obj)) (s:Shared) (σ:St) (H:Hp) (Q:Option Int→Hp→Prop),Inv X pins σ H s→t σ H Q →
   wpAny (model X.prog X.w) X.A (evalPart e X.env) (fun u s'=>∃o H',Inv X pins σ H' s'∧IsPart u o∧Q o H') X.xe s
def Xrv:TO:=fun _ H Q=>Q none H
def XRg (t:TE):TO:=fun σ H Q=>t σ H fun x H1=>∃i,x = .int i∧Q (some i) H1
theorem Xoq {ns:List Int}:∀{us:List Value},Vals (ns.map V.int) us→IntsAre us ns:=by
 induction ns with
 | nil=>intro us r;rw[List.map_nil] at r;cases r;exact .nil
 | cons n ns ih =>
   intro us r
   rw[List.map_cons] at r
   cases r with
   | cons r1 r2 =>
     obtain⟨t,e⟩:=r1
     subst e
     exact .cons n t (ih r2)
section
variable {X:Cx}{e:Expr}{te:TE}{lo hi:Option Expr}{tl th:TO}{pos p2:Pos}
theorem Xep:PO X none Xrv:=by
 intro pins s σ H Q I h
 rw[evalPart_none]
 exact wpAny_pure ⟨none,H,I,.none,h⟩
theorem Xex (h:PE X e te):PO X (some e) (XRg te):=by
 intro pins s σ H Q I hw
 rw[evalPart_some]
 refine thn (h pins s σ H _ I hw) fun u s1 ⟨x,H1,I1,r1,q1⟩=>?_
 obtain⟨i,rfl,q⟩:=q1
 obtain⟨t,rfl⟩:=r1
 exact⟨some i,H1,I1,.int i t,q⟩
def SlR (X:Cx)(r:V→Option Int→Option Int→Hp→VK→Prop):Prop :=
 ∀(pins:List (Addr×Obj)) (s:Shared) (σ:St) (H:Hp) (x:V) (v vl vu:Value) (lo hi:Option Int) (sl:Addr) (Q:VK),Inv X pins σ H s→RelV x v→s.heap.IsSliceOf sl vl vu .none→IsPart vl lo→IsPart vu hi→r x lo hi H Q →
   ∃T id,typeLookup (.type T) "__getitem__"=pure (some (.builtin id))∧s.TypeIs v T∧wpAny (model X.prog X.w) X.A (getItem v (.ref sl)) (EP X pins σ Q) X.xe s
def tSl (r:V→Option Int→Option Int→Hp→VK→Prop)(te:TE)(tl th:TO):TE:=fun σ H Q=>te σ H fun x H1=>tl σ H1 fun l H2=>th σ H2 fun u H3=>r x l u H3 Q
theorem Xdk {r:V→Option Int→Option Int→Hp→VK→Prop}(hr:SlR X r)(he:PE X e te)(hl:PO X lo tl)(hu:PO X hi th):PE X (.Subscript e (.Slice lo hi none p2) pos) (tSl r te tl th):=by
 intro pins s σ H Q I h
 refine Subscript_ (thn (he pins s σ H _ I h) fun v s1 ⟨x,H1,I1,r1,q1⟩=>?_)
 refine wpAny_Slice (thn (hl pins s1 σ H1 _ I1 q1) fun vl s2 ⟨l,H2,I2,pl,q2⟩=>thn (hu pins s2 σ H2 _ I2 q2) fun vu s3 ⟨u,H3,I3,pu,q3⟩=>?_)
 rw[evalPart_none]
 refine wpAny_pure ?_
 have I4:Inv X pins σ H3 { s3 with heap:=s3.heap.push { cls:=.type "slice",data:=.fields #[vl,vu,.none] } }:=I3.kept (t':=s3.toks) fun b ob q=>Heap.get?_push_of_some _ q
 obtain⟨T,id,hT,ht,hg⟩:=hr pins { s3 with heap:=s3.heap.push { cls:=.type "slice",data:=.fields #[vl,vu,.none] } } σ H3 x v vl vu l u s3.heap.objs.size Q I4 r1 (Heap.IsSliceOf.new ..) pl pu q3
 show wpAny (model X.prog X.w) X.A (subscriptTail e (.Slice lo hi none p2) v (.ref s3.heap.objs.size)) (EP X pins σ Q) X.xe { s3 with heap:=s3.heap.push { cls:=.type "slice",data:=.fields #[vl,vu,.none] } }
 exact tail_any (ops:=[.ref s3.heap.objs.size,v]) ht hT hg (by with_unfolding_all rfl)
def cutV (xs:List V)(lo hi:Option Int):List V:=(xs.drop (HT.sIx xs.length 0 lo)).take (HT.sIx xs.length xs.length hi-HT.sIx xs.length 0 lo)
theorem Xmw (xs:List V)(lo hi:Option Int):(cutV xs lo hi).length≤xs.length:=by
 unfold cutV
 rw[List.length_take,List.length_drop]
 omega
end
end L2
namespace L2
open PySem PySem.Spec PyProof.Rows
def ixN (n:Nat)(i:Int):Option Nat:=if 0≤i then (if i<n then some i.toNat else none) else if -(n:Int)≤i then some (i+n).toNat else none
def atI {α:Type}(xs:List α)(i:Int):Option α:=(ixN xs.length i).bind fun j=>xs[j]?
theorem Xsn {n:Nat}{i:Int}{j:Nat}(h:ixN n i=some j):seqIndex? i n=some j∧j<n∧-(n:Int)≤i∧i<n:=by
 unfold ixN at h
 by_cases h0:0≤i
 · rw[if_pos h0] at h
   by_cases h1:i<n
   · rw[if_pos h1] at h
     have e:i.toNat=j:=Option.some.inj h
     exact⟨by rw[seqIndex_of h0 h1,e],by omega,by omega,h1⟩
   · rw[if_neg h1] at h;cases h
 · rw[if_neg h0] at h
   by_cases h1 : -(n:Int)≤i
   · rw[if_pos h1] at h
     have e:(i+n).toNat=j:=Option.some.inj h
     exact⟨by rw[seqIndex_neg (by omega) h1,e],by omega,h1,by omega⟩
   · rw[if_neg h1] at h;cases h
theorem Xna {α:Type}{xs:List α}{i:Int}{v:α}(h:atI xs i=some v):∃j,seqIndex? i xs.length=some j∧xs[j]?=some v∧j<xs.length∧-(xs.length:Int)≤i∧i<xs.length:=by
 unfold atI at h
 cases e:ixN xs.length i with
 | none=>rw[e] at h;cases h
 | some j =>
   rw[e] at h
   obtain⟨h1,h2,h3,h4⟩:=Xsn e
   exact⟨j,h1,h,h2,h3,h4⟩
theorem Xes {α:Type}{xs:List α}{j:Nat}{v:α}(h:xs[j]?=some v):atI xs (j:Int)=some v:=by
 have hj:j<xs.length:=(List.getElem?_eq_some_iff.mp h).1
 have e:ixN xs.length (j:Int)=some j:=by
   unfold ixN
   rw[if_pos (by omega),if_pos (by omega)];simp
 unfold atI;rw[e];exact h
theorem Xyj {α:Type}(xs:List α)(v:α):atI (xs++[v]) (-1)=some v:=by
 have hl:(xs++[v]).length=xs.length+1:=by simp
 have e:ixN (xs++[v]).length (-1)=some xs.length:=by
   unfold ixN
   rw[hl,if_neg (by decide),if_pos (by omega)]
   congr 1
   omega
 unfold atI
 rw[e]
 show (xs++[v])[xs.length]?=some v
 simp
def XFu (b:Expr):Prop:=∀o i,subscripted b false o i=operate [o,i] (getItem o i)
def IxR (X:Cx)(r:R2):Prop :=
 ∀(value slice:Expr) (pins:List (Addr×Obj)) (s:Shared) (σ:St) (H:Hp) (x y:V) (v u:Value) (Q:VK),Inv X pins σ H s→RelV x v→RelV y u→r x y H Q →
   subscripted slice false v u=operate [v,u] (getItem v u)→wpAny (model X.prog X.w) X.A (subscriptTail value slice v u) (EP X pins σ Q) X.xe s
def MtR (X:Cx)(id:String)(r:V→List V→Hp→VK→Prop):Prop :=
 ∀(pins:List (Addr×Obj)) (s:Shared) (σ:St) (H:Hp) (x:V) (xs:List V) (v:Value) (us:List Value) (Q:VK),Inv X pins σ H s→RelV x v→Vals xs us→r x xs H Q →
   wpAny (model X.prog X.w) X.A (call (.builtin id) (v::us)) (EP X pins σ Q) X.xe s
section
variable {X:Cx}{a b:Expr}{ta tb:TE}{pos:Pos}
theorem Xbx {r:R2}(hr:IxR X r)(ha:PE X a ta)(hb:PE X b tb)(hs:XFu b):PE X (.Subscript a b pos) (tOp r ta tb):=by
 intro pins s σ H Q I h
 exact Subscript_ (binT ha hb I h fun v u s2 x y H2 I2 rx ry q=>hr a b pins s2 σ H2 x y v u Q I2 rx ry q (hs _ _))
def rIxL (K:PySem.W.Frag):R2:=fun x y H Q=>∃p xs i v,x = .ref p∧y = .int i∧SqL K H p xs∧atI xs i=some v∧Q v H
def rIxT (K:PySem.W.Frag):R2:=fun x y H Q=>∃p xs i v,x = .ref p∧y = .int i∧SqT K H p xs∧atI xs i=some v∧Q v H
def rIxS:R2:=fun x y H Q=>∃z i c,x = .str z∧y = .int i∧z.length≤sizeLine∧atI z.cps.toList i=some c∧Q (.str ⟨#[c]⟩) H
theorem Xbi:IxR X (rIxL X.K):=by
 intro value slice pins s σ H x y v u Q I rx ry h hs
 obtain⟨p,xs,i,z,rfl,rfl,hq,he,q⟩:=h
 cases rx
 obtain⟨t,rfl⟩:=ry
 obtain⟨its,r,pl,hz⟩:=I.list hq
 obtain⟨j,h1,h2,h3,h4,h5⟩:=Xna he
 obtain⟨w,ew,rw'⟩:=r.get h2
 have hl:=r.length
 have hn:=Xif
 have fin:EP X pins σ Q w s:=⟨z,H,I,rw',q⟩
 by_cases h0:0≤i
 · have hj:i.toNat=j:=by
     rw[seqIndex_of h0 h5] at h1
     exact Option.some.inj h1
   exact item_listR pl.isList h0 (by omega) (by rw[hj];simpa using ew) fin hs
 · have hj:(i+(its.toArray.size:Int)).toNat=j:=by
     rw[seqIndex_neg (by omega) h4] at h1
     rw[List.size_toArray,←hl]
     exact Option.some.inj h1
   exact subscriptTail_builtinR (x:=w) pl.isList.typeIs slot_list_getitem.lookup
     (wpAny_getItem_list_neg (Q:=fun r s'=>r=w∧EP X pins σ Q r s') pl.isList (by omega) (by rw[List.size_toArray] <;> omega) (by omega) (by rw[hj];simpa using ew) ⟨rfl,fin⟩) hs
theorem Xfh:IxR X (rIxT X.K):=by
 intro value slice pins s σ H x y v u Q I rx ry h hs
 obtain⟨p,xs,i,z,rfl,rfl,hq,he,q⟩:=h
 cases rx
 obtain⟨t,rfl⟩:=ry
 obtain⟨its,r,pl,hz⟩:=I.tuple hq
 obtain⟨j,h1,h2,h3,h4,h5⟩:=Xna he
 obtain⟨w,ew,rw'⟩:=r.get h2
 have hl:=r.length
 have hn:=Xif
 have fin:EP X pins σ Q w s:=⟨z,H,I,rw',q⟩
 exact subscriptTail_builtinR (x:=w) pl.typeIs slot_tuple_getitem.lookup
   (getItem_tuple (j:=j) (Q:=fun r s'=>r=w∧EP X pins σ Q r s') pl (by omega) (by omega) (by rw[List.size_toArray,←hl];exact h1) (by simpa using ew) ⟨rfl,fin⟩) hs
theorem XCk:IxR X rIxS:=by
 intro value slice pins s σ H x y v u Q I rx ry h hs
 obtain⟨z,i,c,rfl,rfl,hz,he,q⟩:=h
 obtain⟨t,rfl⟩:=rx
 obtain⟨t',rfl⟩:=ry
 obtain⟨j,h1,h2,h3,h4,h5⟩:=Xna he
 have hl:z.cps.toList.length=z.length:=by simp [Str.length]
 rw[hl] at h1 h4 h5
 have hn:=Xif
 exact tail_any (typeIs_str s z t) slot_str_getitem.lookup (getItem_str (c:=c) (by
   have e1:decide (i < -(2^63:Int))=false:=decide_eq_false (by omega)
   have e2:decide (i≥2^63)=false:=decide_eq_false (by omega)
   rw[e1,e2,Bool.or_false]) (by rw[h1];simpa using h2) ⟨.str ⟨#[c]⟩,H,I.tok _,⟨_,rfl⟩,q⟩) hs
theorem Xop (its:List Value)(n j:Nat)(u:Value):Obj.mapSeq (·.setIfInBounds j u) { cls:=.type "list",data:=.seq its.toArray n }={ cls:=.type "list",data:=.seq (its.set j u).toArray n }:=by
 simp [Obj.mapSeq]
theorem Inv.lst {pins:List (Addr×Obj)}{σ:St}{H:Hp}{s:Shared}{p:Addr}{xs:List V}(I:Inv X pins σ H s)(h:H p=some (.lst xs)) :
   ∃(its:List Value) (n:Nat),Vals xs its∧s.heap.get? p=some { cls:=.type "list",data:=.seq its.toArray n }∧xs.length≤sizeLine:=by
 obtain⟨z,its,n,r,e⟩:=I.hok p _ h
 exact⟨its,n,r,e,z⟩
theorem Inv.lstUpd {pins:List (Addr×Obj)}{σ:St}{H:Hp}{s:Shared}{p:Addr}{xs ys:List V}{its its':List Value}{n n':Nat}{f:Obj→Obj}(I:Inv X pins σ H s)(h:H p=some (.lst xs))
   (ho:s.heap.get? p=some { cls:=.type "list",data:=.seq its.toArray n }) (hf:f { cls:=.type "list",data:=.seq its.toArray n }={ cls:=.type "list",data:=.seq its'.toArray n' }) (r:Vals ys its') (hz:ys.length≤sizeLine) (t:Nat) :
   Inv X pins σ (upd H p (.lst ys)) { s with heap:=s.heap.update p f,toks:=t }:=by
 have e:(s.heap.update p f).get? p=some { cls:=.type "list",data:=.seq its'.toArray n' }:=by
   rw[Heap.get?_update_self f ho (by rw[hf] <;> rfl),hf]
 refine I.write (x:=p) (e:=p) (by rw[h];trivial) (.inl rfl) (fun b u hb q=>(Heap.get?_update_other _ _ (Ne.symm hb)).trans q) ⟨_,e⟩ ?_
 exact⟨hz,its',n',r,e⟩
def rSetL:V→V→V→Hp→(Hp→Prop)→Prop:=fun o i v H Q=>∃p xs k j,o = .ref p∧i = .int k∧H p=some (.lst xs)∧ixN xs.length k=some j∧Q (upd H p (.lst (xs.set j v)))
theorem Xgz:PSet X rSetL:=by
 intro pins s σ H o i v ov iv u Q I ro ri rv h
 obtain⟨p,xs,k,j,rfl,rfl,hp,hj,q⟩:=h
 cases ro
 obtain⟨t,rfl⟩:=ri
 obtain⟨its,n,r,ho,hz⟩:=I.lst hp
 obtain⟨h1,h2,h3,h4⟩:=Xsn hj
 have hl:=r.length
 have hn:=Xif
 have I':Inv X pins σ (upd H p (.lst (xs.set j v))) { s with heap:=s.heap.update p (Obj.mapSeq (·.setIfInBounds j u)) } :=
   I.lstUpd hp ho (Xop its n j u) (r.set rv j) (by rw[List.length_set];exact hz) s.toks
 by_cases h0:0≤k
 · have hk:k.toNat=j:=by
     rw[seqIndex_of h0 h4] at h1
     exact Option.some.inj h1
   exact PySem.W.ki_setAt ho h0 (by omega) (by rw[List.size_toArray,←hl];exact h4) (by rw[hk];exact⟨_,I',q⟩)
 · have hk:(k+(its.toArray.size:Int)).toNat=j:=by
     rw[seqIndex_neg (by omega) h3] at h1
     rw[List.size_toArray,←hl]
     exact Option.some.inj h1
   exact PySem.W.ki_setBack ho (by omega) (by rw[List.size_toArray,←hl];exact h3) (by omega) (by rw[hk];exact⟨_,I',q⟩)
theorem Xlm (lo hi:Option Int)(n:Nat):(sliceBounds lo hi none n).1=((HT.sIx n 0 lo:Nat):Int)∧(sliceBounds lo hi none n).2.1=((HT.sIx n n hi:Nat):Int)∧(sliceBounds lo hi none n).2.2=1:=by
 refine⟨?_,?_,rfl⟩
 · cases lo with
   | none=>simp [sliceBounds,HT.sIx]
   | some i =>
     simp only [sliceBounds,HT.sIx,Option.getD_none,show (1:Int)>0 by decide,if_true]
     by_cases h:i<0
     · simp only [h,if_true] <;> omega
     · simp only [h,if_false] <;> omega
 · cases hi with
   | none=>simp [sliceBounds,HT.sIx]
   | some i =>
     simp only [sliceBounds,HT.sIx,Option.getD_none,show (1:Int)>0 by decide,if_true]
     by_cases h:i<0
     · simp only [h,if_true] <;> omega
     · simp only [h,if_false] <;> omega
theorem Xjk (its:List Value)(lo hi:Option Int):slicePick its.toArray lo hi none=((its.drop (HT.sIx its.length 0 lo)).take (HT.sIx its.length its.length hi-HT.sIx its.length 0 lo)).toArray:=by
 obtain⟨h1,h2,h3⟩:=Xlm lo hi its.toArray.size
 unfold slicePick
 rw[h1,h2,h3]
 simp only [sliceRange_one,pick_run,List.size_toArray] <;> rfl
def rSlL (K:PySem.W.Frag):V→Option Int→Option Int→Hp→VK→Prop:=fun x lo hi H Q=>∃a xs,x = .ref a∧SqL K H a xs∧∀p,H p=none→Q (.ref p) (upd H p (.lst (cutV xs lo hi)))
theorem sl_list:SlR X (rSlL X.K):=by
 intro pins s σ H x v vl vu lo hi sl Q I rx hs pl pu h
 obtain⟨a,xs,rfl,hx,q⟩:=h
 cases rx
 obtain⟨its,r,ht,hz⟩:=I.list hx
 have hlen:=r.length
 refine⟨"list",_,slot_list_getitem.lookup,ht.isList.typeIs,?_⟩
 refine wpAny_getItem_list_slice ht.isList hs pl pu .none (by simp) ?_ (by rw[List.size_toArray] <;> omega)
 rw[Xjk,←hlen]
 refine⟨.ref s.heap.objs.size,_,I.laid (t':=s.toks) (o:=.lst (cutV xs lo hi)) (fun b ob q=>Heap.get?_push_of_some _ q) (Nat.le_refl _) ?_,rfl,q _ (I.hok.fresh (Nat.le_refl _))⟩
 exact⟨Nat.le_trans (Xmw xs lo hi) hz,_,0,(r.drop (HT.sIx xs.length 0 lo)).take (HT.sIx xs.length xs.length hi-HT.sIx xs.length 0 lo),Heap.get?_push_size _ rfl⟩
def Xcr:V→Bool
 | .non=>true
 | .bl _=>true
 | .int _=>true
 | .str _=>true
 | _=>false
def eqV:V→V→Bool
 | .non,.non=>true
 | .bl a,.bl b=>a==b
 | .bl a,.int b=>(if a then 1 else 0)==b
 | .int a,.bl b=>a==(if b then 1 else 0)
 | .int a,.int b=>a==b
 | .str a,.str b=>a==b
 | _,_=>false
theorem Xod {A:Around}{s:Shared}{y x:V}{u v:Value}(ry:RelV y u)(rx:RelV x v)(fy:Xcr y=true)(fx:Xcr x=true):SeqAt.EqAt A s u v (eqV y x):=by
 cases y with
 | non =>
   cases ry
   cases x with
   | non=>cases rx;exact SeqAt.EqAt.same _
   | bl b=>cases rx;exact SeqAt.EqAt.none_bool b
   | int b=>obtain⟨t,rfl⟩:=rx;exact SeqAt.EqAt.none_int b t
   | str b=>obtain⟨t,rfl⟩:=rx;exact SeqAt.EqAt.none_str b t
   | _=>exact absurd (show false=true from fx) Bool.false_ne_true
 | bl a =>
   cases ry
   cases x with
   | non=>cases rx;exact SeqAt.EqAt.bool_none a
   | bl b=>cases rx;exact SeqAt.EqAt.bool_bool a b
   | int b=>obtain⟨t,rfl⟩:=rx;exact SeqAt.EqAt.bool_int a b t
   | str b=>obtain⟨t,rfl⟩:=rx;exact SeqAt.EqAt.bool_str a b t
   | _=>exact absurd (show false=true from fx) Bool.false_ne_true
 | int a =>
   obtain⟨t',rfl⟩:=ry
   cases x with
   | non=>cases rx;exact SeqAt.EqAt.int_none a t'
   | bl b=>cases rx;exact SeqAt.EqAt.int_bool a t' b
   | int b=>obtain⟨t,rfl⟩:=rx;exact SeqAt.EqAt.int_int a t' b t
   | str b=>obtain⟨t,rfl⟩:=rx;exact SeqAt.EqAt.int_str a t' b t
   | _=>exact absurd (show false=true from fx) Bool.false_ne_true
 | str a =>
   obtain⟨t',rfl⟩:=ry
   cases x with
   | non=>cases rx;exact SeqAt.EqAt.str_none a t'
   | bl b=>cases rx;exact SeqAt.EqAt.str_bool a t' b
   | int b=>obtain⟨t,rfl⟩:=rx;exact SeqAt.EqAt.str_int a t' b t
   | str b=>obtain⟨t,rfl⟩:=rx;exact SeqAt.EqAt.str_str a t' b t
   | _=>exact absurd (show false=true from fx) Bool.false_ne_true
 | _=>exact absurd (show false=true from fy) Bool.false_ne_true
def eqU (x:V)(u:Value):Bool:=match u with
 | .none=>eqV .non x
 | .bool b=>eqV (.bl b) x
 | .int i _=>eqV (.int i) x
 | .str z _=>eqV (.str z) x
 | _=>false
theorem Xng {x y:V}{u:Value}(r:RelV y u)(f:Xcr y=true):eqU x u=eqV y x:=by
 cases y with
 | non=>cases r;rfl
 | bl b=>cases r;rfl
 | int i=>obtain⟨t,rfl⟩:=r;rfl
 | str z=>obtain⟨t,rfl⟩:=r;rfl
 | _=>exact absurd (show false=true from f) Bool.false_ne_true
theorem Xmi {x:V}:∀{xs:List V} {us:List Value},Vals xs us→xs.all Xcr=true→us.any (eqU x)=xs.any fun y=>eqV y x
 | _,_,.nil,_=>rfl
 | y::xs,u::us,.cons r t,f=>by
   rw[List.all_cons,Bool.and_eq_true] at f
   rw[List.any_cons,List.any_cons,Xng r f.1,Xmi t f.2]
theorem Xhb {A:Around}{s:Shared}{x:V}{v:Value}(rx:RelV x v)(fx:Xcr x=true):∀{xs:List V} {us:List Value},Vals xs us→xs.all Xcr=true→∀u∈us,SeqAt.EqAt A s u v (eqU x u)
 | _,_,.nil,_=>fun u hu=>by cases hu
 | y::xs,u::us,.cons r t,f=>fun u' hu=>by
   rw[List.all_cons,Bool.and_eq_true] at f
   rcases List.mem_cons.mp hu with rfl | hu
   · rw[Xng r f.1];exact Xod r rx f.1 fx
   · exact Xhb rx fx t f.2 u' hu
def inV (x:V)(xs:List V):Bool:=xs.any fun y=>eqV y x
def rIn (K:PySem.W.Frag)(neg:Bool):R2:=fun x y H Q=>∃p xs,y = .ref p∧(SqL K H p xs∨SqT K H p xs)∧Xcr x=true∧xs.all Xcr=true∧Q (.bl (if neg then !inV x xs else inV x xs)) H
theorem Xlu:OpR X (compareOp .NotIn) (rIn X.K true):=by
 intro pins s σ H x y v u Q I rx ry h
 obtain⟨p,xs,rfl,hq,fx,fs,q⟩:=h
 cases ry
 rcases hq with hq | hq
 · obtain⟨its,r,pl,hz⟩:=I.list hq
   refine SeqAt.notIn_listAt (eqU x) pl.isList (fun w hw=>Xhb rx fx r fs w (by simpa using hw)) ⟨.bl _,H,I,rfl,?_⟩
   rw[show its.toArray.any (eqU x)=its.any (eqU x) by simp,Xmi r fs]
   exact q
 · obtain⟨its,r,pl,hz⟩:=I.tuple hq
   refine SeqAt.notIn_tupleAt (eqU x) pl (fun w hw=>Xhb rx fx r fs w (by simpa using hw)) ⟨.bl _,H,I,rfl,?_⟩
   rw[show its.toArray.any (eqU x)=its.any (eqU x) by simp,Xmi r fs]
   exact q
theorem Xbm:Xgw X (.builtin "len") (fun xs H Q=>∃p ys,xs=[.ref p]∧(SqL X.K H p ys∨SqT X.K H p ys)∧Q (.int ys.length) H):=by
 intro pins s σ H xs us Q I r h
 obtain⟨p,ys,rfl,hq,q⟩:=h
 obtain⟨u,rfl,rx⟩:=Xsd r
 cases rx
 have hn:=Xif
 rcases hq with hq | hq
 · obtain⟨its,r',pl,hz⟩:=I.list hq
   have hlen:=r'.length
   exact Calls.call_len_list pl.isList (by simp only [List.size_toArray] <;> omega) ⟨.int ys.length,H,I.tok _,⟨s.toks+1,by rw[List.size_toArray,hlen]⟩,q⟩
 · obtain⟨its,r',pl,hz⟩:=I.tuple hq
   have hlen:=r'.length
   exact len_tuple pl (by simp only [List.size_toArray] <;> omega) ⟨.int ys.length,H,I.tok _,⟨s.toks+1,by rw[List.size_toArray,hlen]⟩,q⟩
theorem Xcm:Xgw X (.type "list") (fun xs H Q=>∃p ys,xs=[.ref p]∧(SqL X.K H p ys∨SqT X.K H p ys)∧∀l,H l=none→Q (.ref l) (upd H l (.lst ys))):=by
 intro pins s σ H xs us Q I r h
 obtain⟨p,ys,rfl,hq,q⟩:=h
 obtain⟨u,rfl,rx⟩:=Xsd r
 cases rx
 have fin:∀(its:List Value),Vals ys its→ys.length≤sizeLine→∀(h':Heap) (c':Nat),(∀b o',s.heap.get? b=some o'→h'.get? b=some o') →
     h'.get? s.heap.objs.size=some { cls:=.type "list",dict:=none,data:=.seq its.toArray c',slots:=#[] }→EP X pins σ Q (.ref s.heap.objs.size) { s with heap:=h' }:=fun its r' hz h' c' kp e =>
   ⟨.ref s.heap.objs.size,_,I.laid (t':=s.toks) kp (Nat.le_refl _) (show Xdy X.prog X.w _ h' _ (.lst ys) from ⟨hz,its,c',r',e⟩),rfl,q _ (I.hok.fresh (Nat.le_refl _))⟩
 rcases hq with hq | hq
 · obtain⟨its,r',pl,hz⟩:=I.list hq
   have hlen:=r'.length
   obtain⟨o,ho,hc,n,hd⟩:=pl.isList
   exact call_list_seq p (.inl rfl) ho hc hd (fun h' c' kp e=>fin its r' hz h' c' kp e) (by simp only [List.size_toArray] <;> omega)
 · obtain⟨its,r',pl,hz⟩:=I.tuple hq
   have hlen:=r'.length
   obtain⟨o,ho,hc,n,hd⟩:=pl
   exact call_list_seq p (.inr rfl) ho hc hd (fun h' c' kp e=>fin its r' hz h' c' kp e) (by simp only [List.size_toArray] <;> omega)
def tyV (K:PySem.W.Frag)(T:String)(x:V)(H:Hp):Prop:=match x with
 | .str _=>T="str"
 | .int _=>T="int"
 | .ref p=>(T="list"∧∃xs,SqL K H p xs)∨(T="tuple"∧∃o,K.lookup p=some o∧o.cls = .type "tuple"∧o.dict=none) ∨
     (T="dict"∧((∃kvs,H p=some (.dK kvs))∨∃kvs,H p=some (.dT kvs)))∨(T="set"∧∃S n,H p=some (.set S n))
 | _=>False
theorem XDb {pins:List (Addr×Obj)}{σ:St}{H:Hp}{s:Shared}{T:String}{x:V}{v:Value}(I:Inv X pins σ H s)(r:RelV x v)(ty:tyV X.K T x H) :
   s.TypeIs v T∧∀a,v = .ref a→∃ob,s.heap.get? a=some ob∧ob.dict=none:=by
 cases x with
 | str z =>
   obtain⟨t,rfl⟩:=r
   cases (show T="str" from ty)
   exact⟨typeIs_str s z t,fun _ e=>nomatch e⟩
 | int i =>
   obtain⟨t,rfl⟩:=r
   cases (show T="int" from ty)
   exact⟨typeIs_int s i t,fun _ e=>nomatch e⟩
 | ref p =>
   cases r
   rcases ty with ⟨rfl,xs,hq⟩ | ⟨rfl,o,hk,hc,hd⟩ | ⟨rfl,hk⟩ | ⟨rfl,S,n,hk⟩
   · obtain⟨its,_,pl,_⟩:=I.list hq
     refine⟨pl.isList.typeIs,fun a e=>?_⟩
     cases e
     obtain⟨o,n,e,c,hd,_⟩:=pl
     exact⟨o,e,hd⟩
   · refine⟨⟨o,I.kIn p o hk,hc⟩,fun a e=>?_⟩
     cases e
     exact⟨o,I.kIn _ o hk,hd⟩
   · have z:∃o,s.heap.get? p=some o∧o.ExactDict:=by
       rcases hk with ⟨kvs,hk⟩ | ⟨kvs,hk⟩
       · obtain⟨_,_,_,_,o,_,_,e,ex,_⟩:=I.hok p _ hk
         exact⟨o,e,ex⟩
       · obtain⟨_,_,_,_,o,_,_,e,ex,_⟩:=I.hok p _ hk
         exact⟨o,e,ex⟩
     obtain⟨o,e,ex⟩:=z
     refine⟨⟨o,e,ex.1⟩,fun a e2=>?_⟩
     cases e2
     exact⟨o,e,ex.2.1⟩
   · obtain⟨o,_,_,_,e,ex,_⟩:=I.hok p _ hk
     refine⟨⟨o,e,ex.1⟩,fun a e2=>?_⟩
     cases e2
     exact⟨o,e,ex.2.1⟩
 | _=>exact False.elim ty
def tBM0 (K:PySem.W.Frag)(T:String)(r:V→List V→Hp→VK→Prop)(to:TE):TE:=fun σ H Q=>to σ H fun x H1=>tyV K T x H1∧r x [] H1 Q
def tBM (K:PySem.W.Frag)(T:String)(r:V→List V→Hp→VK→Prop)(to:TE)(t:TA):TE:=fun σ H Q=>to σ H fun x H1=>tyV K T x H1∧t σ H1 fun xs H2=>r x xs H2 Q
variable {o e:Expr}{es:List Expr}{to:TE}{t:TA}{name:Str}{apos cpos:Pos}{T id:String}{r:V→List V→Hp→VK→Prop}
theorem Xne (pa:PlainAttrs T)(slot:Slot T name id)(hty:typeOf (.builtin id)=pure (.type "method_descriptor"))(hm:MtR X id r)(ho:PE X o to)
   (hbase:attributeBase o name X.env (eval o X.env)=eval o X.env:=by rfl) (hline:(apos.endLine==cpos.line)=true:=by rfl):PE X (.Call (.Attribute o name apos) [] [] cpos) (tBM0 X.K T r to):=by
 intro pins s σ H Q I h
 refine wpAny_Call_method0_late hbase hline (thn (ho pins s σ H _ I h) fun v s1 ⟨x,H1,I1,r1,ty,q1⟩=>?_)
 obtain⟨h1,h2⟩:=XDb I1 r1 ty
 exact⟨T,id,pa,slot,hty,h1,h2,Calls.callWith_builtin rfl (PySem.evalArgs_none (hm pins s1 σ H1 x [] v [] Q I1 r1 .nil q1))⟩
theorem Xwl (pa:PlainAttrs T)(slot:Slot T name id)(hty:typeOf (.builtin id)=pure (.type "method_descriptor"))(hm:MtR X id r)(ho:PE X o to)(ha:PA X (e::es) t)
   (hbase:attributeBase o name X.env (eval o X.env)=eval o X.env:=by rfl)
   (hfew:((backTo cpos (starEach (e::es) X.env)).all (fun x=>!x.1)&&(backToKw cpos (keywordEach [] X.env)).all (fun x=>x.1.isSome)
     && decide ((e::es).length+([]:List Keyword).length+(if ([]:List Keyword).isEmpty then 0 else 1)<30))=true:=by rfl)
   (hline:(apos.endLine==cpos.line)=true:=by rfl) (hs:starEach (e::es) X.env=(false,eval e X.env)::starEach es X.env:=by rfl) (hplain:(backTo cpos (starEach es X.env)).any (·.1)=false:=by rfl) :
   PE X (.Call (.Attribute o name apos) (e::es) [] cpos) (tBM X.K T r to t):=by
 intro pins s σ H Q I h
 refine wpAny_Call_method_late hbase hfew hline rfl (thn (ho pins s σ H _ I h) fun v s1 ⟨x,H1,I1,r1,ty,q1⟩=>?_)
 obtain⟨h1,h2⟩:=XDb I1 r1 ty
 refine⟨T,id,pa,slot,hty,h1,h2,?_⟩
 have hA:=ha cpos pins s1 σ H1 _ I1 q1
 rw[hs] at hA ⊢
 refine Calls.callWith_builtin (by show (false||(backTo cpos (starEach es X.env)).any (·.1))=false;rw[hplain] <;> rfl) (Calls.evalArgs_plain ?_)
 exact thn hA fun us s2 ⟨vs,H2,I2,r2,q2⟩=>hm pins s2 σ H2 x vs v us Q I2 r1 r2 q2
/- xs.append(e),list.index on a module's tuple .. are MtR facts of 06m -/
end
end L2
namespace L2
open PySem PySem.Spec PyProof.Rows
def MtM (X:Cx)(id:String)(r:V→List V→Hp→VK→Prop):Prop :=
 ∀(pins:List (Addr×Obj)) (s:Shared) (σ:St) (H:Hp) (x:V) (xs:List V) (v:Value) (us:List Value) (Q:VK),Inv X pins σ H s→RelV x v→Vals xs us→r x xs H Q →
   wpAny (model X.prog X.w) X.A (call (.builtin id) (v::us)) (EP X pins σ Q) X.xe s
theorem Vals.one:∀{x:V} {us:List Value},Vals [x] us→∃u,us=[u]∧RelV x u
 | _,_,.cons r .nil=>⟨_,rfl,r⟩
theorem Vals.zero:∀{us:List Value},Vals [] us→us=[]
 | _,.nil=>rfl
theorem Vals.dropLast {xs:List V}{us:List Value}(h:Vals xs us):Vals xs.dropLast us.dropLast:=by
 induction h with
 | nil=>exact .nil
 | cons r t ih =>
   cases t with
   | nil=>exact .nil
   | cons q t'=>exact .cons r ih
theorem Vals.rep {xs:List V}{us:List Value}(h:Vals xs us):∀k:Nat,Vals (List.replicate k xs).flatten (List.replicate k us).flatten
 | 0=>.nil
 | k+1=>by
   rw[List.replicate_succ,List.replicate_succ,List.flatten_cons,List.flatten_cons]
   exact Vals.append h (Vals.rep h k)
theorem Xlv (its:List Value):∀(k:Nat) (acc:List Value),
   List.foldl (fun x1 x2=>x1++x2) acc.toArray (List.replicate k its.toArray)=(acc++(List.replicate k its).flatten).toArray
 | 0,acc=>by simp
 | k+1,acc=>by
   have e:acc.toArray++its.toArray=(acc++its).toArray:=by simp
   have e2:(acc++its)++(List.replicate k its).flatten=acc++(List.replicate (k+1) its).flatten:=by
     rw[List.replicate_succ,List.flatten_cons,List.append_assoc]
   rw[←e2,←Xlv its k (acc++its),←e,List.replicate_succ,List.foldl_cons]
section
variable {X:Cx}{pins:List (Addr×Obj)}{σ:St}{H:Hp}{s:Shared}{l b:Addr}{xs ys zs:List V}
theorem Inv.lset {its its':List Value}{n:Nat}{f:Array Value→Array Value}{t':Nat}(I:Inv X pins σ H s)(hH:H l=some (.lst xs))
   (e:s.heap.get? l=some { cls:=.type "list",data:=.seq its.toArray n }) (hf:f its.toArray=its'.toArray) (hv:Vals ys its') (hz:ys.length≤sizeLine) :
   Inv X pins σ (upd H l (.lst ys)) { s with heap:=s.heap.update l (Obj.mapSeq f),toks:=t' }:=by
 have q:=PySem.IsL.update e f
 rw[hf] at q
 refine I.write (x:=l) (e:=l) (by rw[hH];exact trivial) (.inl rfl) (fun b' u hb hu=>(Heap.get?_update_other s.heap (Obj.mapSeq f) (Ne.symm hb)).trans hu) ⟨_,q⟩ ?_
 exact⟨hz,its',_,hv,q⟩
theorem Inv.lnew {its:List Value}{t':Nat}(I:Inv X pins σ H s)(hv:Vals ys its)(hz:ys.length≤sizeLine) :
   Inv X pins σ (upd H s.heap.objs.size (.lst ys)) { s with heap:=s.heap.push { cls:=.type "list",data:=.seq its.toArray },toks:=t' } :=
 I.laid (fun _ _ q=>Heap.get?_push_of_some _ q) (Nat.le_refl _) ⟨hz,its,0,hv,Heap.get?_push_size _ rfl⟩
theorem Inv.fresh (I:Inv X pins σ H s):H s.heap.objs.size=none:=I.hok.fresh (Nat.le_refl _)
theorem Inv.lstM (I:Inv X pins σ H s)(hH:H l=some (.lst xs)):xs.length≤sizeLine∧∃(its:List Value) (n:Nat),Vals xs its∧xs.length=its.length∧s.heap.get? l=some { cls:=.type "list",data:=.seq its.toArray n }:=by
 obtain⟨z,its,n,r,e⟩:=I.hok l _ hH
 exact⟨z,its,n,r,r.length,e⟩
theorem Xoh {n:Nat}(h:n≤sizeLine):Builtin.List.listTooLong n=false:=by
 unfold Builtin.List.listTooLong
 exact decide_eq_false (by omega)
end
section
variable {X:Cx}
def Xuy:V→List V→Hp→VK→Prop:=fun x vs H Q=>∃l xs y,x = .ref l∧vs=[y]∧H l=some (.lst xs)∧xs.length<sizeLine∧Q .non (upd H l (.lst (xs++[y])))
theorem Xia:MtM X "list.append" Xuy:=by
 intro pins s σ H x vs v us Q I rx rv h
 obtain⟨l,xs,y,rfl,rfl,hH,hz,q⟩:=h
 cases rx
 obtain⟨u,rfl,ru⟩:=rv.one
 obtain⟨z,its,n,r,hl,e⟩:=I.lstM hH
 refine call_meets F.slot_list_append ⟨_,e,rfl⟩ F.entry_list_append (F.args_list_append_2 _ _) (PySem.list_append l its.toArray n u (by rw[List.size_toArray];omega)) ⟨e,?_⟩
 refine⟨.non,_,I.lset (its':=its++[u]) hH e (by simp) (r.append (.cons ru .nil)) ?_,rfl,q⟩
 rw[List.length_append,List.length_singleton]
 omega
def XDy:V→List V→Hp→VK→Prop:=fun x vs H Q=>∃l b xs zs,x = .ref l∧vs=[.ref b]∧H l=some (.lst xs)∧H b=some (.lst zs)∧xs.length+zs.length≤sizeLine∧Q .non (upd H l (.lst (xs++zs)))
theorem XOv:MtM X "list.extend" XDy:=by
 intro pins s σ H x vs v us Q I rx rv h
 obtain⟨l,b,xs,zs,rfl,rfl,hH,hB,hz,q⟩:=h
 cases rx
 obtain⟨u,rfl,ru⟩:=rv.one
 cases ru
 obtain⟨z,its,n,r,hl,e⟩:=I.lstM hH
 obtain⟨z2,its2,n2,r2,hl2,e2⟩:=I.lstM hB
 have hsz:its.toArray.size+its2.toArray.size≤sizeLine:=by rw[List.size_toArray,List.size_toArray];omega
 have hlong:¬(!its.toArray.isEmpty&&Builtin.List.listTooLong (its.toArray.size+its2.toArray.size))=true:=by
   rw[Xoh hsz,Bool.and_false]
   exact Bool.false_ne_true
 refine call_meets F.slot_list_extend ⟨_,e,rfl⟩ F.entry_list_extend (F.args_list_extend_2 _ _)
   (AutoSeq1.list_extend_list_list_0 l its.toArray n b its2.toArray n2 hlong (by rw[List.size_toArray];omega) (by omega)) ⟨e,e2,?_⟩
 refine⟨.non,_,I.lset (its':=its++its2) hH e (by simp) (r.append r2) ?_,rfl,q⟩
 rw[List.length_append]
 omega
def rCat:R2:=fun x y H Q=>∃l b xs zs,x = .ref l∧y = .ref b∧H l=some (.lst xs)∧H b=some (.lst zs)∧xs.length+zs.length≤sizeLine∧∀p,H p=none→Q (.ref p) (upd H p (.lst (xs++zs)))
theorem Xft:OpR X (binaryOp .Add) rCat:=by
 intro pins s σ H x y v u Q I rx ry h
 obtain⟨l,b,xs,zs,rfl,rfl,hH,hB,hz,q⟩:=h
 cases rx
 cases ry
 obtain⟨z,its,n,r,hl,e⟩:=I.lstM hH
 obtain⟨z2,its2,n2,r2,hl2,e2⟩:=I.lstM hB
 refine PySem.P.add_list e e2 ?_ (by rw[List.size_toArray,List.size_toArray];omega)
 have ea:its.toArray++its2.toArray=(its++its2).toArray:=by simp
 rw[ea]
 exact⟨.ref _,_,I.lnew (t':=s.toks) (r.append r2) (by rw[List.length_append];omega),rfl,q _ I.fresh⟩
def rRep:R2:=fun x y H Q=>∃l k xs,x = .ref l∧y = .int k∧H l=some (.lst xs)∧-(2^63)≤k∧k<2^63∧xs.length*k.toNat≤sizeLine ∧
 ∀p,H p=none→Q (.ref p) (upd H p (.lst (List.replicate k.toNat xs).flatten))
theorem XHi {α:Type}(xs:List α)(k:Nat):(List.replicate k xs).flatten.length=k*xs.length:=by
 induction k with
 | zero=>simp
 | succ k ih=>rw[List.replicate_succ,List.flatten_cons,List.length_append,ih,Nat.succ_mul,Nat.add_comm]
theorem Xnk:OpR X (binaryOp .Mult) rRep:=by
 intro pins s σ H x y v u Q I rx ry h
 obtain⟨l,k,xs,rfl,rfl,hH,h1,h2,hz,q⟩:=h
 cases rx
 obtain⟨t,rfl⟩:=ry
 obtain⟨z,its,n,r,hl,e⟩:=I.lstM hH
 have hlen:its.toArray.size*k.toNat≤sizeLine:=by rw[List.size_toArray,←hl];exact hz
 have hcap:¬its.toArray.size*k.toNat>(2^63-1)/8:=by
   have:(sizeLine:Nat)≤(2^63-1)/8:=by decide
   omega
 have hfit:¬(!Builtin.List.listFitsIndex k)=true:=by
   rw[fitsIndex_both h1 h2]
   exact Bool.false_ne_true
 have hlong:¬Builtin.List.listTooLong (its.toArray.size*k.toNat)=true:=by
   rw[Xoh hlen]
   exact Bool.false_ne_true
 have hnew:List.foldl (fun x1 x2=>x1++x2) #[] (List.replicate (if its.toArray.isEmpty=true then 0 else k.toNat) its.toArray)=(List.replicate k.toNat its).flatten.toArray:=by
   have f0:∀m:Nat,List.foldl (fun x1 x2=>x1++x2) #[] (List.replicate m its.toArray)=(List.replicate m its).flatten.toArray:=fun m=>by
     have:=Xlv its m []
     rw[List.nil_append] at this
     exact this
   rw[f0]
   cases its with
   | nil=>simp
   | cons a r'=>rw[if_neg (by simp)]
 refine wpAny_binaryOp_repeat_ref (T:="list") (U:="int") (by decide) ⟨_,e,rfl⟩ (fun s'=>typeIs_int s' k t) noFill_list_mul F.fills_int_mul F.slot_int_rmul repeat_list F.slot_int_index.lookup
   (call_meets F.slot_int_rmul (typeIs_int s k t) F.entry_int_rmul (F.args_int_rmul_2 _ _) (int___rmul___int_list k t l its.toArray n)
     ⟨e,rfl,⟨_,e,rfl⟩,call_meets F.slot_list_mul ⟨_,e,rfl⟩ F.entry_list_mul (F.args_list_mul_2 _ _) (AutoListH.list___mul___list_int_3 l its.toArray n k t hfit hcap hlong) ⟨e,?_⟩⟩)
 rw[hnew]
 exact⟨.ref _,_,I.lnew (t':=s.toks) (r.rep k.toNat) (by rw[XHi,Nat.mul_comm];exact hz),rfl,q _ I.fresh⟩
end
section
variable {prog:Program}{w:World}{A:Around}{E:Value→Shared→Prop}{s:Shared}
end
section
variable {X:Cx}
end
end L2
namespace Att
open PySem PySem.W PySem.Calls PyProof.Rows
theorem Xhk {P:Params}{h:Heap}:∀(ns:List Int) (vs:List Value),WellAll P h vs (ns.map WData.int)→IntsAre vs ns:=by
 intro ns
 induction ns with
 | nil =>
   intro vs w
   rw[List.map_nil] at w
   cases w
   exact .nil
 | cons n ns ih =>
   intro vs w
   rw[List.map_cons] at w
   cases w with
   | cons a b =>
     cases a
     exact .cons _ _ (ih _ b)
theorem Xuj {l:OpenLaw}{n:Nat}(hn:l.most=some n){P:Params}{h:Heap}{args:List WData}{vals:List Value}
   (hpre:l.row.toRowW.claim.pre args=true) (hwl:WellAll P h vals args) :
   ∃a vs ns,vals=[Value.ref a]∧args=[WData.list (ns.map WData.int)]∧h.get? a=some { cls:=.type "list",data:=.seq vs.toArray }∧IntsAre vs ns∧ns.length≤n:=by
 have hsh:WShape.hasAll [] args [.list .int]=true:=(pre_splitW hpre).1
 have hc:l.pre.holds [] { args:=args }=true:=(pre_splitW hpre).2
 obtain⟨d,r,rfl,h1,h2⟩:=hasAllW_cons hsh
 obtain rfl:=hasAllW_nil h2
 obtain⟨xs,rfl,h3⟩:=hasW_list h1
 obtain⟨ns,rfl⟩:=items_int h3
 have hlen:ns.length≤n:=by
   unfold OpenLaw.pre at hc
   have h4:(WTm.not (.lt (.lit (.int (n:Int))) (.len (.arg 0)))).holds [] { args:=[.list (ns.map .int)] }=true:=by
     have h4:=(holds_andW hc).1
     rw[hn] at h4
     exact h4
   have h5:=condW_of h4 (w_not (w_lt w_lit (w_len_list (w_arg rfl))))
   rw[List.length_map] at h5
   refine Nat.le_of_not_lt fun q=>?_
   have q':(n:Int)<((ns.length:Nat):Int):=by omega
   first
     | (rw[decide_eq_true q'] at h5;exact absurd h5 (by decide))
     | (simp at h5;omega)
 cases hwl with
 | cons w1 w2 =>
   cases w2
   cases w1 with
   | list ho hall=>exact⟨_,_,ns,rfl,rfl,ho,Xhk ns _ hall,hlen⟩
theorem Xta (l:OpenLaw)(args:List WData):l.row.toRowW.claim.post args (.bool true) args=true :=
 postW_of (r:=l.row.toRowW) (X:=(true==true))
   (show WShape.has [] (.bool true) .bool=true by first | rfl | decide | simp [WShape.has,WShape.arms,WShape.armsAll])
   (show (WTm.eq .res (.lit (.bool true))).value [] { args:=args,res:=some (.bool true),after:=args }=some (.bool (true==true)) from w_eq_bool (w_res rfl) w_lit) rfl
theorem attach_call {l:OpenLaw}{n:Nat}{q:Program}{loose:List Str}{XP:(Str→Option Value)→Heap→Prop}{YP:World→Heap→Prop}{d:DefRec}
   (hn:l.most=some n) (hdf:d.params.defaults=[])
   (call:∀(w:World) (s₀ s₁:Shared) (mg mb:Str→Option Value) (fa:Addr) (o:Obj) (pm cd doc:Value) (a:Addr) (vs:List Value) (ns:List Int),
     Ground q loose [] XP w s₀ mg mb s₁.heap→YP w s₁.heap →
     s₁.heap.get? fa=some o→o.data = .func (docDef d.name d.params d.body d.scope pm cd doc)→s₁.heap.CodeRec cd d.name→mg d.name=some (.ref fa) →
     s₁.heap.get? a=some { cls:=.type "list",data:=.seq vs.toArray }→IntsAre vs ns→ns.length≤n→s₁.gens=#[] →
     codeAny (model l.prog w) callerA (.call (.ref fa) ⟨[.ref a],[]⟩) (fun r s'=>r = .ok (.ret (.bool true))∧OldK s₁.heap s'.heap∧s'.os=s₁.os∧AllBare s'.gens) s₁) :
   WalkO q loose XP YP l.row.toRowW d [] (fun f vs=>PySem.call f vs):=by
 intro w s₀ s₁ mg mb G Y fa o pm cd doc dV kV ho hd hcd hD hmg hg args vals as hpre hlay hrd hwl hlo
 obtain rfl:dV = .none:=Dflts.none hD hdf
 obtain rfl:kV = .none:=Dflts.noKw hD
 obtain⟨a,vs,ns,rfl,rfl,hobj,hints,hlen⟩:=Xuj hn hpre hwl
 refine enter_call (codeAny_mono (call w s₀ s₁ mg mb fa o pm cd doc a vs ns G Y ho (fd_plain hd) hcd hmg hobj hints hlen hg) fun r s' hq=>?_)
 obtain⟨rfl,h2,h3,h4⟩:=hq
 exact⟨.inl ⟨.bool true,.bool true,[],rfl,fun _=>rfl,.bool true,Xta l _,fun _=>⟨List.Pairwise.nil,fun _ hm=>(nomatch hm)⟩⟩,h2,h3,h4⟩
section
variable {prog:Program}{w:World}{A:Around}{E:Value→Shared→Prop}{s:Shared}{K:Frag}
end
end Att
namespace L2
open PySem PySem.Spec PyProof.Rows
theorem Xkv:∀{vs:List Value} {ns:List Int},IntsAre vs ns→Vals (ns.map V.int) vs
 | _,_,.nil=>.nil
 | _,_,.cons n t h=>.cons ⟨t,rfl⟩ (Xkv h)
def Only (H:Hp):Prop:=∀b,H b=none∨∃o xs,H b=some (.frz o (.lst xs))
theorem Xyr {P:Program}{w:World}{K:PySem.W.Frag}{mg mb:Str→Option Value}{CX:CXT}{k:Nat}{fa a:Addr}{fd:FuncData}{x:Str}{sp:Sp}{s₁:Shared}{vs:List Value}{ns:List Int}
   (KX:K.In s₁.heap) (hns:s₁.heap.Ns mainGlobals mg) (hb:s₁.heap.Ns builtinsNs mb) (hbb:∀x:Str,x≠"__name__"→mb x=bootBuiltins x) (hlim:s₁.heap.NoLimit) (hg:s₁.gens=#[])
   (ha:s₁.heap.get? a=some { cls:=.type "list",data:=.seq vs.toArray }) (hi:IntsAre vs ns) (hl:ns.length≤sizeLine) (hr:Room k callerA)
   (F:∀base:Heap,K.In base→base.Ns mainGlobals mg→FnOk P w K mg base CX k fa fd [x] sp) (hbind:∀(s:Shared) (u:Value),BindsTo s fd ⟨[u],[]⟩ [(x,u)])
   (hsp:∀H:Hp,Only H→SqL K H a (ns.map V.int)→sp [.ref a] H (fun v _=>v = .bl true) fun _ _ _=>False)
   (hCX:∀H e s',CX [] H s₁ (fun _ _ _=>False) e s'→False) :
   codeAny (model P w) callerA (.call (.ref fa) ⟨[.ref a],[]⟩) (fun r s'=>r = .ok (.ret (.bool true))∧OldK s₁.heap s'.heap∧s'.os=s₁.os∧AllBare s'.gens) s₁:=by
 have rv:=Xkv hi
 have lenV:=hi.length
 -- from an abstract heap in which nothing but the script may be tracked
 have core:∀H:Hp,Only H→SqL K H a (ns.map V.int)→HOk P w H s₁.heap→(∀b,H b≠none→b=a)→(H a≠none→K.lookup a=none) →
     codeAny (model P w) callerA (.call (.ref fa) ⟨[.ref a],[]⟩) (fun r s'=>r = .ok (.ret (.bool true))∧OldK s₁.heap s'.heap∧s'.os=s₁.os∧AllBare s'.gens) s₁:=by
   intro H hO hS hok hA hK
   have base_of:∀{b:Addr} {o:Obj},s₁.heap.get? b=some o→H b=none→(hidT s₁.heap H).get? b=some o:=fun e n=>Xwo e n
   have noA:∀{b:Addr} {o:Obj} {es:Array DictEntry} {ep:Nat},s₁.heap.get? b=some o→o.data = .dict es ep→H b=none:=fun {b o es ep} e d=>by
     cases q:H b with
     | none=>rfl
     | some u =>
       have e':b=a:=hA b (by rw[q];simp)
       subst e'
       rw[ha] at e;cases e
       have d':Data.seq vs.toArray _=Data.dict es ep:=d
       cases d'
   have nsK:∀{b:Addr} {m:Str→Option Value},s₁.heap.Ns b m→(hidT s₁.heap H).Ns b m:=fun {b m} ⟨o,es,ep,e,d,r⟩=>⟨o,es,ep,base_of e (noA e d),d,r⟩
   have hKb:K.In (hidT s₁.heap H):=fun b o e=>base_of (KX b o e) (by
     cases q:H b with
     | none=>rfl
     | some u =>
       have e':b=a:=hA b (by rw[q];simp)
       subst e'
       rw[hK (by rw[q];simp)] at e;cases e)
   have hM:Mod K mg (hidT s₁.heap H):=⟨hKb,nsK hns,⟨mb,nsK hb,hbb⟩,let ⟨mc,h1,h2⟩:=hlim;⟨mc,nsK h1,h2⟩⟩
   have e0:Env0 P w K mg (hidT s₁.heap H) callerA [] s₁ H:=⟨rfl,hM,fun b o e=>XEc e,Nat.le_of_eq (Xup _ _),trivial,fun b hb=>absurd (show b∈([]:List Addr) from hb) (by simp),hok,.of_eq hg⟩
   refine codeAny_mono ((F _ hKb (nsK hns)).run callerA [] s₁ H ⟨[.ref a],[]⟩ [.ref a] [.ref a] _ _ hr e0 (hbind s₁ (.ref a)) (.cons rfl .nil) (hsp H hO hS)) fun r s' h=>?_
   cases r with
   | error e=>exact(hCX H e s' h).elim
   | ok fl =>
     cases fl with
     | next=>exact False.elim h
     | brk=>exact False.elim h
     | cont=>exact False.elim h
     | ret u =>
       obtain⟨v,H',os,bare,un,hok',r',q⟩:=h
       have q':v = .bl true:=q
       subst q'
       obtain rfl:u=Value.bool true:=r'
       refine⟨rfl,OldK.of_keep fun b o e=>?_,os,bare⟩
       cases q:H b with
       | none=>exact un.keep b o e q (by intro z;exact absurd (show b∈([]:List Addr) from z) (by simp)) (by simp)
       | some u =>
         rcases hO b with z | ⟨ob,xs,z⟩
         · rw[q] at z;cases z
         · have z2:=un.frzs b ob _ z
           obtain⟨e1,_⟩:=hok b _ z
           obtain⟨e2,_⟩:=hok' b _ z2
           rw[e] at e1;cases e1
           exact e2
 cases hk:K.lookup a with
 | some o =>
   -- the script is one of the module's own objects
   have e:=KX a o hk
   rw[ha] at e
   cases e
   refine core (fun _=>none) (fun _=>.inl rfl) (.inr ⟨_,vs.toArray,_,hk,rfl,rfl,rfl,by rw[List.size_toArray,lenV];exact hl,by simpa using rv⟩) (fun b u z=>by have z':(none:Option HO)=some u:=z;cases z') (fun b z=>absurd rfl z) fun z=>absurd rfl z
 | none =>
   refine core (fun b=>if b=a then some (.frz { cls:=.type "list",data:=.seq vs.toArray } (.lst (ns.map V.int))) else none) (fun b=>?_) (.inl (.inr ⟨{ cls:=.type "list",data:=.seq vs.toArray },if_pos rfl⟩)) (fun b u z=>?_) (fun b z=>?_) fun _=>hk
   · by_cases hb:b=a
     · exact .inr ⟨_,_,if_pos hb⟩
     · exact .inl (if_neg hb)
   · by_cases hb:b=a
     · have z':=(if_pos hb).symm.trans z
       cases z'
       subst hb
       exact⟨ha,by rw[List.length_map];exact hl,vs,_,rv,ha⟩
     · have z':=(if_neg hb).symm.trans z
       cases z'
   · by_cases hb:b=a
     · exact hb
     · exact absurd (if_neg hb) z
end L2
namespace L2
open PySem PySem.Spec PyProof.Rows
theorem walk_of {l:PySem.W.OpenLaw}{n k:Nat}{q:Program}{loose:List Str}{XP:(Str→Option Value)→Heap→Prop}{YP:World→Heap→Prop}{d:DefRec}{K:Params→PySem.W.Frag}{CX:World→CXT}{sp:World→Sp}{x:Str}
   (hn:l.most=some n) (hn2:n≤sizeLine) (hdf:d.params.defaults=[]) (hr:Room k callerA)
   (hY:∀(w:World) (h:Heap),YP w h→(K w.params).In h)
   (F:∀(w:World) (mg:Str→Option Value) (fa:Addr) (h:Heap),(K w.params).In h→h.Ns mainGlobals mg→mg d.name=some (.ref fa) →
     ∃fd:FuncData,(∀(s:Shared) (u:Value),BindsTo s fd ⟨[u],[]⟩ [(x,u)]) ∧
       ∀base:Heap,(K w.params).In base→base.Ns mainGlobals mg→FnOk l.prog w (K w.params) mg base (CX w) k fa fd [x] (sp w))
   (hsp:∀(w:World) (H:Hp) (a:Addr) (ns:List Int),ns.length≤n→Only H→SqL (K w.params) H a (ns.map V.int)→sp w [.ref a] H (fun v _=>v = .bl true) fun _ _ _=>False)
   (hCX:∀(w:World) (H:Hp) (s:Shared) (e:Value) (s':Shared),CX w [] H s (fun _ _ _=>False) e s'→False) :
   PySem.W.WalkO q loose XP YP l.row.toRowW d [] (fun f vs=>PySem.call f vs):=by
 refine Att.attach_call hn hdf fun w s₀ s₁ mg mb fa o pm cd doc a vs ns G Y ho hd hcd hmg hobj hints hlen hg=>?_
 have KX:=hY w _ Y
 obtain⟨fd,hb,hF⟩:=F w mg fa _ KX G.T.g hmg
 exact Xyr KX G.T.g G.T.b G.T.builtins G.T.nolimit hg hobj hints (Nat.le_trans hlen hn2) hr hF hb (fun H hO hS=>hsp w H a ns hlen hO hS) fun H e s'=>hCX w H s₁ e s'
end L2
namespace L2
open PySem PySem.Spec PyProof.Rows
abbrev CX0:CXT:=fun _ _ _ _ _ _=>False
abbrev E0:XK:=fun _ _ _=>False
structure Fun (K:PySem.W.Frag)(x qual:Str)(st:Stmt)(f:Addr)(fd:FuncData):Prop where
 ex:∃(oc:Value) (od:Option Addr) (kV doc pm:Value) (an:Option Addr) (cdv ct:Value) (osl:Array (Option Value)),
   fd=PySem.W.fnOf x qual (Xaz st) (Xav st) (Xad st) .none kV doc pm an cdv ct∧K.lookup f=some ⟨oc,od,.func fd,osl⟩∧PySem.W.codeIn K cdv qual=true
 kp:PySem.W.keepIn K (.ref f)=true
section
variable {P:Program}{w:World}{K:PySem.W.Frag}{mg:Str→Option Value}{base:Heap}
theorem Fun.ok {x qual:Str}{st:Stmt}{f:Addr}{fd:FuncData}{N ps:List Str}{k:Nat}{sp:Sp}(F:Fun K x qual st f fd)(S:FnScope N ps (Xad st))(len:∀vs H Q E,sp vs H Q E→vs.length=ps.length)
   (hbody:∀(cdv:Value) (A:Around) (outer:List Env) (s:Shared) (H:Hp) (vs:List V) (Q:VK) (E:XK),Room k (A.deeper (envOfC qual (Xad st) s.heap.objs.size f cdv))→sp vs H Q E →
     ∃t,PSs (cxOf CX0 P w K mg base N qual (Xad st) f cdv A outer s H E).nox (Xav st) t∧t { nx:=fun _ H'=>Q .non H',rt:=Q } (start N vs) H):FnOk P w K mg base CX0 (k+1) f fd ps sp:=by
 obtain⟨oc,od,kV,doc,pm,an,cdv,ct,osl,rfl,lk,hcd⟩:=F.ex
 refine XIq lk hcd S len fun A outer s H vs Q E hr hsp=>?_
 obtain⟨t,h,q⟩:=hbody cdv A outer s H vs Q E hr hsp
 exact⟨t,h.nox,q⟩
theorem Fun.binds {x qual:Str}{st:Stmt}{f:Addr}{fd:FuncData}{ps:List Str}(F:Fun K x qual st f fd)
   (h:∀(kV doc pm:Value) (an:Option Addr) (cdv ct:Value) (us:List Value),us.length=ps.length→bindArgs (PySem.W.fnOf x qual (Xaz st) (Xav st) (Xad st) .none kV doc pm an cdv ct) ⟨us,[]⟩=pure (ps.zip us)):Xco K fd ps []:=by
 obtain⟨oc,od,kV,doc,pm,an,cdv,ct,osl,rfl,lk,hcd⟩:=F.ex
 exact .all (h kV doc pm an cdv ct)
theorem Xcj {x qual:Str}{st:Stmt}{f:Addr}{oc:Value}{od an:Option Addr}{osl:Array (Option Value)}{kV doc pm cdv ct:Value}(l:K.lookup f=some ⟨oc,od,.func (PySem.W.fnOf x qual (Xaz st) (Xav st) (Xad st) .none kV doc pm an cdv ct),osl⟩)
   (c:PySem.W.codeIn K cdv qual=true) (k:PySem.W.keepIn K (.ref f)=true):Fun K x qual st f (PySem.W.fnOf x qual (Xaz st) (Xav st) (Xad st) .none kV doc pm an cdv ct):=⟨⟨oc,od,kV,doc,pm,an,cdv,ct,osl,rfl,l,c⟩,k⟩
end
theorem small1000 {n:Nat}(h:n≤1000):n<sizeLine:=Nat.lt_of_le_of_lt h (by decide)
section
variable {X:Cx}
theorem pv (i:Nat){x:Str}{pos:Pos}(hN:X.N[i]?=some x:=by rfl)(hv:Vis X.env.scope x:=by first | exact Or.inl rfl | exact Or.inr (Or.inl rfl) | exact Or.inr (Or.inr rfl))(hd:(x==("__debug__":Str))=false:=by decide)
   (hcd:(x==("__classdict__":Str))=false:=by decide):PE X (.Name x pos) (tVar i):=XPt hN hv hd hcd
end
theorem iteF {A B:Prop}(h:B):if false=true then A else B:=by
 rw[if_neg Bool.false_ne_true]
 exact h
theorem iteT {A B:Prop}(h:A):if true=true then A else B:=by
 rw[if_pos rfl]
 exact h
def Same (H H':Hp):Prop:=∀b o,H b=some o→H' b=some o
theorem Same.refl (H:Hp):Same H H:=fun _ _ h=>h
theorem Same.trans {H H1 H2:Hp}(a:Same H H1)(b:Same H1 H2):Same H H2:=fun c o h=>b c o (a c o h)
theorem Same.free {H H':Hp}(e:Same H H'){l:Addr}(h:H' l=Option.none):H l=Option.none:=by
 cases q:H l with
 | none=>rfl
 | some o =>
   rw[e l o q] at h
   cases h
theorem Same.seq {K:PySem.W.Frag}{H H':Hp}{a:Addr}{xs:List V}(e:Same H H')(h:SqL K H a xs):SqL K H' a xs:=by
 rcases h with (h | ⟨o,h⟩) | h
 · exact .inl (.inl (e _ _ h))
 · exact .inl (.inr ⟨o,e _ _ h⟩)
 · exact .inr h
end L2
set_option Elab.async false
set_option linter.all false
set_option maxRecDepth 100000
set_option maxHeartbeats 4000000
namespace Stow
structure Pc where
 a:Int
 l:Int
 v:Bool
 deriving DecidableEq
def mkOf (l:Int)(v:Bool):Int:=l*2+(if v then 1 else 0)
def Pc.mk' (p:Pc):Int:=mkOf p.l p.v
def Xas:Int→List Pc→Int→Prop
 | s,[],e=>s=e
 | s,p::r,e=>p.a=s∧1≤p.l∧(p.v=true→3≤p.l)∧Xas (s+p.l) r e
theorem Xas.le:∀{ps:List Pc} {s e:Int},Xas s ps e→s+ps.length≤e
 | [],s,e,h=>by have h:s=e:=h;simp [h]
 | p::r,s,e,h=>by
   obtain⟨_,h1,_,h2⟩:=h
   have:=Xas.le h2
   simp only [List.length_cons];omega
theorem Xas.app:∀{ps qs:List Pc} {s m e:Int},Xas s ps m→Xas m qs e→Xas s (ps++qs) e
 | [],_,s,m,e,h,k=>by have h:s=m:=h;subst h;exact k
 | p::r,qs,s,m,e,h,k=>by
   obtain⟨h0,h1,h2,h3⟩:=h
   exact⟨h0,h1,h2,Xas.app h3 k⟩
theorem Xas.one {p:Pc}(h1:1≤p.l)(h3:p.v=true→3≤p.l):Xas p.a [p] (p.a+p.l):=⟨rfl,h1,h3,rfl⟩
theorem Xas.snoc {ps:List Pc}{s:Int}{p:Pc}(h:Xas s ps p.a)(h1:1≤p.l)(h3:p.v=true→3≤p.l):Xas s (ps++[p]) (p.a+p.l):=h.app (.one h1 h3)
theorem Xas.mem:∀{ps:List Pc} {s e:Int},Xas s ps e→∀p∈ps,s≤p.a∧1≤p.l∧(p.v=true→3≤p.l)∧p.a+p.l≤e
 | [],_,_,_,p,hp=>by cases hp
 | q::r,s,e,h,p,hp=>by
   obtain⟨h0,h1,h2,h3⟩:=h
   rcases List.mem_cons.mp hp with rfl | hp
   · have:=h3.le
     exact⟨by omega,h1,h2,by omega⟩
   · obtain⟨a,b,c,d⟩:=Xas.mem h3 p hp
     exact⟨by omega,b,c,d⟩
def Xau (cs:List Int)(ps:List Pc):Prop:=∀p∈ps,cs[p.a.toNat]?=some p.mk'∧cs[(p.a+p.l-1).toNat]?=some p.mk'
theorem Xau.nil (cs:List Int):Xau cs []:=fun p hp=>by cases hp
theorem Xau.snoc {cs ext:List Int}{ps:List Pc}{p:Pc}(hc:Xas 0 ps p.a)(hl:(cs.length:Int)=p.a)(h1:1≤p.l)(he:(ext.length:Int)=p.l)(m:Xau cs ps) :
   Xau ((((cs++ext).set p.a.toNat p.mk')).set (p.a+p.l-1).toNat p.mk') (ps++[p]):=by
 intro q hq
 have h0:=hc.le
 rcases List.mem_append.mp hq with hq | hq
 · obtain⟨a1,a2,a3,a4⟩:=hc.mem q hq
   obtain⟨b1,b2⟩:=m q hq
   have key:∀k:Nat,(k:Int)<p.a→∀z,cs[k]?=some z→((((cs++ext).set p.a.toNat p.mk')).set (p.a+p.l-1).toNat p.mk')[k]?=some z:=by
     intro k hk z hz
     rw[List.getElem?_set_ne (by omega),List.getElem?_set_ne (by omega),List.getElem?_append_left (by omega)]
     exact hz
   exact⟨key _ (by omega) _ b1,key _ (by omega) _ b2⟩
 · have e:q=p:=by simpa using hq
   subst e
   have len:(cs++ext).length=cs.length+ext.length:=List.length_append
   constructor
   · by_cases h:(q.a+q.l-1).toNat=q.a.toNat
     · rw[h,List.getElem?_set_self (by simp;omega)]
     · rw[List.getElem?_set_ne (by omega),List.getElem?_set_self (by simp;omega)]
   · rw[List.getElem?_set_self (by simp;omega)]
theorem Xjn (l:Int)(v:Bool):mkOf l v/2=l:=by unfold mkOf;split <;> omega
theorem Xrg (l:Int)(v:Bool):decide (mkOf l v%2=1)=v:=by
 unfold mkOf
 cases v
 · exact decide_eq_false (by simp)
 · exact decide_eq_true (by simp)
def Xbo (ns:List Int)(k:Int):Bool :=
 if ns.getD k.toNat 0/2<1∨(ns.length:Int)<k+ns.getD k.toNat 0/2 then false else decide (3≤ns.getD k.toNat 0/2)||!decide (ns.getD k.toNat 0%2=1)
def Xdj (ns:List Int)(k:Int):Option Int :=
 if Xbo ns k=true then (if ns.getD (k+ns.getD k.toNat 0/2-1).toNat 0=ns.getD k.toNat 0 then none else some (k+ns.getD k.toNat 0/2-1)) else some k
theorem Xhx {ns:List Int}{k:Nat}{x:Int}(h:ns[k]?=some x):ns.getD k 0=x:=by rw[List.getD_eq_getElem?_getD,h];rfl
theorem Xwh {ns:List Int}{p:Pc}(h1:1≤p.l)(h3:p.v=true→3≤p.l)(hl:p.a+p.l≤ns.length)(m1:ns[p.a.toNat]?=some p.mk')(m2:ns[(p.a+p.l-1).toNat]?=some p.mk'):Xdj ns p.a=none:=by
 have e1:=Xhx m1
 have e2:=Xhx m2
 have e3:ns.getD p.a.toNat 0/2=p.l:=by rw[e1];exact Xjn _ _
 have hc:Xbo ns p.a=true:=by
   unfold Xbo
   rw[e3,if_neg (by omega),e1]
   show (decide (3≤p.l)||!decide (mkOf p.l p.v%2=1))=true
   rw[Xrg]
   cases hv:p.v with
   | false=>simp
   | true=>simp [h3 hv]
 unfold Xdj
 rw[if_pos hc,e3,e2,e1,if_pos rfl]
end Stow
namespace Stow
theorem Xgp (ns:List Int)(k:Int):Xbo ns k=true↔(1≤ns.getD k.toNat 0/2∧k+ns.getD k.toNat 0/2≤ns.length∧(ns.getD k.toNat 0%2=1→3≤ns.getD k.toNat 0/2)):=by
 unfold Xbo
 by_cases h:ns.getD k.toNat 0/2<1∨(ns.length:Int)<k+ns.getD k.toNat 0/2
 · rw[if_pos h]
   constructor
   · intro z;cases z
   · intro z;omega
 · rw[if_neg h]
   simp only [Bool.or_eq_true,decide_eq_true_eq,Bool.not_eq_true',decide_eq_false_iff_not]
   constructor
   · intro z
     refine⟨by omega,by omega,fun w=>?_⟩
     rcases z with z | z
     · exact z
     · exact absurd w z
   · rintro⟨_,_,z⟩
     by_cases w:ns.getD k.toNat 0%2=1
     · exact .inl (z w)
     · exact .inr w
def pcAt (ns:List Int)(k:Int):Pc:=⟨k,ns.getD k.toNat 0/2,decide (ns.getD k.toNat 0%2=1)⟩
theorem XLn {ns:List Int}{k:Int}(h:Xdj ns k=none):Xbo ns k=true:=by
 unfold Xdj at h
 split at h
 · assumption
 · cases h
theorem Xmo {ns:List Int}{k:Int}(h:Xdj ns k=none):1≤ns.getD k.toNat 0/2∧k+ns.getD k.toNat 0/2≤ns.length∧(ns.getD k.toNat 0%2=1→3≤ns.getD k.toNat 0/2):=(Xgp ns k).mp (XLn h)
theorem XNn {ns:List Int}{k:Int}(h:Xbo ns k=false):Xdj ns k=some k:=by
 unfold Xdj
 rw[if_neg (by rw[h];exact Bool.false_ne_true)]
theorem XBc {ns:List Int}{k:Int}(h:Xbo ns k=true)(h2:ns.getD (k+ns.getD k.toNat 0/2-1).toNat 0≠ns.getD k.toNat 0):Xdj ns k=some (k+ns.getD k.toNat 0/2-1):=by
 unfold Xdj
 rw[if_pos h,if_neg h2]
theorem Xwg {ns:List Int}{k:Int}(h:Xbo ns k=true)(h2:ns.getD (k+ns.getD k.toNat 0/2-1).toNat 0=ns.getD k.toNat 0):Xdj ns k=none:=by
 unfold Xdj
 rw[if_pos h,if_pos h2]
def Xct (ns:List Int)(k:Int):List Pc×Option Int :=
 if h:k<ns.length∧Xdj ns k=none then
   (pcAt ns k::(Xct ns (k+ns.getD k.toNat 0/2)).1,(Xct ns (k+ns.getD k.toNat 0/2)).2)
 else ([],if k<ns.length then Xdj ns k else none)
termination_by (ns.length-k).toNat
decreasing_by
 all_goals
   have:=Xmo h.2
   omega
theorem Xid {ns:List Int}{k:Int}(h:¬k<ns.length):Xct ns k=([],none):=by
 rw[Xct,dif_neg (fun z=>h z.1),if_neg h]
theorem Xmb {ns:List Int}{k b:Int}(h:k<ns.length)(hb:Xdj ns k=some b):Xct ns k=([],some b):=by
 rw[Xct,dif_neg (fun z=>by rw[hb] at z;cases z.2),if_pos h,hb]
theorem Xgh {ns:List Int}{k:Int}(h:k<ns.length)(hb:Xdj ns k=none):Xct ns k=(pcAt ns k::(Xct ns (k+ns.getD k.toNat 0/2)).1,(Xct ns (k+ns.getD k.toNat 0/2)).2):=by
 rw[Xct,dif_pos ⟨h,hb⟩]
def WPre (ns:List Int)(ds:List Pc)(k:Int):Prop:=Xct ns 0=(ds++(Xct ns k).1,(Xct ns k).2)
theorem WPre.nil (ns:List Int):WPre ns [] 0:=by unfold WPre;simp
theorem WPre.step {ns:List Int}{ds:List Pc}{k:Int}(w:WPre ns ds k)(h:k<ns.length)(hb:Xdj ns k=none):WPre ns (ds++[pcAt ns k]) (k+ns.getD k.toNat 0/2):=by
 unfold WPre at *
 rw[w,Xgh h hb]
 simp
theorem WPre.fin {ns:List Int}{ds:List Pc}{k:Int}(w:WPre ns ds k)(h:¬k<ns.length):Xct ns 0=(ds,none):=by
 unfold WPre at w
 rw[w,Xid h]
 simp
theorem WPre.bad {ns:List Int}{ds:List Pc}{k b:Int}(w:WPre ns ds k)(h:k<ns.length)(hb:Xdj ns k=some b):Xct ns 0=(ds,some b):=by
 unfold WPre at w
 rw[w,Xmb h hb]
 simp
end Stow
namespace Stow
theorem Xll (ns:List Int):∀(n:Nat) (k:Int),0≤k→(ns.length-k).toNat≤n→((Xct ns k).1.length:Int)≤n
 | n,k,h0,hn=>by
   by_cases h:k<ns.length
   · cases hb:Xdj ns k with
     | some b=>rw[Xmb h hb];simp
     | none =>
       obtain⟨b1,b2,_⟩:=Xmo hb
       rw[Xgh h hb]
       cases n with
       | zero=>omega
       | succ n =>
         have:=Xll ns n (k+ns.getD k.toNat 0/2) (by omega) (by omega)
         simp only [List.length_cons]
         omega
   · rw[Xid h];simp
 termination_by n=>n
end Stow
namespace Stow
theorem XHg {cs:List Int}{p:Pc}(m:cs[p.a.toNat]?=some p.mk'):pcAt cs p.a=p:=by
 have e:=Xhx m
 unfold pcAt
 rw[e]
 show (⟨p.a,mkOf p.l p.v/2,decide (mkOf p.l p.v%2=1)⟩:Pc)=p
 rw[Xjn,Xrg]
theorem Xaw {cs:List Int}:∀{ps:List Pc} {k:Int},Xas k ps cs.length→Xau cs ps→Xct cs k=(ps,none)
 | [],k,h,_=>by
   have h:k=cs.length:=h
   exact Xid (by omega)
 | p::r,k,h,m=>by
   obtain⟨ea,h1,h3,h4⟩:=h
   have le:=h4.le
   obtain⟨m1,m2⟩:=m p List.mem_cons_self
   have bn:=Xwh h1 h3 (by omega) m1 m2
   rw[ea] at bn
   have e2:cs.getD k.toNat 0/2=p.l:=by rw[←ea,Xhx m1];exact Xjn _ _
   have ih:=Xaw (cs:=cs) h4 fun q hq=>m q (List.mem_cons_of_mem _ hq)
   rw[Xgh (by omega) bn,e2,ih,←ea,XHg m1]
end Stow
namespace Stow
open PySem L2 PyProof.Rows
structure Def (P:Program)(w:World)(K:PySem.W.Frag)(mg:Str→Option Value)(base:Heap)(x:Str)(k:Nat)(ps:List Str)(sp:Sp):Prop where
 ex:∃(f:Addr) (fd:FuncData),FnOk P w K mg base CX0 k f fd ps sp∧mg x=some (.ref f)∧PySem.W.keepIn K (.ref f)=true∧Xco K fd ps []
structure Src (K:PySem.W.Frag)(mg:Str→Option Value)(x:Str)(st:Stmt):Prop where
 ex:∃(f:Addr) (fd:FuncData),Fun K x x st f fd∧mg x=some (.ref f)
theorem Xax {K:PySem.W.Frag}{h:Heap}{mg:Str→Option Value}{x:Str}{st:Stmt}{f:Addr}{oc kV doc pm cdv ct:Value}{od an:Option Addr}{osl:Array (Option Value)}(X:K.In h)(G:h.Ns mainGlobals mg)
   (a:PySem.W.nsIn K mainGlobals x=some (some (.ref f))) (l:K.lookup f=some ⟨oc,od,.func (PySem.W.fnOf x x (Xaz st) (Xav st) (Xad st) .none kV doc pm an cdv ct),osl⟩)
   (c:PySem.W.codeIn K cdv x=true) (k:PySem.W.keepIn K (.ref f)=true):Src K mg x st:=⟨f,_,Xcj l c k,PySem.W.mg_of X G a⟩
section
variable {P:Program}{w:World}{K:PySem.W.Frag}{mg:Str→Option Value}{base:Heap}
theorem Src.ok {x:Str}{st:Stmt}{N ps:List Str}{k:Nat}{sp:Sp}(S:Src K mg x st)(sc:FnScope N ps (Xad st))
   (hb:∀(kV doc pm:Value) (an:Option Addr) (cdv ct:Value) (us:List Value),us.length=ps.length→bindArgs (PySem.W.fnOf x x (Xaz st) (Xav st) (Xad st) .none kV doc pm an cdv ct) ⟨us,[]⟩=pure (ps.zip us))
   (len:∀vs H Q E,sp vs H Q E→vs.length=ps.length)
   (hbody:∀(f:Addr) (cdv:Value) (A:Around) (outer:List Env) (s:Shared) (H:Hp) (vs:List V) (Q:VK) (E:XK),Room k (A.deeper (envOfC x (Xad st) s.heap.objs.size f cdv))→sp vs H Q E →
     ∃t,PSs (cxOf CX0 P w K mg base N x (Xad st) f cdv A outer s H E).nox (Xav st) t∧t { nx:=fun _ H'=>Q .non H',rt:=Q } (start N vs) H):Def P w K mg base x (k+1) ps sp:=by
 obtain⟨f,fd,F,hm⟩:=S.ex
 exact⟨f,fd,F.ok sc len (hbody f),hm,F.kp,F.binds hb⟩
end
section
variable {X:Cx}
theorem Xfs:Xgw X (.builtin "isinstance") (fun xs H Q=>∃x n t b,xs=[x,.ty n]∧TyOf X.K H x t∧PySem.W.kitOne X.K t (.type n)=some b∧Q (.bl b) H):=by
 intro pins s σ H xs us Q I r h
 obtain⟨x,n,t,b,rfl,ty,e,q⟩:=h
 obtain⟨u,u',rfl,rx,ry⟩:=Xss r
 cases (show u'=Value.type n from ry)
 exact Xlz I rx ty e fun tk=>⟨.bl b,H,I.tok tk,rfl,q⟩
theorem Xko {x:V}(h:Xcr x=true):eqV x x=true:=by
 cases x <;> first | rfl | (simp [eqV];done) | (exact absurd h Bool.false_ne_true)
end
theorem _root_.L2.Same.new {H:Hp}{p:Addr}{o:HO}(h:H p=none):Same H (upd H p o):=fun b u e=>by
 rw[Xap (Xat e h)]
 exact e
theorem _root_.L2.Same.put {H H':Hp}{p:Addr}{o:HO}(s:Same H H')(h:H p=none):Same H (upd H' p o):=fun b u e=>by
 rw[Xap (Xat e h)]
 exact s b u e
theorem small4000 {n:Nat}(h:n≤4000):n<sizeLine:=Nat.lt_of_le_of_lt h (by decide)
theorem two1:(2:Int)^(1:Int).toNat=2:=by decide
theorem XGj (ns:List Int)(k:Int)(h0:0≤k)(h:k<ns.length):atI (ns.map V.int) k=some (.int (ns.getD k.toNat 0)):=by
 have e:(ns.map V.int)[k.toNat]?=some (.int (ns.getD k.toNat 0)):=by
   rw[List.getElem?_map,List.getD_eq_getElem?_getD,List.getElem?_eq_getElem (by omega)]
   rfl
 have:=Xes e
 rwa [Int.toNat_of_nonneg h0] at this
theorem XFl (n:Int):decide (V.int (Builtin.bitAnd n 1)=V.int 1)=decide (n%2=1):=by
 rw[Xjy,bitAnd_m1]
 rfl
section
variable {K:PySem.W.Frag}
theorem kit_ii:PySem.W.kitOne K (.type "int") (.type "int")=some true:=by rfl
theorem kit_bb:PySem.W.kitOne K (.type "bool") (.type "bool")=some true:=by rfl
theorem kit_ll:PySem.W.kitOne K (.type "list") (.type "list")=some true:=by rfl
theorem kit_tt:PySem.W.kitOne K (.type "tuple") (.type "tuple")=some true:=by rfl
theorem kit_ib:PySem.W.kitOne K (.type "int") (.type "bool")=some false:=by
 show (if (Value.type "int"==Value.type "bool")=true then some true else PySem.W.kitCls K (.type "int") (.type "bool"))=some false
 rw[if_neg (by decide)]
 show (if PySem.W.kitMeta "bool"=true then PySem.W.subIn K (.type "int") (.type "bool") else none)=some false
 rw[if_pos (by decide +kernel)]
 show (fastBuiltinMro "int").map (·.contains (Value.type "bool"))=some false
 decide +kernel
end
end Stow
namespace Stow
open PySem
structure Noted (fr:List Addr)(e:Addr)(oe:Obj)(fl:Value)(h h':Heap):Prop where
 keep:∀b o,b≠e→b ∉ fr→h.get? b=some o→h'.get? b=some o
 slot:∀b o,b≠e→h.get? b=some o→∃sl,h'.get? b=some { o with slots:=sl }
 ent:∃(T:Addr) (oT:Obj) (ts:Array Value),h.get? T=none∧T≠e∧h'.get? e=some (oe.mapFields (·.setIfInBounds 1 (.ref T)))∧h'.get? T=some oT∧oT.data = .fields ts∧ts[3]?=some fl
section
variable {M:Model}{A:Around}{E:Value→Shared→Prop}{s:Shared}
theorem Xvf {base:Heap}{env:Env}{outer:List Env}{L e:Addr}{oe:Obj}{vs:Array Value}{head:Value}{had:Bool}{Q:Unit→Shared→Prop}(hfr:A.frames=some (env::outer))(hl:s.heap.FunFrames base (env::outer))(hf:env.frame=some L)
   (he:s.heap.get? e=some oe) (hd:oe.data = .fields vs) (hsz:1<vs.size) (h:∀h',Noted ((env::outer).filterMap (·.frame)) e oe (rawInt L) s.heap h'→Q () { s with heap:=h' }) :
   wpAny M A (do
     let a ←frameOf env
     let pl ←entryPlaceOf L had
     let b ←EntryCells.newEntry head a .none (rawInt L) .none pl
     setField (.ref e) 1 b) Q E s:=by
 have out:e ∉ (env::outer).filterMap (·.frame):=fun z=>by
   obtain⟨_,o,q,nf⟩:=hl.mem z
   rw[he] at q
   cases q
   exact nf vs hd
 refine wpAny_bind (wpAny_frameOf_fun hfr hl hf fun hA sA=>?_)
 refine wpAny_bind (wpAny_entryPlaceOf fun pl isP=>?_)
 unfold EntryCells.newEntry newFields
 refine wpAny_bind (wpAny_newObj_type ?_ (isP.sizeOk5 _ _ _ _ _))
 have eA:hA.get? e=some oe:=(sA.2.1 e out).trans he
 refine wpAny_setField (Heap.get?_push_of_some _ eA) hd hsz (h _ ?_)
 have apart:hA.objs.size≠e:=Nat.ne_of_gt (Heap.lt_size eA)
 have other:∀{ob:Obj} b o,b≠e→hA.get? b=some o→((hA.push ob).update e (Obj.mapFields (·.setIfInBounds 1 (Value.ref hA.objs.size)))).get? b=some o:=fun b o nb q=>by
   rw[Heap.get?_update_other _ _ (fun z=>nb z.symm)]
   exact Heap.get?_push_of_some _ q
 refine⟨fun b o nb nf q=>other b o nb ((sA.2.1 b nf).trans q),fun b o nb q=>?_,hA.objs.size,_,_,?_,apart,?_,(Heap.get?_update_other _ _ (fun z=>apart z.symm)).trans (Heap.get?_push_size _ rfl),rfl,?_⟩
 · obtain⟨sl,q'⟩:=sA.2.2 b o q
   exact⟨sl,other b _ nb q'⟩
 · rw[sA.1]
   exact Heap.get?_none_of_le (Nat.le_refl _)
 · exact Heap.get?_update_self _ (Heap.get?_push_of_some _ eA) (Obj.isFreed_of_fields (Obj.data_mapFields hd _))
 · first
     | (simp;done)
     | (rcases isP with rfl | ⟨_,_,_,_,_,_,_,rfl⟩ <;> simp)
theorem Xtx (o:Obj)(f:Array Value→Array Value):(o.mapFields f).dict=o.dict:=by
 obtain⟨c,d,dt,sl⟩:=o
 cases dt <;> rfl
end
def Exc (h:Heap)(x:Addr)(cls:Value)(od:Option Addr)(T:Addr)(fl:Value):Prop :=
 ∃(oe:Obj) (vs:Array Value) (oT:Obj) (ts:Array Value),T≠x∧h.get? x=some oe∧oe.cls=cls∧oe.dict=od∧oe.data = .fields vs∧vs[1]?=some (.ref T)∧h.get? T=some oT∧oT.data = .fields ts∧ts[3]?=some fl
def Exc0 (h:Heap)(x:Addr)(cls:Value)(od:Option Addr):Prop:=∃(oe:Obj) (vs:Array Value),h.get? x=some oe∧oe.cls=cls∧oe.dict=od∧oe.data = .fields vs∧vs[1]?=some .none
structure Upto (fr ex:List Addr)(h h':Heap):Prop where
 keep:∀b o,b ∉ ex→b ∉ fr→h.get? b=some o→h'.get? b=some o
 slot:∀b o,b ∉ ex→h.get? b=some o→∃sl,h'.get? b=some { o with slots:=sl }
theorem Upto.trans {fr ex ex':List Addr}{h1 h2 h3:Heap}(a:Upto fr ex h1 h2)(b:Upto fr ex' h2 h3):Upto fr (ex++ex') h1 h3 :=
 ⟨fun c o n1 n2 q=>b.keep c o (fun z=>n1 (List.mem_append_right _ z)) n2 (a.keep c o (fun z=>n1 (List.mem_append_left _ z)) n2 q),fun c o n1 q=>by
   obtain⟨sl,q1⟩:=a.slot c o (fun z=>n1 (List.mem_append_left _ z)) q
   obtain⟨sl',q2⟩:=b.slot c _ (fun z=>n1 (List.mem_append_right _ z)) q1
   exact⟨sl',q2⟩⟩
theorem Upto.update {fr:List Addr}{h:Heap}{a:Addr}{f:Obj→Obj}:Upto fr [a] h (h.update a f) :=
 ⟨fun b o n _ q=>by rw[Heap.get?_update_other _ _ (fun z=>n (by simp [z]))];exact q,fun b o n q=>⟨o.slots,by rw[Heap.get?_update_other _ _ (fun z=>n (by simp [z]))];exact q⟩⟩
section
variable {M:Model}{A:Around}{E:Value→Shared→Prop}{s:Shared}
theorem Xgf {fr:List Addr}{x:Addr}{cls:Value}{od:Option Addr}{T:Addr}{fl:Value}{Q:Unit→Shared→Prop}(ht:Exc s.heap x cls od T fl)
   (h:∀h',Upto fr [T] s.heap h'→Exc h' x cls od T .none→Q () { s with heap:=h' }):wpAny M A (setFlight (.ref x) none) Q E s:=by
 obtain⟨oe,vs,oT,ts,ne,ex,hc,hdi,hd,h1,eT,dT,h3⟩:=ht
 unfold setFlight
 refine wpAny_bind (wpAny_field ex hd h1 ?_)
 rw[if_pos (show (Value.ref T != Value.none)=true by simp)]
 have sz:3<ts.size:=(Array.getElem?_eq_some_iff.mp h3).1
 refine wpAny_setField eT dT sz (h _ .update ⟨oe,vs,_,_,ne,?_,hc,hdi,hd,h1,Heap.get?_update_self _ eT (Obj.isFreed_of_fields (Obj.data_mapFields dT _)),Obj.data_mapFields dT _,?_⟩)
 · rw[Heap.get?_update_other _ _ ne]
   exact ex
 · simp [sz]
theorem Noted.exc {fr:List Addr}{x:Addr}{oe:Obj}{vs:Array Value}{fl:Value}{h h':Heap}(n:Noted fr x oe fl h h')(hd:oe.data = .fields vs)(hsz:1<vs.size):∃T,h.get? T=none∧Exc h' x oe.cls oe.dict T fl:=by
 obtain⟨T,oT,ts,nT,ne,ex,eT,dT,h3⟩:=n.ent
 exact⟨T,nT,_,_,oT,ts,ne,ex,Obj.cls_mapFields _ _,Xtx _ _,Obj.data_mapFields hd _,by simp [hsz],eT,dT,h3⟩
theorem Noted.upto {fr:List Addr}{x:Addr}{oe:Obj}{fl:Value}{h h':Heap}(n:Noted fr x oe fl h h'):Upto fr [x] h h' :=
 ⟨fun b o nb nf q=>n.keep b o (fun z=>nb (by simp [z])) nf q,fun b o nb q=>n.slot b o (fun z=>nb (by simp [z])) q⟩
theorem look0 {base:Heap}{env:Env}{outer:List Env}{L x:Addr}{cls:Value}{od:Option Addr}{Q:Unit→Shared→Prop}(hfr:A.frames=some (env::outer))(hl:s.heap.FunFrames base (env::outer))(hf:env.frame=some L)(hx:Exc0 s.heap x cls od)
   (h:∀h' T,s.heap.get? T=none→Upto ((env::outer).filterMap (·.frame)) [x] s.heap h'→Exc h' x cls od T (rawInt L)→Q () { s with heap:=h' }):wpAny M A (noteFrame (.ref x) env) Q E s:=by
 obtain⟨oe,vs,ex,rfl,rfl,hd,h1⟩:=hx
 have sz:=(Array.getElem?_eq_some_iff.mp h1).1
 unfold noteFrame
 simp only [hf]
 refine wpAny_bind (wpAny_field ex hd h1 ?_)
 rw[if_neg (by decide)]
 refine Xvf hfr hl hf ex hd sz fun h' n=>?_
 obtain⟨T,nT,t⟩:=n.exc hd sz
 exact h h' T nT n.upto t
theorem XTh {base:Heap}{env:Env}{outer:List Env}{L x T:Addr}{cls:Value}{od:Option Addr}{Q:Unit→Shared→Prop}(hfr:A.frames=some (env::outer))(hl:s.heap.FunFrames base (env::outer))(hf:env.frame=some L)(hx:Exc s.heap x cls od T .none)
   (h:∀h' T',s.heap.get? T'=none→Upto ((env::outer).filterMap (·.frame)) [T,x] s.heap h'→Exc h' x cls od T' (rawInt L)→Q () { s with heap:=h' }):wpAny M A (noteFrame (.ref x) env) Q E s:=by
 obtain⟨oe,vs,oT,ts,ne,ex,rfl,rfl,hd,h1,eT,dT,h3⟩:=hx
 have sz:=(Array.getElem?_eq_some_iff.mp h1).1
 have sz3:=(Array.getElem?_eq_some_iff.mp h3).1
 unfold noteFrame
 simp only [hf]
 refine wpAny_bind (wpAny_field ex hd h1 ?_)
 rw[if_pos (show (Value.ref T != Value.none)=true by simp)]
 refine wpAny_bind (wpAny_field eT dT h3 ?_)
 rw[if_neg (show ¬((Value.none==rawInt L)=true) by simp [rawInt])]
 refine wpAny_bind (wpAny_setField eT dT sz3 ?_)
 have u1:Upto ((env::outer).filterMap (·.frame)) [T] s.heap (s.heap.update T (Obj.mapFields (·.setIfInBounds 3 Value.none))):=.update
 have hl2:(s.heap.update T (Obj.mapFields (·.setIfInBounds 3 Value.none))).FunFrames base (env::outer):=hl.of_keeps fun b o q nf=>by
   have nb:b≠T:=fun z=>by
     subst z
     rw[eT] at q
     cases q
     exact nf ts dT
   exact⟨o,by rw[Heap.get?_update_other _ _ (fun z=>nb z.symm)];exact q,rfl⟩
 have ex2:(s.heap.update T (Obj.mapFields (·.setIfInBounds 3 Value.none))).get? x=some oe:=by
   rw[Heap.get?_update_other _ _ ne]
   exact ex
 refine Xvf (s:={ s with heap:=s.heap.update T (Obj.mapFields (·.setIfInBounds 3 Value.none)) }) hfr hl2 hf ex2 hd sz fun h' n=>?_
 obtain⟨T',nT,t⟩:=n.exc hd sz
 refine h h' T' ?_ (u1.trans n.upto) t
 cases q:s.heap.get? T' with
 | none=>rfl
 | some o =>
   by_cases z:T'=T
   · subst z
     rw[Heap.get?_update_self _ eT (Obj.isFreed_of_fields (Obj.data_mapFields dT _))] at nT
     cases nT
   · rw[Heap.get?_update_other _ _ (fun y=>z y.symm),q] at nT
     cases nT
theorem leave0 {base:Heap}{env:Env}{outer:List Env}{L x:Addr}{cls:Value}{od:Option Addr}{Q:Unit→Shared→Prop}(hfr:A.frames=some (env::outer))(hl:s.heap.FunFrames base (env::outer))(hf:env.frame=some L)(hx:Exc0 s.heap x cls od)
   (h:∀h' T,s.heap.get? T=none→Upto ((env::outer).filterMap (·.frame)) [x,T] s.heap h'→Exc h' x cls od T .none→Q () { s with heap:=h' }):wpAny M A (leaving env (.ref x)) Q E s:=by
 unfold leaving
 refine wpAny_bind (look0 hfr hl hf hx fun h1 T nT u t=>?_)
 exact Xgf (s:={ s with heap:=h1 }) (fr:=(env::outer).filterMap (·.frame)) t fun h2 u2 t2=>h h2 T nT (u.trans u2) t2
theorem XMm {base:Heap}{env:Env}{outer:List Env}{L x T:Addr}{cls:Value}{od:Option Addr}{Q:Unit→Shared→Prop}(hfr:A.frames=some (env::outer))(hl:s.heap.FunFrames base (env::outer))(hf:env.frame=some L)(hx:Exc s.heap x cls od T .none)
   (h:∀h' T',s.heap.get? T'=none→Upto ((env::outer).filterMap (·.frame)) [T,x,T'] s.heap h'→Exc h' x cls od T' .none→Q () { s with heap:=h' }):wpAny M A (leaving env (.ref x)) Q E s:=by
 unfold leaving
 refine wpAny_bind (XTh hfr hl hf hx fun h1 T' nT u t=>?_)
 exact Xgf (s:={ s with heap:=h1 }) (fr:=(env::outer).filterMap (·.frame)) t fun h2 u2 t2=>h h2 T' nT (u.trans u2) t2
end
end Stow
namespace Stow
open PySem
open Sem (wp)
section
variable {M:Model}{A:Around}{E:Value→Shared→Prop}
variable {nm q nm0 q0:Str}{C N C0 N0:Addr}{bs bm bs0 bm0:List Value}{hdct hdct0:Bool}{sn sn0:List Str}{sub sub0:List Value}{ab ab0:Bool}{col col0:Option Bool}{dd dd0:Option Addr}{k0 k1 k2 k3 k5 j0 j1 j2 j3 j5:Option Value}{newId newId0:String}
theorem Xrl {h:Heap}{g:Array GenState}{d:Drawn}{t:Nat}{os:OsState}{x:Addr}{ox:Obj}{b:Bool}{Q:Bool→Shared→Prop}
   (hC:h.get? C=some (excClassObj nm q C N bs bm hdct sn sub ab col dd k0 k1 k2 k3 k5 newId)) (hC0:h.get? C0=some (excClassObj nm0 q0 C0 N0 bs0 bm0 hdct0 sn0 sub0 ab0 col0 dd0 j0 j1 j2 j3 j5 newId0))
   (hx:h.get? x=some ox) (hcl:ox.cls = .ref C) (hb0:(Value.ref C0::bm0).contains (.type "BaseException")=true) (hb:(Value.ref C::bm).contains (.ref C0)=b) (k:Q b ⟨h,g,d,t,os⟩) :
   wpAny M A (excMatches (.ref x) (.ref C0)) Q E ⟨h,g,d,t,os⟩:=by
 have f:=tc_notTuple
 unfold excMatches
 repeat (first
   | (with_reducible refine wpAny_loadPart_at hx ?_;rw[hcl])
   | with_reducible refine wpAny_loadPart_at hC0 ?_
   | (with_reducible refine wpAny_isSubtype_exc hC0 ?_;rw[hb0])
   | (with_reducible refine wpAny_isSubtype_exc hC ?_;rw[hb])
   | wp_step)
 all_goals (cases b <;> (wp_walk;exact k))
end
end Stow
namespace Stow
open PySem
open Sem (wp)
def Lk (M:Model)(h:Heap){α:Type}(m:Sem α)(v:α):Prop:=∀(A:Around) (E:Value→Shared→Prop) (g:Array GenState) (d:Drawn) (t:Nat) (os:OsState) (Q:α→Shared→Prop),Q v ⟨h,g,d,t,os⟩→wpAny M A m Q E ⟨h,g,d,t,os⟩
theorem Lk.at {M:Model}{h:Heap}{α:Type}{m:Sem α}{v:α}(l:Lk M h m v){A:Around}{E:Value→Shared→Prop}{g:Array GenState}{d:Drawn}{t:Nat}{os:OsState}{Q:α→Shared→Prop}(q:Q v ⟨h,g,d,t,os⟩):wpAny M A m Q E ⟨h,g,d,t,os⟩:=l A E g d t os Q q
section
variable {prog:Program}{w:World}{A:Around}{E:Value→Shared→Prop}{h:Heap}{g:Array GenState}{d:Drawn}{t:Nat}{os:OsState}{a C:Addr}{o:Obj}
structure XLk (prog:Program)(w:World)(h:Heap)(C:Addr):Prop where
 ga:Lk (model prog w) h (typeLookup (.ref C) "__getattribute__") (some (.builtin "BaseException.__getattribute__"))
 gat:Lk (model prog w) h (typeLookup (.ref C) "__getattr__") none
 cls:Lk (model prog w) h (typeLookup (.ref C) "__class__") (some (.builtin "object.__class__"))
 obj:Lk (model prog w) h (isSubtype (.ref C) (.type "object")) true
 exc:Lk (model prog w) h (isSubtype (.ref C) (.type "BaseException")) true
theorem XTi {R:Result→Shared→Prop}(L:XLk prog w h C)(hx:h.get? a=some o)(hc:o.cls = .ref C)(k:R (.ok (.ret (.ref C))) ⟨h,g,d,t,os⟩) :
   codeAny (model prog w) A (.call (.builtin "getset_descriptor.__get__") ⟨[.builtin "object.__class__",.ref a,.ref C],[]⟩) R ⟨h,g,d,t,os⟩:=by
 have y5:(⟨h,g,d,t,os⟩:Shared).TypeIs (.builtin "object.__class__") "getset_descriptor":=F.typeOf_object_class
 have y8:Lk (model prog w) h (isSubtype (.ref C) (.type (".".intercalate ("object.__class__".cutAt '.').dropLast))) true:=by rw[F.owner_object_class];exact L.obj
 refine codeAny_call_builtin F.slot_gs_get.plain F.entry_gs_get (F.slot_gs_get.check _ _ _ _ _ _ _ _ y5 (F.args_gs_get _ _ _) ?_)
 repeat (any_goals (first
   | assumption
   | (with_reducible refine wpAny_loadPart_at hx ?_;rw[hc])
   | with_reducible refine y8.at ?_
   | wp_step))
 refine⟨Code.quiet_builtin _ (by decide +kernel),codeAny_builtin F.entry_object_class ?_⟩
 repeat (any_goals (first
   | assumption
   | (with_reducible refine wpAny_loadPart_at hx ?_;rw[hc])
   | wp_step))
theorem Xxh {tk:Tok}{Q:Fin→Shared→Prop}(L:XLk prog w h C)(hx:h.get? a=some o)(hc:o.cls = .ref C)(k:Q (.done (.ret (.ref C))) ⟨h,g,d,t,os⟩) :
   wpAny (model prog w) A (Builtin.«object.__getattribute__» ⟨[.ref a,.str "__class__" tk],[]⟩) Q E ⟨h,g,d,t,os⟩:=by
 have y5:(⟨h,g,d,t,os⟩:Shared).TypeIs (.builtin "object.__class__") "getset_descriptor":=F.typeOf_object_class
 have f5:=F.typeOf_object_class
 have f6:=F.slot_gs_get.lookup
 have f7:=F.slot_gs_set.lookup
 have l2:=L.cls
 repeat (any_goals (first
   | assumption
   | (with_reducible refine wpAny_loadPart_at hx ?_;rw[hc])
   | with_reducible refine l2.at ?_
   | wp_step))
 refine XTi L hx hc ?_
 repeat (any_goals (first | assumption | wp_step))
theorem Xyx {nv:Value}{Q:Unit→Shared→Prop}(L:XLk prog w h C)(hx:h.get? a=some o)(hc:o.cls = .ref C)(k:Q () ⟨h,g,d,t,os⟩):wpAny (model prog w) A (checkBuiltinCall "BaseException.__getattribute__" ⟨[.ref a,nv],[]⟩) Q E ⟨h,g,d,t,os⟩:=by
 have e1:builtinKind "BaseException.__getattribute__"=some .slot:=by decide +kernel
 have e2:splitId "BaseException.__getattribute__"=some ("BaseException","__getattribute__"):=by decide +kernel
 have ha:=F.args_bexc_ga (.ref a) nv
 have l4:=L.exc
 simp only [checkBuiltinCall,e1,e2]
 refine wpAny_bind ?_
 unfold isInstance
 repeat (first
   | (with_reducible refine wpAny_loadPart_at hx ?_;rw[hc])
   | with_reducible refine l4.at ?_
   | wp_step)
 exact k
theorem XHx {tk:Tok}{R:Result→Shared→Prop}(FB:Slot "ValueError" "__getattribute__" "BaseException.__getattribute__")(L:XLk prog w h C)(hx:h.get? a=some o)(hc:o.cls = .ref C)(k:R (.ok (.ret (.ref C))) ⟨h,g,d,t,os⟩) :
   codeAny (model prog w) A (.call (.builtin "BaseException.__getattribute__") ⟨[.ref a,.str "__class__" tk],[]⟩) R ⟨h,g,d,t,os⟩ :=
 codeAny_call_builtin FB.plain F.entry_bexc_ga (Xyx L hx hc (Xxh L hx hc k))
theorem xc_by {tk:Tok}{fill:Bool}{Q:Value→Shared→Prop}(FB:Slot "ValueError" "__getattribute__" "BaseException.__getattribute__")(L:XLk prog w h C)(hx:h.get? a=some o)(hc:o.cls = .ref C)(k:Q (.ref C) ⟨h,g,d,t,os⟩) :
   wpAny (model prog w) A (getAttrBy (.ref a) (.str "__class__" tk) fill) Q E ⟨h,g,d,t,os⟩:=by
 have f3:=FB.bind (.ref a)
 have x0:(false&&onTheHeap (Value.builtin "BaseException.__getattribute__"))=false:=rfl
 have x2:(Value.builtin "BaseException.__getattribute__"==Value.builtin "object.__getattribute__")=false:=by decide +kernel
 have x1:(onTheHeap (Value.ref C)&&Value.builtin "BaseException.__getattribute__"==Value.builtin "object.__getattribute__")=false:=by rw[x2,Bool.and_false]
 have l1:=L.ga
 have l2:=L.gat
 repeat (any_goals (first
   | assumption
   | (with_reducible refine wpAny_loadPart_at hx ?_;rw[hc])
   | with_reducible refine l1.at ?_
   | with_reducible refine l2.at ?_
   | wp_step))
 refine XHx FB L hx hc ?_
 repeat (any_goals (first | assumption | wp_step))
theorem XIc {Q:Option Value→Shared→Prop}(FB:Slot "ValueError" "__getattribute__" "BaseException.__getattribute__")(L:XLk prog w h C)(hx:h.get? a=some o)(hc:o.cls = .ref C)(k:Q (some (.ref C)) ⟨h,g,d,t+1,os⟩) :
   wpAny (model prog w) A (getAttr? (.ref a) "__class__") Q E ⟨h,g,d,t,os⟩:=by
 unfold getAttr? getAttrBy?
 repeat (any_goals (first | assumption | with_reducible apply xc_by FB L hx hc | wp_step))
end
end Stow
namespace Stow
open PySem L2 PyProof.Rows
section
variable {P:Program}{w:World}{H H':Hp}{h h' g:Heap}{a:Addr}{o:HO}
theorem XAt (x:Xdy P w H h a o):∃ob,h.get? a=some ob:=by
 cases o with
 | lst xs=>obtain⟨_,_,_,_,e⟩:=x;exact⟨_,e⟩
 | tup xs=>obtain⟨_,_,_,ob,e,_⟩:=x;exact⟨_,e⟩
 | dK kvs=>obtain⟨_,_,_,_,ob,_,_,e,_⟩:=x;exact⟨_,e⟩
 | dT kvs=>obtain⟨_,_,_,_,ob,_,_,e,_⟩:=x;exact⟨_,e⟩
 | set S n=>obtain⟨ob,_,_,_,e,_⟩:=x;exact⟨_,e⟩
 | ins C dx fs=>obtain⟨_,_,_,e,_⟩:=x;exact⟨_,e⟩
 | own y=>obtain⟨_,e⟩:=x;exact⟨_,e⟩
 | xd fs=>obtain⟨_,⟨_,_,_,e,_⟩,_⟩:=x;exact⟨_,e⟩
 | rng lo hi=>obtain⟨_,_,_,e⟩:=x;exact⟨_,e⟩
 | frz ob u=>obtain⟨e,_⟩:=x;exact⟨_,e⟩
 | tbl ps=>exact⟨_,(show h.get? a=some _ from x)⟩
 | met f y=>exact⟨_,(show h.get? a=some _ from x)⟩
 | ext φ=>obtain⟨_,e,_⟩:=x;exact e
theorem Xdo (x:HOk P w H h)(e:h.get? a=none):H a=none:=by
 cases q:H a with
 | none=>rfl
 | some u =>
   obtain⟨ob,z⟩:=XAt (x a u q)
   rw[e] at z
   cases z
theorem Xjx {fr ex:List Addr}(x:HOk P w H h)(u:Upto fr ex h h')(hf:∀b∈fr,H b=none)(he:∀b∈ex,H b=none):HOk P w H h':=fun a o e=>by
 have out:∀b v,H b=some v→b ∉ ex∧b ∉ fr:=fun b v q=>⟨(fun z=>by rw[he b z] at q;cases q),(fun z=>by rw[hf b z] at q;cases q)⟩
 refine(x a o e).stay (fun b ob hb q=>?_) (fun _ q=>q) fun _ _ q=>q
 rcases hb with rfl | hb
 · exact u.keep b ob (out b _ e).1 (out b _ e).2 q
 · exact u.keep b ob (out b _ hb).1 (out b _ hb).2 q
theorem Xmv {fs fr ex:List Addr}(u:Un fs [] H H' g h)(v:Upto fr ex h h')(hfr:∀b∈fr,b∈fs∨g.get? b=none)(hex:∀b∈ex,g.get? b=none):Un fs [] H H' g h':=by
 have nex:∀b o,g.get? b=some o→b ∉ ex:=fun b o q z=>by rw[hex b z] at q;cases q
 refine⟨fun b o q n hb hx=>?_,fun b o q n hb hx=>?_,u.free,fun b o q hx=>?_,u.tups,u.frzs,u.tbls⟩
 · refine v.keep b o (nex b o q) (fun z=>?_) (u.keep b o q n hb hx)
   rcases hfr b z with z | z
   · exact hb z
   · rw[z] at q
     cases q
 · obtain⟨sl,q1⟩:=u.slot b o q n hb hx
   obtain⟨sl',q2⟩:=v.slot b _ (nex b o q) q1
   exact⟨sl',q2⟩
 · obtain⟨o',q1⟩:=u.there b o q hx
   obtain⟨sl,q2⟩:=v.slot b o' (nex b o q) q1
   exact⟨_,q2⟩
theorem Xfu {fs:List Addr}(u:Un fs [] H H' g h)(e:h.get? a=none):g.get? a=none:=by
 cases q:g.get? a with
 | none=>rfl
 | some o =>
   obtain⟨o',z⟩:=u.there a o q (by simp)
   rw[e] at z
   cases z
end
def CXe (P:Program)(w:World):CXT:=fun outer H s E e s'=>∃(x C T:Addr) (od:Option Addr) (H':Hp),e = .ref x∧s'.os=s.os∧AllBare s'.gens∧Un (frs outer) [] H H' s.heap s'.heap∧HOk P w H' s'.heap ∧
 s.heap.get? x=none∧s.heap.get? T=none∧H' x=none∧H' T=none∧Exc s'.heap x (.ref C) od T .none∧E (.ref C) od H'
section
variable {P:Program}{w:World}{K:PySem.W.Frag}{mg:Str→Option Value}{base:Heap}{N:List Str}{qual:Str}{scope:Scope}{f:Addr}{cd:Value}{A:Around}{outer:List Env}{s₀:Shared}{H₀:Hp}{EX:XK}
theorem Xum {pins:List (Addr×Obj)}{σ:L2.St}{H:Hp}{s:Shared}{x C:Addr}{od:Option Addr}(I:Inv (cxOf (CXe P w) P w K mg base N qual scope f cd A outer s₀ H₀ EX) pins σ H s)(hx:Exc0 s.heap x (.ref C) od)(nx:s₀.heap.get? x=none)(ux:H x=none)(q:EX (.ref C) od H) :
   (cxOf (CXe P w) P w K mg base N qual scope f cd A outer s₀ H₀ EX).xe (.ref x) s:=by
 refine leave0 (base:=base) (outer:=outer) I.ok.frames I.stack rfl hx fun h' T nT u t=>?_
 have hu:Un (frs outer) [] H₀ H s₀.heap s.heap:=I.base
 have uT:H T=none:=Xdo I.hok nT
 refine⟨x,C,T,od,H,rfl,I.os,I.bare,Xmv hu u (fun b hb=>?_) (fun b hb=>?_),Xjx I.hok u I.stkFree (fun b hb=>?_),nx,Xfu hu nT,ux,uT,t,q⟩
 · rcases List.mem_cons.mp hb with rfl | hb
   · exact .inr (Heap.get?_none_of_le (Nat.le_refl _))
   · exact .inl hb
 · rcases List.mem_cons.mp hb with rfl | hb
   · exact nx
   · have e:b=T:=by simpa using hb
     subst e
     exact Xfu hu nT
 · rcases List.mem_cons.mp hb with rfl | hb
   · exact ux
   · have e:b=T:=by simpa using hb
     subst e
     exact uT
theorem Xfr:Xek (CXe P w) (cxOf (CXe P w) P w K mg base N qual scope f cd A outer s₀ H₀ EX) EX:=by
 rintro pins σ H s e s' I ⟨x,C,T,od,H',rfl,os,bare,un,hok,nx,nT,ux,uT,t,q⟩
 have I':Inv (cxOf (CXe P w) P w K mg base N qual scope f cd A outer s₀ H₀ EX) pins σ H' s':=by
   obtain⟨hh,gg,dd,tt,oo⟩:=s'
   obtain rfl:oo=s.os:=os
   have z:=I.call (h':=hh) (g':=gg) (d':=dd) (t':=tt) (ch:=[]) un hok bare (fun b z=>absurd z (by simp))
   exact z
 refine XMm (base:=base) (outer:=outer) I'.ok.frames I'.stack rfl t fun h' T' nT' u t'=>?_
 have hu:Un (frs outer) [] H₀ H' s₀.heap s'.heap:=I'.base
 have hu0:Un (frs outer) [] H₀ H s₀.heap s.heap:=I.base
 have uT':H' T'=none:=Xdo hok nT'
 have n0:∀b∈[T,x,T'],s₀.heap.get? b=none:=fun b hb=>by
   rcases List.mem_cons.mp hb with rfl | hb
   · exact Xfu hu0 nT
   · rcases List.mem_cons.mp hb with rfl | hb
     · exact Xfu hu0 nx
     · have e:b=T':=by simpa using hb
       subst e
       exact Xfu hu nT'
 refine⟨x,C,T',od,H',rfl,I'.os,I'.bare,Xmv hu u (fun b hb=>?_) n0,Xjx hok u I'.stkFree (fun b hb=>?_),n0 x (by simp),n0 T' (by simp),ux,uT',t',q⟩
 · rcases List.mem_cons.mp hb with rfl | hb
   · exact .inr (Heap.get?_none_of_le (Nat.le_refl _))
   · exact .inl hb
 · rcases List.mem_cons.mp hb with rfl | hb
   · exact uT
   · rcases List.mem_cons.mp hb with rfl | hb
     · exact ux
     · have e:b=T':=by simpa using hb
       subst e
       exact uT'
end
end Stow
namespace Stow
open PySem L2 PyProof.Rows
theorem Xsf {K:PySem.W.Frag}{h:Heap}{C:Addr}{bmB:List Value}{newId:String}(X:K.In h)(q:PySem.W.excIn K C bmB newId=true) :
   ∃(bm:List Value) (N:Addr) (nm qn:Str) (bs:List Value) (hd:Bool) (sn:List Str) (sub:List Value) (ab:Bool) (col:Option Bool) (dd:Option Addr) (k0 k1 k2 k3 k5:Option Value) (mN:Str→Option Value),
     h.get? C=some (excClassObj nm qn C N bs bm hd sn sub ab col dd k0 k1 k2 k3 k5 newId)∧h.Ns N mN∧mN "__init__"=none∧OwnTail h bmB bm∧∀v,PySem.W.mroIn K C v=some ((Value.ref C::bm).contains v):=by
 unfold PySem.W.excIn at q
 split at q
 · rename_i dd cd sl lk
   split at q
   · rename_i C' bm a0 a1 a2 a3 n a5 em es
     simp only [Bool.and_eq_true,beq_iff_eq,Bool.not_eq_true'] at q
     obtain⟨⟨⟨⟨⟨eC,rfl⟩,nodel⟩,tl⟩,okN⟩,noI⟩:=q
     have eC:=eC.symm
     subst eC
     have mro:∀v,PySem.W.mroIn K C v=some ((Value.ref C::bm).contains v):=fun v=>by
       unfold PySem.W.mroIn PySem.W.clsIn
       rw[lk]
       first
         | rfl
         | (simp [em];done)
     obtain⟨nm,bs,mr,ns,qn,hd,sn,sub,ab,col,del⟩:=cd
     dsimp only at em nodel okN noI
     subst em nodel
     have esl:sl=#[a0,a1,a2,a3,some (.builtin n),a5]:=by
       cases sl with
       | mk l =>
         dsimp only at es
         rw[es]
     subst esl
     exact⟨bm,ns,nm,qn,bs,hd,sn,sub,ab,col,dd,a0,a1,a2,a3,a5,_,X _ _ lk,.of_isNs (PySem.W.isNs_of_in X okN),PySem.W.nsMap_none_of_in X okN noI,PySem.W.tail_of_in X tl,mro⟩
   · cases q
 · cases q
structure XCls (K:PySem.W.Frag)(mg:Str→Option Value)(x:Str)(C:Addr):Prop where
 bound:mg x=some (.ref C)
 ex:∃(bmB:List Value) (B newId initId:String),PySem.W.excIn K C bmB newId=true∧ExcBaseFacts B newId initId bmB∧bmB.contains (.type "BaseException")=true
def XDc (C:Addr)(E:XK)(t:TA):TS:=fun _ σ H=>t σ H fun xs H1=>xs.length≤sizeLine∧E (.ref C) none H1
section
variable {P:Program}{w:World}{K:PySem.W.Frag}{mg:Str→Option Value}{base:Heap}{N:List Str}{qual:Str}{scope:Scope}{f:Addr}{cd:Value}{A:Around}{outer:List Env}{s₀:Shared}{H₀:Hp}{EX:XK}
theorem Xch {x:Str}{C:Addr}{np cpos pos:Pos}{e:Expr}{es:List Expr}{t:TA}(XC:XCls K mg x C)(hh:(cxOf (CXe P w) P w K mg base N qual scope f cd A outer s₀ H₀ EX).A.handled=none)
   (hg:Gl (cxOf (CXe P w) P w K mg base N qual scope f cd A outer s₀ H₀ EX) x) (ha:PA (cxOf (CXe P w) P w K mg base N qual scope f cd A outer s₀ H₀ EX) (e::es) t)
   (hdb:(x==("__debug__":Str))=false:=by decide) (he:starEach (e::es) (cxOf (CXe P w) P w K mg base N qual scope f cd A outer s₀ H₀ EX).env=(false,eval e (cxOf (CXe P w) P w K mg base N qual scope f cd A outer s₀ H₀ EX).env)::starEach es (cxOf (CXe P w) P w K mg base N qual scope f cd A outer s₀ H₀ EX).env:=by rfl)
   (hpl:(backTo cpos (starEach es (cxOf (CXe P w) P w K mg base N qual scope f cd A outer s₀ H₀ EX).env)).any (·.1)=false:=by rfl) :
   PS (cxOf (CXe P w) P w K mg base N qual scope f cd A outer s₀ H₀ EX) (.Raise (some (.Call (.Name x np) (e::es) [] cpos)) none pos) (XDc C EX t):=by
 intro pins s σ H D I h
 obtain⟨bmB,B,newId,initId,q,FB,hB⟩:=XC.ex
 obtain⟨bm,NN,nm,qn,bs,hd,sn,sub,ab,col,dd,k0,k1,k2,k3,k5,mN,hC,hN,noI,tl,_⟩:=Xsf I.mod.kin q
 refine wpAny_Raise_call_subT (C:=C) (nm:=nm) (q:=qn) (N:=NN) (bs:=bs) (bm:=bm) (hdct:=hd) (sn:=sn) (sub:=sub) (ab:=ab) (col:=col) (dd:=dd) (k0:=k0) (k1:=k1) (k2:=k2) (k3:=k3) (k5:=k5) FB (mN:=mN) (tl.hasType hB) hh
   (by rw[he];show (false||(backTo cpos (starEach es _)).any (·.1))=false;rw[hpl];rfl) noI (Xde I hg XC.bound ⟨rfl,?_⟩ hdb)
 have hA:=ha cpos pins s σ H _ I h
 rw[he] at hA ⊢
 refine Calls.evalArgs_plain (thn hA fun us s2 ⟨xs,H2,I2,r2,hz,q2⟩=>⟨rfl,by rw[←r2.length];exact hz,I2.bk _ _ hC,hN.keeps I2.bk,tl.keeps I2.bk,fun h' x hm=>?_⟩)
 have I3:Inv (cxOf (CXe P w) P w K mg base N qual scope f cd A outer s₀ H₀ EX) pins σ H2 { s2 with heap:=h' }:=I2.kept (t':=s2.toks) hm.keeps
 obtain⟨tt,ht,_,_⟩:=hm.there
 exact Xum I3 ⟨_,_,ht,rfl,rfl,rfl,rfl⟩ (Xfu (show Un (frs outer) [] H₀ H2 s₀.heap s2.heap from I2.base) hm.new) (Xdo I2.hok hm.new) q2
end
def ExcO (x C:Addr)(od:Option Addr):HO:=.ext fun h=>∃oe vs,h.get? x=some oe∧oe.cls = .ref C∧oe.dict=od∧oe.data = .fields vs
abbrev Cx.suite (X:Cx)(x:Addr):Cx:={ X with A:=X.A.mark (some (.ref x)),calm:=false,xe:=fun _ _=>False }
theorem Xxc {X:Cx}(ok:X.Ok)(x:Addr):(Cx.suite X x).Ok :=
 ⟨ok.mod,ok.kind,ok.glob,ok.blt,ok.above,ok.inj,ok.has,ok.cab,fun z=>(nomatch z),ok.frames,ok.stk,ok.exf,ok.bs,ok.bsz,ok.noex,ok.exfs,ok.funs,ok.frf⟩
theorem Xdv {X:Cx}{pins:List (Addr×Obj)}{σ:L2.St}{H:Hp}{s:Shared}(I:Inv X pins σ H s)(x:Addr):Inv (Cx.suite X x) pins σ H s:=⟨Xxc I.ok x,I.os,I.bare,I.base,I.loc,I.cell,I.free,I.freeC,I.pin,I.hok,I.len⟩
theorem Xcc {X:Cx}{pins:List (Addr×Obj)}{σ:L2.St}{H:Hp}{s:Shared}{x:Addr}(ok:X.Ok)(I:Inv (Cx.suite X x) pins σ H s):Inv X pins σ H s:=⟨ok,I.os,I.bare,I.base,I.loc,I.cell,I.free,I.freeC,I.pin,I.hok,I.len⟩
section
variable {X:Cx}
theorem Xni {pins:List (Addr×Obj)}{σ:L2.St}{H H':Hp}{s s':Shared}{h':Heap}{x C T:Addr}{od:Option Addr}{fr ex:List Addr}(I:Inv X pins σ H s)(os:s'.os=s.os)(bare:AllBare s'.gens)(un:Un (frs X.stack) [] H H' s.heap s'.heap)(hok:HOk X.prog X.w H' s'.heap)
   (nx:s.heap.get? x=none) (ux:H' x=none) (u:Upto fr ex s'.heap h') (hfr:fr=frs X.stack) (nex:∀b∈ex,s.heap.get? b=none∧H' b=none) (t:Exc h' x (.ref C) od T .none):Inv X pins σ (upd H' x (ExcO x C od)) { s' with heap:=h' }:=by
 subst hfr
 have un2:Un (frs X.stack) [] H H' s.heap h':=Xmv un u (fun b hb=>.inl hb) fun b hb=>(nex b hb).1
 have stk:∀b∈frs X.stack,H' b=none:=fun b hb=>by
   obtain⟨_,o,ho,_⟩:=I.stack.mem hb
   exact un.free b o ho (I.stkFree b hb) (by simp)
 have hok2:HOk X.prog X.w H' h':=Xjx hok u stk fun b hb=>(nex b hb).2
 have nex':∀b v,H' b=some v→b≠x:=fun b v e z=>by rw[z,ux] at e;cases e
 have un3:Un (frs X.stack) [] H (upd H' x (ExcO x C od)) s.heap h':=by
   refine⟨un2.keep,un2.slot,fun b o q n hx=>?_,un2.there,fun b xs q=>?_,fun b o v q=>?_,fun b ps q=>?_⟩
   · rw[Xap (fun z=>by rw[z,nx] at q;cases q)]
     exact un2.free b o q n hx
   · rw[Xap (nex' b _ (un2.tups b xs q))]
     exact un2.tups b xs q
   · rw[Xap (nex' b _ (un2.frzs b o v q))]
     exact un2.frzs b o v q
   · obtain⟨more,z⟩:=un2.tbls b ps q
     exact⟨more,by rw[Xap (nex' b _ z)];exact z⟩
 obtain⟨oe,vs,oT,ts,ne,ee,hc,hd,hf,_⟩:=t
 have hok3:HOk X.prog X.w (upd H' x (ExcO x C od)) h':=fun b v e=>by
   by_cases z:b=x
   · subst z
     rw[upd_same] at e
     cases e
     exact⟨⟨oe,vs,ee,hc,hd,hf⟩,⟨oe,ee⟩,fun h1 h2 ⟨o1,v1,q1,q2,q3,q4⟩ k=>⟨o1,v1,k o1 q1,q2,q3,q4⟩⟩
   · rw[Xap z] at e
     exact(hok2 b v e).stay (fun _ _ _ q=>q) (fun c q=>by rw[Xap (nex' c _ q)];exact q) fun c xs q=>by rw[Xap (nex' c _ q)];exact q
 obtain⟨hh,gg,dd,tt,oo⟩:=s'
 obtain rfl:oo=s.os:=os
 have z:=I.call (h':=h') (g':=gg) (d':=dd) (t':=tt) (ch:=[]) un3 hok3 bare (fun b z=>absurd z (by simp))
 exact z
end
end Stow
namespace Stow
open PySem L2 PyProof.Rows
section
variable {X:Cx}
theorem Xgc {M:Model}{A:Around}{E:Value→Shared→Prop}{pins:List (Addr×Obj)}{σ:L2.St}{H:Hp}{s:Shared}{i:Nat}{n:Str}{pos:Pos}{Q:Unit→Shared→Prop}(I:Inv X pins σ H s)(hN:X.N.Nodup)(hi:X.N[i]?=some n)
   (hk:X.env.kindOf n=some .local) (k:∀s',Inv X pins (σ.set i none) H s'→Q () s'):wpAny M A (do bindName X.env n .none;unbindBehindTheSuite X.env n pos) Q E s:=by
 obtain⟨m,hn,hl⟩:=id I.loc
 have iσ:i<σ.length:=by rw[I.len];exact(List.getElem?_eq_some_iff.mp hi).1
 refine wpAny_nameGoes_keeps hk hn (by rw[I.ok.kind];rfl) fun h' v hn' hs=>k _ ?_
 have far:∀b o,X.s₀.heap.get? b=some o→h'.get? b=s.heap.get? b:=fun b o e=>hs.2 b (Nat.ne_of_lt (Nat.lt_of_lt_of_le (Heap.lt_size e) I.ok.above))
 refine⟨I.ok,I.os,I.bare,⟨fun b o e z hb hx=>(far b o e).trans (I.base.keep b o e z hb hx),fun b o e z hb hx=>?_,I.base.free,fun b o e hx=>?_,I.base.tups,I.base.frzs,I.base.tbls⟩,⟨_,hn',fun j y w' e1 e2 e3=>?_⟩,fun y c e=>?_,I.free,I.freeC,fun p hp=>?_,fun b ob e=>?_,by rw[List.length_set];exact I.len⟩
 · obtain⟨sl,q⟩:=I.base.slot b o e z hb hx
   exact⟨sl,(far b o e).trans q⟩
 · obtain⟨o',q⟩:=I.base.there b o e hx
   exact⟨o',(far b o e).trans q⟩
 · have ji:j≠i:=fun z=>by
     subst z
     rw[List.getElem?_set_self iσ] at e2
     cases e2
   rw[List.getElem?_set_ne (Ne.symm ji)] at e2
   obtain⟨u',r',q⟩:=hl j y w' e1 e2 e3
   refine⟨u',r',?_⟩
   rcases q with ⟨kk,e⟩ | ⟨kk,c,e,z⟩
   · have yn:y≠n:=fun e=>ji (Xjs hN e1 (e▸hi))
     exact .inl ⟨kk,by simp [yn,e]⟩
   · exact .inr ⟨kk,c,e,z.sameBut hs (I.cne y c e)⟩
 · obtain⟨w',z⟩:=I.cell y c e
   exact⟨w',z.sameBut hs (I.cne y c e)⟩
 · obtain⟨e,z,ne,nf,d⟩:=I.pin p hp
   exact⟨(hs.2 p.1 ne).trans e,z,ne,nf,d⟩
 · refine(I.hok b ob e).stay (fun c w' hc q=>(hs.2 c ?_).trans q) (fun _ q=>q) fun _ _ q=>q
   rintro rfl
   rcases hc with hc | hc
   · rw[←hc,I.free] at e
     cases e
   · rw[I.free] at hc
     cases hc
def ECls (K:PySem.W.Frag)(C:Addr)(bm:List Value):Prop:=∃(nm qn:Str) (N:Addr) (bs:List Value) (hd:Bool) (sn:List Str) (sub:List Value) (ab:Bool) (col:Option Bool) (dd:Option Addr) (k0 k1 k2 k3 k5:Option Value) (newId:String),
 K.lookup C=some (excClassObj nm qn C N bs bm hd sn sub ab col dd k0 k1 k2 k3 k5 newId)
variable {k:Nat}{f C0:Addr}{fd:FuncData}{ps:List Str}{sp:Sp}{fx cx:Str}{p cpos epos np hpos pos:Pos}{e:Expr}{es:List Expr}{ta:TA}{b0:Stmt}{suite:List Stmt}{ts:Addr→TS}
theorem Xqx {pins:List (Addr×Obj)}{σ:L2.St}{H:Hp}{s s':Shared}{EX:XK}{y:Value}{W:Shared→Prop}(I:Inv X pins σ H s)(hst:X.stack=X.env::X.outer∧X.env.frame=some X.env.locals)(hq:CXe X.prog X.w X.stack H s EX y s')
   (k:∀(x C:Addr) (od:Option Addr) (T:Addr) (h2:Heap) (H2:Hp),y = .ref x→EX (.ref C) od H2→Exc h2 x (.ref C) od T .none→Inv X pins σ (upd H2 x (ExcO x C od)) { s' with heap:=h2 } →
     (∀h3,Upto (frs X.stack) [T] h2 h3→Exc h3 x (.ref C) od T .none→H2 x=none∧Inv X pins σ (upd H2 x (ExcO x C od)) { s' with heap:=h3 })→W { s' with heap:=h2 }) {E':Value→Shared→Prop} :
   wpAny (model X.prog X.w) X.A (noteFrame y X.env) (fun _ s2=>wpAny (model X.prog X.w) X.A (setFlight y none) (fun _ s3=>W s3) E' s2) E' s':=by
 obtain⟨x,C,T,od,H',rfl,os,bare,un,hok,nx,nT,ux,uT,t,q⟩:=hq
 have I':Inv X pins σ H' s':=by
   obtain⟨hh,gg,dd,tt,oo⟩:=s'
   obtain rfl:oo=s.os:=os
   have z:=I.call (h':=hh) (g':=gg) (d':=dd) (t':=tt) (ch:=[]) un hok bare (fun b z=>absurd z (by simp))
   exact z
 have efr:(X.env::X.outer).filterMap (·.frame)=frs X.stack:=by rw[hst.1];rfl
 refine XTh (base:=X.base) (outer:=X.outer) (by rw[←hst.1];exact I'.ok.frames) (by rw[←hst.1];exact I'.stack) hst.2 t fun h1 T' nT' u1 t1=>?_
 rw[efr] at u1
 refine Xgf (s:={ s' with heap:=h1 }) (fr:=frs X.stack) t1 fun h2 u2 t2=>?_
 have new:∀b∈[T,x]++[T']++[T'],s.heap.get? b=none∧H' b=none:=fun b hb=>by
   simp only [List.cons_append,List.nil_append,List.mem_cons,List.not_mem_nil,or_false] at hb
   rcases hb with rfl | rfl | rfl | rfl
   · exact⟨nT,uT⟩
   · exact⟨nx,ux⟩
   · exact⟨Xfu un nT',Xdo hok nT'⟩
   · exact⟨Xfu un nT',Xdo hok nT'⟩
 refine k x C od T' h2 H' rfl q t2 (Xni I os bare un hok nx ux (u1.trans u2) rfl (fun b hb=>new b (List.mem_append_left _ hb)) t2) fun h3 u3 t3=>⟨ux,Xni I os bare un hok nx ux ((u1.trans u2).trans u3) rfl new t3⟩
theorem Xpm {pins:List (Addr×Obj)}{D:Ends}{x:Addr}{fl:Flow}{s':Shared}(ok:X.Ok)(h:SP (Cx.suite X x) pins D fl s'):SP X pins D fl s':=by
 cases fl with
 | next=>obtain⟨σ',H',I,q⟩:=h;exact⟨σ',H',Xcc ok I,q⟩
 | brk=>obtain⟨σ',H',I,q⟩:=h;exact⟨σ',H',Xcc ok I,q⟩
 | cont=>obtain⟨σ',H',I,q⟩:=h;exact⟨σ',H',Xcc ok I,q⟩
 | ret u=>obtain⟨v,σ',H',I,r,q⟩:=h;exact⟨v,σ',H',Xcc ok I,r,q⟩
end
end Stow
namespace Stow
open PySem L2 PyProof.Rows
structure Defx (P:Program)(w:World)(K:PySem.W.Frag)(mg:Str→Option Value)(base:Heap)(x:Str)(k:Nat)(ps:List Str)(sp:Sp):Prop where
 ex:∃(f:Addr) (fd:FuncData),FnOk P w K mg base (CXe P w) k f fd ps sp∧mg x=some (.ref f)∧PySem.W.keepIn K (.ref f)=true∧Xco K fd ps []
section
variable {P:Program}{w:World}{K:PySem.W.Frag}{mg:Str→Option Value}{base:Heap}
theorem Xbk {x qual:Str}{st:Stmt}{f:Addr}{fd:FuncData}{N ps:List Str}{k:Nat}{sp:Sp}(F:Fun K x qual st f fd)(S:FnScope N ps (Xad st))(len:∀vs H Q E,sp vs H Q E→vs.length=ps.length)
   (hbody:∀(cdv:Value) (A:Around) (outer:List Env) (s:Shared) (H:Hp) (vs:List V) (Q:VK) (E:XK),Room k (A.deeper (envOfC qual (Xad st) s.heap.objs.size f cdv))→sp vs H Q E →
     ∃t,PSs (cxOf (CXe P w) P w K mg base N qual (Xad st) f cdv A outer s H E) (Xav st) t∧t { nx:=fun _ H'=>Q .non H',rt:=Q } (start N vs) H):FnOk P w K mg base (CXe P w) (k+1) f fd ps sp:=by
 obtain⟨oc,od,kV,doc,pm,an,cdv,ct,osl,rfl,lk,hcd⟩:=F.ex
 exact XIq lk hcd S len fun A outer s H vs Q E hr hsp=>hbody cdv A outer s H vs Q E hr hsp
theorem Src.okx {x:Str}{st:Stmt}{N ps:List Str}{k:Nat}{sp:Sp}(S:Src K mg x st)(sc:FnScope N ps (Xad st))
   (hb:∀(kV doc pm:Value) (an:Option Addr) (cdv ct:Value) (us:List Value),us.length=ps.length→bindArgs (PySem.W.fnOf x x (Xaz st) (Xav st) (Xad st) .none kV doc pm an cdv ct) ⟨us,[]⟩=pure (ps.zip us))
   (len:∀vs H Q E,sp vs H Q E→vs.length=ps.length)
   (hbody:∀(f:Addr) (cdv:Value) (A:Around) (outer:List Env) (s:Shared) (H:Hp) (vs:List V) (Q:VK) (E:XK),Room k (A.deeper (envOfC x (Xad st) s.heap.objs.size f cdv))→sp vs H Q E →
     ∃t,PSs (cxOf (CXe P w) P w K mg base N x (Xad st) f cdv A outer s H E) (Xav st) t∧t { nx:=fun _ H'=>Q .non H',rt:=Q } (start N vs) H):Defx P w K mg base x (k+1) ps sp:=by
 obtain⟨f,fd,F,hm⟩:=S.ex
 exact⟨f,fd,Xbk F sc len (hbody f),hm,F.kp,F.binds hb⟩
end
section
variable {X:Cx}
theorem Xcf:Xek (CXe X.prog X.w) X E0:=by
 rintro pins σ H s e s' I ⟨x,C,T,od,H',_,_,_,_,_,_,_,_,_,_,q⟩
 exact q.elim
theorem Xah {x:Str}{j k:Nat}{ps:List Str}{sp:Sp}{p pos:Pos}{e:Expr}{es:List Expr}{t:TA}(D:Defx X.prog X.w X.K X.mg X.base x j ps sp)(hr:Room k X.A)(hg:Gl X x)(ha:PA X (e::es) t)(hk:j≤k:=by decide)
   (hdb:(x==("__debug__":Str))=false:=by decide) (he:starEach (e::es) X.env=(false,eval e X.env)::starEach es X.env:=by rfl) (hpl:(backTo pos (starEach es X.env)).any (·.1)=false:=by rfl) :
   PE X (.Call (.Name x p) (e::es) [] pos) (Xtr sp [] E0 t):=by
 obtain⟨f,fd,F,hm,kp,b⟩:=D.ex
 exact Xrf F (hr.mono hk) hg hm kp b .nil Xcf ha hdb he hpl
variable {j k:Nat}{C0:Addr}{ps:List Str}{sp:Sp}{fx cx:Str}{p cpos epos np hpos pos:Pos}{e:Expr}{es:List Expr}{ta:TA}{b0:Stmt}{suite:List Stmt}{ts:Addr→TS}
end
theorem Lk.of {M:Model}{h:Heap}{α:Type}{m:Sem α}{v:α}(l:PySem.W.Looks M h m v):Lk M h m v:=fun A E g d t os Q q=>l A Q E ⟨h,g,d,t,os⟩ (fun _ _ e=>e) q
structure XK0 (K:PySem.W.Frag)(C:Addr):Prop where
 ga:PySem.W.findIn K (.ref C) "__getattribute__"=some (some (.builtin "BaseException.__getattribute__"))
 gat:PySem.W.findIn K (.ref C) "__getattr__"=some none
 cls:PySem.W.findIn K (.ref C) "__class__"=some (some (.builtin "object.__class__"))
 obj:PySem.W.mroIn K C (.type "object")=some true
 exc:PySem.W.mroIn K C (.type "BaseException")=some true
theorem XK0.lk {prog:Program}{w:World}{K:PySem.W.Frag}{C:Addr}{h:Heap}(x:XK0 K C)(KX:K.In h):XLk prog w h C :=
 ⟨.of (PySem.W.looks_findIn KX x.ga),.of (PySem.W.looks_findIn KX x.gat),.of (PySem.W.looks_findIn KX x.cls),.of (PySem.W.looks_mroIn KX x.obj),.of (PySem.W.looks_mroIn KX x.exc)⟩
theorem XBt {K:PySem.W.Frag}{x C:Addr}(FB:Slot "ValueError" "__getattribute__" "BaseException.__getattribute__")(Z:XK0 K C):PySem.W.KitX K (.ref x) (.ref C) (fun h=>∃ox,h.get? x=some ox∧ox.cls = .ref C) where
 ty:=fun M h KX ⟨ox,e,hc⟩ A Q E s k q=>by
   unfold typeOf
   refine wpAny_bind (wpAny_loadPart (k _ _ e) ?_)
   rw[hc]
   exact wpAny_pure q
 it:=fun M h KX _ A Q E s k q=>by
   obtain⟨cd,hcd,_⟩:=Option.bind_eq_some_iff.mp Z.obj
   unfold PySem.W.clsIn at hcd
   split at hcd
   · rename_i lk
     unfold isType loadHead
     exact wpAny_bind (wpAny_loadPart (k _ _ (KX _ _ lk)) (wpAny_pure q))
   · cases hcd
 ne:=fun h tp dd its n sl KX htp=>by
   obtain⟨cd,hcd,_⟩:=Option.bind_eq_some_iff.mp Z.obj
   refine Bool.eq_false_iff.mpr fun q=>?_
   have e:C=tp:=Value.ref.inj (beq_iff_eq.mp q)
   subst e
   unfold PySem.W.clsIn at hcd
   split at hcd
   · rename_i lk
     have z:=(KX _ _ lk).symm.trans htp
     cases z
   · cases hcd
 ca:=fun {_ _ _ _ _ s} KX ⟨ox,e,hc⟩ k=>by
   obtain⟨h,g,d,t,os⟩:=s
   exact XIc FB (Z.lk KX) e hc k
def clsV:V→Value
 | .ty n=>.type n
 | .ref a=>.ref a
 | _=>.none
section
variable {X:Cx}
theorem Xbn (FB:Slot "ValueError" "__getattribute__" "BaseException.__getattribute__"):Xgw X (.builtin "isinstance") (fun xs H Q=>∃x C od v b,xs=[.ref x,v]∧H x=some (ExcO x C od)∧XK0 X.K C∧clsV v≠.none∧PySem.W.kitOne X.K (.ref C) (clsV v)=some b∧Q (.bl b) H):=by
 intro pins s σ H xs us Q I r h
 obtain⟨x,C,od,v,b,rfl,hx,Z,nv,e,q⟩:=h
 obtain⟨u,u',rfl,rx,ry⟩:=Xss r
 cases (show u=Value.ref x from rx)
 have ev:u'=clsV v:=by
   cases v with
   | ty n=>exact ry
   | ref a=>exact ry
   | _=>exact absurd rfl nv
 subst ev
 obtain⟨⟨oe,vs,ee,hc,_⟩,_⟩:=I.hok x _ hx
 exact PySem.W.kia_one (XBt FB Z) I.kIn ⟨oe,ee,hc⟩ e (fun z=>nomatch z) fun tk=>⟨.bl b,H,I.tok tk,rfl,q⟩
end
end Stow
namespace Stow
open PySem L2 PyProof.Rows
open PySem.W in
theorem Xnb (self:Value):refuseLoop self "__setattr__" [.type "ValueError",.type "Exception",.type "BaseException",.type "object"]=pure ():=by kernel_rfl
def Xhf:List Value→Bool
 | .ref _::r=>Xhf r
 | l=>l==[.type "ValueError",.type "Exception",.type "BaseException",.type "object"]
open PySem.W in
theorem Xig (self:Value):∀{l:List Value},Xhf l=true→refuseLoop self "__setattr__" l=pure ()
 | .ref c::r,e=>by rw[refuseLoop_ref];exact Xig self e
 | [],e=>by cases e
 | .none::r,e=>by cases e
 | .type n::r,e=>by
   have e':(Value.type n::r)=[.type "ValueError",.type "Exception",.type "BaseException",.type "object"]:=beq_iff_eq.mp e
   rw[e']
   exact Xnb self
 | .ellipsis::r,e=>by cases e
 | .notImplemented::r,e=>by cases e
 | .bool b::r,e=>by cases e
 | .int i t::r,e=>by cases e
 | .float i t::r,e=>by cases e
 | .str i t::r,e=>by cases e
 | .bytes i t::r,e=>by cases e
 | .builtin i::r,e=>by cases e
section
variable {prog:Program}{w:World}{A:Around}{K:PySem.W.Frag}{x C:Addr}{s:Shared}
open PySem.W in
theorem Xwu {E:Value→Shared→Prop}{ox:Obj}{vs:Array Value}{name:Str}{v:Value}{cd:ClassData}{Q:Unit→Shared→Prop}(X:K.In s.heap)(hx:s.heap.get? x=some ox)(hcl:ox.cls = .ref C)(hdi:ox.dict=none)(hda:ox.data = .fields vs)
   (hs:findIn K (.ref C) "__setattr__"=some (some (.builtin "object.__setattr__"))) (hc:clsIn K C=some cd) (ho:Xhf cd.mro=true) (hm:mroIn K C (.type "object")=some true) (hd:cd.hasDict=true) (ht:findIn K (.ref C) name=some none)
   (h:∀h' dx,s.heap.get? dx=none→dx≠x→h'.get? x=some { ox with dict:=some dx }→h'.Ns1 dx (fun y=>if y=name then some v else none)→(∀b o,b≠x→s.heap.get? b=some o→h'.get? b=some o)→Q () { s with heap:=h',toks:=s.toks+2 }) :
   wpAny (model prog w) A (setAttr (.ref x) name v) Q E s:=by
 have I:InstAt s.heap x ox C none:=⟨hx,hcl,by unfold notCls;rw[hda],by rw[hdi];trivial⟩
 refine set_plain X I hs ?_
 have SF:=PySem.F.store_object
 have sub:Looks (model prog w) s.heap (isInstance (.ref x) (.type "object")) true:=I.type.andThen (looks_mroIn X hm)
 refine codeAny_call_builtin SF.slot.plain SF.entry (@check_slot (model prog w) _ _ { s with toks:=s.toks+1 } "object.__setattr__" "object" "__setattr__" (.ref x) [.str name s.toks,v] [] _ SF.kind SF.split sub (SF.args (.ref x) (.str name s.toks) v) ?_)
 have mro:Looks (model prog w) s.heap (mroOf (.ref C)) cd.mro:=(looks_clsIn X hc).andThen .now
 rw[osa_eq,refuse_eq]
 refine wpAny_bind (wpAny_bind (Looks.here (s:={ s with toks:=s.toks+1 }) I.type (wpAny_bind (Looks.here (s:={ s with toks:=s.toks+1 }) mro ?_))))
 rw[Xig _ ho]
 refine wpAny_pure (wpAny_bind (Looks.here (s:={ s with toks:=s.toks+1 }) I.type (wpAny_bind (Looks.here (s:={ s with toks:=s.toks+1 }) (looks_findIn X ht) (wpAny_bind (wpAny_pure ?_))))))
 show wpAny _ _ (Builtin.ObjectAttr.storeInOwnDict (.ref x) (.ref C) _ name v _) _ _ _
 unfold Builtin.ObjectAttr.storeInOwnDict
 obtain⟨c0,d0,dt0,sl0⟩:=ox
 dsimp only at hcl hdi hda
 subst hcl hdi hda
 refine wpAny_bind (wpAny_pure (wpAny_bind (wpAny_bind (wpAny_loadPart hx (wpAny_bind (Looks.here (s:={ s with toks:=s.toks+1 }) (looks_clsIn X hc) ?_))))))
 rw[hd]
 show wpAny (model prog w) A.in1 (do
   let d ←alloc { cls:=Value.type "dict",data:=Data.dict #[] }
   update x fun o=>{ o with dict:=some d }
   dictMade (.ref C) x d) _ _ _
 refine wpAny_bind (wpAny_alloc ?_)
 refine wpAny_bind (wpAny_update (Heap.get?_push_of_some _ hx) ?_)
 refine wpAny_pure (a:=some s.heap.objs.size) (wpAny_bind (wpAny_pure (wpAny_bind ?_)))
 have ne:s.heap.objs.size≠x:=Nat.ne_of_gt (Heap.lt_size hx)
 have n0:((s.heap.push { cls:=.type "dict",data:=.dict #[] }).update x fun o=>{ o with dict:=some s.heap.objs.size }).Ns1 s.heap.objs.size (fun _=>none):=by
   have e1:(s.heap.push { cls:=.type "dict",data:=.dict #[] }).get? s.heap.objs.size=some { cls:=.type "dict",data:=.dict #[] }:=Heap.get?_push_size s.heap rfl
   have e3:(s.heap.push { cls:=.type "dict",data:=.dict #[] }).Ns s.heap.objs.size (fun _=>none):=⟨_,#[],_,e1,rfl,(fun e he=>absurd he (by simp)),fun _=>rfl⟩
   exact(Heap.Ns1.of_empty e3).at fun o q=>by rw[Heap.get?_update_other _ _ (fun z=>ne z.symm)];exact q
 refine wpAny_nsSet1 n0 fun h' hn2 hs2=>?_
 obtain⟨oD,esD,epD,hoD,hdD,hcD⟩:=hn2.count (PySem.Within.cons name v (ns:=[]) (fun y hy=>absurd rfl hy))
 refine wpAny_bind (wpAny_lookBehind hoD (by rw[hdD];exact pastItsLine_dict (Nat.le_trans hcD (by show 1≤sizeLine+1;exact Nat.le_add_left 1 _))) ?_)
 refine wpAny_pure (h _ s.heap.objs.size (Heap.get?_none_of_le (Nat.le_refl _)) ne ?_ hn2 fun b o nb q=>?_)
 · rw[hs2.2 x (fun z=>ne z.symm)]
   exact Heap.get?_update_self _ (Heap.get?_push_of_some _ hx) rfl
 · rw[hs2.2 b (Nat.ne_of_lt (Heap.lt_size q))]
   show ((s.heap.push _).update x _).get? b=some o
   rw[Heap.get?_update_other _ _ (fun z=>nb z.symm)]
   exact Heap.get?_push_of_some _ q
end
end Stow
namespace Stow
open PySem
open Sem (wp)
section
variable {prog:Program}{w:World}{A:Around}{E:Value→Shared→Prop}{h:Heap}{g:Array GenState}{d:Drawn}{t:Nat}{os:OsState}{a C:Addr}{o:Obj}{name:Str}{v:Value}
end
end Stow
namespace Stow
open PySem L2 PyProof.Rows
structure XSet (K:PySem.W.Frag)(C:Addr)(f:Str):Prop where
 sa:PySem.W.findIn K (.ref C) "__setattr__"=some (some (.builtin "object.__setattr__"))
 cd:∃cd,PySem.W.clsIn K C=some cd∧Xhf cd.mro=true∧cd.hasDict=true
 ob:PySem.W.mroIn K C (.type "object")=some true
 no:PySem.W.findIn K (.ref C) f=some none
def ExcN (x C:Addr)(od:Option Addr):HO:=.ext fun h=>∃tt,h.get? x=some { cls:=.ref C,dict:=od,data:=.fields #[.ref tt,.none,.none,.none,.bool false,.none] }
def sFldX (K:PySem.W.Frag)(ta tv:TE)(f:Str):TS:=fun D σ H=>tv σ H fun y H1=>ta σ H1 fun x H2=>∃a C,x = .ref a∧H2 a=some (ExcN a C none)∧XSet K C f∧∀dx,H2 dx=none→D.nx σ (upd (upd H2 dx (.xd [(f,y)])) a (ExcN a C (some dx)))
section
variable {X:Cx}{o e value:Expr}{f:Str}{pos pos':Pos}{ta tv:TE}
theorem XFz (ha:PE X o ta)(hv:PE X value tv)(hs:swapsWith value (some (.Attribute o f pos')) pos.line X.env=pure false:=by rfl):PS X (.Assign [.Attribute o f pos'] value pos) (sFldX X.K ta tv f):=by
 intro pins s σ H D I h
 refine plainObj_wpAny_Assign_Attribute (thn (hv pins s σ H _ I h) fun u s1 ⟨y,H1,I1,ry,q⟩=>thn (ha pins s1 σ H1 _ I1 q) fun ov s2 ⟨x,H2,I2,rx,a,C,ex,ea,Z,q2⟩=>?_) hs
 subst ex
 obtain rfl:ov=Value.ref a:=rx
 obtain⟨⟨tt,ee⟩,_⟩:=I2.hok a _ ea
 obtain⟨cd,hcd,ht,hdi⟩:=Z.cd
 refine Xwu I2.kIn ee rfl rfl rfl Z.sa hcd ht Z.ob hdi Z.no fun h' dx nd ne e' n' kp=>?_
 have ud:H2 dx=none:=Xdo I2.hok nd
 have nda:a≠dx:=fun z=>ne z.symm
 refine⟨σ,_,?_,q2 dx ud⟩
 -- the dict is laid,the exception bears it
 have un:Un X.fs [] H2 (upd (upd H2 dx (.xd [(f,y)])) a (ExcN a C (some dx))) s2.heap h':=by
   refine⟨fun b ob qb n _ _=>kp b ob (fun z=>by rw[z,ea] at n;cases n) qb,fun b ob qb n _ _=>⟨ob.slots,kp b ob (fun z=>by rw[z,ea] at n;cases n) qb⟩,fun b ob qb n _=>?_,fun b ob qb _=>?_,fun b xs qb=>?_,fun b ob v' qb=>?_,fun b ps qb=>?_⟩
   · rw[Xap (fun z=>by rw[z,ea] at n;cases n),Xap (fun z=>by rw[z,nd] at qb;cases qb)]
     exact n
   · by_cases z:b=a
     · subst z
       exact⟨_,e'⟩
     · exact⟨ob,kp b ob z qb⟩
   · rw[Xap (fun z=>by rw[z,ea] at qb;cases qb),Xap (Xat qb ud)]
     exact qb
   · rw[Xap (fun z=>by rw[z,ea] at qb;cases qb),Xap (Xat qb ud)]
     exact qb
   · exact⟨#[],by rw[Xap (fun z=>by rw[z,ea] at qb;cases qb),Xap (Xat qb ud),qb];simp⟩
 have hok:HOk X.prog X.w (upd (upd H2 dx (.xd [(f,y)])) a (ExcN a C (some dx))) h':=fun b v' qb=>by
   by_cases z:b=a
   · subst z
     rw[upd_same] at qb
     cases qb
     exact⟨⟨tt,e'⟩,⟨_,e'⟩,fun h1 h2 ⟨t1,q1⟩ k=>⟨t1,k _ q1⟩⟩
   · rw[Xap z] at qb
     by_cases z2:b=dx
     · subst z2
       rw[upd_same] at qb
       cases qb
       refine⟨_,n',fun g=>?_⟩
       show RelO (List.lookup g [(f,y)]) (if g=f then some u else none)
       by_cases zg:g=f
       · subst zg
         rw[if_pos rfl,List.lookup_cons_self]
         exact ry
       · rw[if_neg zg,List.lookup_cons,show (g==f)=false from beq_false_of_ne zg]
         trivial
     · rw[Xap z2] at qb
       refine(I2.hok b v' qb).stay (fun c w' hcw q=>kp c w' (fun y'=>?_) q) (fun c q=>?_) fun c xs q=>?_
       · subst y'
         rcases hcw with r | r
         · exact z r.symm
         · rw[ea] at r
           cases r
       · rw[Xap (fun z=>by rw[z,ea] at q;cases q),Xap (Xat q ud)]
         exact q
       · rw[Xap (fun z=>by rw[z,ea] at q;cases q),Xap (Xat q ud)]
         exact q
 exact I2.un un hok
end
end Stow
namespace Stow
open PySem
open Sem (wp)
section
variable {prog:Program}{w:World}{A:Around}{E:Value→Shared→Prop}{h:Heap}{g:Array GenState}{d:Drawn}{t:Nat}{os:OsState}
variable {nm q:Str}{C N:Addr}{bs bm bmB:List Value}{hdct:Bool}{sn:List Str}{sub:List Value}{ab:Bool}{col:Option Bool}{dd:Option Addr}{k0 k1 k2 k3 k5:Option Value}{B newId initId:String}
theorem Xvm (FB:ExcBaseFacts B newId initId bmB)(TL:OwnTail h bmB bm){args:List Value}{fI:Addr}{oI:Obj}{Q:Fin→Shared→Prop}(hC:h.get? C=some (excClassObj nm q C N bs bm hdct sn sub ab col dd k0 k1 k2 k3 k5 newId))
   (LI:PySem.W.Looks (model prog w) h (typeLookup (.ref C) "__init__") (some (.ref fI))) (hfI:h.get? fI=some oI) (hfc:oI.cls = .type "function")
   (k:∀h' e,Heap.MadeExcOf h h' e (.ref C) args→wpAny (model prog w) A (call (.ref fI) (.ref e::args)) (fun r s'=>r = .none∧Q (.done (.ret (.ref e))) s') E ⟨h',g,d,t,os⟩) (hz:args.length≤sizeLine) :
   wpAny (model prog w) A (Builtin.«type.__call__» ⟨.ref C::args,[]⟩) Q E ⟨h,g,d,t,os⟩:=by
 repeat (first
   | with_reducible refine wpAny_loadPart_at hC ?_
   | with_reducible refine wpAny_madeBy_exc hC ?_
   | wp_step)
 refine codeAny_call_builtin_code (Code.quiet_builtin _ FB.quiet) (wpAny_check_new_subT FB TL hC (codeAny_exc_new_subT FB TL hC ?_ hz))
 show wpAny _ _ _ _ _ _
 have kp:∀b o,h.get? b=some o→((h.push { cls:=.type "tuple",data:=.seq args.toArray }).push { cls:=.ref C,data:=.fields #[.ref h.objs.size,.none,.none,.none,.bool false,.none] }).get? b=some o :=
   fun b o z=>Heap.get?_push_of_some _ (Heap.get?_push_of_some _ z)
 have gC:=kp _ _ hC
 have gE:((h.push { cls:=.type "tuple",data:=.seq args.toArray }).push { cls:=.ref C,data:=.fields #[.ref h.objs.size,.none,.none,.none,.bool false,.none] }).get? (h.objs.size+1)
     = some { cls:=.ref C,data:=.fields #[.ref h.objs.size,.none,.none,.none,.bool false,.none] }:=by heap_get
 have cC:(Value.ref C::bm).contains (.ref C)=true:=by simp
 unfold isInstance
 repeat (first
   | with_reducible refine wpAny_loadPart_at gE ?_
   | (with_reducible refine wpAny_isSubtype_exc gC ?_;rw[cC])
   | wp_step)
 show wpAny _ _ (typeLookup (.ref C) _) _ _ _
 refine LI _ _ _ _ kp ?_
 refine wpAny_holding (wpAny_bind ?_)
 unfold bindSpecial
 refine wpAny_bind (wpAny_typeOf (T:="function") ⟨_,kp _ _ hfI,hfc⟩ ?_)
 rw[if_pos (by decide)]
 refine wpAny_pure (wpAny_bind (wpAny_mono (k _ (h.objs.size+1) ⟨kp,Heap.get?_none_of_le (Nat.le_succ _),h.objs.size,gE,Heap.get?_none_of_le (Nat.le_refl _),?_⟩) (fun r s' hr=>?_) fun _ _ z=>z))
 · exact Heap.get?_push_of_some _ (Heap.get?_push_at rfl rfl)
 · obtain⟨rfl,z⟩:=hr
   wp_walk
   exact z
theorem Xrz (FB:ExcBaseFacts B newId initId bmB)(TL:OwnTail h bmB bm){args:List Value}{fI:Addr}{oI:Obj}{Q:Value→Shared→Prop}(hC:h.get? C=some (excClassObj nm q C N bs bm hdct sn sub ab col dd k0 k1 k2 k3 k5 newId))
   (LI:PySem.W.Looks (model prog w) h (typeLookup (.ref C) "__init__") (some (.ref fI))) (hfI:h.get? fI=some oI) (hfc:oI.cls = .type "function")
   (k:∀h' e,Heap.MadeExcOf h h' e (.ref C) args→wpAny (model prog w) (A.under (.builtin "type.__call__" ⟨.ref C::args,[]⟩)) (call (.ref fI) (.ref e::args)) (fun r s'=>r = .none∧Q (.ref e) s') E ⟨h',g,d,t,os⟩) (hz:args.length≤sizeLine) :
   wpAny (model prog w) A (call (.ref C) args) Q E ⟨h,g,d,t,os⟩:=by
 have y1:=tc_lookup
 have y2:=tc_bind (.ref C)
 have y3:(⟨h,g,d,t,os⟩:Shared).TypeIs (.ref C) "type":=⟨_,hC,rfl⟩
 refine wpAny_call (codeAny_of_tree ?_)
 show wpAny _ _ (callAny (.ref C) _) _ _ _
 repeat (any_goals (first
   | assumption
   | with_reducible refine wpAny_loadPart_at hC ?_
   | wp_step))
 refine⟨rfl,codeAny_call_builtin_at (Code.quiet_builtin _ (by decide +kernel)) entry_typeCall (wpAny_check_type_call_sub hC (Xvm FB TL hC LI hfI hfc (fun h' e hm=>?_) hz))⟩
 exact k h' e hm
theorem Xsw {M:Model}{env:Env}{s:Shared}{x:Sem Value}{Q:Flow→Shared→Prop}(hbase:bm.contains (.type "BaseException")=true)(hh:A.handled=none)
   (k:wpAny M A x (fun v s1=>∃e od tt,v = .ref e∧s1.heap.get? C=some (excClassObj nm q C N bs bm hdct sn sub ab col dd k0 k1 k2 k3 k5 newId)∧s1.heap.get? e=some { cls:=.ref C,dict:=od,data:=.fields #[.ref tt,.none,.none,.none,.bool false,.none] }∧E (.ref e) s1) E s) :
   wpAny M A (raiseStmt env (some x) none) Q E s:=by
 have cB:(Value.ref C::bm).contains (.type "BaseException")=true:=by rw[List.contains_cons,hbase,Bool.or_true]
 unfold raiseStmt
 refine wpAny_bind (wpAny_mono k (fun v s1 k1=>?_) fun _ _ z=>z)
 obtain⟨e,od,tt,rfl,hC,he,z⟩:=k1
 obtain⟨hp,gg,d1,tk,os1⟩:=s1
 repeat (first
   | with_reducible refine wpAny_loadPart_at he ?_
   | with_reducible refine wpAny_loadPart_at hC ?_
   | (with_reducible refine wpAny_isSubtype_exc hC ?_;rw[cB])
   | wp_step)
 exact wpAny_raiseNew_none hh z
end
end Stow
namespace Stow
open PySem L2 PyProof.Rows
structure XIni (K:PySem.W.Frag)(mg:Str→Option Value)(x:Str)(C C0 fI:Addr):Prop where
 bound:mg x=some (.ref C)
 lk:∃(nm qn:Str) (N:Addr) (bs:List Value) (hd:Bool) (sn:List Str) (sub:List Value) (ab:Bool) (col:Option Bool) (dd:Option Addr) (k0 k1 k2 k3 k5:Option Value),
   K.lookup C=some (excClassObj nm qn C N bs (.ref C0::[.type "ValueError",.type "Exception",.type "BaseException",.type "object"]) hd sn sub ab col dd k0 k1 k2 k3 k5 "ValueError.__new__")
 base:PySem.W.excIn K C0 [.type "ValueError",.type "Exception",.type "BaseException",.type "object"] "ValueError.__new__"=true
 ini:PySem.W.findIn K (.ref C) "__init__"=some (some (.ref fI))
 keep:PySem.W.keepIn K (.ref C)=true
 fn:∃(c:Value) (dd:Option Addr) (da:Data) (sl:Array (Option Value)),K.lookup fI=some ⟨c,dd,da,sl⟩∧c = .type "function"
def del (H:Hp)(x:Addr):Hp:=fun b=>if b=x then none else H b
theorem Xgy {H:Hp}{x:Addr}:del H x x=none:=by unfold del;rw[if_pos rfl]
theorem Xgu {H:Hp}{x b:Addr}(h:b≠x):del H x b=H b:=by unfold del;rw[if_neg h]
theorem XFt {X:Cx}{pins:List (Addr×Obj)}{σ:L2.St}{H:Hp}{s:Shared}{x:Addr}{φ:Heap→Prop}(I:Inv X pins σ H s)(e:H x=some (.ext φ)):Inv X pins σ (del H x) s:=by
 have nx:∀b v,H b=some v→v≠.ext φ→b≠x:=fun b v q n z=>by
   subst z
   rw[e] at q
   exact n (Option.some.inj q).symm
 have un:Un X.fs [] H (del H x) s.heap s.heap:=by
   refine⟨fun b o q _ _ _=>q,fun b o q _ _ _=>⟨o.slots,q⟩,fun b o q n _=>?_,fun b o q _=>⟨o,q⟩,fun b xs q=>?_,fun b o v q=>?_,fun b ps q=>⟨#[],?_⟩⟩
   · by_cases z:b=x
     · rw[z]
       exact Xgy
     · rw[Xgu z]
       exact n
   · rw[Xgu (nx b _ q (by intro z;cases z))]
     exact q
   · rw[Xgu (nx b _ q (by intro z;cases z))]
     exact q
   · rw[Xgu (nx b _ q (by intro z;cases z)),q]
     simp
 have hok:HOk X.prog X.w (del H x) s.heap:=fun b v q=>by
   by_cases z:b=x
   · rw[z,Xgy] at q
     cases q
   · rw[Xgu z] at q
     refine(I.hok b v q).stay (fun _ _ _ z=>z) (fun c q'=>?_) fun c xs q'=>?_
     · rw[Xgu (nx c _ q' (by intro z;cases z))]
       exact q'
     · rw[Xgu (nx c _ q' (by intro z;cases z))]
       exact q'
 exact I.un (h':=s.heap) (t':=s.toks) un hok
theorem XGv {X:Cx}{pins:List (Addr×Obj)}{σ:L2.St}{H:Hp}{s:Shared}{h':Heap}{x C tt:Addr}(I:Inv X pins σ H s)(nx:s.heap.get? x=none)(kp:∀b o,s.heap.get? b=some o→h'.get? b=some o)
   (e:h'.get? x=some { cls:=.ref C,data:=.fields #[.ref tt,.none,.none,.none,.bool false,.none] }):Inv X pins σ (upd H x (ExcN x C none)) { s with heap:=h' }:=by
 have ux:H x=none:=Xdo I.hok nx
 have un:Un X.fs [] H (upd H x (ExcN x C none)) s.heap h':=by
   refine⟨fun b o q _ _ _=>kp b o q,fun b o q _ _ _=>⟨o.slots,kp b o q⟩,fun b o q n _=>?_,fun b o q _=>⟨o,kp b o q⟩,fun b xs q=>?_,fun b o v q=>?_,fun b ps q=>⟨#[],?_⟩⟩
   · rw[Xap (fun z=>by rw[z,nx] at q;cases q)]
     exact n
   · rw[Xap (Xat q ux)]
     exact q
   · rw[Xap (Xat q ux)]
     exact q
   · rw[Xap (Xat q ux),q]
     simp
 have hok:HOk X.prog X.w (upd H x (ExcN x C none)) h':=fun b v q=>by
   by_cases z:b=x
   · subst z
     rw[upd_same] at q
     cases q
     exact⟨⟨tt,e⟩,⟨_,e⟩,fun h1 h2 ⟨t1,q1⟩ k=>⟨t1,k _ q1⟩⟩
   · rw[Xap z] at q
     refine(I.hok b v q).stay (fun c w' _ q'=>kp c w' q') (fun c q'=>?_) fun c xs q'=>?_
     · rw[Xap (Xat q' ux)]
       exact q'
     · rw[Xap (Xat q' ux)]
       exact q'
 exact I.un (t':=s.toks) un hok
theorem XCa {X:Cx}{x:Str}{C C0 fI:Addr}{fd:FuncData}{ps:List Str}{sp:Sp}{j:Nat}{pins:List (Addr×Obj)}{σ:L2.St}{H:Hp}{s:Shared}{Q:VK}{us:List Value}{vs:List V}(XI:XIni X.K X.mg x C C0 fI)(F:FnOk X.prog X.w X.K X.mg X.base (CXe X.prog X.w) j fI fd ps sp)
   (hr:Room (j+1) X.A) (hb:Xco X.K fd ps []) (I:Inv X pins σ H s) (r:Vals vs us) (hz:vs.length≤1000) (h:∀y,H y=none→sp (.ref y::vs) (upd H y (ExcN y C none)) (fun v H2=>v = .non∧Q (.ref y) H2) E0) :
   wpAny (model X.prog X.w) X.A (call (.ref C) us) (fun u s'=>EP X pins σ Q u s'∧∃y,u = .ref y∧s.heap.get? y=none) X.xe s:=by
 obtain⟨nm,qn,NN,bs,hd,sn,sub,ab,col,dd,k0,k1,k2,k3,k5,lkC⟩:=XI.lk
 obtain⟨bm,N0,nm0,qn0,bs0,hd0,sn0,sub0,ab0,col0,dd0,j0,j1,j2,j3,j5,mN0,hC0,hN0,noI,tl,_⟩:=Xsf I.kIn XI.base
 have FB:=PySem.F.excBase_ValueError
 have TL:OwnTail s.heap [.type "ValueError",.type "Exception",.type "BaseException",.type "object"] (.ref C0::[.type "ValueError",.type "Exception",.type "BaseException",.type "object"]):=.own hC0 hN0 noI .base
 obtain⟨cI,dI,daI,slI,lkI,ecI⟩:=XI.fn
 have gC:=I.kIn _ _ lkC
 have gI:=I.kIn _ _ lkI
 have LI:=PySem.W.looks_findIn (M:=model X.prog X.w) I.kIn XI.ini
 obtain⟨hp,gg,d1,tk,os1⟩:=s
 refine Xrz FB TL gC LI gI ecI (fun h' y hm=>?_) (by rw[←r.length];exact Nat.le_of_lt (small1000 hz))
 obtain⟨tt,ey,_,_⟩:=hm.there
 have I2:=XGv I hm.new hm.keeps ey
 have uy:H y=none:=Xdo I.hok hm.new
 have hq:=h y uy
 have r2:Vals (V.ref y::vs) (Value.ref y::us):=.cons rfl r
 have hl:((Value.ref y::us)++[]).length=ps.length:=by
   rw[List.append_nil,←F.len _ _ _ _ hq]
   exact r2.length.symm
 have bd:=hb _ (Value.ref y::us) I2.kIn hl
 rw[List.append_nil] at bd
 refine wpAny_call (codeAny_mono (F.run _ X.stack _ _ ⟨Value.ref y::us,[]⟩ (Value.ref y::us) _ _ E0 (hr.make C us []) (I2.env0.make C us []) bd r2 hq) fun rs s' hq'=>?_)
 cases rs with
 | error e=>obtain⟨_,_,_,_,_,_,_,_,_,_,_,_,_,_,_,z⟩:=hq';exact z.elim
 | ok fl =>
   cases fl with
   | ret u =>
     obtain⟨v,H',I3,rv,ev,q3⟩:=I2.after hq'
     subst ev
     exact⟨rv,⟨V.ref y,H',I3,rfl,q3⟩,y,rfl,hm.new⟩
   | next=>exact False.elim hq'
   | brk=>exact False.elim hq'
   | cont=>exact False.elim hq'
def Xmm (C:Addr)(sp:Sp)(E:XK)(t:TA):TS:=fun _ σ H=>t σ H fun vs H1=>vs.length≤1000∧∀y,H1 y=none→sp (.ref y::vs) (upd H1 y (ExcN y C none)) (fun v H2=>v = .non∧∃z,V.ref y=V.ref z∧∃od,H2 z=some (ExcN z C od)∧E (.ref C) od (del H2 z)) E0
section
variable {P:Program}{w:World}{K:PySem.W.Frag}{mg:Str→Option Value}{base:Heap}{N:List Str}{qual:Str}{scope:Scope}{f:Addr}{cd:Value}{A:Around}{outer:List Env}{s₀:Shared}{H₀:Hp}{EX:XK}
theorem Xpp {x:Str}{C C0 fI:Addr}{fd:FuncData}{ps:List Str}{sp:Sp}{j k:Nat}{np cpos pos:Pos}{e:Expr}{es:List Expr}{t:TA}(XI:XIni K mg x C C0 fI)(F:FnOk P w K mg base (CXe P w) j fI fd ps sp)(hb:Xco K fd ps [])
   (hr:Room k (cxOf (CXe P w) P w K mg base N qual scope f cd A outer s₀ H₀ EX).A)
   (hg:Gl (cxOf (CXe P w) P w K mg base N qual scope f cd A outer s₀ H₀ EX) x) (ha:PA (cxOf (CXe P w) P w K mg base N qual scope f cd A outer s₀ H₀ EX) (e::es) t) (hj:j+1≤k:=by decide)
   (hdb:(x==("__debug__":Str))=false:=by decide) (he:starEach (e::es) (cxOf (CXe P w) P w K mg base N qual scope f cd A outer s₀ H₀ EX).env=(false,eval e (cxOf (CXe P w) P w K mg base N qual scope f cd A outer s₀ H₀ EX).env)::starEach es (cxOf (CXe P w) P w K mg base N qual scope f cd A outer s₀ H₀ EX).env:=by rfl)
   (hpl:(backTo cpos (starEach es (cxOf (CXe P w) P w K mg base N qual scope f cd A outer s₀ H₀ EX).env)).any (·.1)=false:=by rfl) :
   PS (cxOf (CXe P w) P w K mg base N qual scope f cd A outer s₀ H₀ EX) (.Raise (some (.Call (.Name x np) (e::es) [] cpos)) none pos) (Xmm C sp EX t):=by
 intro pins s σ H D I h
 obtain⟨nm,qn,NN,bs,hd,sn,sub,ab,col,dd,k0,k1,k2,k3,k5,lkC⟩:=id XI.lk
 have hB:(Value.ref C0::[.type "ValueError",.type "Exception",.type "BaseException",.type "object"]:List Value).contains (.type "BaseException")=true:=by
   rw[List.contains_cons,PySem.F.excBase_ValueError.hasBase,Bool.or_true]
 rw[arm_exec_Raise]
 refine wpAny_bind (wpAny_standAt (Xsw (C:=C) (nm:=nm) (q:=qn) (N:=NN) (bs:=bs) (bm:=.ref C0::[.type "ValueError",.type "Exception",.type "BaseException",.type "object"]) (hdct:=hd) (sn:=sn) (sub:=sub) (ab:=ab) (col:=col) (dd:=dd) (k0:=k0) (k1:=k1) (k2:=k2) (k3:=k3) (k5:=k5) (newId:="ValueError.__new__") hB hr.hd ?_))
 refine wpAny_bind (wpAny_mono ?_ (fun v s1 hv=>wpAny_bind (wpAny_standAt (wpAny_pure hv))) (fun _ _ z=>z))
 refine wpAny_Call_Name_kw (Xde I hg XI.bound ?_ hdb)
 refine PySem.W.callWith_K (h₀:=base) I.ok.mod.kin XI.keep (thn (ha cpos pins s σ H _ I h) fun us s1 ⟨vs,H1,I1,r,hz,q⟩=>⟨I1.kIn,?_⟩) he hpl
 refine thn (XCa XI F (hr.mono hj) hb I1 r hz (Q:=fun u H2=>∃z,u = .ref z∧∃od,H2 z=some (ExcN z C od)∧EX (.ref C) od (del H2 z)) (fun y hy=>q y hy)) fun u s2 ⟨⟨v,H2,I2,rv,y,ev,od,ey,qe⟩,y',eu,ny⟩=>?_
 · subst ev
   obtain rfl:u=Value.ref y:=rv
   cases eu
   obtain⟨⟨tt,g1⟩,_⟩:=I2.hok y _ ey
   refine⟨y,od,tt,rfl,I2.kIn _ _ lkC,g1,?_⟩
   exact Xum (XFt I2 ey) ⟨_,_,g1,rfl,rfl,rfl,rfl⟩ (Xfu (show Un (frs outer) [] H₀ H1 s₀.heap s1.heap from I1.base) ny) Xgy qe
end
end Stow
set_option Elab.async false
set_option linter.all false
set_option maxRecDepth 100000
set_option maxHeartbeats 4000000
namespace Stow
open PySem L2 PyProof.Rows
structure DefI (P:Program)(w:World)(K:PySem.W.Frag)(mg:Str→Option Value)(base:Heap)(x:Str)(C C0:Addr)(j:Nat)(ps:List Str)(sp:Sp):Prop where
 ex:∃(fI:Addr) (fd:FuncData),XIni K mg x C C0 fI∧FnOk P w K mg base (CXe P w) j fI fd ps sp∧Xco K fd ps []
def Xrb (C:Addr)(f:Str):Sp:=fun vs H Q _=>∃(y:Addr) (v:V),vs=[.ref y,v]∧H y=some (ExcN y C none)∧∀dx,H dx=none→Q .non (upd (upd H dx (.xd [(f,v)])) y (ExcN y C (some dx)))
section
variable {P:Program}{w:World}{K:PySem.W.Frag}{mg:Str→Option Value}{base:Heap}{N:List Str}{qual:Str}{scope:Scope}{f:Addr}{cd:Value}{A:Around}{outer:List Env}{s₀:Shared}{H₀:Hp}{EX:XK}
theorem Xpv {x:Str}{C C0:Addr}{ps:List Str}{sp:Sp}{j k:Nat}{np cpos pos:Pos}{e:Expr}{es:List Expr}{t:TA}(D:DefI P w K mg base x C C0 j ps sp)
   (hr:Room k (cxOf (CXe P w) P w K mg base N qual scope f cd A outer s₀ H₀ EX).A)
   (hg:Gl (cxOf (CXe P w) P w K mg base N qual scope f cd A outer s₀ H₀ EX) x) (ha:PA (cxOf (CXe P w) P w K mg base N qual scope f cd A outer s₀ H₀ EX) (e::es) t) (hj:j+1≤k:=by decide)
   (hdb:(x==("__debug__":Str))=false:=by decide) (he:starEach (e::es) (cxOf (CXe P w) P w K mg base N qual scope f cd A outer s₀ H₀ EX).env=(false,eval e (cxOf (CXe P w) P w K mg base N qual scope f cd A outer s₀ H₀ EX).env)::starEach es (cxOf (CXe P w) P w K mg base N qual scope f cd A outer s₀ H₀ EX).env:=by rfl)
   (hpl:(backTo cpos (starEach es (cxOf (CXe P w) P w K mg base N qual scope f cd A outer s₀ H₀ EX).env)).any (·.1)=false:=by rfl) :
   PS (cxOf (CXe P w) P w K mg base N qual scope f cd A outer s₀ H₀ EX) (.Raise (some (.Call (.Name x np) (e::es) [] cpos)) none pos) (Xmm C sp EX t):=by
 obtain⟨fI,fd,XI,F,hb⟩:=D.ex
 exact Xpp XI F hb hr hg ha hj hdb he hpl
theorem Xbr {x:Str}{j k:Nat}{ps:List Str}{sp:Sp}{p pos:Pos}{e:Expr}{es:List Expr}{t:TA}(D:Defx P w K mg base x j ps sp)(hr:Room k (cxOf (CXe P w) P w K mg base N qual scope f cd A outer s₀ H₀ EX).A)
   (hg:Gl (cxOf (CXe P w) P w K mg base N qual scope f cd A outer s₀ H₀ EX) x) (ha:PA (cxOf (CXe P w) P w K mg base N qual scope f cd A outer s₀ H₀ EX) (e::es) t) (hk:j≤k:=by decide)
   (hdb:(x==("__debug__":Str))=false:=by decide) (he:starEach (e::es) (cxOf (CXe P w) P w K mg base N qual scope f cd A outer s₀ H₀ EX).env=(false,eval e (cxOf (CXe P w) P w K mg base N qual scope f cd A outer s₀ H₀ EX).env)::starEach es (cxOf (CXe P w) P w K mg base N qual scope f cd A outer s₀ H₀ EX).env:=by rfl)
   (hpl:(backTo pos (starEach es (cxOf (CXe P w) P w K mg base N qual scope f cd A outer s₀ H₀ EX).env)).any (·.1)=false:=by rfl) :
   PE (cxOf (CXe P w) P w K mg base N qual scope f cd A outer s₀ H₀ EX) (.Call (.Name x p) (e::es) [] pos) (Xtr sp [] EX t):=by
 obtain⟨f',fd,F,hm,kp,b⟩:=D.ex
 exact Xrf F (hr.mono hk) hg hm kp b .nil Xfr ha hdb he hpl
end
section
variable {K:PySem.W.Frag}{σ:L2.St}{H:Hp}{D:Ends}
theorem r_raise {C:Addr}{E:XK}{t:TA}(h:t σ H fun xs H1=>xs.length≤sizeLine∧E (.ref C) none H1):XDc C E t D σ H:=h
theorem r_raiseI {C:Addr}{sp:Sp}{E:XK}{t:TA}(h:t σ H fun vs H1=>vs.length≤1000∧∀y,H1 y=none→sp (.ref y::vs) (upd H1 y (ExcN y C none)) (fun v H2=>v = .non∧∃z,V.ref y=V.ref z∧∃od,H2 z=some (ExcN z C od)∧E (.ref C) od (del H2 z)) E0) :
   Xmm C sp E t D σ H:=h
theorem XSw {C:Addr}{f:Str}{E:XK}{v:V}(q:∀dx,H dx=none→E (.ref C) (some dx) (upd H dx (.xd [(f,v)]))) :
   [v].length≤1000∧∀y,H y=none→Xrb C f (.ref y::[v]) (upd H y (ExcN y C none)) (fun v H2=>v = .non∧∃z,V.ref y=V.ref z∧∃od,H2 z=some (ExcN z C od)∧E (.ref C) od (del H2 z)) E0:=by
 refine⟨by show 1≤1000;decide,fun y hy=>⟨y,v,rfl,upd_same,fun dx hd=>⟨rfl,y,rfl,some dx,upd_same,?_⟩⟩⟩
 have ne:dx≠y:=fun z=>by rw[z,upd_same] at hd;cases hd
 have hd':H dx=none:=by rw[Xap ne] at hd;exact hd
 have e:del (upd (upd (upd H y (ExcN y C none)) dx (.xd [(f,v)])) y (ExcN y C (some dx))) y=upd H dx (.xd [(f,v)]):=by
   funext b
   by_cases hb:b=y
   · subst hb
     rw[Xgy,Xap (Ne.symm ne)]
     exact hy.symm
   · rw[Xgu hb,Xap hb]
     by_cases hbd:b=dx
     · subst hbd
       rw[upd_same,upd_same]
     · rw[Xap hbd,Xap hb,Xap hbd]
 rw[e]
 exact q dx hd'
theorem r_isiX {x C C':Addr}{od:Option Addr}{b:Bool}{P:Bool→Prop}(h:H x=some (ExcO x C od))(z:XK0 K C)(e:PySem.W.kitOne K (.ref C) (.ref C')=some b)(q:P b) :
   ∃x' C0 od' v b',[V.ref x,V.ref C']=[V.ref x',v]∧H x'=some (ExcO x' C0 od')∧XK0 K C0∧clsV v≠.none∧PySem.W.kitOne K (.ref C0) (clsV v)=some b'∧P b':=⟨x,C,od,.ref C',b,rfl,h,z,(fun z=>nomatch z),e,q⟩
end
end Stow
namespace Stow
open PySem L2 PyProof.Rows
section
variable {X:Cx}{x:Str}{C:Addr}{p pos:Pos}{e:Expr}{es:List Expr}{t:TA}
end
section
variable {K:PySem.W.Frag}{σ:L2.St}{H:Hp}{Q:VK}
end
end Stow
namespace Stow
open PySem L2 PyProof.Rows
end Stow
namespace Stow
open PySem L2 PyProof.Rows
section
variable {X:Cx}
def PTs (X:Cx)(ifs:List Expr)(t:TT):Prop:=∀(pins:List (Addr×Obj)) (s:Shared) (σ:L2.St) (H:Hp) (Q:Bool→Hp→Prop),Inv X pins σ H s→t σ H Q →
 wpAny (model X.prog X.w) X.A (forIn ifs true fun c r=>if r=true then do let ok ←isTrue c X.env (eval c X.env);pure (ForInStep.yield ok) else pure (ForInStep.yield r)) (TP X pins σ Q) X.xe s
theorem Xgo:PTs X [] (fun _ H Q=>Q true H):=fun pins s σ H Q I q=>wpAny_tests_nil ⟨H,I,q⟩
theorem Xhm {c:Expr}{t:TT}(h:PT X c t):PTs X [c] t:=fun pins s σ H Q I q=>wpAny_tests_one (h pins s σ H Q I q)
end
end Stow
namespace Stow
open PySem L2 PyProof.Rows
section
variable {K:PySem.W.Frag}{σ:L2.St}{H:Hp}{Q:VK}{D:Ends}
theorem r_next (h:D.nx σ H):XIr D σ H:=h
theorem r_seq {t u:TS}(h:t { D with nx:=u D } σ H):tSeq t u D σ H:=h
theorem r_nx {f:L2.St→Hp→Prop}{r:VK}{b c:L2.St→Hp→Prop}(h:f σ H):Ends.nx ⟨f,r,b,c⟩ σ H:=h
theorem r_rt {f:L2.St→Hp→Prop}{r:VK}{b c:L2.St→Hp→Prop}{v:V}(h:r v H):Ends.rt ⟨f,r,b,c⟩ v H:=h
theorem r_drop {te:TE}(h:te σ H fun _ H1=>D.nx σ H1):XTe te D σ H:=h
theorem r_ret {te:TE}(h:te σ H D.rt):tRet te D σ H:=h
theorem r_ifS {c:TT}{t u:TS}(h:c σ H fun b H1=>if b=true then t D σ H1 else u D σ H1):tIfS c t u D σ H:=h
theorem r_asg {te:TE}{g:TG}(h:te σ H fun x H1=>g x σ H1 D.nx):tAsg te g D σ H:=h
theorem r_gname {i:Nat}{v:V}{R:L2.St→Hp→Prop}(h:R (σ.set i (some v)) H):Xox i v σ H R:=h
theorem r_gsub {to ti:TE}{t:TSet}{v:V}{R:L2.St→Hp→Prop}(h:to σ H fun o H1=>ti σ H1 fun i H2=>t o i v H2 fun H3=>R σ H3):gSub to ti t v σ H R:=h
theorem r_var {i:Nat}{v:V}(e:σ[i]?=some (some v))(h:Q v H):tVar i σ H Q:=⟨v,e,h⟩
theorem r_c {v:V}(h:Q v H):tC v σ H Q:=h
theorem r_op {r:R2}{ta tb:TE}(h:ta σ H fun x H1=>tb σ H1 fun y H2=>r x y H2 Q):tOp r ta tb σ H Q:=h
theorem r_un {r:V→Hp→VK→Prop}{ta:TE}(h:ta σ H fun x H1=>r x H1 Q):tUn r ta σ H Q:=h
theorem r_rI0 {g:Int→Int→V}{i j:Int}(h:Q (g i j) H):rI0 g (.int i) (.int j) H Q:=⟨i,j,rfl,rfl,h⟩
theorem r_rI {C:Int→Int→Prop}{g:Int→Int→V}{i j:Int}(c:C i j)(h:Q (g i j) H):rI C g (.int i) (.int j) H Q:=⟨i,j,rfl,rfl,c,h⟩
theorem r_rU {g:Int→V}{i:Int}(h:Q (g i) H):rU g (.int i) H Q:=⟨i,rfl,h⟩
theorem decV {i j:Int}:decide (V.int i=V.int j)=decide (i=j):=by rw[Xjy];exact Bool.beq_eq_decide_eq i j
theorem r_eqI {i j:Int}(h:Q (.bl (decide (i=j))) H):rEq (.int i) (.int j) H Q:=⟨rfl,by rw[decV];exact h⟩
theorem r_neI {i j:Int}(h:Q (.bl (!decide (i=j))) H):rNe (.int i) (.int j) H Q:=⟨rfl,by rw[decV];exact h⟩
theorem r_isN {P:Prop}(h:P):V.non=V.non∧P:=⟨rfl,h⟩
theorem r_bl {b:Bool}{P:Bool→Prop}(h:P b):∃k,V.bl b=V.bl k∧P k:=⟨b,rfl,h⟩
theorem r_int {i:Int}{P:Int→Prop}(h:P i):∃k,V.int i=V.int k∧P k:=⟨i,rfl,h⟩
theorem r_test {t:TE}{R:Bool→Hp→Prop}(h:t σ H fun x H'=>∃k,x = .bl k∧R k H'):XOl t σ H R:=h
theorem r_tB {t:TE}{R:Bool→Hp→Prop}(h:t σ H fun x H'=>∃k,x = .bl k∧R k H'):tB t σ H R:=h
theorem r_and {t u:TT}{R:Bool→Hp→Prop}(h:t σ H fun c H1=>if c=true then u σ H1 R else R false H1):tAnd t u σ H R:=h
theorem r_or {t u:TT}{R:Bool→Hp→Prop}(h:t σ H fun c H1=>if c=true then R true H1 else u σ H1 R):tOr t u σ H R:=h
theorem r_not {t:TT}{R:Bool→Hp→Prop}(h:t σ H fun c H1=>R (!c) H1):tNot t σ H R:=h
theorem r_andV {ta tb:TE}(h:ta σ H fun x H1=>∃c,x = .bl c∧if c=true then tb σ H1 Q else Q (.bl false) H1):XAf ta tb σ H Q:=h
theorem r_orV {ta tb:TE}(h:ta σ H fun x H1=>∃c,x = .bl c∧if c=true then Q (.bl true) H1 else tb σ H1 Q):tOrV ta tb σ H Q:=h
theorem r_notV {ta:TE}(h:ta σ H fun x H1=>∃c,x = .bl c∧Q (.bl (!c)) H1):XMx ta σ H Q:=h
theorem r_ifE {t:TT}{ta tb:TE}(h:t σ H fun c H1=>if c=true then ta σ H1 Q else tb σ H1 Q):tIf t ta tb σ H Q:=h
theorem r_cons {ta:TE}{tr:TA}{R:List V→Hp→Prop}(h:ta σ H fun x H1=>tr σ H1 fun xs H2=>R (x::xs) H2):XTj ta tr σ H R:=h
theorem r_nil {R:List V→Hp→Prop}(h:R [] H):tNil σ H R:=h
theorem r_tup {t:TA}(h:t σ H fun xs H1=>xs.length≤sizeLine∧∀p,H1 p=none→Q (.ref p) (upd H1 p (.tup xs))):tTup t σ H Q:=h
theorem r_lst {t:TA}(h:t σ H fun xs H1=>xs.length≤sizeLine∧∀p,H1 p=none→Q (.ref p) (upd H1 p (.lst xs))):tLst t σ H Q:=h
theorem r_call {sp:Sp}{E:XK}{t:TA}(h:t σ H fun vs H1=>sp vs H1 Q E):Xtr sp [] E t σ H Q:=by
 have e:(fun (vs:List V) H1=>sp (vs++[]) H1 Q E)=fun vs H1=>sp vs H1 Q E:=by funext vs H1;rw[List.append_nil]
 show t σ H fun vs H1=>sp (vs++[]) H1 Q E
 rw[e]
 exact h
theorem r_cb {r:List V→Hp→VK→Prop}{t:TA}(h:t σ H fun vs H1=>r vs H1 Q):tCB r t σ H Q:=h
theorem r_sl {r:V→Option Int→Option Int→Hp→VK→Prop}{te:TE}{tl th:TO}(h:te σ H fun x H1=>tl σ H1 fun l H2=>th σ H2 fun u H3=>r x l u H3 Q):tSl r te tl th σ H Q:=h
theorem r_nopart {R:Option Int→Hp→Prop}(h:R none H):Xrv σ H R:=h
theorem r_part {t:TE}{R:Option Int→Hp→Prop}(h:t σ H fun x H1=>∃i,x = .int i∧R (some i) H1):XRg t σ H R:=h
theorem r_bm {T:String}{r:V→List V→Hp→VK→Prop}{to:TE}{t:TA}(h:to σ H fun x H1=>tyV K T x H1∧t σ H1 fun xs H2=>r x xs H2 Q):tBM K T r to t σ H Q:=h
theorem r_bm0 {T:String}{r:V→List V→Hp→VK→Prop}{to:TE}(h:to σ H fun x H1=>tyV K T x H1∧r x [] H1 Q):tBM0 K T r to σ H Q:=h
theorem r_tyL {p:Addr}{xs:List V}{P:Prop}(h:H p=some (.lst xs))(q:P):tyV K "list" (.ref p) H∧P:=⟨.inl ⟨rfl,xs,SqL.of h⟩,q⟩
theorem r_append {l:Addr}{xs:List V}{y:V}(h:H l=some (.lst xs))(hz:xs.length<sizeLine)(q:Q .non (upd H l (.lst (xs++[y])))):Xuy (.ref l) [y] H Q:=⟨l,xs,y,rfl,rfl,h,hz,q⟩
theorem r_cat {l b:Addr}{xs zs:List V}(h:H l=some (.lst xs))(h2:H b=some (.lst zs))(hz:xs.length+zs.length≤sizeLine)(q:∀p,H p=none→Q (.ref p) (upd H p (.lst (xs++zs)))):rCat (.ref l) (.ref b) H Q:=⟨l,b,xs,zs,rfl,rfl,h,h2,hz,q⟩
theorem Xfx {p:Addr}{xs:List V}{i:Int}{v:V}(h:SqL K H p xs)(e:atI xs i=some v)(q:Q v H):rIxL K (.ref p) (.int i) H Q:=⟨p,xs,i,v,rfl,rfl,h,e,q⟩
theorem r_ixT {p:Addr}{xs:List V}{i:Int}{v:V}(h:H p=some (.tup xs))(e:atI xs i=some v)(q:Q v H):rIxT K (.ref p) (.int i) H Q:=⟨p,xs,i,v,rfl,rfl,SqT.of h,e,q⟩
theorem r_ixI {p:Addr}{ns:List Int}{k:Int}(h:SqL K H p (ns.map V.int))(h0:0≤k)(h1:k<ns.length)(q:Q (.int (ns.getD k.toNat 0)) H):rIxL K (.ref p) (.int k) H Q:=⟨p,_,k,_,rfl,rfl,h,XGj ns k h0 h1,q⟩
theorem XLz {n:Nat}{k:Int}(h0:0≤k)(h:k<n):ixN n k=some k.toNat:=by
 unfold ixN
 rw[if_pos h0,if_pos h]
theorem r_setI {p:Addr}{ns:List Int}{k x:Int}{R:Hp→Prop}(h:H p=some (.lst (ns.map V.int)))(h0:0≤k)(h1:k<ns.length)(q:R (upd H p (.lst ((ns.set k.toNat x).map V.int)))):rSetL (.ref p) (.int k) (.int x) H R:=by
 refine⟨p,_,k,k.toNat,rfl,rfl,h,XLz h0 (by rw[List.length_map];exact h1),?_⟩
 rw[List.map_set] at q
 exact q
theorem r_lenI {p:Addr}{ns:List Int}{P:List V→Prop}(h:SqL K H p (ns.map V.int))(q:P (ns.map V.int)):∃p' ys,[V.ref p]=[V.ref p']∧(SqL K H p' ys∨SqT K H p' ys)∧P ys:=⟨p,_,rfl,.inl h,q⟩
theorem r_lenL {p:Addr}{xs:List V}{P:List V→Prop}(h:H p=some (.lst xs))(q:P xs):∃p' ys,[V.ref p]=[V.ref p']∧(SqL K H p' ys∨SqT K H p' ys)∧P ys:=⟨p,_,rfl,.inl (SqL.of h),q⟩
theorem r_lenT {p:Addr}{xs:List V}{P:List V→Prop}(h:H p=some (.tup xs))(q:P xs):∃p' ys,[V.ref p]=[V.ref p']∧(SqL K H p' ys∨SqT K H p' ys)∧P ys:=⟨p,_,rfl,.inr (SqT.of h),q⟩
theorem r_isi {x:V}{n:String}{t:Value}{b:Bool}{P:Bool→Prop}(ty:TyOf K H x t)(e:PySem.W.kitOne K t (.type n)=some b)(q:P b):∃x' n' t' b',[x,V.ty n]=[x',V.ty n']∧TyOf K H x' t'∧PySem.W.kitOne K t' (.type n')=some b'∧P b':=⟨x,n,t,b,rfl,ty,e,q⟩
theorem r_intB {k:Bool}{P1:Int→Prop}{P2:Bool→Prop}(q:P2 k):(∃i,[V.bl k]=[V.int i]∧P1 i)∨∃k',[V.bl k]=[V.bl k']∧P2 k':=.inr ⟨k,rfl,q⟩
theorem r_max {i j:Int}{P:Int→Int→Prop}(q:P i j):∃i' j',[V.int i,V.int j]=[V.int i',V.int j']∧P i' j':=⟨i,j,rfl,q⟩
theorem r_new {xs:List V}{P:Prop}(h:xs.length≤1000)(q:P):xs.length≤sizeLine∧P:=⟨Nat.le_of_lt (small1000 h),q⟩
theorem r_truB {b:Bool}{P:Bool→Prop}(q:P b):∃k,TruV K (.bl b) H k∧P k:=⟨b,rfl,q⟩
theorem r_truL {p:Addr}{xs:List V}{P:Bool→Prop}(h:SqL K H p xs)(q:P (!xs.isEmpty)):∃k,TruV K (.ref p) H k∧P k:=⟨_,.inl ⟨xs,h,rfl⟩,q⟩
theorem r_for {wi:TI}{g:TG}{tb:TS}(h:wi σ H fun J H1=>∃W:Nat→Nat→L2.St→Hp→Prop,(∃m,W 0 m σ H1)∧∀i m σ H,W i m σ H →
   (J.stop i H∧D.nx σ H)∨(J.go i H∧∃N:L2.St→Hp→Prop,(∀σ' H',N σ' H'→∃m',m'<m∧W (i+1) m' σ' H')∧∀x H',J.yld i H x H'→g x σ H' fun σ2 H2=>tb { D with nx:=N,ct:=N,bk:=D.nx } σ2 H2)):tFor wi g tb D σ H:=h
theorem r_iL {tl:TE}{R:It→Hp→Prop}(h:tl σ H fun x H1=>∃a,x = .ref a∧(∃xs,SqL K H1 a xs)∧R (Itl K a) H1):iList K tl σ H R:=h
theorem r_iR1 {ta:TA}{R:It→Hp→Prop}(h:ta σ H fun vs H1=>∃j:Int,vs=[.int j]∧-(2^62)≤j∧j<2^62∧R (Itr 0 j.toNat) H1):XOz ta σ H R:=h
theorem Xgs {t u:TS}{M:L2.St→Hp→Prop}(hM:∀σ' H',M σ' H'→u D σ' H')(h:∀nx:L2.St→Hp→Prop,(∀σ' H',M σ' H'→nx σ' H')→t { D with nx:=nx } σ H):tSeq t u D σ H:=h (u D) hM
theorem r_isIf {c:TT}{t u v:TS}(h:tSeq (tIfS c t u) v D σ H):tSeq (tIfS c t u) v D σ H:=h
end
theorem r_ifN {b:Bool}{A B:Prop}(h:if b=true then B else A):if (!b)=true then A else B:=by cases b <;> exact h
theorem Xbd {c A B:Prop}[Decidable c](h1:c→A)(h2:¬c→B):if decide c=true then A else B:=by
 by_cases h:c
 · rw[decide_eq_true h]
   exact iteT (h1 h)
 · rw[decide_eq_false h]
   exact iteF (h2 h)
theorem r_ifdT {c A B:Prop}[Decidable c](h:c)(h1:A):if decide c=true then A else B:=Xbd (fun _=>h1) fun z=>absurd h z
theorem r_ifdF {c A B:Prop}[Decidable c](h:¬c)(h1:B):if decide c=true then A else B:=Xbd (fun z=>absurd z h) fun _=>h1
theorem Xfv {b:Bool}{A B:Prop}(h1:b=true→A)(h2:b=false→B):if b=true then A else B:=by
 cases b with
 | true=>exact iteT (h1 rfl)
 | false=>exact iteF (h2 rfl)
theorem look_put {H:Hp}{p d:Addr}{o v:HO}(hp:H p=none)(h:H d=some v):upd H p o d=some v:=(Xap (Xat h hp)).trans h
theorem look_ne {H:Hp}{p d:Addr}{o v:HO}(hp:d≠p)(h:H d=some v):upd H p o d=some v:=(Xap hp).trans h
end Stow
namespace Stow
open PySem L2 PyProof.Rows
abbrev TX:=L2.St→Hp→VK→XK→Prop
def PX (X:Cx)(e:Expr)(t:TX):Prop:=∀(pins:List (Addr×Obj)) (s:Shared) (σ:L2.St) (H:Hp) (QV:VK) (EX:XK) (Qp W:Value→Shared→Prop),Inv X pins σ H s→t σ H QV EX→(∀u s',EP X pins σ QV u s'→Qp u s') →
 (∀H1 s1 y s',Inv X pins σ H1 s1→CXe X.prog X.w X.stack H1 s1 EX y s'→W y s')→wpAny (model X.prog X.w) X.A (eval e X.env) Qp W s
def Xpd (sp:Sp)(dvs:List V)(ta:TA):TX:=fun σ H QV EX=>ta σ H fun vs H1=>sp (vs++dvs) H1 QV EX
def xMeth (C:Addr)(m:Str)(sp:Sp)(dvs:List V)(to:TE)(ta:TA):TX:=fun σ H QV EX=>to σ H fun x H1=>∃a dx fs,x = .ref a∧H1 a=some (.ins C dx fs)∧fs.lookup m=none∧ta σ H1 fun vs H2=>sp (x::(vs++dvs)) H2 QV EX
section
variable {X:Cx}{k:Nat}{f C:Addr}{fd:FuncData}{ps:List Str}{sp:Sp}{dvs:List V}{ds:List Value}{fx m:Str}{p pos apos:Pos}{e o:Expr}{es:List Expr}{to:TE}{ta:TA}
theorem XEr {pins:List (Addr×Obj)}{σ:L2.St}{H:Hp}{s:Shared}{us:List Value}{vs:List V}{QV:VK}{EX:XK}{Qp W:Value→Shared→Prop}(F:FnOk X.prog X.w X.K X.mg X.base (CXe X.prog X.w) k f fd ps sp)(hr:Room k X.A)(hb:Xco X.K fd ps ds)(hd:Vals dvs ds)
   (I:Inv X pins σ H s) (r:Vals vs us) (h:sp (vs++dvs) H QV EX) (hv:∀u s',EP X pins σ QV u s'→Qp u s') (hx:∀y s',CXe X.prog X.w X.stack H s EX y s'→W y s'):wpAny (model X.prog X.w) X.A (call (.ref f) us) Qp W s:=by
 have r2:Vals (vs++dvs) (us++ds):=r.append hd
 have hl:(us++ds).length=ps.length:=by rw[←r2.length];exact F.len _ _ _ _ h
 refine wpAny_call (codeAny_mono (F.run X.A X.stack s H ⟨us,[]⟩ (us++ds) (vs++dvs) QV EX hr I.env0 (hb s us I.kIn hl) r2 h) fun r s' hq=>?_)
 cases r with
 | error y=>exact hx y s' hq
 | ok fl =>
   cases fl with
   | ret u=>exact hv u s' (I.after hq)
   | next=>exact False.elim hq
   | brk=>exact False.elim hq
   | cont=>exact False.elim hq
theorem Xqj (F:FnOk X.prog X.w X.K X.mg X.base (CXe X.prog X.w) k f fd ps sp)(hr:Room k X.A)(hg:Gl X fx)(hm:X.mg fx=some (.ref f))(hk:PySem.W.keepIn X.K (.ref f)=true)(hb:Xco X.K fd ps ds)(hd:Vals dvs ds)(ha:PA X.nox (e::es) ta)
   (hdb:(fx==("__debug__":Str))=false:=by decide) (he:starEach (e::es) X.env=(false,eval e X.env)::starEach es X.env:=by rfl) (hpl:(backTo pos (starEach es X.env)).any (·.1)=false:=by rfl) :
   PX X (.Call (.Name fx p) (e::es) [] pos) (Xpd sp dvs ta):=by
 intro pins s σ H QV EX Qp W I h hv hx
 refine wpAny_Call_Name_kw (Xde I hg hm ?_ hdb)
 refine PySem.W.callWith_K (h₀:=X.base) I.ok.mod.kin hk (wpAny_mono (ha pos pins s σ H _ (I.wish _) h) (fun us s1 ⟨vs,H1,I1',r,q⟩=>?_) (fun _ _ z=>z.elim)) he hpl
 have I1:=I1'.unwish
 exact⟨I1.kIn,XEr F hr hb hd I1 r q hv fun y s' hq=>hx H1 s1 y s' I1 hq⟩
theorem px_meth {pl:Sem Bool}(ho:PE X.nox o to)(c:Cls X.K C)(hm:Meth X.K C m f)(F:FnOk X.prog X.w X.K X.mg X.base (CXe X.prog X.w) k f fd ps sp)(hr:Room k X.A)(hb:Xco X.K fd ps ds)(hd:Vals dvs ds)(ha:PA X.nox (e::es) ta)
   (hst:starEach (e::es) X.env=(false,eval e X.env)::starEach es X.env:=by rfl) (hpl:(backTo pos (starEach es X.env)).any (·.1)=false:=by rfl)
   (ht:eval (.Call (.Attribute o m apos) (e::es) [] pos) X.env=(do
     let ov ←eval o X.env
     standAt apos.atName
     let (f,first) ←holding [ov] (getMethod ov m pl)
     callWith pos f first (backTo pos (starEach (e::es) X.env)) (backToKw pos (keywordEach [] X.env))):=by rfl) :
   PX X (.Call (.Attribute o m apos) (e::es) [] pos) (xMeth C m sp dvs to ta):=by
 intro pins s σ H QV EX Qp W I h hv hx
 refine PySem.W.methodCall_KW (pl:=pl) (wpAny_mono (ho pins s σ H _ (I.wish _) h) (fun u s1 ⟨x,H1,I1',rx,a,dx,fs,ex,ea,l,q⟩=>?_) (fun _ _ z=>z.elim)) ht
 have I1:=I1'.unwish
 subst ex
 obtain rfl:u=Value.ref a:=rx
 refine Xdw I1 ea c hm l ?_
 refine PySem.W.callWith_K (first:=[.ref a]) (h₀:=X.base) I.ok.mod.kin hm.kp (wpAny_mono (ha pos pins s1 σ H1 _ (I1.wish _) q) (fun us s2 ⟨vs,H2,I2',r,q2⟩=>?_) (fun _ _ z=>z.elim)) hst hpl
 have I2:=I2'.unwish
 exact⟨I2.kIn,XEr (us:=.ref a::us) (vs:=.ref a::vs) F hr hb hd I2 (.cons rfl r) q2 hv fun y s' hq=>hx H2 s2 y s' I2 hq⟩
end
def Fits (K:PySem.W.Frag)(C C0:Addr)(b:Bool):Prop:=∃(bm bm0:List Value),ECls K C bm∧ECls K C0 bm0∧(Value.ref C0::bm0).contains (.type "BaseException")=true∧(Value.ref C::bm).contains (.ref C0)=b
theorem Xjq {M:Model}{A:Around}{E:Value→Shared→Prop}{K:PySem.W.Frag}{C C0 x:Addr}{ox:Obj}{s:Shared}{b:Bool}{Q:Bool→Shared→Prop}(F:Fits K C C0 b)(KX:K.In s.heap)(hx:s.heap.get? x=some ox)(hc:ox.cls = .ref C)(k:Q b s) :
   wpAny M A (excMatches (.ref x) (.ref C0)) Q E s:=by
 obtain⟨bm,bm0,⟨nm,qn,N,bs,hd,sn,sub,ab,col,dd,k0,k1,k2,k3,k5,newId,lk⟩,⟨nm',qn',N',bs',hd',sn',sub',ab',col',dd',j0,j1,j2,j3,j5,new',lk0⟩,hb,hm⟩:=F
 have hC:=KX _ _ lk
 have hC0:=KX _ _ lk0
 obtain⟨hh,g,d,t,os⟩:=s
 exact Xrl hC hC0 hx hc hb hm k
abbrev TH:=Addr→Addr→TS
def PH (X:Cx)(hs:List ExceptHandler)(th:TH):Prop:=∀(pins:List (Addr×Obj)) (s:Shared) (σ:L2.St) (H:Hp) (D:Ends) (x C T:Addr) (od:Option Addr),X.Ok→Inv X pins σ H s→Exc s.heap x (.ref C) od T .none →
 (∀h3,Upto (frs X.stack) [T] s.heap h3→Exc h3 x (.ref C) od T .none→Inv X pins σ H { s with heap:=h3 })→th x C D σ H→wpAny (model X.prog X.w) X.A (handleBy (.ref x) X.env hs) (SP X pins D) X.xe s
section
variable {X:Cx}{C0:Addr}{cx:Str}{np hpos pos epos:Pos}{b0:Stmt}{suite:List Stmt}{ts:Addr→TS}{hs:List ExceptHandler}{th:TH}{e:Expr}{t:TX}
theorem XCy:PH X [] (fun _ _ _ _ _=>False):=fun _ _ _ _ _ _ _ _ _ _ _ _ _ h=>h.elim
theorem XEd (hgc:Gl X cx)(hc0:X.mg cx=some (.ref C0))(hss:∀x,PSs (Cx.suite X x) (b0::suite) (ts x))(hr:PH X hs th)(hdc:(cx==("__debug__":Str))=false:=by decide) :
   PH X (.ExceptHandler (some (.Name cx np)) none (b0::suite) hpos::hs) (fun x C D σ H=>(Fits X.K C C0 true∧ts x D σ H)∨(Fits X.K C C0 false∧th x C D σ H)):=by
 intro pins s σ H D x C T od ok J t2 again h
 obtain⟨oe,vs,oT,tts,ne,ee,hcl,_⟩:=id t2
 rcases h with ⟨fit,q⟩ | ⟨fit,q⟩
 · refine wpAny_handleBy_cons (codeAny_handlers_test (Xde (X:=Cx.suite X x) (Xdv J x) hgc hc0 (Xjq fit J.kIn ee hcl ?_) hdc)) (by intro z;cases z)
   refine codeAny_handlers_suite ?_
   refine Xgf (fr:=frs X.stack) t2 fun h3 u3 t3=>?_
   exact wpAny_mono (hss x pins _ σ _ D (Xdv (again h3 u3 t3) x) q) (fun fl s4 q4=>Xpm ok q4) (fun _ _ z=>z.elim)
 · refine wpAny_handleBy_cons (codeAny_handlers_test (Xde (X:=Cx.suite X x) (Xdv J x) hgc hc0 (Xjq fit J.kIn ee hcl ?_) hdc)) (by intro z;cases z)
   exact hr pins s σ H D x C T od ok J t2 again q
theorem Xpn {i:Nat}{n:Str}(hgc:Gl X cx)(hc0:X.mg cx=some (.ref C0))(hN:X.N.Nodup)(hi:X.N[i]?=some n)(hln:X.env.kindOf n=some .local)(hss:∀x,PSs (Cx.suite X x) (b0::suite) (ts x))(hr:PH X hs th)(hdc:(cx==("__debug__":Str))=false:=by decide) :
   PH X (.ExceptHandler (some (.Name cx np)) (some n) (b0::suite) hpos::hs)
     (fun x C D σ H=>(Fits X.K C C0 true∧ts x { D with nx:=fun σ' H'=>D.nx (σ'.set i none) H',bk:=fun σ' H'=>D.bk (σ'.set i none) H',ct:=fun σ' H'=>D.ct (σ'.set i none) H' } (σ.set i (some (.ref x))) H)∨(Fits X.K C C0 false∧th x C D σ H)):=by
 intro pins s σ H D x C T od ok J t2 again h
 obtain⟨oe,vs,oT,tts,ne,ee,hcl,_⟩:=id t2
 rcases h with ⟨fit,q⟩ | ⟨fit,q⟩
 · refine wpAny_handleBy_cons (codeAny_handlers_test (Xde (X:=Cx.suite X x) (Xdv J x) hgc hc0 (Xjq fit J.kIn ee hcl ?_) hdc)) (by intro z;cases z)
   refine codeAny_handlers_suite_as ?_
   refine Xgf (fr:=frs X.stack) t2 fun h3 u3 t3=>?_
   refine Xgd (X:=Cx.suite X x) (Xdv (again h3 u3 t3) x) hN hi (.inl hln) (v:=.ref x) rfl (fun s4 J4=>?_) (.inr hln)
   refine wpAny_mono (hss x pins s4 _ _ _ J4 q) (fun fl s5 q5=>?_) (fun _ _ z=>z.elim)
   cases fl with
   | next=>obtain⟨σ',H',I5,q⟩:=q5;exact Xgc (Xcc ok I5) hN hi hln fun s6 I6=>⟨_,_,I6,q⟩
   | brk=>obtain⟨σ',H',I5,q⟩:=q5;exact Xgc (Xcc ok I5) hN hi hln fun s6 I6=>⟨_,_,I6,q⟩
   | cont=>obtain⟨σ',H',I5,q⟩:=q5;exact Xgc (Xcc ok I5) hN hi hln fun s6 I6=>⟨_,_,I6,q⟩
   | ret u=>obtain⟨v,σ',H',I5,r,q⟩:=q5;exact Xgc (Xcc ok I5) hN hi hln fun s6 I6=>⟨v,_,_,I6,r,q⟩
 · refine wpAny_handleBy_cons (codeAny_handlers_test (Xde (X:=Cx.suite X x) (Xdv J x) hgc hc0 (Xjq fit J.kIn ee hcl ?_) hdc)) (by intro z;cases z)
   exact hr pins s σ H D x C T od ok J t2 again q
theorem Upto.refl (fr ex:List Addr)(h:Heap):Upto fr ex h h:=⟨fun _ _ _ _ q=>q,fun b o _ q=>⟨o.slots,q⟩⟩
def tTryE (t:TX)(th:TH):TS:=fun D σ H=>t σ H (fun _ H2=>D.nx σ H2) fun c od H2=>∃C,c = .ref C∧∀x,H2 x=none→th x C D σ (upd H2 x (ExcO x C od))
def XPd (i:Nat)(t:TX)(th:TH):TS:=fun D σ H=>t σ H (fun v H2=>D.nx (σ.set i (some v)) H2) fun c od H2=>∃C,c = .ref C∧∀x,H2 x=none→th x C D σ (upd H2 x (ExcO x C od))
theorem ps_tryE {h₀:ExceptHandler}(he:PX X e t)(hst:X.stack=X.env::X.outer∧X.env.frame=some X.env.locals)(hh:PH X (h₀::hs) th)(hsw:swapsWith e none epos.line X.env=pure false:=by rfl) :
   PS X (.Try [.Expr e epos] (h₀::hs) [] [] pos) (tTryE t th):=by
 intro pins s σ H D I h
 refine wpAny_Try_except (wpAny_execs_cons (wpAny_Expr_any (he pins s σ H _ _ _ _ I h (fun u s' ⟨v,H2,I2,_,q2⟩=>wpAny_execs_nil (wpAny_execs_nil ⟨σ,H2,I2,q2⟩)) (fun H1 s1 y s' I1 hq=>?_)) I.quiet hsw))
 refine Xqx I1 hst hq fun x C od T h2 H2 ex ⟨C',ec,q⟩ t2 J2 again=>?_
 subst ex
 cases ec
 exact hh pins _ σ _ D x C T od I.ok J2 t2 (fun h3 u3 t3=>(again h3 u3 t3).2) (q x (again h2 (Upto.refl _ _ _) t2).1)
theorem XGx {h₀:ExceptHandler}{i:Nat}{y:Str}{py:Pos}(hN:X.N.Nodup)(hi:X.N[i]?=some y)(hy:Loc X.env.scope y)(he:PX X e t)(hst:X.stack=X.env::X.outer∧X.env.frame=some X.env.locals)(hh:PH X (h₀::hs) th)
   (hsw:swapsWith e (some (.Name y py)) epos.line X.env=pure false:=by rfl) (hf:X.fn y=true∨X.env.scope.names.lookup y=some .local:=by first | exact .inl rfl | exact .inr rfl | assumption) :
   PS X (.Try [.Assign [.Name y py] e epos] (h₀::hs) [] [] pos) (XPd i t th):=by
 intro pins s σ H D I h
 refine wpAny_Try_except (wpAny_execs_cons (wpAny_Assign_Name (he pins s σ H _ _ _ _ I h (fun u s' ⟨v,H2,I2,r2,q2⟩=>Xgd I2 hN hi hy r2 (fun s3 I3=>wpAny_execs_nil (wpAny_execs_nil ⟨_,H2,I3,q2⟩)) hf) (fun H1 s1 z s' I1 hq=>?_)) hsw))
 refine Xqx I1 hst hq fun x C od T h2 H2 ex ⟨C',ec,q⟩ t2 J2 again=>?_
 subst ex
 cases ec
 exact hh pins _ σ _ D x C T od I.ok J2 t2 (fun h3 u3 t3=>(again h3 u3 t3).2) (q x (again h2 (Upto.refl _ _ _) t2).1)
end
section
variable {K:PySem.W.Frag}{σ:L2.St}{H:Hp}{D:Ends}
theorem r_tryA {i:Nat}{t:TX}{th:TH}(h:t σ H (fun v H2=>D.nx (σ.set i (some v)) H2) fun c od H2=>∃C,c = .ref C∧∀x,H2 x=none→th x C D σ (upd H2 x (ExcO x C od))):XPd i t th D σ H:=h
theorem r_xCall {sp:Sp}{ta:TA}{QV:VK}{EX:XK}(h:ta σ H fun vs H1=>sp vs H1 QV EX):Xpd sp [] ta σ H QV EX:=by
 unfold Xpd
 simp only [List.append_nil]
 exact h
end
end Stow
namespace Stow
open PySem L2 PyProof.Rows
structure FunD (K:PySem.W.Frag)(x qual:Str)(st:Stmt)(dV:Value)(f:Addr)(fd:FuncData):Prop where
 ex:∃(oc:Value) (od:Option Addr) (kV doc pm:Value) (an:Option Addr) (cdv ct:Value) (osl:Array (Option Value)),
   fd=PySem.W.fnOf x qual (Xaz st) (Xav st) (Xad st) dV kV doc pm an cdv ct∧K.lookup f=some ⟨oc,od,.func fd,osl⟩∧PySem.W.codeIn K cdv qual=true
 kp:PySem.W.keepIn K (.ref f)=true
theorem Xho {K:PySem.W.Frag}{x qual:Str}{st:Stmt}{f:Addr}{oc:Value}{od an:Option Addr}{osl:Array (Option Value)}{dV kV doc pm cdv ct:Value}(l:K.lookup f=some ⟨oc,od,.func (PySem.W.fnOf x qual (Xaz st) (Xav st) (Xad st) dV kV doc pm an cdv ct),osl⟩)
   (c:PySem.W.codeIn K cdv qual=true) (k:PySem.W.keepIn K (.ref f)=true):FunD K x qual st dV f (PySem.W.fnOf x qual (Xaz st) (Xav st) (Xad st) dV kV doc pm an cdv ct):=⟨⟨oc,od,kV,doc,pm,an,cdv,ct,osl,rfl,l,c⟩,k⟩
section
variable {P:Program}{w:World}{K:PySem.W.Frag}{mg:Str→Option Value}{base:Heap}
theorem Xfo {x qual:Str}{st:Stmt}{dV:Value}{f:Addr}{fd:FuncData}{N ps:List Str}{k:Nat}{sp:Sp}(F:FunD K x qual st dV f fd)(S:FnScope N ps (Xad st))(len:∀vs H Q E,sp vs H Q E→vs.length=ps.length)
   (hbody:∀(cdv:Value) (A:Around) (outer:List Env) (s:Shared) (H:Hp) (vs:List V) (Q:VK) (E:XK),Room k (A.deeper (envOfC qual (Xad st) s.heap.objs.size f cdv))→sp vs H Q E →
     ∃t,PSs (cxOf (CXe P w) P w K mg base N qual (Xad st) f cdv A outer s H E) (Xav st) t∧t { nx:=fun _ H'=>Q .non H',rt:=Q } (start N vs) H):FnOk P w K mg base (CXe P w) (k+1) f fd ps sp:=by
 obtain⟨oc,od,kV,doc,pm,an,cdv,ct,osl,rfl,lk,hcd⟩:=F.ex
 exact XIq lk hcd S len fun A outer s H vs Q E hr hsp=>hbody cdv A outer s H vs Q E hr hsp
theorem FunD.binds {x qual:Str}{st:Stmt}{dV:Value}{f:Addr}{fd:FuncData}{ps:List Str}(F:FunD K x qual st dV f fd)
   (h:∀(kV doc pm:Value) (an:Option Addr) (cdv ct:Value) (us:List Value),us.length=ps.length→bindArgs (PySem.W.fnOf x qual (Xaz st) (Xav st) (Xad st) dV kV doc pm an cdv ct) ⟨us,[]⟩=pure (ps.zip us)):Xco K fd ps []:=by
 obtain⟨oc,od,kV,doc,pm,an,cdv,ct,osl,rfl,lk,hcd⟩:=F.ex
 exact .all (h kV doc pm an cdv ct)
theorem FunD.bindsD {x qual:Str}{st:Stmt}{T:Addr}{f:Addr}{fd:FuncData}{ps:List Str}{ds:List Value}{tc:Value}{td:Option Addr}{tn:Nat}{tsl:Array (Option Value)}(F:FunD K x qual st (.ref T) f fd)
   (lt:K.lookup T=some ⟨tc,td,.seq ds.toArray tn,tsl⟩)
   (h:∀(kV doc pm:Value) (an:Option Addr) (cdv ct:Value) (us:List Value),(us++ds).length=ps.length→∃k:Option (Array Value)→Sem (List (Str×Value)),
     bindArgs (PySem.W.fnOf x qual (Xaz st) (Xav st) (Xad st) (.ref T) kV doc pm an cdv ct) ⟨us,[]⟩=seqItems? (.ref T) >>= k∧k (some ds.toArray)=pure (ps.zip (us++ds))):Xco K fd ps ds:=by
 obtain⟨oc,od,kV,doc,pm,an,cdv,ct,osl,rfl,lk,hcd⟩:=F.ex
 intro s us X hl
 obtain⟨k,h1,h2⟩:=h kV doc pm an cdv ct us hl
 exact .of_defaults rfl (X _ _ lt) rfl h1 h2
end
structure Methx (P:Program)(w:World)(K:PySem.W.Frag)(mg:Str→Option Value)(base:Heap)(C:Addr)(m:Str)(j:Nat)(ps:List Str)(dvs:List V)(sp:Sp):Prop where
 ex:∃(f:Addr) (fd:FuncData) (ds:List Value),FnOk P w K mg base (CXe P w) j f fd ps sp∧Meth K C m f∧Xco K fd ps ds∧Vals dvs ds
 cl:Cls K C
structure Makex (P:Program)(w:World)(K:PySem.W.Frag)(mg:Str→Option Value)(base:Heap)(x:Str)(C:Addr)(j:Nat)(ps:List Str)(dvs:List V)(sp:Sp):Prop where
 ex:∃(f:Addr) (fd:FuncData) (ds:List Value),FnOk P w K mg base (CXe P w) j f fd ps sp∧Mk K C f∧Xco K fd ps ds∧Vals dvs ds
 bound:mg x=some (.ref C)
structure ClsM (K:PySem.W.Frag)(C:Addr)(m:Str)(f:Addr):Prop where
 sp:PySem.W.specialIn K (.ref C) "__getattribute__"=some (some (.builtin "type.__getattribute__"))
 rd:PySem.W.readsIn K C (.type "type")=true
 fc:PySem.W.findCls K (.ref C) (.type "type") m=some (.val (.ref f))
 kp:PySem.W.keepIn K (.ref f)=true
structure Basex (P:Program)(w:World)(K:PySem.W.Frag)(mg:Str→Option Value)(base:Heap)(x:Str)(m:Str)(j:Nat)(ps:List Str)(sp:Sp):Prop where
 ex:∃(C f:Addr) (fd:FuncData),FnOk P w K mg base (CXe P w) j f fd ps sp∧ClsM K C m f∧Xco K fd ps []∧mg x=some (.ref C)
section
variable {X:Cx}{j k:Nat}{C:Addr}{ps:List Str}{sp:Sp}{dvs:List V}{x m:Str}{p pos apos:Pos}{e o:Expr}{es:List Expr}{to:TE}{t:TA}{EX:XK}
theorem XHe (D:Defx X.prog X.w X.K X.mg X.base x j ps sp)(hr:Room k X.A)(hg:Gl X x)(ha:PA X.nox (e::es) t)(hk:j≤k:=by decide)
   (hdb:(x==("__debug__":Str))=false:=by decide) (he:starEach (e::es) X.env=(false,eval e X.env)::starEach es X.env:=by rfl) (hpl:(backTo pos (starEach es X.env)).any (·.1)=false:=by rfl):PX X (.Call (.Name x p) (e::es) [] pos) (Xpd sp [] t):=by
 obtain⟨f,fd,F,hm,kp,b⟩:=D.ex
 exact Xqj F (hr.mono hk) hg hm kp b .nil ha hdb he hpl
theorem Xea (D:Makex X.prog X.w X.K X.mg X.base x C j ps dvs sp)(hp:Xek (CXe X.prog X.w) X EX)(hr:Room k X.A)(hg:Gl X x)(ha:PA X (e::es) t)(hk:j+1≤k:=by decide)
   (hdb:(x==("__debug__":Str))=false:=by decide) (he:starEach (e::es) X.env=(false,eval e X.env)::starEach es X.env:=by rfl) (hpl:(backTo pos (starEach es X.env)).any (·.1)=false:=by rfl):PE X (.Call (.Name x p) (e::es) [] pos) (XAb C sp dvs EX t):=by
 obtain⟨f,fd,ds,F,M,hb,hd⟩:=D.ex
 exact XGr M F (hr.mono hk) hg D.bound hb hd hp ha hdb he hpl
theorem Xju {pl:Sem Bool}{p':Pos}(D:Basex X.prog X.w X.K X.mg X.base x m j ps sp)(hp:Xek (CXe X.prog X.w) X EX)(hr:Room k X.A)(hg:Gl X x)(ha:PA X (e::es) t)(hk:j≤k:=by decide)(hdb:(x==("__debug__":Str))=false:=by decide)
   (hst:starEach (e::es) X.env=(false,eval e X.env)::starEach es X.env:=by rfl) (hpl:(backTo pos (starEach es X.env)).any (·.1)=false:=by rfl)
   (ht:eval (.Call (.Attribute (.Name x p') m apos) (e::es) [] pos) X.env=(do
     let ov ←eval (.Name x p') X.env
     standAt apos.atName
     let (f,first) ←holding [ov] (getMethod ov m pl)
     callWith pos f first (backTo pos (starEach (e::es) X.env)) (backToKw pos (keywordEach [] X.env))):=by rfl):PE X (.Call (.Attribute (.Name x p') m apos) (e::es) [] pos) (Xtr sp [] EX t):=by
 obtain⟨C,f,fd,F,M,hb,hm⟩:=D.ex
 intro pins s σ H Q I h
 refine PySem.W.methodCall_KW (pl:=pl) (Xde I hg hm ?_ hdb) ht
 refine PySem.W.method_cls I.kIn M.sp (PySem.W.cls_value I.kIn M.rd M.fc rfl ?_)
 have I':=I.tok (s.toks+1)
 refine PySem.W.callWith_K (h₀:=X.base) I.ok.mod.kin M.kp (thn (ha pos pins _ σ H _ I' h) fun us s1 ⟨vs,H1,I1,r,q⟩=>⟨I1.kIn,?_⟩) hst hpl
 exact Xku F (hr.mono hk) hb .nil hp I1 r q
end
section
variable {K:PySem.W.Frag}{σ:L2.St}{H:Hp}{Q:VK}{D:Ends}
theorem r_fld {f:Str}{ta:TE}(h:ta σ H fun x H1=>∃a C dx fs v,x = .ref a∧H1 a=some (.ins C dx fs)∧Cls K C∧Xca K C f∧fs.lookup f=some v∧Q v H1):tFld K ta f σ H Q:=h
theorem r_at {a C dx:Addr}{fs:List (Str×V)}{f:Str}{v:V}{P:V→Prop}(h:H a=some (.ins C dx fs))(c:Cls K C)(n:Xca K C f)(l:fs.lookup f=some v)(q:P v) :
   ∃a' C' dx' fs' v',V.ref a=V.ref a'∧H a'=some (.ins C' dx' fs')∧Cls K C'∧Xca K C' f∧fs'.lookup f=some v'∧P v':=⟨a,C,dx,fs,v,rfl,h,c,n,l,q⟩
theorem r_sfld {f:Str}{ta tv:TE}(h:tv σ H fun y H1=>ta σ H1 fun x H2=>∃a C dx fs,x = .ref a∧H2 a=some (.ins C dx fs)∧Cls K C∧Xca K C f∧fs.length<1000∧D.nx σ (upd H2 a (.ins C dx (putF f y fs)))):sFld K ta tv f D σ H:=h
end
end Stow
namespace Stow
open PySem L2 PyProof.Rows
section
variable {X:Cx}
theorem XCv (hu:X.A.units<cLine):OpR X (compareOp .Eq) (fun x y H Q=>∃a b xs,x = .ref a∧y = .ref b∧SqT X.K H a xs∧SqT X.K H b xs∧xs.all Xcr=true∧Q (.bl true) H):=by
 intro pins s σ H x y v u Q I rx ry h
 obtain⟨a,b,xs,rfl,rfl,ha,hb,hf,q⟩:=h
 cases rx
 cases ry
 obtain⟨its,r1,p1,_⟩:=I.tuple ha
 obtain⟨its2,r2,p2,_⟩:=I.tuple hb
 have l1:=r1.length
 have l2:=r2.length
 have key:SeqAt.RcAt X.A s (.ref a) (.ref b) ((List.range (min its.toArray.size its2.toArray.size)).all (fun _=>true)&&its.toArray.size==its2.toArray.size):=by
   refine SeqAt.RcAt.tuples p1 p2 hu fun j h1 h2=>?_
   have hj:j<xs.length:=by
     rw[List.size_toArray] at h1
     omega
   obtain⟨u1,e1,q1⟩:=r1.get (i:=j) (x:=xs[j]) (by simp [hj])
   obtain⟨u2,e2,q2⟩:=r2.get (i:=j) (x:=xs[j]) (by simp [hj])
   obtain⟨g1,f1⟩:=List.getElem?_eq_some_iff.mp e1
   obtain⟨g2,f2⟩:=List.getElem?_eq_some_iff.mp e2
   have fl:Xcr xs[j]=true:=List.all_eq_true.mp hf _ (List.getElem_mem hj)
   have z:=Xod (A:=X.A.in1) (s:=s) q1 q2 fl fl
   rw[Xko fl,←f1,←f2] at z
   simpa using z
 have e:((List.range (min its.toArray.size its2.toArray.size)).all (fun _=>true)&&its.toArray.size==its2.toArray.size)=true:=by
   simp only [List.size_toArray,←l1,←l2]
   simp
 rw[e] at key
 exact key _ _ _ _ ⟨.bl true,H,I,rfl,q⟩
end
section
variable {a x:Option V}{v:V}{l r:L2.St}{k:Nat}{n:Str}{ns:List Str}{vs:List V}
theorem set0_c:(a::l).set 0 x=x::l:=rfl
theorem XDz:L2.start (n::ns) (v::vs)=some v::L2.start ns vs:=by
 unfold L2.start
 rw[List.length_cons,List.length_cons,Nat.add_sub_add_right]
 rfl
theorem set0_0:(L2.start (n::ns) []).set 0 x=x::L2.start ns []:=rfl
theorem setS_c (h:l.set k x=r):(a::l).set (k+1) x=a::r:=h▸rfl
theorem setS_1 (h:(L2.start ns vs).set k x=r):(L2.start (n::ns) (v::vs)).set (k+1) x=some v::r:=by
 rw[XDz,←h]
 rfl
theorem r_gnameN {σ σ':L2.St}{H:Hp}{i:Nat}{R:L2.St→Hp→Prop}(e:σ.set i (some v)=σ')(h:R σ' H):Xox i v σ H R:=by
 subst e
 exact h
end
section
variable {K:PySem.W.Frag}{σ:L2.St}{H:Hp}{D:Ends}{Q:VK}
theorem r_isSeq {t u:TS}(h:tSeq t u D σ H):tSeq t u D σ H:=h
theorem r_isAnd {ta tb:TE}(h:XAf ta tb σ H Q):XAf ta tb σ H Q:=h
theorem r_isOr {ta tb:TE}(h:tOrV ta tb σ H Q):tOrV ta tb σ H Q:=h
end
end Stow
namespace Stow
open PySem L2 PyProof.Rows
section
variable {K:PySem.W.Frag}{σ:L2.St}{H:Hp}{Q:VK}
theorem r_gtup {a:Addr}{xs:List V}{n:Nat}{t:TGs}{R:L2.St→Hp→Prop}(h:H a=some (.tup xs))(hl:xs.length=n)(q:t xs σ H R):gTup K n t (.ref a) σ H R:=⟨a,xs,rfl,SqT.of h,hl,q⟩
theorem r_gcons {v:V}{r:List V}{t:TG}{u:TGs}{R:L2.St→Hp→Prop}(h:t v σ H fun σ' H'=>u r σ' H' R):XNp t u (v::r) σ H R:=⟨v,r,rfl,h⟩
theorem r_gnil {R:L2.St→Hp→Prop}(h:R σ H):gNil [] σ H R:=⟨rfl,h⟩
theorem Xkl {p:Addr}{xs:List V}{v:V}(h:SqL K H p (xs++[v]))(q:Q v H):rIxL K (.ref p) (.int (-1)) H Q:=Xfx h (Xyj xs v) q
end
end Stow
namespace Stow
def fpl (a b:Int):Int:=a+(b-1-a%b)
def fp (a n L b:Int):Option Int:=if fpl a b+L≤a+n then some (fpl a b) else none
end Stow
namespace Stow
open PySem L2 PyProof.Rows
def Xbl (H:Hp)(us:List V)(ps:List Pc):Prop:=us.length=ps.length∧∀(i:Nat) (p:Pc),ps[i]?=some p→∃a,us[i]?=some (.ref a)∧H a=some (.tup [.int p.a,.int p.l,.bl p.v])
theorem Xbl.nil {H:Hp}:Xbl H [] []:=⟨rfl,fun i p h=>by simp at h⟩
theorem Xbl.mono {H H':Hp}{us:List V}{ps:List Pc}(h:Xbl H us ps)(k:∀b xs,H b=some (.tup xs)→H' b=some (.tup xs)):Xbl H' us ps :=
 ⟨h.1,fun i p e=>let ⟨a,h1,h2⟩:=h.2 i p e;⟨a,h1,k _ _ h2⟩⟩
theorem Xbl.same {H H':Hp}{us:List V}{ps:List Pc}(h:Xbl H us ps)(k:Same H H'):Xbl H' us ps:=h.mono fun b xs e=>k b _ e
theorem Xbl.snoc {H:Hp}{us:List V}{ps:List Pc}{p:Pc}{a:Addr}(h:Xbl H us ps)(ha:H a=some (.tup [.int p.a,.int p.l,.bl p.v])):Xbl H (us++[.ref a]) (ps++[p]):=by
 refine⟨by simp [h.1],fun i q e=>?_⟩
 have hl:=h.1
 by_cases hi:i<ps.length
 · rw[List.getElem?_append_left hi] at e
   obtain⟨b,h1,h2⟩:=h.2 i q e
   exact⟨b,by rw[List.getElem?_append_left (by omega)];exact h1,h2⟩
 · have hlt:i<(ps++[p]).length:=(List.getElem?_eq_some_iff.mp e).1
   have hi2:i=ps.length:=by simp at hlt;omega
   subst hi2
   rw[List.getElem?_append_right (Nat.le_refl _)] at e
   have e':p=q:=by simpa using e
   subst e'
   exact⟨a,by rw[←hl,List.getElem?_append_right (Nat.le_refl _)];simp,ha⟩
theorem Xmf {H:Hp}{p:Addr}{o:HO}(hp:H p=none∨∃xs,H p=some (.lst xs)):∀b xs,H b=some (.tup xs)→upd H p o b=some (.tup xs):=fun b xs e=>by
 have hne:b≠p:=fun z=>by
   subst z
   rcases hp with h | ⟨ys,h⟩
   · rw[h] at e;cases e
   · rw[h] at e;cases e
 rw[Xap hne]
 exact e
theorem Xbl.push {H:Hp}{us:List V}{ps:List Pc}{p t:Addr}{z:Pc}(h:Xbl H us ps)(hp:H p=some (.lst us))(ht:H t=none) :
   upd (upd H t (.tup [.int z.a,.int z.l,.bl z.v])) p (.lst (us++[.ref t])) p=some (.lst (us++[.ref t])) ∧
   Xbl (upd (upd H t (.tup [.int z.a,.int z.l,.bl z.v])) p (.lst (us++[.ref t]))) (us++[.ref t]) (ps++[z]):=by
 have hpt:p≠t:=Xat hp ht
 have hp2:upd H t (.tup [.int z.a,.int z.l,.bl z.v]) p=some (.lst us):=by rw[Xap hpt];exact hp
 refine⟨upd_same,?_⟩
 refine Xbl.snoc ?_ ?_
 · exact(h.mono (Xmf (.inl ht))).mono (Xmf (.inr ⟨_,hp2⟩))
 · exact Xmf (.inr ⟨_,hp2⟩) _ _ upd_same
theorem Xbl.at {H:Hp}{us:List V}{ps:List Pc}(h:Xbl H us ps){k:Int}(h0:0≤k)(h1:k<us.length):∃t z,atI us k=some (.ref t)∧ps[k.toNat]?=some z∧H t=some (.tup [.int z.a,.int z.l,.bl z.v]):=by
 have hl:=h.1
 have hk:k.toNat<ps.length:=by omega
 obtain⟨t,e1,e2⟩:=h.2 k.toNat ps[k.toNat] (by simp [hk])
 refine⟨t,_,?_,by simp [hk],e2⟩
 have:=Xes e1
 rwa [Int.toNat_of_nonneg h0] at this
def Xbp (H:Hp)(us:List V)(xs:List (List V)):Prop:=us.length=xs.length∧∀(i:Nat) (x:List V),xs[i]?=some x→∃a,us[i]?=some (.ref a)∧H a=some (.tup x)
theorem Xbp.nil {H:Hp}:Xbp H [] []:=⟨rfl,fun i p h=>by simp at h⟩
theorem Xbp.mono {H H':Hp}{us:List V}{xs:List (List V)}(h:Xbp H us xs)(k:∀b ys,H b=some (.tup ys)→H' b=some (.tup ys)):Xbp H' us xs :=
 ⟨h.1,fun i p e=>let ⟨a,h1,h2⟩:=h.2 i p e;⟨a,h1,k _ _ h2⟩⟩
theorem Xbp.same {H H':Hp}{us:List V}{xs:List (List V)}(h:Xbp H us xs)(k:Same H H'):Xbp H' us xs:=h.mono fun b ys e=>k b _ e
theorem Xbp.push {H:Hp}{us:List V}{xs:List (List V)}{p t:Addr}{z:List V}(h:Xbp H us xs)(hp:H p=some (.lst us))(ht:H t=none) :
   Xbp (upd (upd H t (.tup z)) p (.lst (us++[.ref t]))) (us++[.ref t]) (xs++[z]):=by
 have hpt:p≠t:=Xat hp ht
 have hp2:upd H t (.tup z) p=some (.lst us):=by rw[Xap hpt];exact hp
 have h2:=(h.mono (Xmf (o:=.tup z) (.inl ht))).mono (Xmf (o:=.lst (us++[.ref t])) (.inr ⟨_,hp2⟩))
 have hz:upd (upd H t (.tup z)) p (.lst (us++[.ref t])) t=some (.tup z):=Xmf (.inr ⟨_,hp2⟩) _ _ upd_same
 refine⟨by simp [h.1],fun i q e=>?_⟩
 have hl:=h.1
 by_cases hi:i<xs.length
 · rw[List.getElem?_append_left hi] at e
   obtain⟨b,h1,h3⟩:=h2.2 i q e
   exact⟨b,by rw[List.getElem?_append_left (by omega)];exact h1,h3⟩
 · have hlt:i<(xs++[z]).length:=(List.getElem?_eq_some_iff.mp e).1
   have hi2:i=xs.length:=by simp at hlt;omega
   subst hi2
   rw[List.getElem?_append_right (Nat.le_refl _)] at e
   have e':z=q:=by simpa using e
   subst e'
   exact⟨t,by rw[←hl,List.getElem?_append_right (Nat.le_refl _)];simp,hz⟩
theorem Xbp.at {H:Hp}{us:List V}{xs:List (List V)}(h:Xbp H us xs){i:Nat}(h1:i<us.length):∃t z,atI us (0+(i:Int))=some (.ref t)∧xs[i]?=some z∧H t=some (.tup z):=by
 have hl:=h.1
 have hk:i<xs.length:=by omega
 obtain⟨t,e1,e2⟩:=h.2 i xs[i] (by simp [hk])
 exact⟨t,_,by rw[Int.zero_add];exact Xes e1,by simp [hk],e2⟩
@[reducible] def optV:Option Int→V
 | none=>.non
 | some b=>.int b
def Xgt:Sp:=fun vs H Q _=>∃n:Int,vs=[.int n]∧Q (.int (n/2)) H
def Xnr:Sp:=fun vs H Q _=>∃n:Int,vs=[.int n]∧Q (.bl (decide (n%2=1))) H
def XKm (K:PySem.W.Frag):Sp:=fun vs H Q _=>∃(a:Addr) (ns:List Int) (k:Int),vs=[.ref a,.int k]∧SqL K H a (ns.map V.int)∧0≤k∧k<ns.length∧Q (.bl (Xbo ns k)) H
def XLo (K:PySem.W.Frag):Sp:=fun vs H Q _=>∃(a:Addr) (ns:List Int) (k:Int),vs=[.ref a,.int k]∧SqL K H a (ns.map V.int)∧0≤k∧k<ns.length∧Q (optV (Xdj ns k)) H
def Xdp (K:PySem.W.Frag)(C:Addr):Sp:=fun vs H Q E=>∃(a:Addr) (ns:List Int),vs=[.ref a]∧SqL K H a (ns.map V.int)∧ns.length≤4000 ∧
 (∀b,(Xct ns 0).2=some b→∀(dx:Addr) (H':Hp),Same H H'→H' dx=some (.xd [("cell",.int b)])→E (.ref C) (some dx) H') ∧
 ((Xct ns 0).2=none→∀(p:Addr) (us:List V) (H':Hp),H p=none→Same H H'→H' p=some (.lst us)→Xbl H' us (Xct ns 0).1→Q (.ref p) H')
def Xsy (K:PySem.W.Frag):Sp:=fun vs H Q _=>∃(a:Addr) (ns:List Int) (k:Int),vs=[.ref a,.int k]∧SqL K H a (ns.map V.int)∧0≤k∧Q (.int (ns.getD k.toNat 0)) H
def Xkd:Sp:=fun vs H Q _=>∃n:Int,vs=[.int n]∧Q (.bl true) H
def Xwp (K:PySem.W.Frag):Sp:=fun vs H Q _=>∃(a:Addr) (ns:List Int),vs=[.ref a]∧SqL K H a (ns.map V.int)∧ns.length≤63∧∀H',Q (.bl true) H'
section
variable {K:PySem.W.Frag}{H:Hp}{Q:VK}{E:XK}
theorem i_long {n:Int}(q:Q (.int (n/2)) H):Xgt [.int n] H Q E:=⟨n,rfl,q⟩
theorem i_live {n:Int}(q:Q (.bl (decide (n%2=1))) H):Xnr [.int n] H Q E:=⟨n,rfl,q⟩
theorem i_can {a:Addr}{ns:List Int}{k:Int}(h:SqL K H a (ns.map V.int))(h0:0≤k)(h1:k<ns.length)(q:Q (.bl (Xbo ns k)) H):XKm K [.ref a,.int k] H Q E:=⟨a,ns,k,rfl,h,h0,h1,q⟩
theorem i_bad {a:Addr}{ns:List Int}{k:Int}(h:SqL K H a (ns.map V.int))(h0:0≤k)(h1:k<ns.length)(q:Q (optV (Xdj ns k)) H):XLo K [.ref a,.int k] H Q E:=⟨a,ns,k,rfl,h,h0,h1,q⟩
theorem i_cell {a:Addr}{ns:List Int}{k:Int}(h:SqL K H a (ns.map V.int))(h0:0≤k)(q:Q (.int (ns.getD k.toNat 0)) H):Xsy K [.ref a,.int k] H Q E:=⟨a,ns,k,rfl,h,h0,q⟩
theorem i_whole {n:Int}(q:Q (.bl true) H):Xkd [.int n] H Q E:=⟨n,rfl,q⟩
theorem Xzj (n:Int):decide (Builtin.bitAnd n 1=1)=decide (n%2=1):=by rw[←XFl,decV]
end
end Stow
namespace Stow
def Xdg (cs:List Int)(k l:Int)(v:Bool):List Int:=(cs.set k.toNat (l*2+if v then 1 else 0)).set (k+l-1).toNat (l*2+if v then 1 else 0)
theorem Xbu (cs:List Int)(k l:Int)(v:Bool):(Xdg cs k l v).length=cs.length:=by
 unfold Xdg
 rw[List.length_set,List.length_set]
theorem Xeo {cs:List Int}{k l:Int}{v:Bool}{j:Nat}(h0:0≤k)(h1:1≤l)(h:(j:Int)<k∨k+l≤j):(Xdg cs k l v)[j]?=cs[j]?:=by
 unfold Xdg
 rw[List.getElem?_set_ne (by omega),List.getElem?_set_ne (by omega)]
theorem Xhy {cs:List Int}{k l:Int}{v:Bool}(h0:0≤k)(h1:1≤l)(h:k+l≤cs.length):(Xdg cs k l v)[k.toNat]?=some (mkOf l v):=by
 unfold Xdg mkOf
 by_cases e:(k+l-1).toNat=k.toNat
 · rw[e,List.getElem?_set_self (by rw[List.length_set];omega)]
 · rw[List.getElem?_set_ne e,List.getElem?_set_self (by omega)]
theorem Xje {cs:List Int}{k l:Int}{v:Bool}(h0:0≤k)(h1:1≤l)(h:k+l≤cs.length):(Xdg cs k l v)[(k+l-1).toNat]?=some (mkOf l v):=by
 unfold Xdg mkOf
 rw[List.getElem?_set_self (by rw[List.length_set];omega)]
def Xds (ds:List Pc)(k:Int):Prop:=∀p∈ds,0≤p.a∧1≤p.l∧p.a+p.l≤k
def Xfi (rs:List Pc)(e:Int):Prop:=∀p∈rs,e≤p.a∧1≤p.l
theorem Xas.endBy {ds:List Pc}{s e:Int}(h:Xas s ds e)(h0:0≤s):Xds ds e:=fun p hp=>by
 obtain⟨h1,h2,_,h3⟩:=h.mem p hp
 omega
theorem Xas.fromOn {ds:List Pc}{s e:Int}(h:Xas s ds e):Xfi ds s:=fun p hp=>by
 obtain⟨h1,h2,_,_⟩:=h.mem p hp
 omega
theorem Xds.mono {ds:List Pc}{k k':Int}(h:Xds ds k)(e:k≤k'):Xds ds k':=fun p hp=>by have:=h p hp;omega
theorem Xds.app {ds es:List Pc}{k:Int}(h:Xds ds k)(g:Xds es k):Xds (ds++es) k:=fun p hp=>(List.mem_append.mp hp).elim (h p) (g p)
theorem Xau.sub {cs:List Int}{ps qs:List Pc}(m:Xau cs ps)(h:∀p∈qs,p∈ps):Xau cs qs:=fun p hp=>m p (h p hp)
theorem Xau.lay {cs:List Int}{ds rs:List Pc}{k l:Int}{v:Bool}(h0:0≤k)(h1:1≤l)(hl:k+l≤cs.length)(hd:Xds ds k)(hr:Xfi rs (k+l))(m:Xau cs (ds++rs)) :
   Xau (Xdg cs k l v) (ds++⟨k,l,v⟩::rs):=by
 intro p hp
 rcases List.mem_append.mp hp with h | h
 · obtain⟨a0,a1,a2⟩:=hd p h
   obtain⟨m1,m2⟩:=m p (List.mem_append_left _ h)
   exact⟨by rw[Xeo h0 h1 (by omega)];exact m1,by rw[Xeo h0 h1 (by omega)];exact m2⟩
 · rcases List.mem_cons.mp h with h | h
   · subst h
     exact⟨Xhy h0 h1 hl,Xje h0 h1 hl⟩
   · obtain⟨a0,a1⟩:=hr p h
     obtain⟨m1,m2⟩:=m p (List.mem_append_right _ h)
     exact⟨by rw[Xeo h0 h1 (by omega)];exact m1,by rw[Xeo h0 h1 (by omega)];exact m2⟩
def lfI (cs:List Int)(b e:Int):List Int:=if b=e then cs else Xdg cs b (e-b) false
def fr (b e:Int):List Pc:=if b=e then [] else [⟨b,e-b,false⟩]
theorem Xez (cs:List Int)(b e:Int):(lfI cs b e).length=cs.length:=by
 unfold lfI
 split
 · rfl
 · exact Xbu _ _ _ _
theorem lfI_out {cs:List Int}{b e:Int}{j:Nat}(h0:0≤b)(h1:b≤e)(h:(j:Int)<b∨e≤j):(lfI cs b e)[j]?=cs[j]?:=by
 unfold lfI
 split
 · rfl
 · exact Xeo h0 (by omega) (by omega)
theorem Xfd {b e:Int}(h:b≤e):Xas b (fr b e) e:=by
 unfold fr
 split
 · assumption
 · exact⟨rfl,(by show 1≤e-b;omega),(fun z=>by cases z),(by show b+(e-b)=e;omega)⟩
theorem Xau.layF {cs:List Int}{ds rs:List Pc}{b e:Int}(h0:0≤b)(h1:b≤e)(hl:e≤cs.length)(hd:Xds ds b)(hr:Xfi rs e)(m:Xau cs (ds++rs)):Xau (lfI cs b e) (ds++(fr b e++rs)):=by
 unfold lfI fr
 split
 · exact m
 · exact Xau.lay h0 (by omega) (by omega) hd (by rw[show b+(e-b)=e by omega];exact hr) m
def cutO (cs:List Int)(a l s L:Int):List Int:=lfI (Xdg (lfI cs a s) s L true) (s+L) (a+l)
theorem Xgx (cs:List Int)(a l s L:Int):(cutO cs a l s L).length=cs.length:=by
 unfold cutO
 rw[Xez,Xbu,Xez]
def cutP (ds rs:List Pc)(a l s L:Int):List Pc:=ds++(fr a s++(⟨s,L,true⟩::(fr (s+L) (a+l)++rs)))
theorem Xiz {cs:List Int}{ds rs:List Pc}{z:Pc}{s L:Int}(h0:0≤z.a)(hL:1≤L)(h1:z.a≤s)(h2:s+L≤z.a+z.l)(hl:z.a+z.l≤cs.length)(hd:Xds ds z.a)(hr:Xfi rs (z.a+z.l))(m:Xau cs (ds++z::rs)) :
   Xau (cutO cs z.a z.l s L) (cutP ds rs z.a z.l s L):=by
 have m0:Xau cs (ds++rs):=m.sub fun p hp=>by
   rcases List.mem_append.mp hp with h | h
   · exact List.mem_append_left _ h
   · exact List.mem_append_right _ (List.mem_cons_of_mem _ h)
 have m1:=Xau.layF h0 h1 (by omega) hd (fun p hp=>by have:=hr p hp;omega) m0
 have d1:Xds (ds++fr z.a s) s:=(hd.mono h1).app ((Xfd h1).endBy h0)
 have m2:Xau (Xdg (lfI cs z.a s) s L true) ((ds++fr z.a s)++⟨s,L,true⟩::rs) :=
   Xau.lay (by omega) hL (by rw[Xez];omega) d1 (fun p hp=>by have:=hr p hp;omega) (by rw[List.append_assoc];exact m1)
 have d2:Xds ((ds++fr z.a s)++[⟨s,L,true⟩]) (s+L):=(d1.mono (by omega)).app fun p hp=>by
   have:p=⟨s,L,true⟩:=by simpa using hp
   subst this
   exact⟨by show 0≤s;omega,hL,Int.le_refl _⟩
 have m3:=Xau.layF (cs:=Xdg (lfI cs z.a s) s L true) (b:=s+L) (e:=z.a+z.l) (by omega) h2 (by rw[Xbu,Xez];omega) d2 hr (by rw[List.append_assoc];exact m2)
 unfold cutO cutP
 simpa only [List.append_assoc,List.singleton_append,List.cons_append,List.nil_append] using m3
theorem Xoo {ds rs:List Pc}{a l s L n:Int}(hL:3≤L)(h1:a≤s)(h2:s+L≤a+l)(hd:Xas 0 ds a)(hr:Xas (a+l) rs n):Xas 0 (cutP ds rs a l s L) n :=
 hd.app ((Xfd h1).app ⟨rfl,(by show 1≤L;omega),(fun _=>hL),(Xfd h2).app hr⟩)
theorem Xcw:∀{ps:List Pc} {s e:Int} {i:Nat} {z:Pc},Xas s ps e→ps[i]?=some z→∃ds rs,ps=ds++z::rs∧ds.length=i∧Xas s ds z.a∧Xas (z.a+z.l) rs e
 | [],s,e,i,z,_,h=>by simp at h
 | p::r,s,e,0,z,c,h=>by
   have e1:p=z:=by simpa using h
   subst e1
   obtain⟨h0,h1,h2,h3⟩:=c
   exact⟨[],r,rfl,rfl,h0.symm,by rw[h0];exact h3⟩
 | p::r,s,e,i+1,z,c,h=>by
   obtain⟨h0,h1,h2,h3⟩:=c
   obtain⟨ds,rs,e1,e2,c1,c2⟩:=Xcw h3 (show r[i]?=some z by simpa using h)
   exact⟨p::ds,rs,by rw[e1];rfl,by rw[List.length_cons,e2],⟨h0,h1,h2,c1⟩,c2⟩
theorem Xmq {ps:List Pc}:∀{b e:Int},Xas b ps e→∀(i j:Nat) (y z:Pc),ps[i]?=some y→ps[j]?=some z→y.a=z.a→y=z:=by
 induction ps with
 | nil=>intro b e _ i j y z hi;simp at hi
 | cons p r ih =>
   intro b e h i j y z hi hj ha
   obtain⟨e1,h1,h3,c⟩:=h
   have up:∀(i:Nat) (y:Pc),r[i]?=some y→y.a>p.a:=fun i y hy=>by
     have:=(c.mem y (List.mem_of_getElem? hy)).1
     omega
   cases i with
   | zero =>
     cases j with
     | zero=>simp at hi hj;rw[←hi,←hj]
     | succ j =>
       have e2:p=y:=by simpa using hi
       have:=up j z (by simpa using hj)
       subst e2;omega
   | succ i =>
     cases j with
     | zero =>
       have e2:p=z:=by simpa using hj
       have:=up i y (by simpa using hi)
       subst e2;omega
     | succ j=>exact ih c i j y z (by simpa using hi) (by simpa using hj) ha
theorem Xjl {a b:Int}(hb:1≤b) : -(a+1)%b=b-1-a%b:=by
 have e:=Int.emod_add_mul_ediv a b
 have h0:=Int.emod_nonneg a (show b≠0 by omega)
 have h1:=Int.emod_lt_of_pos a (show 0<b by omega)
 have eq : -(a+1)=(b-1-a%b)+b*(-(a/b)-1):=by
   rw[Int.mul_sub,Int.mul_neg]
   omega
 rw[eq,Int.add_mul_emod_self_left,Int.emod_eq_of_lt (by omega) (by omega)]
end Stow
namespace Stow
theorem Xdx {ps:List Pc}{s e:Int}{y z:Pc}(c:Xas s ps e)(hy:y∈ps)(hz:z∈ps)(h:y.a=z.a):y=z:=by
 obtain⟨i,hi⟩:=List.getElem?_of_mem hy
 obtain⟨j,hj⟩:=List.getElem?_of_mem hz
 exact Xmq c i j y z hi hj h
end Stow
namespace Stow
end Stow
namespace Stow
end Stow
namespace Stow
theorem Xas.take:∀{ps:List Pc} {s e:Int} {i:Nat},Xas s ps e→i≤ps.length→∃m,Xas s (ps.take i) m∧Xas m (ps.drop i) e
 | ps,s,e,0,c,_=>⟨s,rfl,c⟩
 | [],s,e,i+1,c,h=>by simp at h
 | p::r,s,e,i+1,c,h=>by
   obtain⟨h0,h1,h2,h3⟩:=c
   obtain⟨m,c1,c2⟩:=h3.take (i:=i) (by simpa using h)
   exact⟨m,⟨h0,h1,h2,c1⟩,c2⟩
theorem Xas.unsnoc {D:List Pc}{y:Pc}{s e:Int}(c:Xas s (D++[y]) e):Xas s D y.a∧1≤y.l∧(y.v=true→3≤y.l)∧y.a+y.l=e:=by
 obtain⟨ds,rs,e1,e2,c1,c2⟩:=Xcw (i:=D.length) (z:=y) c (by rw[List.getElem?_append_right (Nat.le_refl _),Nat.sub_self];rfl)
 have hl:=congrArg List.length e1
 rw[List.length_append,List.length_append,List.length_singleton,List.length_cons] at hl
 have er:rs=[]:=List.length_eq_zero_iff.mp (by omega)
 subst er
 have:=(List.append_inj e1 (by omega)).1
 subst this
 obtain⟨h1,h2,h3,_⟩:=c.mem y (List.mem_append_right _ List.mem_cons_self)
 exact⟨c1,h2,h3,c2⟩
def Xgi (ps:List Pc):Prop:=∀j y z,ps[j]?=some y→ps[j+1]?=some z→y.v=true∨z.v=true
theorem Xgi.snoc {D:List Pc}{w z:Pc}(h:Xgi (D++[w]))(hv:w.v=true∨z.v=true):Xgi (D++[w]++[z]):=by
 intro j y x hy hx
 have hl:j+1<(D++[w]++[z]).length:=(List.getElem?_eq_some_iff.mp hx).1
 rw[List.length_append,List.length_singleton] at hl
 rw[List.getElem?_append_left (by omega)] at hy
 by_cases e:j+1<(D++[w]).length
 · rw[List.getElem?_append_left e] at hx
   exact h j y x hy hx
 · rw[List.length_append,List.length_singleton] at e hl
   rw[List.getElem?_append_right (by rw[List.length_append,List.length_singleton];omega),show j+1-(D++[w]).length=0 by rw[List.length_append,List.length_singleton];omega] at hx
   rw[show j=D.length by omega,List.getElem?_append_right (Nat.le_refl _),Nat.sub_self] at hy
   have e1:w=y:=by simpa using hy
   have e2:z=x:=by simpa using hx
   rw[←e1,←e2]
   exact hv
end Stow
namespace Stow
end Stow
namespace Stow
end Stow
namespace Stow
open PySem L2 PyProof.Rows
theorem Xbl.unsnoc {H:Hp}{us:List V}{ps:List Pc}{y:Pc}(h:Xbl H us (ps++[y])):∃ui t,us=ui++[.ref t]∧Xbl H ui ps∧H t=some (.tup [.int y.a,.int y.l,.bl y.v]):=by
 have hl:=h.1
 rw[List.length_append,List.length_singleton] at hl
 obtain⟨t,e1,e2⟩:=h.2 ps.length y (by rw[List.getElem?_append_right (Nat.le_refl _),Nat.sub_self];rfl)
 have hd:us=us.take ps.length++[.ref t]:=by
   have:=List.take_append_drop ps.length us
   have e3:us.drop ps.length=[.ref t]:=by
     apply List.ext_getElem?
     intro i
     rw[List.getElem?_drop]
     cases i with
     | zero=>exact e1
     | succ i=>rw[List.getElem?_eq_none (by omega)];rfl
   rw[e3] at this
   exact this.symm
 refine⟨us.take ps.length,t,hd,⟨by rw[List.length_take];omega,fun i p e=>?_⟩,e2⟩
 have hi:i<ps.length:=(List.getElem?_eq_some_iff.mp e).1
 obtain⟨a,h1,h2⟩:=h.2 i p (by rw[List.getElem?_append_left hi];exact e)
 exact⟨a,by rw[List.getElem?_take_of_lt hi];exact h1,h2⟩
section
variable {X:Cx}
end
end Stow
namespace Stow
open PySem L2 PyProof.Rows
def eqVs (xs ys:List V):Bool:=(List.range (min xs.length ys.length)).all (fun j=>eqV (xs.getD j .non) (ys.getD j .non))&&xs.length==ys.length
section
variable {X:Cx}{pins:List (Addr×Obj)}{σ:L2.St}{H:Hp}{s:Shared}{A:Around}
theorem Xyd {a b:Addr}{xs ys:List V}(I:Inv X pins σ H s)(ha:SqT X.K H a xs)(hb:SqT X.K H b ys)(hf:xs.all Xcr=true)(hg:ys.all Xcr=true) :
   ∃its its2:List Value,s.heap.IsTuple a its.toArray∧s.heap.IsTuple b its2.toArray∧its.length=xs.length∧its2.length=ys.length ∧
     ∀j (h1:j<its.toArray.size) (h2:j<its2.toArray.size),SeqAt.EqAt A s its.toArray[j] its2.toArray[j] (eqV (xs.getD j .non) (ys.getD j .non)):=by
 obtain⟨its,r1,p1,_⟩:=I.tuple ha
 obtain⟨its2,r2,p2,_⟩:=I.tuple hb
 have l1:=r1.length
 have l2:=r2.length
 refine⟨its,its2,p1,p2,l1.symm,l2.symm,fun j h1 h2=>?_⟩
 rw[List.size_toArray] at h1 h2
 have hj:j<xs.length:=by omega
 have hk:j<ys.length:=by omega
 obtain⟨u1,e1,q1⟩:=r1.get (i:=j) (x:=xs[j]) (by simp [hj])
 obtain⟨u2,e2,q2⟩:=r2.get (i:=j) (x:=ys[j]) (by simp [hk])
 obtain⟨g1,f1⟩:=List.getElem?_eq_some_iff.mp e1
 obtain⟨g2,f2⟩:=List.getElem?_eq_some_iff.mp e2
 have fl:Xcr xs[j]=true:=List.all_eq_true.mp hf _ (List.getElem_mem hj)
 have gl:Xcr ys[j]=true:=List.all_eq_true.mp hg _ (List.getElem_mem hk)
 have z:=Xod (A:=A) (s:=s) q1 q2 fl gl
 rw[←f1,←f2] at z
 have ex:xs.getD j .non=xs[j]:=by simp [hj]
 have ey:ys.getD j .non=ys[j]:=by simp [hk]
 rw[ex,ey]
 simpa using z
theorem XEl {a b:Addr}{xs ys:List V}(hu:A.units<cLine)(I:Inv X pins σ H s)(ha:SqT X.K H a xs)(hb:SqT X.K H b ys)(hf:xs.all Xcr=true)(hg:ys.all Xcr=true):SeqAt.RcAt A s (.ref a) (.ref b) (eqVs xs ys):=by
 obtain⟨its,its2,p1,p2,l1,l2,he⟩:=Xyd (A:=A.in1) I ha hb hf hg
 have key:=SeqAt.RcAt.tuples p1 p2 hu he
 simp only [List.size_toArray,l1,l2] at key
 exact key
theorem Xqo {xs:List V}(hf:xs.all Xcr=true):eqVs xs xs=true:=by
 unfold eqVs
 rw[Bool.and_eq_true]
 refine⟨List.all_eq_true.mpr fun j hj=>?_,by simp⟩
 have hj:j<xs.length:=by simpa using hj
 have ex:xs.getD j .non=xs[j]:=by simp [hj]
 rw[ex]
 exact Xko (List.all_eq_true.mp hf _ (List.getElem_mem hj))
theorem Xmn {a b:Addr}{xs:List V}(hu:A.units<cLine)(I:Inv X pins σ H s)(ha:SqT X.K H a xs)(hb:SqT X.K H b xs)(hf:xs.all Xcr=true):SeqAt.EqAt A s (.ref a) (.ref b) true:=by
 by_cases e:a=b
 · subst e;exact SeqAt.EqAt.same _
 · refine SeqAt.EqAt.of_refs e ?_
   have:=XEl hu I ha hb hf hf
   rwa [Xqo hf] at this
end
section
variable {X:Cx}
end
end Stow
set_option Elab.async false
set_option linter.all false
set_option maxRecDepth 100000
set_option maxHeartbeats 4000000
namespace L2
open PySem PySem.Spec PyProof.Rows
section
variable {κ:Type}[DecidableEq κ]
def valV (kvs:List (κ×V))(k:κ):Option V:=(kvs.find? fun kv=>decide (kv.1=k)).map (·.2)
def putK (kvs:List (κ×V))(k:κ)(v:V):List (κ×V) :=
 if (kvs.any fun kv=>decide (kv.1=k))=true then kvs.map (fun kv=>if kv.1=k then (kv.1,v) else kv) else kvs++[(k,v)]
def XOn (kvs:List (κ×V))(k:κ):List (κ×V):=kvs.filter fun kv=>decide (kv.1≠k)
theorem Xkf {p:κ×V}{r:List (κ×V)}{k:κ}(e:p.1=k):valV (p::r) k=some p.2:=by simp [valV,List.find?_cons,e]
theorem Xjz {p:κ×V}{r:List (κ×V)}{k:κ}(e:¬p.1=k):valV (p::r) k=valV r k:=by simp [valV,List.find?_cons,e]
theorem Xnm (k:κ):∀kvs:List (κ×V),(kvs.any fun kv=>decide (kv.1=k))=(valV kvs k).isSome
 | []=>rfl
 | p::r=>by
   rw[List.any_cons]
   by_cases e:p.1=k
   · simp only [Xkf e,decide_eq_true e,Bool.true_or,Option.isSome_some]
   · rw[Xjz e,decide_eq_false e,Bool.false_or];exact Xnm k r
theorem RelO.isSome_eq {o:Option V}{u:Option Value}(r:RelO o u):o.isSome=u.isSome:=by
 cases o with
 | none=>cases u with
   | none=>rfl
   | some _=>exact(show False from r).elim
 | some _=>cases u with
   | none=>exact(show False from r).elim
   | some _=>rfl
theorem RelO.getD {o:Option V}{u:Option Value}{d:V}{d':Value}(r:RelO o u)(rd:RelV d d'):RelV (o.getD d) (u.getD d'):=by
 cases o with
 | none=>cases u with
   | none=>exact rd
   | some _=>exact(show False from r).elim
 | some _=>cases u with
   | none=>exact(show False from r).elim
   | some _=>exact r
theorem KV.val {kvs:List (κ×V)}{vs:List (κ×Value)}(r:KV kvs vs)(k:κ):RelO (valV kvs k) (valueAt vs k):=by
 unfold KV at r
 induction r with
 | nil=>exact True.intro
 | @cons p q ps qs h t ih =>
   obtain⟨h1,h2⟩:=h
   by_cases e:p.1=k
   · have e':q.1=k:=h1.symm.trans e
     have b:valueAt (q::qs) k=some q.2:=by simp [valueAt,List.find?_cons,e']
     rw[Xkf e,b];exact h2
   · have e':¬q.1=k:=fun z=>e (h1.trans z)
     have b:valueAt (q::qs) k=valueAt qs k:=by simp [valueAt,List.find?_cons,e']
     rw[Xjz e,b];exact ih
theorem KV.any {kvs:List (κ×V)}{vs:List (κ×Value)}(r:KV kvs vs)(k:κ):(kvs.any fun kv=>decide (kv.1=k))=vs.any fun kv=>decide (kv.1=k):=by
 unfold KV at r
 induction r with
 | nil=>rfl
 | cons h t ih=>rw[List.any_cons,List.any_cons,ih,h.1]
theorem KV.repl {kvs:List (κ×V)}{vs:List (κ×Value)}(r:KV kvs vs)(k:κ){y:V}{u:Value}(ry:RelV y u) :
   KV (kvs.map fun kv=>if kv.1=k then (kv.1,y) else kv) (vs.map fun kv=>if kv.1=k then (kv.1,u) else kv):=by
 unfold KV at r ⊢
 induction r with
 | nil=>exact .nil
 | @cons p q ps qs h t ih =>
   rw[List.map_cons,List.map_cons]
   refine .cons ?_ ih
   obtain⟨h1,h2⟩:=h
   by_cases e:p.1=k
   · rw[if_pos e,if_pos (h1.symm.trans e)];exact⟨h1,ry⟩
   · rw[if_neg e,if_neg (fun z=>e (h1.trans z))];exact⟨h1,h2⟩
theorem KV.put {kvs:List (κ×V)}{vs:List (κ×Value)}(r:KV kvs vs)(k:κ){y:V}{u:Value}(ry:RelV y u):KV (putK kvs k y) (stored vs k u):=by
 unfold putK stored
 rw[r.any k]
 by_cases e:(vs.any fun kv=>decide (kv.1=k))=true
 · rw[if_pos e,if_pos e];exact r.repl k ry
 · rw[if_neg e,if_neg e];exact Paired.snoc r ⟨rfl,ry⟩
theorem KV.drop {kvs:List (κ×V)}{vs:List (κ×Value)}(r:KV kvs vs)(k:κ):KV (XOn kvs k) (without vs k):=by
 unfold KV at r ⊢
 unfold XOn without
 induction r with
 | nil=>exact .nil
 | @cons p q ps qs h t ih =>
   obtain⟨h1,h2⟩:=h
   rw[List.filter_cons,List.filter_cons]
   by_cases e:p.1=k
   · have a:¬decide (p.1≠k)=true:=by simp [e]
     have b:¬decide (q.1≠k)=true:=by simp [h1.symm.trans e]
     rw[if_neg a,if_neg b];exact ih
   · have e':¬q.1=k:=fun z=>e (h1.trans z)
     have a:decide (p.1≠k)=true:=by simp [e]
     have b:decide (q.1≠k)=true:=by simp [e']
     rw[if_pos a,if_pos b];exact .cons ⟨h1,h2⟩ ih
theorem KV.length {kvs:List (κ×V)}{vs:List (κ×Value)}(r:KV kvs vs):kvs.length=vs.length:=Paired.length r
end
abbrev KT (H:Hp):List (List Key×V)→List (List Key×Addr×Value)→Prop:=Paired fun p q=>p.1=q.1∧H q.2.1=some (.tup (p.1.map kV))∧RelV p.2 q.2.2
theorem KT.val {H:Hp}{kvs:List (List Key×V)}{xs:List (List Key×Addr×Value)}(r:KT H kvs xs)(k:List Key):RelO (valV kvs k) ((atKey xs k).map (·.2)):=by
 induction r with
 | nil=>exact True.intro
 | @cons p q ps qs h t ih =>
   obtain⟨h1,_,h2⟩:=h
   by_cases e:p.1=k
   · have e':q.1=k:=h1.symm.trans e
     have b:atKey (q::qs) k=some q.2:=by simp [atKey,List.find?_cons,e']
     rw[Xkf e,b];exact h2
   · have e':¬q.1=k:=fun z=>e (h1.trans z)
     have b:atKey (q::qs) k=atKey qs k:=by simp [atKey,List.find?_cons,e']
     rw[Xjz e,b];exact ih
theorem KT.repl {H:Hp}{kvs:List (List Key×V)}{xs:List (List Key×Addr×Value)}(r:KT H kvs xs)(k:List Key){y:V}{u:Value}(ry:RelV y u) :
   KT H (kvs.map fun kv=>if kv.1=k then (kv.1,y) else kv) (xs.map (putAt k u)):=by
 induction r with
 | nil=>exact .nil
 | @cons p q ps qs h t ih =>
   rw[List.map_cons,List.map_cons]
   refine .cons ?_ ih
   obtain⟨h1,h2,h3⟩:=h
   unfold putAt
   by_cases e:p.1=k
   · rw[if_pos e,if_pos (h1.symm.trans e)];exact⟨h1,h2,ry⟩
   · rw[if_neg e,if_neg (fun z=>e (h1.trans z))];exact⟨h1,h2,h3⟩
theorem KT.put {H:Hp}{kvs:List (List Key×V)}{xs:List (List Key×Addr×Value)}(r:KT H kvs xs)(k:List Key){b:Addr}{y:V}{u:Value}(hb:H b=some (.tup (k.map kV)))(ry:RelV y u) :
   KT H (putK kvs k y) (storedH xs k b u):=by
 have e:(kvs.any fun kv=>decide (kv.1=k))=(atKey xs k).isSome:=by
   rw[Xnm,(r.val k).isSome_eq,Option.isSome_map]
 unfold putK storedH
 rw[e]
 by_cases q:(atKey xs k).isSome=true
 · rw[if_pos q,if_pos q];exact r.repl k ry
 · rw[if_neg q,if_neg q];exact Paired.snoc r ⟨rfl,hb,ry⟩
theorem KT.keeps {H H':Hp}{kvs:List (List Key×V)}{xs:List (List Key×Addr×Value)}(r:KT H kvs xs)(ht:∀b ys,H b=some (.tup ys)→H' b=some (.tup ys)):KT H' kvs xs :=
 Paired.mapP r fun _ _ z=>⟨z.1,ht _ _ z.2.1,z.2.2⟩
section
variable {P:Program}{w:World}{H:Hp}{h:Heap}{a:Addr}
end
def DGet (H:Hp)(a:Addr)(y:V)(r:Option V):Prop :=
 (∃kvs k,Rd H a (.dK kvs)∧y=kV k∧r=valV kvs k)∨∃kvs k b,Rd H a (.dT kvs)∧y = .ref b∧H b=some (.tup (k.map kV))∧r=valV kvs k
def DPut (H:Hp)(a:Addr)(y v:V)(H':Hp):Prop :=
 (∃kvs k,H a=some (.dK kvs)∧y=kV k∧kvs.length<sizeLine∧H'=upd H a (.dK (putK kvs k v))) ∨
 ∃kvs k b,H a=some (.dT kvs)∧y = .ref b∧H b=some (.tup (k.map kV))∧kvs.length<sizeLine∧H'=upd H a (.dT (putK kvs k v))
theorem DGet.k {H:Hp}{a:Addr}{kvs:List (Key×V)}{k:Key}(e:H a=some (.dK kvs)):DGet H a (kV k) (valV kvs k):=.inl ⟨kvs,k,.inl e,rfl,rfl⟩
theorem DGet.t {H:Hp}{a b:Addr}{kvs:List (List Key×V)}{k:List Key}(e:H a=some (.dT kvs))(eb:H b=some (.tup (k.map kV))):DGet H a (.ref b) (valV kvs k):=.inr ⟨kvs,k,b,.inl e,rfl,eb,rfl⟩
theorem DPut.k {H:Hp}{a:Addr}{kvs:List (Key×V)}{k:Key}{v:V}(e:H a=some (.dK kvs))(hl:kvs.length<sizeLine):DPut H a (kV k) v (upd H a (.dK (putK kvs k v))):=.inl ⟨kvs,k,e,rfl,hl,rfl⟩
theorem DPut.t {H:Hp}{a b:Addr}{kvs:List (List Key×V)}{k:List Key}{v:V}(e:H a=some (.dT kvs))(eb:H b=some (.tup (k.map kV)))(hl:kvs.length<sizeLine) :
   DPut H a (.ref b) v (upd H a (.dT (putK kvs k v))):=.inr ⟨kvs,k,b,e,rfl,eb,hl,rfl⟩
section
variable {X:Cx}{pins:List (Addr×Obj)}{σ:St}{H:Hp}{s:Shared}{a:Addr}{y v:V}{u r:Value}{o:Option V}{A:Around}{E:Value→Shared→Prop}
end
section
variable {X:Cx}{pins:List (Addr×Obj)}{σ:St}{H:Hp}{s:Shared}{a:Addr}{kvs:List (Key×V)}{k:Key}{u:Value}{A:Around}{E:Value→Shared→Prop}
end
section
variable {X:Cx}{o i e value:Expr}{pos pos' tpos:Pos}{td ty tv:TE}
end
section
variable {X:Cx}{pos:Pos}
end
structure M1 (X:Cx)(o:Expr)(m:Str)(apos:Pos)(e:Expr)(cpos:Pos):Prop where
 base:attributeBase o m X.env (eval o X.env)=eval o X.env
 few:((backTo cpos (starEach [e] X.env)).all (fun x=>!x.1)&&(backToKw cpos (keywordEach [] X.env)).all (fun x=>x.1.isSome)
   && decide (([e]:List Expr).length+([]:List Keyword).length+(if ([]:List Keyword).isEmpty then 0 else 1)<30))=true
 line:(apos.endLine==cpos.line)=true
 trees:backTo cpos (starEach [e] X.env)=[(false,eval e X.env)]
structure M2 (X:Cx)(o:Expr)(m:Str)(apos:Pos)(e f:Expr)(cpos:Pos):Prop where
 base:attributeBase o m X.env (eval o X.env)=eval o X.env
 few:((backTo cpos (starEach [e,f] X.env)).all (fun x=>!x.1)&&(backToKw cpos (keywordEach [] X.env)).all (fun x=>x.1.isSome)
   && decide (([e,f]:List Expr).length+([]:List Keyword).length+(if ([]:List Keyword).isEmpty then 0 else 1)<30))=true
 line:(apos.endLine==cpos.line)=true
 trees:backTo cpos (starEach [e,f] X.env)=[(false,eval e X.env),(false,eval f X.env)]
section
variable {X:Cx}{pins:List (Addr×Obj)}{σ:St}{H:Hp}{s:Shared}{a:Addr}{y d:V}{u r:Value}{o:Option V}{A:Around}{E:Value→Shared→Prop}
end
section
variable {X:Cx}{o e f:Expr}{apos cpos:Pos}{td ty tx:TE}
end
section
variable {X:Cx}{pins:List (Addr×Obj)}{σ:St}{H:Hp}{s:Shared}{a:Addr}{kvs:List (Key×V)}{A:Around}{E:Value→Shared→Prop}
end
section
variable {X:Cx}{pins:List (Addr×Obj)}{σ:St}{H:Hp}{s:Shared}{a:Addr}{y:V}{u:Value}{A:Around}{E:Value→Shared→Prop}
end
end L2
namespace L2
open PySem PySem.Spec PyProof.Rows
section
variable {X:Cx}
end
section
variable {κ:Type}[DecidableEq κ]
end
end L2
set_option Elab.async false
set_option linter.all false
set_option maxRecDepth 100000
set_option maxHeartbeats 4000000
namespace Stow
open PySem L2 PyProof.Rows
def CShl (i j:Int):Prop:=0≤j∧j≤1000∧i.natAbs<2^220
section
variable {X:Cx}
theorem Xjp:OpR X (binaryOp .LShift) (rI CShl fun i j=>.int (i*2^j.toNat)):=opI fun i j _ _ _ _ _ hc q =>
 lshift_int hc.1 (by
   obtain⟨h0,h1,h2⟩:=hc
   have:=PyProof.Rows.intBits_le h2
   omega) q
end
theorem Xqn (n:Int):Builtin.bitOr (n*2) 1=n*2+1:=by
 rw[PyProof.Rows.bitOr_and]
 have e:Builtin.bitAnd (n*2) 1=(n*2)%2:=by rw[bitAnd_m1]
 rw[e]
 omega
end Stow
set_option Elab.async false
set_option linter.all false
set_option maxRecDepth 100000
set_option maxHeartbeats 4000000
namespace Stow
open PySem L2 PyProof.Rows
section
variable {prog:Program}{w:World}{A:Around}{R:Result→Shared→Prop}{s:Shared}
theorem Xow {elt tgt src:Expr}{cs:List Expr}{sc:Scope}{ps:Pos}{itv accv:Value}{ev:Env}(J:Nat→Shared→Prop)
   (step:∀k t,J k t→wpAny (model prog w) A (pyNext itv) (fun r t1=>match r with
     | none=>R (.ok .next) t1
     | some x=>wpAny (model prog w) A (letOwnedTupleGo tgt itv x) (fun _ t2=>wpAny (model prog w) A (assign tgt ev x) (fun _ t3 =>
         wpAny (model prog w) A (forIn cs true fun c r=>if r=true then do let ok ←isTrue c ev (eval c ev);pure (ForInStep.yield ok) else pure (ForInStep.yield r)) (fun good t4 =>
           if good=true then wpAny (model prog w) A (eval elt ev) (fun y t5=>wpAny (model prog w) A (call (.builtin "list.append") [accv,y]) (fun _ t6=>∃j,j<k∧J j t6) (notedBy (model prog w) A ev fun e t'=>R (.error e) t') t5) (notedBy (model prog w) A ev fun e t'=>R (.error e) t') t4
           else ∃j,j<k∧J j t4) (notedBy (model prog w) A ev fun e t'=>R (.error e) t') t3) (notedBy (model prog w) A ev fun e t'=>R (.error e) t') t2) (notedBy (model prog w) A ev fun e t'=>R (.error e) t') t1) (notedBy (model prog w) A ev fun e t'=>R (.error e) t') t)
   (k0:Nat) (j0:J k0 s):codeAny (model prog w) A (.compLoop (.ListComp elt [⟨tgt,src,cs,0⟩] sc ps) 0 itv accv ev) R s:=by
 refine codeAny_loop rfl J (fun k t hJ=>?_) k0 j0
 show wpAny _ A ((compTurn (.ListComp elt [⟨tgt,src,cs,0⟩] sc ps) 0 itv accv ev).onRaise (fun x=>do noteFrame x ev;theTreesLotGoes x)) _ _ t
 refine wpAny_noted ?_
 rw[compTurn_list]
 refine wpAny_bind (wpAny_standAt (wpAny_bind (wpAny_mono (step k t hJ) (fun r t1 g1=>?_) fun _ _ z=>z)))
 cases r with
 | none=>exact wpAny_pure g1
 | some x =>
   refine wpAny_bind (wpAny_mono g1 (fun _ t2 g2=>?_) fun _ _ z=>z)
   refine wpAny_bind (wpAny_mono g2 (fun _ t3 g3=>?_) fun _ _ z=>z)
   refine wpAny_bind (wpAny_mono g3 (fun good t4 g4=>?_) fun _ _ z=>z)
   cases good with
   | false=>exact wpAny_pure ⟨rfl,g4⟩
   | true=>exact wpAny_bind (wpAny_bind (wpAny_mono g4 (fun y t5 g5=>wpAny_bind (wpAny_mono g5 (fun _ t6 g6=>wpAny_pure (wpAny_pure ⟨rfl,g6⟩)) fun _ _ z=>z)) fun _ _ z=>z))
end
theorem Xgm {env:Env}:∀(names:List (Str×NameKind)) (acc:List (Str×Addr)),(∀y∈names,y.2 = .free→∃c,env.cells.lookup y.1=some c)→(∀x c,acc.lookup x=some c→env.cells.lookup x=some c) →
   ∃cl,(forIn names acc fun x r=>(do let (name,kind):=x;if (kind==NameKind.free)=true then do let c ←cellOf env name;pure (ForInStep.yield ((name,c)::r)) else pure (ForInStep.yield r)):Sem (List (Str×Addr)))=pure cl ∧
     (∀x c,cl.lookup x=some c→env.cells.lookup x=some c)∧(∀y∈names,y.2 = .free→∃c,cl.lookup y.1=some c)∧(∀x c,acc.lookup x=some c→∃c',cl.lookup x=some c')
 | [],acc,_,ha=>⟨acc,by simp,ha,fun y hy=>by simp at hy,fun x c e=>⟨c,e⟩⟩
 | (n,k)::r,acc,h,ha=>by
   by_cases hk:k = .free
   · obtain⟨c,hc⟩:=h (n,k) List.mem_cons_self hk
     obtain⟨cl,e1,e2,e3,e4⟩:=Xgm r ((n,c)::acc) (fun y hy=>h y (List.mem_cons_of_mem _ hy)) (fun x d e=>by
       by_cases hx:x=n
       · subst hx
         rw[List.lookup_cons_self] at e
         cases e
         exact hc
       · rw[List.lookup_cons,show (x==n)=false by simpa using hx] at e
         exact ha x d e)
     refine⟨cl,?_,e2,fun y hy hf=>?_,fun x d e=>?_⟩
     · rw[List.forIn_cons]
       subst hk
       have ec:cellOf env n=pure c:=by unfold cellOf;rw[hc]
       simp only [beq_self_eq_true,if_true,ec,pure_bind]
       exact e1
     · rcases List.mem_cons.mp hy with z | z
       · subst z
         exact e4 n c (by rw[List.lookup_cons_self])
       · exact e3 y z hf
     · by_cases hx:x=n
       · subst hx
         exact e4 x c (by rw[List.lookup_cons_self])
       · exact e4 x d (by rw[List.lookup_cons,show (x==n)=false by simpa using hx];exact e)
   · obtain⟨cl,e1,e2,e3,e4⟩:=Xgm r acc (fun y hy=>h y (List.mem_cons_of_mem _ hy)) ha
     refine⟨cl,?_,e2,fun y hy hf=>?_,e4⟩
     · rw[List.forIn_cons]
       have:(k==NameKind.free)=false:=by simpa using hk
       simp only [this,Bool.false_eq_true,if_false,pure_bind]
       exact e1
     · rcases List.mem_cons.mp hy with z | z
       · subst z
         exact absurd hf hk
       · exact e3 y z hf
theorem Xiv {scope:Scope}{env:Env}(h:∀y∈scope.names,y.2 = .free→∃c,env.cells.lookup y.1=some c) :
   ∃cl,closureFor scope env=pure cl∧(∀x c,cl.lookup x=some c→env.cells.lookup x=some c)∧(∀y∈scope.names,y.2 = .free→∃c,cl.lookup y.1=some c):=by
 obtain⟨cl,e1,e2,e3,_⟩:=Xgm scope.names [] h (fun x c e=>by simp at e)
 refine⟨cl,?_,e2,e3⟩
 unfold closureFor
 simp only [bind_pure] at *
 exact e1
section
variable {X:Cx}
abbrev Cx.blockG (X:Cx)(scope:Scope)(cl:List (Str×Addr))(C:Addr)(N:List Str)(s₀:Shared)(H₀:Hp)(ex:List Addr):Cx :=
 { X with N:=N,s₀:=s₀,H₀:=H₀,env:=compEnvC scope cl C X.env,outer:=X.stack,stack:=X.stack,ex:=ex,fn:=fun _=>false,pn:=[],xe:=fun _ _=>False }
theorem Xqc {pins:List (Addr×Obj)}{σ:L2.St}{H:Hp}{s:Shared}{scope:Scope}{cl:List (Str×Addr)}{C:Addr}{N:List Str}{fp:List Addr}(I:Inv X pins σ H s)(hk:scope.kind = .function)(hC:s.heap.objs.size≤C)
   (hcl:∀x c,cl.lookup x=some c→X.env.cells.lookup x=some c) (hhas:∀y,(relabel scope X.env).names.lookup y=some .cell∨(relabel scope X.env).names.lookup y=some .free→∃c,cl.lookup y=some c)
   (ho:∀b∈fp,∃o,s.heap.get? b=some o∧∀v,o.data≠.cell v) (hf:∀b∈fp,FpOk X pins H b) :
   (Cx.blockG X scope cl C N s H fp).Ok where
 mod:=I.ok.mod
 kind:=hk
 glob:=I.ok.glob
 blt:=I.ok.blt
 above:=hC
 inj:=fun x y c e1 e2=>I.ok.inj x y c (hcl x c e1) (hcl y c e2)
 has:=fun y e=>hhas y e
 cab:=fun _ _ e=>nomatch e
 hd:=I.ok.hd
 frames:=I.ok.frames
 stk:=.inl rfl
 exf:=fun b hb=>⟨fun z=>by
   obtain⟨o,e,_⟩:=ho b hb
   have:=Nat.lt_of_lt_of_le (Heap.lt_size e) hC
   rw[z] at this
   exact Nat.lt_irrefl _ this,fun x c e=>(hf b hb).2.2.2.2.1 x c (hcl x c e)⟩
 bs:=I.bs
 bsz:=Nat.le_trans I.ok.bsz I.sz
 noex:=fun b o e hb=>by
   rcases(hf b hb).2.2.2.1 with z | z
   · exact I.ok.noex b o e z
   · exact absurd (Nat.lt_of_lt_of_le (Heap.lt_size (I.ok.bs b o e).1) z) (Nat.lt_irrefl _)
 exfs:=fun b hb z=>by
   rcases List.mem_cons.mp (I.stkSub b z) with e | e
   · exact(hf b hb).2.1 e
   · exact(hf b hb).2.2.1 e
 funs:=I.stack
 frf:=I.stkFree
def Xsl (n:Nat)(fs:L2.St)(J:It)(g:TG)(tt:TT)(te:TE)(Q:VK)(H1:Hp):Prop:=∀D,H1 D=none→∃W:Nat→Nat→List V→Hp→Prop,(∃m,W 0 m [] (upd H1 D (.lst [])))∧∀i m ys H2,W i m ys H2 →
 (J.stop i H2∧Q (.ref D) H2)∨(J.go i H2∧∀x H3,J.yld i H2 x H3→∀τ:L2.St,τ.length=n→g x (τ++fs) H3 fun σ1 H4=>(∃τ':L2.St,τ'.length=n∧σ1=τ'++fs)∧tt σ1 H4 fun b H5 =>
   if b=true then te σ1 H5 fun y H6=>H6 D=some (.lst ys)∧ys.length<sizeLine∧∃m',m'<m∧W (i+1) m' (ys++[y]) (upd H6 D (.lst (ys++[y]))) else ∃m',m'<m∧W (i+1) m' ys H5)
def Xns (n:Nat)(is:List Nat)(wi:TI)(g:TG)(tt:TT)(te:TE):TE:=fun σ H Q=>wi σ H fun J H1=>Xsl n (is.map fun k=>σ.getD k none) J g tt te Q H1
def Xhj (X:Cx)(scope:Scope)(F:List Str)(is:List Nat):Prop:=F.length=is.length∧∀(j:Nat) (y:Str) (k:Nat),F[j]?=some y→is[j]?=some k→X.N[k]?=some y∧X.env.kindOf y=some .cell∧(relabel scope X.env).names.lookup y=some .cell
theorem Xhi {elt iter tg:Expr}{pos:Pos}{ifs:List Expr}{scope:Scope}{O F:List Str}{is:List Nat}{cl:List (Str×Addr)}{g:TG}{tt:TT}{te:TE}{pins:List (Addr×Obj)}{σ:L2.St}{s2:Shared}{H2:Hp}{it:Addr}{fp:List Addr}{tn:Nat→Heap→Prop}{J:It}{Q:VK}{RR:Value→Addr→Result→Shared→Prop}
   (hc:X.calm=true) (hkind:scope.kind = .function) (hcell:∀y∈scope.names,y.2≠.cell)
   (hcl:∀x c,cl.lookup x=some c→X.env.cells.lookup x=some c) (hhas:∀y,(relabel scope X.env).names.lookup y=some .cell∨(relabel scope X.env).names.lookup y=some .free→∃c,cl.lookup y=some c) (hF:Xhj X scope F is)
   (hG:∀cl C s₀ H₀ ex,PG (Cx.blockG X scope cl C (O++F) s₀ H₀ ex) tg g) (hT:∀cl C s₀ H₀ ex,PTs (Cx.blockG X scope cl C (O++F) s₀ H₀ ex) ifs tt) (hE:∀cl C s₀ H₀ ex,PE (Cx.blockG X scope cl C (O++F) s₀ H₀ ex) elt te)
   (I2:Inv X pins σ H2 s2) (T:Turn X.prog X.w X.K tg J fp it tn) (st2:tn 0 s2.heap) (f2:∀b∈fp,FpOk X pins H2 b)
   (h:Xsl O.length (is.map fun k=>σ.getD k none) J g tt te Q H2)
   (hRR:∀D C H' s',Inv X pins σ H' s'→FpOk X pins H' C→(∃m,s'.heap.Ns C m)→Q (.ref D) H'→RR (.ref D) C (.ok .next) s') :
   wpAny (model X.prog X.w) X.A (newList []) (fun acc s₃=>wpAny (model X.prog X.w) X.A (newFunctionEnv scope X.env.globals cl [] X.env.qual none .none (some X.env)) (fun cenv s₄ =>
     codeAny (model X.prog X.w) X.A (.compStart (.ListComp elt [⟨tg,iter,ifs,0⟩] scope pos) 0 (.ref it) acc { cenv with scope:=relabel scope X.env }) (RR acc cenv.locals) s₄) X.xe s₃) X.xe s2:=by
 refine wpAny_newObj_type (wpAny_newFunctionEnv hcell (by intro y hy;simp at hy) (fun h₁ hns₁ hsb₁=>?_) hkind)
 dsimp only at hns₁ hsb₁ ⊢
 generalize hG0:s2.heap.push { cls:=.type "list",dict:=none,data:=.seq ([]:List Value).toArray }=G at hns₁ hsb₁ ⊢
 have hCs:G.objs.size=s2.heap.objs.size+1:=by rw[←hG0,Heap.size_push]
 have hDC:s2.heap.objs.size≠G.objs.size:=by rw[hCs];exact Nat.ne_of_lt (Nat.lt_succ_self _)
 have hCle:s2.heap.objs.size≤G.objs.size:=by rw[hCs];exact Nat.le_succ _
 have old:∀b o,s2.heap.get? b=some o→h₁.get? b=some o:=fun b o e=>hsb₁.extBut b o (by rw[hCs];exact Nat.ne_of_lt (Nat.lt_succ_of_lt (Heap.lt_size e))) (Heap.get?_push_of_some _ (hG0▸Heap.get?_push_of_some _ e))
 have eD:h₁.get? s2.heap.objs.size=some { cls:=.type "list",dict:=none,data:=.seq ([]:List Value).toArray }:=hsb₁.extBut _ _ hDC (Heap.get?_push_of_some _ (hG0▸Heap.get?_push_size _ rfl))
 have nD:H2 s2.heap.objs.size=none:=I2.hok.fresh (Nat.le_refl _)
 have nC:H2 G.objs.size=none:=I2.hok.fresh hCle
 obtain⟨W,⟨m0,w0⟩,turn⟩:=h s2.heap.objs.size nD
 generalize efs:(is.map fun k=>σ.getD k none)=fs at turn
 have fre:∀b∈fp,upd H2 s2.heap.objs.size (.lst []) b=none:=fun b hb=>by
   obtain⟨o,e,_⟩:=T.obj _ _ st2 b hb
   rw[Xap (Nat.ne_of_lt (Heap.lt_size e))]
   exact(f2 b hb).1
 have loop:∀s4:Shared,s4={ s2 with heap:=h₁,toks:=s2.toks+([]:List (Str×Value)).length } →
     codeAny (model X.prog X.w) X.A (.compLoop (.ListComp elt [⟨tg,iter,ifs,0⟩] scope pos) 0 (.ref it) (.ref s2.heap.objs.size) (compEnvC scope cl G.objs.size X.env)) (RR (.ref s2.heap.objs.size) G.objs.size) s4:=by
   rintro s4 rfl
   have ok:=Xqc (N:=O++F) I2 hkind hCle hcl hhas (T.obj _ _ st2) f2
   have IB:Inv (Cx.blockG X scope cl G.objs.size (O++F) s2 H2 fp) [] (List.replicate O.length none++fs) (upd H2 s2.heap.objs.size (.lst [])) { s2 with heap:=h₁,toks:=s2.toks+([]:List (Str×Value)).length }:=by
     refine⟨ok,rfl,I2.bare,Un.laid old (Nat.le_refl _) nD,⟨_,hns₁,fun i y v e1 e2 _=>?_⟩,(fun x c e=>?_),?_,(fun x c e=>?_),(fun p hp=>nomatch hp),I2.hok.laid old (Nat.le_refl _) ⟨Nat.zero_le _,[],0,.nil,eD⟩,?_⟩
     · have e1:(O++F)[i]?=some y:=e1
       by_cases hi:i<O.length
       · rw[List.getElem?_append_left (by rw[List.length_replicate];exact hi),List.getElem?_replicate,if_pos hi] at e2
         cases e2
       · rw[List.getElem?_append_right (by omega)] at e1
         rw[List.getElem?_append_right (by rw[List.length_replicate];omega),List.length_replicate,←efs,List.getElem?_map] at e2
         obtain⟨k,ek,ev⟩:=Option.map_eq_some_iff.mp e2
         obtain⟨g1,g2,g3⟩:=hF.2 _ _ _ e1 ek
         have es:σ[k]?=some (some v):=by
           rw[List.getD_eq_getElem?_getD] at ev
           cases q:σ[k]? with
           | none=>rw[q] at ev;cases ev
           | some z=>rw[q] at ev;exact congrArg some ev
         obtain⟨m,hm,hl⟩:=I2.loc
         obtain⟨u,ru,lk⟩:=hl k y v g1 es (.inr (.inl g2))
         refine⟨u,ru,.inr ⟨.inl g3,?_⟩⟩
         rcases lk with ⟨z,_⟩ | ⟨_,c,c1,o,c2,c3⟩
         · rw[g2] at z;cases z
         · obtain⟨c',e'⟩:=hhas y (.inl g3)
           have:=hcl y c' e'
           rw[c1] at this
           cases this
           exact⟨c,e',o,old c o c2,c3⟩
     · obtain⟨v,o,c2,c3⟩:=I2.cell x c (hcl x c e)
       exact⟨v,o,old c o c2,c3⟩
     · show upd H2 s2.heap.objs.size (.lst []) G.objs.size=none
       rw[Xap (Ne.symm hDC)]
       exact nC
     · obtain⟨v,o,c2,c3⟩:=I2.cell x c (hcl x c e)
       show upd H2 s2.heap.objs.size (.lst []) c=none
       rw[Xap (Nat.ne_of_lt (Heap.lt_size c2))]
       exact I2.freeC x c (hcl x c e)
     · show (List.replicate O.length none++fs).length=(O++F).length
       rw[List.length_append,List.length_append,List.length_replicate,←efs,List.length_map,hF.1]
   have stat:∀{H':Hp},(∀b∈fp,H' b=none)→∀b∈fp,FpOk (Cx.blockG X scope cl G.objs.size (O++F) s2 H2 fp) [] H' b:=fun hn b hb =>
     ⟨hn b hb,(ok.exf b hb).1,ok.exfs b hb,.inl hb,(ok.exf b hb).2,(fun p hp=>nomatch hp)⟩
   refine Xow (fun n s'=>∃i ys τ H',Inv (Cx.blockG X scope cl G.objs.size (O++F) s2 H2 fp) [] (τ++fs) H' s'∧τ.length=O.length∧tn i s'.heap∧(∀b∈fp,H' b=none)∧W i n ys H') ?_ m0
     ⟨0,[],_,_,IB,List.length_replicate,T.keep _ _ _ st2 fun b _ o e=>old b o e,fre,w0⟩
   rintro n s3 ⟨i,ys,τ,H3,I3,hτ,st3,fr3,w3⟩
   rcases turn i n ys H3 w3 with ⟨stop,q⟩ | ⟨go,step⟩
   · refine wpAny_mono (T.done (Cx.blockG X scope cl G.objs.size (O++F) s2 H2 fp) rfl rfl rfl hc i [] s3 (τ++fs) H3 (fun _ _=>False) I3 (stat fr3) st3 stop) (fun r s4 ⟨hr,I4⟩=>?_) (fun _ _ z=>z.elim)
     subst hr
     obtain⟨m,hn,_⟩:=I4.loc
     refine hRR _ G.objs.size H3 s4 (I2.call' (ch:=fp) I4.os I4.base I4.hok I4.bare fun b hb=>?_) (I2.fpOk hCle I4.free) ⟨m,hn⟩ q
     obtain⟨g0,g1,g2,g3,g4,g5⟩:=f2 b hb
     exact⟨g3,g1,g4,g5⟩
   · refine wpAny_mono (T.item (Cx.blockG X scope cl G.objs.size (O++F) s2 H2 fp) rfl rfl rfl hc i [] s3 (τ++fs) H3 (fun _ _=>False) I3 (stat fr3) st3 go) (fun r s4 ⟨u,hr,h4⟩=>?_) (fun _ _ z=>z.elim)
     subst hr
     refine wpAny_mono h4 (fun _ s5 ⟨v,H5,I5,r5,y5,st5,fr5⟩=>?_) (fun _ _ z=>z.elim)
     have I5':=I5.pinned (stat fr5) (T.obj _ _ st5)
     refine wpAny_mono (hG _ _ _ _ _ _ s5 (τ++fs) H5 v u _ I5' r5 (step v H5 y5 τ hτ)) (fun _ s6 ⟨σ6,H6,I6,⟨τ',hτ',e6⟩,q6⟩=>?_) (fun _ _ z=>z.elim)
     subst e6
     have again:∀{s7:Shared} {H7:Hp} {ys':List V} {m':Nat},Inv (Cx.blockG X scope cl G.objs.size (O++F) s2 H2 fp) ([]++Xlr fp s5.heap) (τ'++fs) H7 s7→m'<n→W (i+1) m' ys' H7 →
         ∃m,m<n∧∃i ys τ H',Inv (Cx.blockG X scope cl G.objs.size (O++F) s2 H2 fp) [] (τ++fs) H' s7∧τ.length=O.length∧tn i s7.heap∧(∀b∈fp,H' b=none)∧W i m ys H':=fun {s7 H7 ys' m'} I7 hm w7=>by
       refine⟨m',hm,i+1,ys',τ',H7,I7.unpinned,hτ',T.keep _ _ _ st5 fun b hb o e=>(I7.pin (b,o) (List.mem_append_right _ (List.mem_append_right _ (Xfc hb e)))).1,fun b hb=>?_,w7⟩
       obtain⟨o,e,_⟩:=T.obj _ _ st5 b hb
       exact(I7.pin (b,o) (List.mem_append_right _ (List.mem_append_right _ (Xfc hb e)))).2.1
     refine wpAny_mono (hT _ _ _ _ _ _ s6 (τ'++fs) H6 _ I6 q6) (fun b s7 ⟨H7,I7,q7⟩=>?_) (fun _ _ z=>z.elim)
     cases b with
     | false =>
       obtain⟨m',hm,w7⟩:=q7
       exact again I7 hm w7
     | true =>
       rw[if_pos rfl]
       refine wpAny_mono (hE _ _ _ _ _ _ s7 (τ'++fs) H7 _ I7 q7) (fun y' s8 ⟨y,H8,I8,ry,hD,hz,m',hm,w8⟩=>?_) (fun _ _ z=>z.elim)
       refine wpAny_mono (Xia (X:=Cx.blockG X scope cl G.objs.size (O++F) s2 H2 fp) _ s8 (τ'++fs) H8 (.ref s2.heap.objs.size) [y] (.ref s2.heap.objs.size) [y'] (fun _ H9=>H9=upd H8 s2.heap.objs.size (.lst (ys++[y]))) I8 rfl (.cons ry .nil) ⟨s2.heap.objs.size,ys,y,rfl,rfl,hD,hz,rfl⟩) (fun _ s9 ⟨_,H9,I9,_,e9⟩=>?_) (fun _ _ z=>z.elim)
       subst e9
       exact again I9 hm w8
 exact codeAny_compStart_list (loop _ rfl) (T.self _ 0 _ _ _ (T.keep _ _ _ st2 fun b _ o e=>old b o e) (loop _ rfl))
theorem Xee {elt iter tg:Expr}{pos:Pos}{ifs:List Expr}{scope:Scope}{wi:TI}{g:TG}{tt:TT}{te:TE}(O F:List Str)(is:List Nat)(hc:X.calm=true)(hi:PI X tg iter wi)
   (hG:∀cl C s₀ H₀ ex,PG (Cx.blockG X scope cl C (O++F) s₀ H₀ ex) tg g) (hT:∀cl C s₀ H₀ ex,PTs (Cx.blockG X scope cl C (O++F) s₀ H₀ ex) ifs tt) (hE:∀cl C s₀ H₀ ex,PE (Cx.blockG X scope cl C (O++F) s₀ H₀ ex) elt te)
   (hF:Xhj X scope F is) (hfc:∀y∈scope.names,y.2 = .free→X.env.kindOf y.1=some .cell) (hrl:∀y,(relabel scope X.env).names.lookup y=some .cell∨(relabel scope X.env).names.lookup y=some .free→∃z∈scope.names,z.1=y∧z.2 = .free)
   (hkind:scope.kind = .function:=by rfl) (hcell:∀y∈scope.names,y.2≠.cell:=by decide +kernel)
   (hnames:∀y∈scope.names,y.2 = .local→scope.names.lookup y.1=some .local:=by decide +kernel) (hs:∀y,foldedSetIterable iter X.env y=pure y:=by intro _;rfl) :
   PE X (.ListComp elt [⟨tg,iter,ifs,0⟩] scope pos) (Xns O.length is wi g tt te):=by
 intro pins s σ H Q I h
 rw[eval_ListComp]
 obtain⟨cl,hcf,hcl,hca⟩:=Xiv (scope:=scope) (env:=X.env) fun y hy hf=>I.ok.has y.1 (.inl (hfc y hy hf))
 refine wpAny_comprehension_free (use:=none) (cl:=cl) rfl hs hcf hkind hnames (wpAny_mono (hi pins s σ H _ I h) (fun v s1 h1=>wpAny_mono h1 (fun itv s2 h2=>?_) fun _ _ e=>e) fun _ _ e=>e)
 obtain⟨it,fp,tn,J,H2,e,I2,T,st2,f2,R2⟩:=h2
 subst e
 refine Xhi (O:=O) (F:=F) (is:=is) (Q:=Q) (RR:=fun acc C=>compPost (model X.prog X.w) X.A X.xe none (EP X pins σ Q) acc C) hc hkind hcell hcl (fun y hy=>?_) hF hG hT hE I2 T st2 f2 R2 ?_
 · obtain⟨z,hz,e1,e2⟩:=hrl y hy
   subst e1
   exact hca z hz e2
 · rintro D C H' s' I' f' ⟨m,hn⟩ q
   obtain⟨f0,f1,f2',f3,f4,f5⟩:=f'
   refine⟨m,hn,fun h' sb=>⟨.ref D,H',I'.turned (t':=s'.toks) (fun b o hb e=>(sb.2 b hb).trans e) f0 f1 f3 f4 f5,rfl,q⟩⟩
theorem Xdz {elt iter tg:Expr}{y:Str}{py pos spos:Pos}{ifs:List Expr}{scope:Scope}{wi:TI}{g:TG}{tt:TT}{te:TE}{i:Nat}(O F:List Str)(is:List Nat)(hN:X.N.Nodup)(hi0:X.N[i]?=some y)(hy:Loc X.env.scope y)(hc:X.calm=true)(hi:PI X tg iter wi)
   (hG:∀cl C s₀ H₀ ex,PG (Cx.blockG X scope cl C (O++F) s₀ H₀ ex) tg g) (hT:∀cl C s₀ H₀ ex,PTs (Cx.blockG X scope cl C (O++F) s₀ H₀ ex) ifs tt) (hE:∀cl C s₀ H₀ ex,PE (Cx.blockG X scope cl C (O++F) s₀ H₀ ex) elt te)
   (hF:Xhj X scope F is) (hfc:∀y∈scope.names,y.2 = .free→X.env.kindOf y.1=some .cell) (hrl:∀y,(relabel scope X.env).names.lookup y=some .cell∨(relabel scope X.env).names.lookup y=some .free→∃z∈scope.names,z.1=y∧z.2 = .free)
   (hsw:swapsWith (.ListComp elt [⟨tg,iter,ifs,0⟩] scope pos) (some (.Name y py)) spos.line X.env=pure true:=by rfl)
   (hkind:scope.kind = .function:=by rfl) (hcell:∀y∈scope.names,y.2≠.cell:=by decide +kernel)
   (hnames:∀y∈scope.names,y.2 = .local→scope.names.lookup y.1=some .local:=by decide +kernel) (hs:∀y,foldedSetIterable iter X.env y=pure y:=by intro _;rfl)
   (hf:X.fn y=true∨X.env.scope.names.lookup y=some .local:=by first | exact .inl rfl | exact .inr rfl | assumption) :
   PS X (.Assign [.Name y py] (.ListComp elt [⟨tg,iter,ifs,0⟩] scope pos) spos) (tAsg (Xns O.length is wi g tt te) (Xox i)):=by
 intro pins s σ H D I h
 rw[exec_Assign_Name_used _ _ _ _ hsw]
 obtain⟨cl,hcf,hcl,hca⟩:=Xiv (scope:=scope) (env:=X.env) fun y hy hf=>I.ok.has y.1 (.inl (hfc y hy hf))
 refine wpAny_bind (wpAny_standAt (wpAny_bind ?_))
 show wpAny _ X.A (do let _ ←comprehension (.ListComp elt [⟨tg,iter,ifs,0⟩] scope pos) scope X.env _ (newList []) false (eval iter X.env) (some (assign (.Name y py) X.env))) _ _ s
 refine wpAny_bind (wpAny_mono (wpAny_comprehension_free (use:=some (assign (.Name y py) X.env)) (cl:=cl) (Q:=fun _ s'=>SP X pins D .next s') rfl hs hcf hkind hnames
   (wpAny_mono (hi pins s σ H _ I h) (fun v s1 h1=>wpAny_mono h1 (fun itv s2 h2=>?_) fun _ _ e=>e) fun _ _ e=>e)) (fun _ s' hq=>wpAny_pure (wpAny_pure hq)) fun _ _ e=>e)
 obtain⟨it,fp,tn,J,H2,e,I2,T,st2,f2,R2⟩:=h2
 subst e
 refine Xhi (O:=O) (F:=F) (is:=is) (Q:=fun v H1=>Xox i v σ H1 D.nx) (RR:=fun acc C=>compPost (model X.prog X.w) X.A X.xe (some (assign (.Name y py) X.env)) (fun _ s'=>SP X pins D .next s') acc C) hc hkind hcell hcl (fun y hy=>?_) hF hG hT hE I2 T st2 f2 R2 ?_
 · obtain⟨z,hz,e1,e2⟩:=hrl y hy
   subst e1
   exact hca z hz e2
 · rintro D' C H' s' I' f' ⟨m,hn⟩ q
   obtain⟨f0,f1,f2',f3,f4,f5⟩:=f'
   show wpAny _ X.A (assign (.Name y py) X.env (.ref D')) _ _ _
   refine wpAny_assign_Name (Xlp I' hN hi0 hy (v:=.ref D') rfl (fun s'' I'' ⟨a,sb,ha⟩=>?_) hf)
   have ne:C≠a:=by
     rcases ha with e | e
     · rw[e];exact f1
     · exact fun z=>f4 _ _ e z.symm
   exact⟨m,hn.sameBut sb ne,fun h' sb'=>⟨_,H',I''.turned (t':=s''.toks) (fun b o hb e=>(sb'.2 b hb).trans e) f0 f1 f3 f4 f5,q⟩⟩
theorem Xkq {K:PySem.W.Frag}(hK:X.K=K):IxR X (rIxL K):=hK▸Xbi
theorem Xel {K:PySem.W.Frag}{es:List Expr}{k:Nat}{t:TGs}{n:Nat}{pos:Pos}(hK:X.K=K)(hc:X.calm=true)(h:PGs X es t)
   (hn:(assignEach es X.env).length=n:=by rfl) (hst:(assignEach es X.env).findIdx? (·.1)=none:=by rfl):PG X (.Tuple es k pos) (gTup K n t):=hK▸Xhz hc h hn hst
theorem Xib {K:PySem.W.Frag}{a:Expr}{ta:TE}(hK:X.K=K)(ha:PE X a ta)(he:∀whole,isTrue a X.env whole=(do let v ←whole;standAt a.pos;holding [v] (truthy v))):PT X a (fun σ H Q=>ta σ H fun x H'=>∃k,TruV K x H' k∧Q k H'):=by
 subst hK
 exact Xck ha he
theorem Xbc {scope:Scope}{env:Env}{y:Str}(hcell:∀z∈scope.names,z.2≠.cell)(h:(relabel scope env).names.lookup y=some .cell∨(relabel scope env).names.lookup y=some .free):∃z∈scope.names,z.1=y∧z.2 = .free:=by
 have key:∀(l:List (Str×NameKind)) (k:NameKind),l.lookup y=some k→(y,k)∈l:=by
   intro l k
   induction l with
   | nil=>intro e;cases e
   | cons p r ih =>
     intro e
     obtain⟨n,k'⟩:=p
     rw[List.lookup_cons] at e
     cases hb:y==n with
     | true =>
       rw[hb] at e
       cases e
       rw[eq_of_beq hb]
       exact List.mem_cons_self
     | false=>rw[hb] at e;exact List.mem_cons_of_mem _ (ih e)
 have fin:∀k,(relabel scope env).names.lookup y=some k→k = .cell∨k = .free→∃z∈scope.names,z.1=y∧z.2 = .free:=fun k e hk=>by
   obtain⟨z,hz,ez⟩:=List.mem_map.mp (key _ _ e)
   obtain⟨n,k0⟩:=z
   dsimp only at ez
   split at ez
   · rename_i hc
     simp only [Bool.and_eq_true,beq_iff_eq] at hc
     cases ez
     exact⟨(y,k0),hz,rfl,hc.1.1⟩
   · cases ez
     rcases hk with rfl | rfl
     · exact absurd rfl (hcell _ hz)
     · exact⟨_,hz,rfl,rfl⟩
 rcases h with h | h
 · exact fin _ h (.inl rfl)
 · exact fin _ h (.inr rfl)
theorem Xpf {scope:Scope}:Xhj X scope [] []:=⟨rfl,fun j y k e=>by simp at e⟩
theorem Xcl {scope:Scope}{y:Str}{k:Nat}(h1:X.N[k]?=some y)(h2:X.env.kindOf y=some .cell)(h3:(relabel scope X.env).names.lookup y=some .cell):Xhj X scope [y] [k]:=⟨rfl,fun j z i e1 e2=>by
 cases j with
 | zero =>
   have g1:y=z:=by simpa using e1
   have g2:k=i:=by simpa using e2
   subst g1 g2
   exact⟨h1,h2,h3⟩
 | succ j=>simp at e1⟩
theorem Xoz {scope:Scope}{y y':Str}{k k':Nat}(h1:X.N[k]?=some y)(h1':X.N[k']?=some y')(h2:X.env.kindOf y=some .cell)(h2':X.env.kindOf y'=some .cell)(h3:(relabel scope X.env).names.lookup y=some .cell)(h3':(relabel scope X.env).names.lookup y'=some .cell) :
   Xhj X scope [y,y'] [k,k']:=⟨rfl,fun j z i e1 e2=>by
 match j with
 | 0 =>
   have g1:y=z:=by simpa using e1
   have g2:k=i:=by simpa using e2
   subst g1 g2
   exact⟨h1,h2,h3⟩
 | 1 =>
   have g1:y'=z:=by simpa using e1
   have g2:k'=i:=by simpa using e2
   subst g1 g2
   exact⟨h1',h2',h3'⟩
 | j+2=>simp at e1⟩
theorem Xdm {scope:Scope}{n:Str}(h:∀y∈scope.names,y.2 = .free→y.1=n)(k:X.env.kindOf n=some .cell):∀y∈scope.names,y.2 = .free→X.env.kindOf y.1=some .cell:=fun y hy hf=>by rw[h y hy hf];exact k
theorem Xzo {scope:Scope}{n m:Str}(h:∀y∈scope.names,y.2 = .free→y.1=n∨y.1=m)(k:X.env.kindOf n=some .cell)(k':X.env.kindOf m=some .cell):∀y∈scope.names,y.2 = .free→X.env.kindOf y.1=some .cell:=fun y hy hf=>by
 rcases h y hy hf with e | e
 · rw[e];exact k
 · rw[e];exact k'
theorem Xwq {elt iter tg:Expr}{pos:Pos}{ifs:List Expr}{scope:Scope}{wi:TI}{g:TG}{tt:TT}{te:TE}(O:List Str)(hc:X.calm=true)(hi:PI X tg iter wi)
   (hG:∀cl C s₀ H₀ ex,PG (Cx.blockG X scope cl C (O++[]) s₀ H₀ ex) tg g) (hT:∀cl C s₀ H₀ ex,PTs (Cx.blockG X scope cl C (O++[]) s₀ H₀ ex) ifs tt) (hE:∀cl C s₀ H₀ ex,PE (Cx.blockG X scope cl C (O++[]) s₀ H₀ ex) elt te)
   (hfree:∀y∈scope.names,y.2≠.free:=by decide +kernel) (hkind:scope.kind = .function:=by rfl) (hcell:∀y∈scope.names,y.2≠.cell:=by decide +kernel)
   (hnames:∀y∈scope.names,y.2 = .local→scope.names.lookup y.1=some .local:=by decide +kernel) (hs:∀y,foldedSetIterable iter X.env y=pure y:=by intro _;rfl) :
   PE X (.ListComp elt [⟨tg,iter,ifs,0⟩] scope pos) (Xns O.length [] wi g tt te) :=
 Xee O [] [] hc hi hG hT hE Xpf (fun y hy hf=>absurd hf (hfree y hy)) (fun y h=>Xbc hcell h) hkind hcell hnames hs
end
section
variable {K:PySem.W.Frag}{σ:L2.St}{H:Hp}{Q:VK}
theorem r_compG {n:Nat}{is:List Nat}{wi:TI}{g:TG}{tt:TT}{te:TE}(h:wi σ H fun J H1=>Xsl n (is.map fun k=>σ.getD k none) J g tt te Q H1):Xns n is wi g tt te σ H Q:=h
def Nx (n:Nat)(Pv:Addr→Nat→List V→Hp→Prop)(D:Addr)(i:Nat)(ys:List V)(H2:Hp):Prop:=∃m',m'<n-i∧m'=n-(i+1)∧i+1≤n∧Pv D (i+1) ys H2
theorem Xdu {n:Nat}{Pv:Addr→Nat→List V→Hp→Prop}{D:Addr}{i:Nat}{ys:List V}{H2:Hp}(hi:i<n)(p:Pv D (i+1) ys H2):Nx n Pv D i ys H2:=⟨_,by omega,rfl,hi,p⟩
theorem Xcg {a:Addr}{xs:List V}{n:Nat}{fs:L2.St}{g:TG}{tt:TT}{te:TE}(Pv:Addr→Nat→List V→Hp→Prop)(h0:∀D,H D=none→Pv D 0 [] (upd H D (.lst [])))
   (hl:∀D i ys H2,i≤xs.length→Pv D i ys H2→SqL K H2 a xs)
   (hs:∀D i x ys H2,H D=none→xs[i]?=some x→Pv D i ys H2→∀τ:L2.St,τ.length=n→g x (τ++fs) H2 fun σ1 H4=>(∃τ':L2.St,τ'.length=n∧σ1=τ'++fs)∧tt σ1 H4 fun b H5 =>
     if b=true then te σ1 H5 fun y H6=>H6 D=some (.lst ys)∧ys.length<sizeLine∧Nx xs.length Pv D i (ys++[y]) (upd H6 D (.lst (ys++[y]))) else Nx xs.length Pv D i ys H5)
   (hd:∀D ys H2,H D=none→Pv D xs.length ys H2→Q (.ref D) H2):Xsl n fs (Itl K a) g tt te Q H:=by
 intro D hD
 refine⟨fun i m ys H2=>m=xs.length-i∧i≤xs.length∧Pv D i ys H2,⟨_,rfl,Nat.zero_le _,h0 D hD⟩,?_⟩
 rintro i m ys H2 ⟨rfl,hi,p⟩
 have q:=hl D i ys H2 hi p
 by_cases hlt:i<xs.length
 · refine .inr ⟨⟨xs,xs[i],q,by simp [hlt]⟩,fun x H3 y τ hτ=>?_⟩
   obtain⟨e,y⟩:=y
   subst e
   have ex:=y xs q
   exact hs D i x ys _ hD ex p τ hτ
 · have e:i=xs.length:=by omega
   subst e
   exact .inl ⟨⟨xs,q,Nat.le_refl _⟩,hd D ys H2 hD p⟩
end
end Stow
namespace Stow
open PySem L2 PyProof.Rows
section
variable {prog:Program}{w:World}{A:Around}{R:Result→Shared→Prop}{I:Addr}{fp wr:List Addr}{n:Nat}{P:Nat→Value→Prop}{St:Nat→Heap→Prop}
def XIa (prog:Program)(w:World)(A:Around)(Kp:Heap→Prop)(P:Nat→Value→Prop)(bt:Nat→Nat→Bool):Prop :=
 ∀i j x y (t:Shared) (Q:Value→Shared→Prop) (E:Value→Shared→Prop),Kp t.heap→P i x→P j y→Q (.bool (bt i j)) t→wpAny (model prog w) A (richCompare .Lt x y) Q E t
theorem Xts (W:Walks prog w A.in1 I fp wr n P St)(bt:Nat→Nat→Bool)(Kp:Heap→Prop)(cmp:XIa prog w A.in1 Kp P bt)(S:Addr)(sf:S ∉ fp)
   (kpk:∀h h',Kp h→(∀b o,b ∉ wr→b≠S→h.get? b=some o→h'.get? b=some o)→Kp h') :
   ∀(k j:Nat) (t:Shared) (vb:Value) (c:Nat),n-(j+1)=k→j+1≤n→St (j+1) t.heap→Kp t.heap→P (argBest bt j) vb →
   t.heap.get? S=some { cls:=.type "list",dict:=none,data:=.seq #[vb,vb] c,slots:=#[] } →
   (∀v h' tk,P (argBest bt (n-1)) v→(∀b o,b ∉ wr→b≠S→t.heap.get? b=some o→h'.get? b=some o)→R (.ok (.ret v)) { t with heap:=h',toks:=tk }) →
   codeAny (model prog w) A (.builtin "min.loop" ⟨[.ref I,.none,.ref S],[]⟩) R t:=by
 have sw:S ∉ wr:=fun h=>sf (W.sub _ h)
 have nm:(toString "min"++toString ".loop":String)="min.loop":=by decide
 intro k
 induction k with
 | zero =>
   intro j t vb c hk hj st kp pb hS fin
   have en:j+1=n:=by omega
   refine codeAny_builtin F.entry_min_loop ?_
   rw[Around.under_plainId F.plain_min_loop _]
   show wpAny _ A.in1 (seqItems? (.ref S) >>= _) _ _ t
   refine wpAny_bind (wpAny_seqItems hS rfl ?_)
   show wpAny _ A.in1 (tryCatch (pyNext (.ref I)) _ >>= _) _ _ t
   refine wpAny_bind (wpAny_tryCatch (W.done t _ _ (en▸st) fun h' tk kk=>?_))
   have hS1:=kk S _ sw hS
   show wpAny _ A.in1 (updateSeq S (fun _=>#[]) >>= _) _ _ _
   refine wpAny_bind ?_
   refine wpAny_updateSeq hS1 rfl (wpAny_bind (wpAny_letGo (wpAny_pure ?_)))
   exact fin vb _ tk (by rw[←en];exact pb) fun b o bw bS e=>(Heap.get?_update_other _ _ (Ne.symm bS)).trans (kk b o bw e)
 | succ k ih =>
   intro j t vb c hk hj st kp pb hS fin
   have lt:j+1<n:=by omega
   refine codeAny_builtin F.entry_min_loop ?_
   rw[Around.under_plainId F.plain_min_loop _]
   show wpAny _ A.in1 (seqItems? (.ref S) >>= _) _ _ t
   refine wpAny_bind (wpAny_seqItems hS rfl ?_)
   show wpAny _ A.in1 (tryCatch (pyNext (.ref I)) _ >>= _) _ _ t
   refine wpAny_bind (wpAny_tryCatch (W.item (j+1) t _ _ lt st fun v h' tk pv st1 kk=>?_))
   have hS1:=kk S _ sw hS
   have kp1:Kp h':=kpk _ _ kp fun b o bw _ e=>kk b o bw e
   show wpAny _ A.in1 (tryCatch (holding [v,v] (richCompare .Lt v vb >>= _)) _ >>= _) _ _ _
   refine wpAny_bind (wpAny_tryCatch (wpAny_holding (wpAny_bind (cmp (j+1) (argBest bt j) v vb _ _ _ kp1 pv pb ?_))))
   refine wpAny_bind (wpAny_holding (wpAny_truthy_bool ?_))
   refine wpAny_bind (wpAny_letGo (wpAny_pure ?_))
   cases hb:bt (j+1) (argBest bt j) with
   | true =>
     simp only [if_true]
     refine wpAny_bind ?_
     refine wpAny_updateSeq hS1 rfl (wpAny_bind (wpAny_letGo ?_))
     rw[nm]
     refine wpAny_pure ⟨plainId_quiet F.plain_min_loop _,ih (j+1) _ v _ (by omega) lt (W.frame _ _ _ st1 fun b bf o e=>?_) (kpk _ _ kp1 fun b o _ bS e=>(Heap.get?_update_other _ _ (Ne.symm bS)).trans e) (by simp only [argBest,hb,if_true];exact pv) (Heap.get?_update_self _ hS1 rfl)
       fun v' h2 tk2 pv2 kk2=>?_⟩
     · exact(Heap.get?_update_other _ _ (fun z:S=b=>sf (by rw[z];exact bf))).trans e
     · exact fin v' h2 tk2 pv2 fun b o bw bS e=>kk2 b o bw bS ((Heap.get?_update_other _ _ (Ne.symm bS)).trans (kk b o bw e))
   | false =>
     simp only [Bool.false_eq_true,if_false]
     refine wpAny_bind (wpAny_letGo ?_)
     rw[nm]
     refine wpAny_pure ⟨plainId_quiet F.plain_min_loop _,ih (j+1) _ vb c (by omega) lt st1 kp1 (by simp only [argBest,hb,Bool.false_eq_true,if_false];exact pb) hS1 fun v' h2 tk2 pv2 kk2=>?_⟩
     exact fin v' h2 tk2 pv2 fun b o bw bS e=>kk2 b o bw bS (kk b o bw e)
theorem Xst (W:Walks prog w A.in1 I fp wr n P St)(bt:Nat→Nat→Bool)(Kp:Heap→Prop)(cmp:XIa prog w A.in1 Kp P bt)(S:Addr)(sf:S ∉ fp)
   (kpk:∀h h',Kp h→(∀b o,b ∉ wr→b≠S→h.get? b=some o→h'.get? b=some o)→Kp h') (hn:0<n) {t:Shared} {c:Nat} (st:St 0 t.heap) (kp:Kp t.heap)
   (hS:t.heap.get? S=some { cls:=.type "list",dict:=none,data:=.seq #[] c,slots:=#[] })
   (fin:∀v h' tk,P (argBest bt (n-1)) v→(∀b o,b ∉ wr→b≠S→t.heap.get? b=some o→h'.get? b=some o)→R (.ok (.ret v)) { t with heap:=h',toks:=tk }) :
   codeAny (model prog w) A (.builtin "min.loop" ⟨[.ref I,.none,.ref S],[]⟩) R t:=by
 have sw:S ∉ wr:=fun h=>sf (W.sub _ h)
 have nm:(toString "min"++toString ".loop":String)="min.loop":=by decide
 refine codeAny_builtin F.entry_min_loop ?_
 rw[Around.under_plainId F.plain_min_loop _]
 show wpAny _ A.in1 (seqItems? (.ref S) >>= _) _ _ t
 refine wpAny_bind (wpAny_seqItems hS rfl ?_)
 show wpAny _ A.in1 (tryCatch (pyNext (.ref I)) _ >>= _) _ _ t
 refine wpAny_bind (wpAny_tryCatch (W.item 0 t _ _ hn st fun v h' tk pv st1 kk=>?_))
 have hS1:=kk S _ sw hS
 have kp1:Kp h':=kpk _ _ kp fun b o bw _ e=>kk b o bw e
 show wpAny _ A.in1 (updateSeq S (fun _=>#[v,v]) >>= _) _ _ _
 refine wpAny_bind ?_
 refine wpAny_updateSeq hS1 rfl ?_
 rw[nm]
 refine wpAny_pure ⟨plainId_quiet F.plain_min_loop _,Xts W bt Kp cmp S sf kpk _ 0 _ v _ rfl hn (W.frame _ _ _ st1 fun b bf o e=>?_) (kpk _ _ kp1 fun b o _ bS e=>(Heap.get?_update_other _ _ (Ne.symm bS)).trans e) pv (Heap.get?_update_self _ hS1 rfl) fun v' h2 tk2 pv2 kk2=>?_⟩
 · exact(Heap.get?_update_other _ _ (fun z:S=b=>sf (by rw[z];exact bf))).trans e
 · exact fin v' h2 tk2 pv2 fun b o bw bS e=>kk2 b o bw bS ((Heap.get?_update_other _ _ (Ne.symm bS)).trans (kk b o bw e))
end
section
variable {prog:Program}{w:World}{A:Around}{E:Value→Shared→Prop}{s:Shared}
theorem Xpj {x:Value}{Q:Value→Shared→Prop}
   (h:wpAny (model prog w) A.in1 (pyIter x) (fun itv t=>∃I fp wr n P St bt Kp,itv = .ref I∧Walks prog w A.in1 I fp wr n P St∧St 0 t.heap∧Kp t.heap∧(∀b∈fp,b<t.heap.objs.size)∧0<n∧XIa prog w A.in1 Kp P bt ∧
     (∀h h',Kp h→(∀b o,b ∉ wr→b≠t.heap.objs.size→h.get? b=some o→h'.get? b=some o)→Kp h') ∧
     ∀v h' tk,P (argBest bt (n-1)) v→(∀b o,b ∉ wr→t.heap.get? b=some o→h'.get? b=some o)→Q v { t with heap:=h',toks:=tk }) E s) :
   wpAny (model prog w) A (call (.builtin "min") [x]) Q E s:=by
 have nm:(toString "min"++toString ".loop":String)="min.loop":=by decide
 refine call_function_tree F.kind_min F.plain_min F.entry_min (F.args_min1 _) ?_
 show wpAny _ A.in1 (Builtin.Builtins.bindParams "min" ["key","default"] 0 ⟨[],[]⟩ >>= _) _ _ s
 refine wpAny_bind (wpAny_of_eq (show Builtin.Builtins.bindParams "min" ["key","default"] 0 ⟨[],[]⟩=pure [none,none] from rfl) ?_)
 refine wpAny_bind (wpAny_pure ?_)
 refine wpAny_bind (wpAny_mono h (fun itv t ht=>?_) fun _ _ e=>e)
 obtain⟨I,fp,wr,n,P,St,bt,Kp,rfl,W,st,kp,hfp,hn,cmp,kpk,hQ⟩:=ht
 refine wpAny_bind (wpAny_newObj_type ?_)
 have sf:t.heap.objs.size ∉ fp:=fun hm=>Nat.lt_irrefl _ (hfp _ hm)
 rw[nm]
 refine wpAny_pure ⟨plainId_quiet F.plain_min_loop _,Xst W bt Kp cmp t.heap.objs.size sf kpk hn (W.frame _ _ _ st fun b _ o e=>Heap.get?_push_of_some _ e) (kpk _ _ kp fun b o _ _ e=>Heap.get?_push_of_some _ e) (Heap.get?_push_size _ rfl) fun v h' tk pv kk=>?_⟩
 exact hQ v h' tk pv fun b o bw e=>kk b o bw (Nat.ne_of_lt (Heap.lt_size e)) (Heap.get?_push_of_some _ e)
end
def Xdr (xs:List (List Int)):Nat→Nat
 | 0=>0
 | k+1=>if HT.lexLt (xs.getD (k+1) []) (xs.getD (Xdr xs k) []) then k+1 else Xdr xs k
theorem Xjb (xs:List (List Int)):∀k,argBest (fun i j=>HT.lexLt (xs.getD i []) (xs.getD j [])) k=Xdr xs k
 | 0=>rfl
 | k+1=>by
   unfold argBest Xdr
   rw[Xjb xs k]
theorem Xfp (xs:List (List Int)):∀k,Xdr xs k≤k
 | 0=>Nat.le_refl 0
 | k+1=>by
   unfold Xdr
   have:=Xfp xs k
   split <;> omega
section
variable {X:Cx}
theorem Xlt (hc:X.calm=true)(hu:X.A.units+64<cLine):Xgw X (.builtin "min") (fun vs H Q=>∃p us,∃xs:List (List Int),vs=[.ref p]∧H p=some (.lst us)∧Xbp H us (xs.map fun x=>x.map V.int)∧0<xs.length ∧
   ∀t,us[Xdr xs (xs.length-1)]?=some (.ref t)→H t=some (.tup ((xs.getD (Xdr xs (xs.length-1)) []).map V.int))→Q (.ref t) H):=by
 intro pins s σ H vs us' Q I r h
 obtain⟨p,us,xs,rfl,hp,ta,hn,q⟩:=h
 obtain⟨u,rfl,rx⟩:∃u,us'=[u]∧RelV (.ref p) u:=by
   cases r with
   | cons a b=>cases b;exact⟨_,rfl,a⟩
 cases rx
 obtain⟨its,r1,p1,_⟩:=I.list (SqL.of hp)
 have l1:=r1.length
 have l2:=ta.1
 rw[List.length_map] at l2
 have tups:∀i,i<xs.length→∃t its2,its[i]?=some (.ref t)∧us[i]?=some (.ref t)∧H t=some (.tup ((xs.getD i []).map V.int))∧s.heap.IsTuple t (List.toArray its2)∧IntsAre its2 (xs.getD i []):=fun i hi=>by
   obtain⟨t,e1,e2⟩:=ta.2 i ((xs[i]).map V.int) (by simp [hi])
   obtain⟨u1,g1,q1⟩:=r1.get e1
   cases q1
   obtain⟨its2,r2,p2,_⟩:=I.tuple (SqT.of e2)
   have ex:xs.getD i []=xs[i]:=by simp [hi]
   rw[ex]
   exact⟨t,its2,g1,e1,e2,p2,Xoq r2⟩
 have lt:p<s.heap.objs.size:=by obtain⟨_,e,_⟩:=p1.isList;exact Heap.lt_size e
 refine Xpj (wpAny_pyIter_list p1.isList ?_)
 refine⟨s.heap.objs.size,[s.heap.objs.size,p],[s.heap.objs.size],its.toArray.size,fun i v=>its.toArray[i]?=some v,_,fun i j=>HT.lexLt (xs.getD i []) (xs.getD j []),fun (hh:Heap)=>∀(i:Nat) (t:Addr) (its2:List Value),its[i]?=some (Value.ref t)→s.heap.IsTuple t (List.toArray its2)→hh.IsTuple t (List.toArray its2),rfl,Walks.list (A:=X.A.in1) (I.ok.hd hc) _ p (Nat.ne_of_lt lt) its.toArray,
   ⟨⟨_,Heap.get?_push_size _ rfl,rfl,rfl⟩,p1.isList.push _⟩,?_,?_,?_,?_,?_,?_⟩
 · intro i t its2 _ ht
   exact ht.push _
 · intro b hb
   show b<(s.heap.push _).objs.size
   rw[Heap.size_push]
   rcases List.mem_cons.mp hb with z | z
   · rw[z];exact Nat.lt_succ_self _
   · have:b=p:=by simpa using z
     rw[this];exact Nat.lt_succ_of_lt lt
 · rw[List.size_toArray];omega
 · intro i j x y t Q' E' kp pi pj hq
   rw[List.getElem?_toArray] at pi pj
   have hi:i<xs.length:=by have:=(List.getElem?_eq_some_iff.mp pi).1;omega
   have hj:j<xs.length:=by have:=(List.getElem?_eq_some_iff.mp pj).1;omega
   obtain⟨t1,s1,a1,_,_,b1,c1⟩:=tups i hi
   obtain⟨t2,s2,a2,_,_,b2,c2⟩:=tups j hj
   rw[a1] at pi
   rw[a2] at pj
   cases pi
   cases pj
   exact HT.lt_tupInts (kp i t1 s1 a1 b1) (kp j t2 s2 a2 b2) c1 c2 (by show X.A.units+1<cLine;omega) hq
 · intro h h' kp kk i t its2 g ht
   have e0:=kp i t its2 g ht
   obtain⟨o,e,hcl,hd⟩:=ht
   obtain⟨o',e',r'⟩:=e0
   have lt':=Heap.lt_size e
   refine⟨o',kk t o' (fun z=>?_) (Nat.ne_of_lt ?_) e',r'⟩
   · have z':t=s.heap.objs.size:=by simpa using z
     rw[z'] at lt'
     exact Nat.lt_irrefl _ lt'
   · show t<(s.heap.push _).objs.size
     rw[Heap.size_push]
     exact Nat.lt_succ_of_lt lt'
 · intro v h' tk pv kk
   rw[List.size_toArray,←l1,l2,Xjb,List.getElem?_toArray] at pv
   have hm:Xdr xs (xs.length-1)<xs.length:=by have:=Xfp xs (xs.length-1);omega
   obtain⟨t,its2,a1,a2,a3,_,_⟩:=tups _ hm
   rw[a1] at pv
   cases pv
   refine⟨.ref t,H,?_,rfl,q t a2 a3⟩
   refine I.kept (t':=tk) fun b o e=>kk b o (fun z=>?_) (Heap.get?_push_of_some _ e)
   have:=Heap.lt_size e
   have z':b=s.heap.objs.size:=by simpa using z
   rw[z'] at this
   exact Nat.lt_irrefl _ this
end
end Stow
namespace Stow
open PySem L2 PyProof.Rows
structure InsK (K:PySem.W.Frag)(C:Addr):Prop where
 cl:Cls K C
 ha:PySem.W.findIn K (.ref C) "__class__"=some (some (.builtin "object.__class__"))
 hn:PySem.W.specialIn K (.builtin "object.__class__") "__get__"=some (some (.builtin "getset_descriptor.__get__"))
 htk:PySem.W.takesIn K (.builtin "object.__class__")=some true
 hm:PySem.W.mroIn K C (.type "object")=some true
section
variable {X:Cx}
theorem Xcp:Xgw X (.builtin "isinstance") (fun xs H Q=>∃a C dx fs C' b,xs=[.ref a,.ref C']∧H a=some (.ins C dx fs)∧InsK X.K C∧PySem.W.kitOne X.K (.ref C) (.ref C')=some b∧Q (.bl b) H):=by
 intro pins s σ H xs us Q I r h
 obtain⟨a,C,dx,fs,C',b,rfl,ha,Z,e,q⟩:=h
 obtain⟨u,u',rfl,rx,ry⟩:=Xss r
 cases (show u'=Value.ref C' from ry)
 exact Xlz I rx (TyOf.ins ha Z.cl Z.ha Z.hn Z.htk Z.hm) e fun tk=>⟨.bl b,H,I.tok tk,rfl,q⟩
end
section
variable {K:PySem.W.Frag}{σ:L2.St}{H:Hp}{Q:VK}{D:Ends}
theorem r_isiO {a C dx C':Addr}{fs:List (Str×V)}{b:Bool}{P:Bool→Prop}(h:H a=some (.ins C dx fs))(z:InsK K C)(e:PySem.W.kitOne K (.ref C) (.ref C')=some b)(q:P b) :
   ∃a' C1 dx' fs' C2 b',[V.ref a,V.ref C']=[V.ref a',V.ref C2]∧H a'=some (.ins C1 dx' fs')∧InsK K C1∧PySem.W.kitOne K (.ref C1) (.ref C2)=some b'∧P b':=⟨a,C,dx,fs,C',b,rfl,h,z,e,q⟩
theorem r_sat {a C dx:Addr}{fs:List (Str×V)}{f:Str}{R:Addr→Addr→Addr→List (Str×V)→Prop}(h:H a=some (.ins C dx fs))(c:Cls K C)(n:Xca K C f)(l:fs.length<1000)(q:R a C dx fs) :
   ∃a' C' dx' fs',V.ref a=V.ref a'∧H a'=some (.ins C' dx' fs')∧Cls K C'∧Xca K C' f∧fs'.length<1000∧R a' C' dx' fs':=⟨a,C,dx,fs,rfl,h,c,n,l,q⟩
theorem r_make {C:Addr}{sp:Sp}{E:XK}{t:TA}(h:t σ H fun vs H1=>∀x dx,H1 x=none→H1 dx=none→dx≠x→sp (.ref x::vs) (upd (upd H1 dx (.own x)) x (.ins C dx [])) (fun v H2=>v = .non∧Q (.ref x) H2) E):XAb C sp [] E t σ H Q:=by
 unfold XAb
 simp only [List.append_nil]
 exact h
end
section
variable {X:Cx}
theorem XDh (hu:X.A.units+64<cLine):OpR X (compareOp .Eq) (fun x y H Q=>∃a b us ws ps,x = .ref a∧y = .ref b∧H a=some (.lst us)∧H b=some (.lst ws)∧Xbl H us ps∧Xbl H ws ps∧Q (.bl true) H):=by
 intro pins s σ H x y v u Q I rx ry h
 obtain⟨a,b,us,ws,ps,rfl,rfl,ha,hb,pu,pw,q⟩:=h
 cases rx
 cases ry
 obtain⟨its,r1,p1,_⟩:=I.list (SqL.of ha)
 obtain⟨its2,r2,p2,_⟩:=I.list (SqL.of hb)
 have l1:=r1.length
 have l2:=r2.length
 have m1:=pu.1
 have m2:=pw.1
 have key:SeqAt.RcAt X.A s (.ref a) (.ref b) ((List.range its.toArray.size).all (fun _=>true)):=by
   refine SeqAt.RcAt.lists p1.isList p2.isList (by rw[List.size_toArray,List.size_toArray];omega) (by omega) fun j h1 h2=>?_
   rw[List.size_toArray] at h1 h2
   have hj:j<ps.length:=by omega
   obtain⟨t1,e1,f1⟩:=pu.2 j ps[j] (by simp [hj])
   obtain⟨t2,e2,f2⟩:=pw.2 j ps[j] (by simp [hj])
   obtain⟨u1,g1,q1⟩:=r1.get e1
   obtain⟨u2,g2,q2⟩:=r2.get e2
   cases q1
   cases q2
   obtain⟨_,k1⟩:=List.getElem?_eq_some_iff.mp g1
   obtain⟨_,k2⟩:=List.getElem?_eq_some_iff.mp g2
   have z:=Xmn (A:=X.A.in1) (by show X.A.units+1<cLine;omega) I (SqT.of f1) (SqT.of f2) rfl
   rw[←k1,←k2] at z
   simpa using z
 have e:((List.range its.toArray.size).all (fun _=>true))=true:=by simp
 rw[e] at key
 exact key _ _ _ _ ⟨.bl true,H,I,rfl,q⟩
end
def Xba (x:Addr)(H H':Hp):Prop:=∀b o,b≠x→H b=some o→H' b=some o
theorem Xba.refl {x:Addr}{H:Hp}:Xba x H H:=fun _ _ _ h=>h
theorem Xba.of {x:Addr}{H H':Hp}(s:Same H H'):Xba x H H':=fun b o _ h=>s b o h
theorem Xba.trans {x:Addr}{H H' H'':Hp}(s:Xba x H H')(t:Xba x H' H''):Xba x H H'':=fun b o n h=>t b o n (s b o n h)
theorem Xba.put {x:Addr}{H H':Hp}{o:HO}(s:Xba x H H'):Xba x H (upd H' x o):=fun b o' n h=>look_ne n (s b o' n h)
end Stow
set_option Elab.async false
set_option linter.all false
set_option maxRecDepth 100000
set_option maxHeartbeats 4000000
namespace Stow
theorem Xkh (i:Nat):1≤(2:Int)^i:=by
 have:=Int.pow_pos (n:=2) (m:=i) (by decide)
 omega
def Xgn (k:Nat)(c:Int):Prop:=c≤2^k∧∀i,i<k→(2:Int)^i<c
theorem Xec {i j:Nat}(h:i≤j):(2:Int)^i≤2^j:=by
 obtain⟨d,rfl⟩:=Nat.exists_eq_add_of_le h
 rw[Int.pow_add]
 have:=Xkh d
 have:=Int.mul_le_mul_of_nonneg_left this (show 0≤(2:Int)^i by have:=Xkh i;omega)
 omega
theorem Xlj {i j:Nat}(h:(2:Int)^i<2^j):i<j:=by
 rcases Nat.lt_or_ge i j with h1 | h1
 · exact h1
 · have:=Xec h1
   omega
theorem Xgn.uniq {k k':Nat}{c:Int}(h:Xgn k c)(h':Xgn k' c):k=k':=by
 rcases Nat.lt_trichotomy k k' with g | g | g
 · have:=h'.2 k g
   have:=h.1
   omega
 · exact g
 · have:=h.2 k' g
   have:=h'.1
   omega
theorem Xiy {c:Nat}(h:1≤c):Xgn (c.log2+1) ((c:Int)+1):=by
 have h1:=Nat.lt_log2_self (n:=c)
 have h2:=Nat.log2_self_le (n:=c) (by omega)
 refine⟨?_,fun i hi=>?_⟩
 · have:((c+1:Nat):Int)≤((2^(c.log2+1):Nat):Int):=Int.ofNat_le.mpr h1
   rw[Int.natCast_pow] at this
   push_cast at this
   exact this
 · have:(2:Int)^i≤2^c.log2:=Xec (by omega)
   have h3:((2^c.log2:Nat):Int)≤(c:Int):=Int.ofNat_le.mpr h2
   rw[Int.natCast_pow] at h3
   push_cast at h3
   omega
end Stow
namespace Stow
open PySem L2 PyProof.Rows
structure MethD (P:Program)(w:World)(K:PySem.W.Frag)(mg:Str→Option Value)(base:Heap)(C:Addr)(m:Str)(j:Nat)(ps:List Str)(dvs:List V)(sp:Sp):Prop where
 all:Methx P w K mg base C m j ps [] sp
 less:Methx P w K mg base C m j ps dvs sp
theorem MethD.made {P:Program}{w:World}{K:PySem.W.Frag}{mg:Str→Option Value}{base:Heap}{C:Addr}{m:Str}{j:Nat}{ps:List Str}{dvs:List V}{sp:Sp}{f:Addr}{fd:FuncData}{ds:List Value}
   (F:FnOk P w K mg base (CXe P w) j f fd ps sp) (M:Meth K C m f) (b:Xco K fd ps []) (b':Xco K fd ps ds) (v:Vals dvs ds) (c:Cls K C):MethD P w K mg base C m j ps dvs sp :=
 ⟨⟨⟨f,fd,[],F,M,b,.nil⟩,c⟩,⟨⟨f,fd,ds,F,M,b',v⟩,c⟩⟩
theorem FunD.bindsA {K:PySem.W.Frag}{x qual:Str}{st:Stmt}{T:Addr}{f:Addr}{fd:FuncData}{ps:List Str}{ds:List Value}{tc:Value}{td:Option Addr}{tn:Nat}{tsl:Array (Option Value)}(F:FunD K x qual st (.ref T) f fd)
   (lt:K.lookup T=some ⟨tc,td,.seq ds.toArray tn,tsl⟩)
   (h:∀(kV doc pm:Value) (an:Option Addr) (cdv ct:Value) (us:List Value),us.length=ps.length→∃k:Option (Array Value)→Sem (List (Str×Value)),
     bindArgs (PySem.W.fnOf x qual (Xaz st) (Xav st) (Xad st) (.ref T) kV doc pm an cdv ct) ⟨us,[]⟩=seqItems? (.ref T) >>= k∧k (some ds.toArray)=pure (ps.zip us)):Xco K fd ps []:=by
 obtain⟨oc,od,kV,doc,pm,an,cdv,ct,osl,rfl,lk,hcd⟩:=F.ex
 intro s us X hl
 rw[List.append_nil] at hl ⊢
 obtain⟨k,h1,h2⟩:=h kV doc pm an cdv ct us hl
 exact .of_defaults rfl (X _ _ lt) rfl h1 h2
abbrev TXS:=Ends→XK→L2.St→Hp→Prop
def PXS (X:Cx)(ss:List Stmt)(t:TXS):Prop:=∀(pins:List (Addr×Obj)) (s:Shared) (σ:L2.St) (H:Hp) (D:Ends) (EX:XK) (Qp:Flow→Shared→Prop) (W:Value→Shared→Prop),Inv X pins σ H s→t D EX σ H→(∀f s',SP X pins D f s'→Qp f s') →
 (∀H1 s1 y s',Inv X pins σ H1 s1→CXe X.prog X.w X.stack H1 s1 EX y s'→W y s')→wpAny (model X.prog X.w) X.A (execs ss X.env) Qp W s
def xSet (i:Nat)(t:TX):TXS:=fun D EX σ H=>t σ H (fun v H2=>D.nx (σ.set i (some v)) H2) EX
def xIf (c:TT)(t u:TXS):TXS:=fun D EX σ H=>c σ H fun b H1=>if b=true then t D EX σ H1 else u D EX σ H1
def XMq (t:TXS)(th:TH):TS:=fun D σ H=>t D (fun c od H2=>∃C,c = .ref C∧∀x,H2 x=none→th x C D σ (upd H2 x (ExcO x C od))) σ H
section
variable {X:Cx}{e c:Expr}{t:TX}{tc:TT}{ta tb ts:TXS}{a b ss:List Stmt}{pos epos:Pos}{hs:List ExceptHandler}{th:TH}
theorem Xsh {i:Nat}{y:Str}{py:Pos}(hN:X.N.Nodup)(hi:X.N[i]?=some y)(hy:Loc X.env.scope y)(he:PX X e t)(hsw:swapsWith e (some (.Name y py)) epos.line X.env=pure false:=by rfl)
   (hf:X.fn y=true∨X.env.scope.names.lookup y=some .local:=by first | exact .inl rfl | exact .inr rfl | assumption):PXS X [.Assign [.Name y py] e epos] (xSet i t):=by
 intro pins s σ H D EX Qp W I h hv hx
 exact wpAny_execs_cons (wpAny_Assign_Name (he pins s σ H _ _ _ _ I h (fun u s' ⟨v,H2,I2,r2,q2⟩=>Xgd I2 hN hi hy r2 (fun s3 I3=>wpAny_execs_nil (hv .next s3 ⟨_,H2,I3,q2⟩)) hf) hx) hsw)
theorem XTg (hc:PT X.nox c tc)(ha:PXS X a ta)(hb:PXS X b tb):PXS X [.If c a b pos] (xIf tc ta tb):=by
 intro pins s σ H D EX Qp W I h hv hx
 refine wpAny_execs_cons (wpAny_If (wpAny_mono (hc pins s σ H _ (I.wish _) h) (fun d s1 ⟨H1,I1',q1⟩=>?_) (fun _ _ z=>z.elim)))
 have I1:=I1'.unwish
 have hv':∀f s',SP X pins D f s'→(match f with | .next=>wpAny (model X.prog X.w) X.A (execs [] X.env) Qp W s' | f=>Qp f s'):=fun f s' z=>by
   cases f with
   | next=>exact wpAny_execs_nil (hv .next s' z)
   | brk=>exact hv .brk s' z
   | cont=>exact hv .cont s' z
   | ret u=>exact hv (.ret u) s' z
 cases d with
 | true=>exact ha pins s1 σ H1 D EX _ W I1 q1 hv' hx
 | false=>exact hb pins s1 σ H1 D EX _ W I1 q1 hv' hx
theorem XFa {h₀:ExceptHandler}(he:PXS X ss ts)(hst:X.stack=X.env::X.outer∧X.env.frame=some X.env.locals)(hh:PH X (h₀::hs) th):PS X (.Try ss (h₀::hs) [] [] pos) (XMq ts th):=by
 intro pins s σ H D I h
 refine wpAny_Try_except (he pins s σ H D _ _ _ I h (fun f s' z=>?_) (fun H1 s1 y s' I1 hq=>?_))
 · cases f with
   | next=>exact wpAny_execs_nil z
   | brk=>exact z
   | cont=>exact z
   | ret u=>exact z
 · refine Xqx I1 hst hq fun x C od T h2 H2 ex ⟨C',ec,q⟩ t2 J2 again=>?_
   subst ex
   cases ec
   exact hh pins _ σ _ D x C T od I.ok J2 t2 (fun h3 u3 t3=>(again h3 u3 t3).2) (q x (again h2 (Upto.refl _ _ _) t2).1)
end
section
variable {K:PySem.W.Frag}{σ:L2.St}{H:Hp}{Q:VK}{D:Ends}{EX:XK}
theorem r_tryS {t:TXS}{th:TH}(h:t D (fun c od H2=>∃C,c = .ref C∧∀x,H2 x=none→th x C D σ (upd H2 x (ExcO x C od))) σ H):XMq t th D σ H:=h
theorem r_xSet {i:Nat}{t:TX}(h:t σ H (fun v H2=>D.nx (σ.set i (some v)) H2) EX):xSet i t D EX σ H:=h
theorem r_xIf {c:TT}{t u:TXS}(h:c σ H fun b H1=>if b=true then t D EX σ H1 else u D EX σ H1):xIf c t u D EX σ H:=h
end
end Stow
set_option Elab.async false
set_option linter.all false
set_option maxRecDepth 100000
set_option maxHeartbeats 4000000
namespace Stow
def Xbs (s:Int)(j m:Nat):List Pc:=(List.range' j m).map fun i:Nat=>⟨s*(i:Int),s,false⟩
theorem Xeb (s:Int)(j m:Nat):Xbs s j (m+1)=⟨s*(j:Int),s,false⟩::Xbs s (j+1) m:=by
 unfold Xbs
 rw[List.range'_succ,List.map_cons]
theorem Xka (s:Int)(j m:Nat):Xbs s j (m+1)=Xbs s j m++[⟨s*((j+m:Nat):Int),s,false⟩]:=by
 unfold Xbs
 rw[List.range'_concat,List.map_append,Nat.one_mul]
 rfl
theorem Xdq {s:Int}(hs:1≤s):∀(m j:Nat),Xas (s*(j:Int)) (Xbs s j m) (s*((j+m:Nat):Int))
 | 0,j=>rfl
 | m+1,j=>by
   rw[Xeb]
   refine⟨rfl,hs,(fun z=>by cases z),?_⟩
   have h:=Xdq hs m (j+1)
   rw[show j+1+m=j+(m+1) by omega] at h
   show Xas (s*(j:Int)+s) _ _
   rw[show s*(j:Int)+s=s*((j+1:Nat):Int) by rw[Int.natCast_add,Int.mul_add];omega]
   exact h
theorem Xau.app {cs ds:List Int}{ps qs:List Pc}(h0:Xds ps cs.length)(m:Xau cs ps)(h1:Xfi qs 0)(k:Xau ds qs) :
   Xau (cs++ds) (ps++qs.map fun q=>⟨q.a+cs.length,q.l,q.v⟩):=by
 intro p hp
 rcases List.mem_append.mp hp with h | h
 · obtain⟨a0,a1,a2⟩:=h0 p h
   obtain⟨m1,m2⟩:=m p h
   exact⟨by rw[List.getElem?_append_left (by omega)];exact m1,by rw[List.getElem?_append_left (by omega)];exact m2⟩
 · obtain⟨q,hq,rfl⟩:=List.mem_map.mp h
   obtain⟨b0,b1⟩:=h1 q hq
   obtain⟨m1,m2⟩:=k q hq
   constructor
   · show (cs++ds)[(q.a+cs.length).toNat]?=some (mkOf q.l q.v)
     rw[List.getElem?_append_right (by omega),show (q.a+cs.length).toNat-cs.length=q.a.toNat by omega]
     exact m1
   · show (cs++ds)[(q.a+cs.length+q.l-1).toNat]?=some (mkOf q.l q.v)
     rw[List.getElem?_append_right (by omega),show (q.a+cs.length+q.l-1).toNat-cs.length=(q.a+q.l-1).toNat by omega]
     exact m2
theorem Xga {one:List Int}{s:Int}(hs:1≤s)(hl:(one.length:Int)=s)(m1:Xau one [⟨0,s,false⟩]):∀(m:Nat),Xau ((List.replicate m one).flatten) (Xbs s 0 m)∧(((List.replicate m one).flatten).length:Int)=s*(m:Int)
 | 0=>⟨Xau.nil _,by simp⟩
 | m+1=>by
   obtain⟨h1,h2⟩:=Xga hs hl m1 m
   have e:(List.replicate (m+1) one).flatten=(List.replicate m one).flatten++one:=by
     rw[List.replicate_succ',List.flatten_append]
     simp
   rw[e]
   constructor
   · rw[Xka]
     have ch:=(Xdq hs m 0).endBy (show (0:Int)≤s*((0:Nat):Int) by simp)
     rw[Nat.zero_add] at ch
     have:=Xau.app (ps:=Xbs s 0 m) (qs:=[⟨0,s,false⟩]) (by rw[h2];exact ch) h1 (fun p hp=>by
       have:p=⟨0,s,false⟩:=by simpa using hp
       subst this
       exact⟨Int.le_refl _,hs⟩) m1
     rw[h2] at this
     simpa using this
   · rw[List.length_append,Int.natCast_add,h2,hl,Int.natCast_add,Int.mul_add]
     omega
end Stow
namespace Stow
open PySem L2 PyProof.Rows
section
variable {X:Cx}
theorem Xls {scope:Scope}{y y' y'':Str}{k k' k'':Nat}(h1:X.N[k]?=some y)(h1':X.N[k']?=some y')(h1'':X.N[k'']?=some y'')(h2:X.env.kindOf y=some .cell)(h2':X.env.kindOf y'=some .cell)(h2'':X.env.kindOf y''=some .cell)
   (h3:(relabel scope X.env).names.lookup y=some .cell) (h3':(relabel scope X.env).names.lookup y'=some .cell) (h3'':(relabel scope X.env).names.lookup y''=some .cell):Xhj X scope [y,y',y''] [k,k',k'']:=⟨rfl,fun j z i e1 e2=>by
 match j with
 | 0 =>
   have g1:y=z:=by simpa using e1
   have g2:k=i:=by simpa using e2
   subst g1 g2
   exact⟨h1,h2,h3⟩
 | 1 =>
   have g1:y'=z:=by simpa using e1
   have g2:k'=i:=by simpa using e2
   subst g1 g2
   exact⟨h1',h2',h3'⟩
 | 2 =>
   have g1:y''=z:=by simpa using e1
   have g2:k''=i:=by simpa using e2
   subst g1 g2
   exact⟨h1'',h2'',h3''⟩
 | j+3=>simp at e1⟩
theorem Xor {scope:Scope}{n m o:Str}(h:∀y∈scope.names,y.2 = .free→y.1=n∨y.1=m∨y.1=o)(k:X.env.kindOf n=some .cell)(k':X.env.kindOf m=some .cell)(k'':X.env.kindOf o=some .cell):∀y∈scope.names,y.2 = .free→X.env.kindOf y.1=some .cell:=fun y hy hf=>by
 rcases h y hy hf with e | e | e
 · rw[e];exact k
 · rw[e];exact k'
 · rw[e];exact k''
end
def Its (lo c:Int)(n:Nat):It:=⟨fun i _=>i<n,fun i H x H'=>H'=H∧x = .int (lo+i*c),fun i _=>n≤i⟩
theorem Xua {P:Program}{w:World}{K:PySem.W.Frag}{tg:Expr}(it:Addr)(lo c:Int)(n:Nat):Turn P w K tg (Its lo c n) [it] it (fun i h=>IsRangeIter h it (lo+(i:Nat)*c) ((n:Int)-(i:Nat)) c) where
 mem:=by simp
 obj:=fun i h st b hb=>by
   have e:b=it:=by simpa using hb
   subst e
   exact⟨_,st,fun v z=>by
     have z':Data.fields _=Data.cell v:=z
     cases z'⟩
 keep:=fun i h h' st k=>k it (by simp) _ st
 item:=by
   intro X hP hw hK hc i pins s σ H E I hf st hg
   subst hP hw hK
   obtain⟨f0,f1,f2,f3,f4,f5⟩:=hf it (by simp)
   have W:=Walks.range (prog:=X.prog) (w:=X.w) (I.ok.hd hc) it lo c n
   refine W.item i s _ _ hg st fun v h' tk hv st' kk=>?_
   obtain⟨t,rfl⟩:=hv
   have I1:Inv X pins σ H { s with heap:=h',toks:=tk }:=I.turned (fun b o hb e=>kk b o (by simpa using hb) e) f0 f1 f3 f4 f5
   exact⟨_,rfl,XGu (s:={ s with heap:=h',toks:=tk }) (n:="range_iterator") st' rfl rfl (by decide) ⟨.int (lo+i*c),H,I1,⟨t,rfl⟩,⟨rfl,rfl⟩,st',fun b hb=>(hf b hb).1⟩⟩
 done:=by
   intro X hP hw hK hc i pins s σ H E I hf st hg
   subst hP hw hK
   obtain⟨f0,f1,f2,f3,f4,f5⟩:=hf it (by simp)
   exact wpAny_pyNext_range_end (I.ok.hd hc) st (by have:n≤i:=hg;omega) fun h' eb=>⟨rfl,I.turned (t':=s.toks) (fun b o hb e=>eb b o hb e) f0 f1 f3 f4 f5⟩
 self:=fun _ _ _ _ _ st h=>wpAny_pyIter_rangeiter st h
section
variable {X:Cx}{tg:Expr}
theorem Xol {i j c:Int}(h0:0≤i)(hj:0≤j)(hj':j≤4000)(hc:1≤c):0≤Builtin.Range.rangeSize i j c∧Builtin.Range.rangeSize i j c≤4000∧(i<j→i+(Builtin.Range.rangeSize i j c-1)*c<j):=by
 unfold Builtin.Range.rangeSize
 rw[if_pos (by omega)]
 split
 · rename_i h
   have h1:0≤(j-i-1)/c:=Int.ediv_nonneg (by omega) (by omega)
   have h2:(j-i-1)/c*c≤j-i-1:=Int.ediv_mul_le _ (by omega)
   have h3:(j-i-1)/c≤(j-i-1)/c*c:=by
     have:=Int.mul_le_mul_of_nonneg_left hc h1
     omega
   refine⟨by omega,by omega,fun _=>?_⟩
   rw[show (j-i-1)/c+1-1=(j-i-1)/c by omega]
   omega
 · rename_i h
   exact⟨by omega,by omega,fun z=>absurd z h⟩
def XOw (ta:TA):TI:=fun σ H R=>ta σ H fun vs H1=>∃i j c:Int,vs=[.int i,.int j,.int c]∧(0≤i∧i≤4000∧0≤j∧j≤4000∧1≤c∧c≤4000)∧R (Its i c (Builtin.Range.rangeSize i j c).toNat) H1
theorem XGe {pins:List (Addr×Obj)}{σ:L2.St}{H:Hp}{s:Shared}{R:It→Hp→Prop}{E:Value→Shared→Prop}{lo hi c:Int}{t u v:Tok}{tk:Nat}(I:Inv X pins σ H s)(h1:0≤lo)(h2:lo≤4000)(h3:0≤hi)(h4:hi≤4000)(h5:1≤c)(h6:c≤4000)
   (q:R (Its lo c (Builtin.Range.rangeSize lo hi c).toNat) H):wpAny (model X.prog X.w) X.A (pyIter (.ref s.heap.objs.size)) (PIE X pins σ tg R) E { s with heap:=s.heap.push { cls:=.type "range",data:=.fields #[.int lo t,.int hi u,.int c v] },toks:=tk }:=by
 obtain⟨b1,b2,b3⟩:=Xol h1 h3 h4 h5
 have sm:Builtin.Range.small lo hi c=true:=by
   unfold Builtin.Range.small
   simp only [Builtin.Range.rangeFitsLong,Bool.and_eq_true,Bool.or_eq_true,decide_eq_true_eq,beq_iff_eq]
   generalize Builtin.Range.rangeSize lo hi c=n at b1 b2 b3
   rw[if_pos (show c>0 by omega)]
   simp only [Bool.and_eq_true,decide_eq_true_eq]
   omega
 refine wpAny_pyIter_range (IsRange.new ..) sm ?_
 have I1:Inv X pins σ H { s with heap:=s.heap.push { cls:=.type "range",data:=.fields #[.int lo t,.int hi u,.int c v] },toks:=tk }:=I.kept fun b o e=>Heap.get?_push_of_some _ e
 refine⟨(s.heap.push { cls:=.type "range",data:=.fields #[.int lo t,.int hi u,.int c v] }).objs.size,[(s.heap.push { cls:=.type "range",data:=.fields #[.int lo t,.int hi u,.int c v] }).objs.size],_,_,H,rfl,
   I1.kept (t':=tk) fun b o e=>Heap.get?_push_of_some _ e,Xua _ lo c (Builtin.Range.rangeSize lo hi c).toNat,?_,fun b hb=>?_,q⟩
 · have e1:lo+((0:Nat):Int)*c=lo:=by simp
   have e2:(((Builtin.Range.rangeSize lo hi c).toNat:Nat):Int)-((0:Nat):Int)=Builtin.Range.rangeSize lo hi c:=by omega
   show IsRangeIter _ _ (lo+((0:Nat):Int)*c) ((((Builtin.Range.rangeSize lo hi c).toNat:Nat):Int)-((0:Nat):Int)) c
   rw[e1,e2]
   exact Heap.get?_push_size _ rfl
 · have e:b=(s.heap.push { cls:=.type "range",data:=.fields #[.int lo t,.int hi u,.int c v] }).objs.size:=by simpa using hb
   subst e
   exact I1.fpOk (Nat.le_refl _) (I1.hok.fresh (Nat.le_refl _))
theorem Xlo {a b c:Expr}{ta:TA}{p pos:Pos}(hg:Gl X "range")(hm:X.mg "range"=none)(ha:PA X [a,b,c] ta)(hs:starEach [a,b,c] X.env=[(false,eval a X.env),(false,eval b X.env),(false,eval c X.env)]:=by rfl)
   (hs2:starEach [b,c] X.env=[(false,eval b X.env),(false,eval c X.env)]:=by rfl):PI X tg (.Call (.Name "range" p) [a,b,c] [] pos) (XOw ta):=by
 intro pins s σ H R I h
 refine Call_ (Xly I hg hm PyProof.Rows.boot_range (PyProof.Rows.callWith_type1 (thn (ha pos pins s σ H _ I h) fun us s1 ⟨vs,H1,I1,r1,q1⟩=>?_) (by rw[hs,hs2]) (by rw[hs2];rfl)))
 obtain⟨i,j,c,e,⟨q1,q2,q3,q4,q5,q6⟩,q⟩:=q1
 subst e
 cases r1 with
 | cons r rr =>
   cases rr with
   | cons r' rr =>
     cases rr with
     | cons r'' rr =>
       cases rr
       obtain⟨t,rfl⟩:=r
       obtain⟨t',rfl⟩:=r'
       obtain⟨t'',rfl⟩:=r''
       exact call_range_3 (by omega) (XGe I1 q1 q2 q3 q4 q5 q6 q) (Or.inl (PyProof.noPylong_small (by omega)))
end
theorem Xnl {lo c:Int}{n:Nat}{g:TG}{tb:TS}{D:Ends}{σ:L2.St}{H:Hp}(Pv:Nat→L2.St→Hp→Prop)(h0:Pv 0 σ H)
   (hs:∀i σ H,i<n→Pv i σ H→g (.int (lo+i*c)) σ H fun σ2 H2=>tb { D with nx:=Pv (i+1),ct:=Pv (i+1),bk:=D.nx } σ2 H2) (hd:∀σ H,Pv n σ H→D.nx σ H) :
   ∃W:Nat→Nat→L2.St→Hp→Prop,(∃m,W 0 m σ H)∧∀i m σ H,W i m σ H →
     ((Its lo c n).stop i H∧D.nx σ H)∨((Its lo c n).go i H∧∃N:L2.St→Hp→Prop,(∀σ' H',N σ' H'→∃m',m'<m∧W (i+1) m' σ' H')∧∀x H',(Its lo c n).yld i H x H'→g x σ H' fun σ2 H2=>tb { D with nx:=N,ct:=N,bk:=D.nx } σ2 H2):=by
 refine⟨fun i m σ H=>m=n-i∧i≤n∧Pv i σ H,⟨n,by simp,Nat.zero_le _,h0⟩,?_⟩
 rintro i m σ H ⟨rfl,hi,p⟩
 by_cases hlt:i<n
 · refine .inr ⟨hlt,Pv (i+1),fun σ' H' p'=>⟨n-(i+1),by omega,rfl,hlt,p'⟩,fun x H' y=>?_⟩
   obtain⟨e,y⟩:=y
   subst e y
   exact hs i σ _ hlt p
 · have e:i=n:=by omega
   subst e
   exact .inl ⟨Nat.le_refl _,hd σ H p⟩
theorem XQz {ta:TA}{σ:L2.St}{H:Hp}{R:It→Hp→Prop}(h:ta σ H fun vs H1=>∃i j c:Int,vs=[.int i,.int j,.int c]∧(0≤i∧i≤4000∧0≤j∧j≤4000∧1≤c∧c≤4000)∧R (Its i c (Builtin.Range.rangeSize i j c).toNat) H1):XOw ta σ H R:=h
theorem Xhl {H:Hp}{Q:VK}{lo:Int}{n k:Nat}{fs:L2.St}{g:TG}{tt:TT}{te:TE}(Pv:Addr→Nat→List V→Hp→Prop)(h0:∀D,H D=none→Pv D 0 [] (upd H D (.lst [])))
   (hs:∀D i ys H2,H D=none→i<n→Pv D i ys H2→∀τ:L2.St,τ.length=k→g (.int (lo+i)) (τ++fs) H2 fun σ1 H4=>(∃τ':L2.St,τ'.length=k∧σ1=τ'++fs)∧tt σ1 H4 fun b H5 =>
     if b=true then te σ1 H5 fun y H6=>H6 D=some (.lst ys)∧ys.length<sizeLine∧Nx n Pv D i (ys++[y]) (upd H6 D (.lst (ys++[y]))) else Nx n Pv D i ys H5)
   (hd:∀D ys H2,H D=none→Pv D n ys H2→Q (.ref D) H2):Xsl k fs (Itr lo n) g tt te Q H:=by
 intro D hD
 refine⟨fun i m ys H2=>m=n-i∧i≤n∧Pv D i ys H2,⟨_,rfl,Nat.zero_le _,h0 D hD⟩,?_⟩
 rintro i m ys H2 ⟨rfl,hi,p⟩
 by_cases hlt:i<n
 · refine .inr ⟨hlt,fun x H3 y τ hτ=>?_⟩
   obtain⟨e,y⟩:=y
   subst e y
   exact hs D i ys _ hD hlt p τ hτ
 · have e:i=n:=by omega
   subst e
   exact .inl ⟨Nat.le_refl _,hd D ys H2 hD p⟩
end Stow
set_option Elab.async false
set_option linter.all false
set_option maxRecDepth 100000
set_option maxHeartbeats 4000000
namespace Stow
open PySem L2 PyProof.Rows
def sumI (ns:List Int):Int:=ns.foldl (·+·) 0
section
variable {prog:Program}{w:World}{A:Around}{R:Result→Shared→Prop}{I:Addr}{fp wr:List Addr}{n:Nat}{P:Nat→Value→Prop}{St:Nat→Heap→Prop}{kw:List (Str×Value)}
end
section
variable {prog:Program}{w:World}{A:Around}{E:Value→Shared→Prop}{s:Shared}
end
section
variable {X:Cx}
end
end Stow
namespace Stow
open PySem L2 PyProof.Rows
section
variable {K:PySem.W.Frag}{σ:L2.St}{H:Hp}{Q:VK}
theorem XEa {us:List V}{ps:List Pc}(h:Xbl H us ps){i:Nat}{v:V}(hv:us[i]?=some v):∃t z,v = .ref t∧ps[i]?=some z∧H t=some (.tup [.int z.a,.int z.l,.bl z.v]):=by
 have hi:i<ps.length:=by rw[←h.1];exact(List.getElem?_eq_some_iff.mp hv).1
 obtain⟨t,e1,e2⟩:=h.2 i ps[i] (by simp [hi])
 exact⟨t,ps[i],Option.some.inj (hv.symm.trans e1),by simp [hi],e2⟩
end
def Xoy (H:Hp)(v:V)(o:Option (List Int)):Prop:=match o with
 | none=>v = .non
 | some x=>∃t,v = .ref t∧H t=some (.tup (x.map V.int))
theorem Xoy.same {H H':Hp}{v:V}{o:Option (List Int)}(h:Xoy H v o)(s:Same H H'):Xoy H' v o:=by
 cases o with
 | none=>exact h
 | some x=>obtain⟨t,e1,e2⟩:=h;exact⟨t,e1,s t _ e2⟩
theorem Xoy.mono {H H':Hp}{v:V}{o:Option (List Int)}(h:Xoy H v o)(k:∀b xs,H b=some (.tup xs)→H' b=some (.tup xs)):Xoy H' v o:=by
 cases o with
 | none=>exact h
 | some x=>obtain⟨t,e1,e2⟩:=h;exact⟨t,e1,k t _ e2⟩
end Stow
namespace Stow
open PySem L2 PyProof.Rows
theorem Xba.new {x t:Addr}{H H':Hp}{o:HO}(s:Xba x H H')(ht:H' t=none):Xba x H (upd H' t o):=fun b o' n h=>look_put ht (s b o' n h)
theorem Xba.tups {x:Addr}{H H':Hp}{l us:List V}{xs:List (List V)}(s:Xba x H H')(hx:H x=some (.lst l))(h:Xbp H us xs):Xbp H' us xs:=h.mono fun b ys e=>s b _ (fun z=>by rw[z,hx] at e;cases e) e
end Stow
set_option Elab.async false
set_option linter.all false
set_option maxRecDepth 100000
set_option maxHeartbeats 4000000
namespace Stow
open PySem L2 PyProof.Rows
end Stow
namespace Stow
open PySem L2 PyProof.Rows
theorem Xgi.app {X Y:List Pc}(hX:Xgi X)(hY:Xgi Y)(hj:∀x y,X.getLast?=some x→Y[0]?=some y→x.v=true∨y.v=true):Xgi (X++Y):=fun j y z h1 h2=>by
 by_cases e1:j+1<X.length
 · rw[List.getElem?_append_left (by omega)] at h1
   rw[List.getElem?_append_left e1] at h2
   exact hX j y z h1 h2
 · by_cases e2:j+1=X.length
   · rw[List.getElem?_append_left (by omega)] at h1
     rw[List.getElem?_append_right (by omega),show j+1-X.length=0 by omega] at h2
     refine hj y z ?_ h2
     rw[List.getLast?_eq_getElem?,show X.length-1=j by omega]
     exact h1
   · rw[List.getElem?_append_right (by omega)] at h1 h2
     rw[show j+1-X.length=(j-X.length)+1 by omega] at h2
     exact hY _ y z h1 h2
theorem Xgi.left {X Y:List Pc}(h:Xgi (X++Y)):Xgi X:=fun j y z h1 h2=>by
 have l1:=(List.getElem?_eq_some_iff.mp h1).1
 have l2:=(List.getElem?_eq_some_iff.mp h2).1
 exact h j y z (by rw[List.getElem?_append_left l1];exact h1) (by rw[List.getElem?_append_left l2];exact h2)
theorem Xgi.right {X Y:List Pc}(h:Xgi (X++Y)):Xgi Y:=fun j y z h1 h2=>h (X.length+j) y z (by rw[List.getElem?_append_right (by omega),show X.length+j-X.length=j by omega];exact h1) (by rw[List.getElem?_append_right (by omega),show X.length+j+1-X.length=j+1 by omega];exact h2)
theorem Xgg:∀{A B:List Pc} {s e:Int},Xas s (A++B) e→∃m,Xas s A m∧Xas m B e
 | [],B,s,e,c=>⟨s,rfl,c⟩
 | z::r,B,s,e,c=>by
   obtain⟨h1,h2,h3,h4⟩:=c
   obtain⟨m,g1,g2⟩:=Xgg h4
   exact⟨m,⟨h1,h2,h3,g1⟩,g2⟩
end Stow
set_option Elab.async false
set_option linter.all false
set_option maxRecDepth 100000
set_option maxHeartbeats 4000000
namespace Stow
open PySem L2 PyProof.Rows
theorem Xpe {ps:List Pc}{s e p:Int}{y z:Pc}(c:Xas s ps e)(hy:y∈ps)(hz:z∈ps)(h1:y.a≤p)(h2:p<y.a+y.l)(h3:z.a≤p)(h4:p<z.a+z.l):y=z:=by
 obtain⟨i,hi⟩:=List.getElem?_of_mem hy
 obtain⟨j,hj⟩:=List.getElem?_of_mem hz
 rcases Nat.lt_trichotomy i j with g | g | g
 · exfalso
   obtain⟨ds,rs,e1,e2,c1,c2⟩:=Xcw c hj
   subst e1 e2
   rw[List.getElem?_append_left (by omega)] at hi
   have:=(c1.mem y (List.mem_of_getElem? hi)).2.2.2
   omega
 · subst g
   exact Option.some.inj (hi.symm.trans hj)
 · exfalso
   obtain⟨ds,rs,e1,e2,c1,c2⟩:=Xcw c hi
   subst e1 e2
   rw[List.getElem?_append_left (by omega)] at hj
   have:=(c1.mem z (List.mem_of_getElem? hj)).2.2.2
   omega
section
variable {X:Cx}{e:Expr}{t:TX}{epos:Pos}
end
end Stow
set_option Elab.async false
set_option linter.all false
set_option maxRecDepth 100000
set_option maxHeartbeats 4000000
namespace Stow
open PySem L2 PyProof.Rows
section
variable {X:Cx}{pins:List (Addr×Obj)}{σ:L2.St}{H:Hp}{s:Shared}{d:Addr}{kvs:List (Key×V)}{o:Obj}
end
section
variable {X:Cx}{tg:Expr}
end
section
variable {K:PySem.W.Frag}{σ:L2.St}{H:Hp}{Q:VK}{D:Ends}
end
end Stow
namespace Stow
open PySem L2 PyProof.Rows
inductive W7
 | first | best | next | likes | half | shel | row
def cF (C1 C2 C3 C4 C5 C6 C7:Addr):W7→Addr
 | .first=>C1
 | .best=>C2
 | .next=>C3
 | .likes=>C4
 | .half=>C5
 | .shel=>C6
 | .row=>C7
def fsF:W7→Addr→Int→List (Str×V)
 | .next,a,r=>[("room_cells",.ref a),("room_rover",.int r)]
 | .shel,a,r=>[("room_cells",.ref a),("shelf",.int r)]
 | .first,a,_=>[("room_cells",.ref a)]
 | .best,a,_=>[("room_cells",.ref a)]
 | .likes,a,_=>[("room_cells",.ref a)]
 | .half,a,_=>[("room_cells",.ref a)]
 | .row,a,_=>[("room_cells",.ref a)]
theorem fsF_cells {i:W7}{a:Addr}{r:Int}:(fsF i a r).lookup ("room_cells":Str)=some (.ref a):=by cases i <;> rfl
theorem fsF_few {i:W7}{a:Addr}{r:Int}:(fsF i a r).length<1000:=by cases i <;> (simp only [fsF,List.length_cons,List.length_nil];omega)
theorem fsF_none {i:W7}{a:Addr}{r:Int}{m:Str}(h1:(m==("room_cells":Str))=false)(h2:(m==("shelf":Str))=false)(h3:(m==("room_rover":Str))=false):(fsF i a r).lookup m=none:=by
 cases i <;> simp only [fsF,List.lookup,h1,h2,h3]
theorem Xog {i:W7}{a b:Addr}{r:Int}:putF ("room_cells":Str) (.ref b) (fsF i a r)=fsF i b r:=by cases i <;> rfl
theorem Xtm {C1 C2 C3 C4 C5 C6 C7:Addr}{Q:Addr→Prop}(h1:Q C1)(h2:Q C2)(h3:Q C3)(h4:Q C4)(h5:Q C5)(h6:Q C6)(h7:Q C7):∀i,Q (cF C1 C2 C3 C4 C5 C6 C7 i):=fun i=>by
 cases i
 · exact h1
 · exact h2
 · exact h3
 · exact h4
 · exact h5
 · exact h6
 · exact h7
def Xcy (P:Program)(w:World)(K:PySem.W.Frag)(mg:Str→Option Value)(base:Heap)(ok:W7→Prop)(C:W7→Addr)(m:Str)(j:Nat)(ps:List Str)(dvs:List V)(sp:W7→Sp):Prop:=∀i,ok i→Methx P w K mg base (C i) m j ps dvs (sp i)
def Xei (P:Program)(w:World)(K:PySem.W.Frag)(mg:Str→Option Value)(base:Heap)(C:W7→Addr)(m:Str)(j:Nat)(ps:List Str)(dvs:List V)(sp:W7→Sp):Prop:=∀i,Methx P w K mg base (C i) m j ps dvs (sp i)
structure MethFD (P:Program)(w:World)(K:PySem.W.Frag)(mg:Str→Option Value)(base:Heap)(C:W7→Addr)(m:Str)(j:Nat)(ps:List Str)(dvs:List V)(sp:W7→Sp):Prop where
 all:Xei P w K mg base C m j ps [] sp
 less:Xei P w K mg base C m j ps dvs sp
section
variable {P:Program}{w:World}{K:PySem.W.Frag}{mg:Str→Option Value}{base:Heap}{C:W7→Addr}{m:Str}{j k:Nat}{ps:List Str}{dvs:List V}{sp:W7→Sp}{ok ok':W7→Prop}{f:Addr}{fd:FuncData}{ds:List Value}
theorem Xcy.made (F:FnOk P w K mg base (CXe P w) j f fd ps (fun vs H Q E=>∃i,ok i∧sp i vs H Q E))(M:∀i,ok i→Meth K (C i) m f)(b:Xco K fd ps [])(c:∀i,Cls K (C i)):Xcy P w K mg base ok C m j ps [] sp :=
 fun i hi=>⟨⟨f,fd,[],F.imp fun _ _ _ _ h=>⟨i,hi,h⟩,M i hi,b,.nil⟩,c i⟩
theorem Xei.made (F:FnOk P w K mg base (CXe P w) j f fd ps (fun vs H Q E=>∃i,sp i vs H Q E))(M:∀i,Meth K (C i) m f)(b:Xco K fd ps [])(c:∀i,Cls K (C i)):Xei P w K mg base C m j ps [] sp :=
 fun i=>⟨⟨f,fd,[],F.imp fun _ _ _ _ h=>⟨i,h⟩,M i,b,.nil⟩,c i⟩
theorem MethFD.made (F:FnOk P w K mg base (CXe P w) j f fd ps (fun vs H Q E=>∃i,sp i vs H Q E))(M:∀i,Meth K (C i) m f)(b:Xco K fd ps [])(b':Xco K fd ps ds)(v:Vals dvs ds)(c:∀i,Cls K (C i)):MethFD P w K mg base C m j ps dvs sp :=
 ⟨fun i=>⟨⟨f,fd,[],F.imp fun _ _ _ _ h=>⟨i,h⟩,M i,b,.nil⟩,c i⟩,fun i=>⟨⟨f,fd,ds,F.imp fun _ _ _ _ h=>⟨i,h⟩,M i,b',v⟩,c i⟩⟩
theorem Methx.up {C₀:Addr}{sp₀:Sp}(D:Methx P w K mg base C₀ m j ps dvs sp₀)(h:j≤k):Methx P w K mg base C₀ m k ps dvs sp₀:=by
 obtain⟨f,fd,ds,F,M,b,v⟩:=D.ex
 exact⟨⟨f,fd,ds,F.mono h,M,b,v⟩,D.cl⟩
structure MethSD (P:Program)(w:World)(K:PySem.W.Frag)(mg:Str→Option Value)(base:Heap)(ok:W7→Prop)(C:W7→Addr)(m:Str)(j:Nat)(ps:List Str)(dvs:List V)(sp:W7→Sp):Prop where
 all:Xcy P w K mg base ok C m j ps [] sp
 less:Xcy P w K mg base ok C m j ps dvs sp
theorem MethSD.made (F:FnOk P w K mg base (CXe P w) j f fd ps (fun vs H Q E=>∃i,ok i∧sp i vs H Q E))(M:∀i,ok i→Meth K (C i) m f)(b:Xco K fd ps [])(b':Xco K fd ps ds)(v:Vals dvs ds)(c:∀i,Cls K (C i)):MethSD P w K mg base ok C m j ps dvs sp :=
 ⟨fun i hi=>⟨⟨f,fd,[],F.imp fun _ _ _ _ h=>⟨i,hi,h⟩,M i hi,b,.nil⟩,c i⟩,fun i hi=>⟨⟨f,fd,ds,F.imp fun _ _ _ _ h=>⟨i,hi,h⟩,M i hi,b',v⟩,c i⟩⟩
theorem Xcy.of {C₀:Addr}{i:W7}(D:Methx P w K mg base C₀ m j ps dvs (sp i))(e:C i=C₀)(hk:j≤k):Xcy P w K mg base (fun i'=>i'=i) C m k ps dvs sp:=fun i' h=>by
 subst h
 rw[e]
 exact D.up hk
theorem Xcy.all (D:Xcy P w K mg base ok C m j ps dvs sp)(h:∀i,ok i):Xei P w K mg base C m j ps dvs sp:=fun i=>D i (h i)
end
def Xnw (C:W7→Addr)(m:Str)(sp:W7→Sp)(dvs:List V)(E:XK)(ta:TE)(t:TA):TE:=fun σ H Q=>ta σ H fun x H1=>∃i a dx fs,x = .ref a∧H1 a=some (.ins (C i) dx fs)∧fs.lookup m=none∧t σ H1 fun vs H2=>sp i (x::(vs++dvs)) H2 Q E
def XCw (C:W7→Addr)(m:Str)(sp:W7→Sp)(dvs:List V)(to:TE)(ta:TA):TX:=fun σ H QV EX=>to σ H fun x H1=>∃i a dx fs,x = .ref a∧H1 a=some (.ins (C i) dx fs)∧fs.lookup m=none∧ta σ H1 fun vs H2=>sp i (x::(vs++dvs)) H2 QV EX
section
variable {X:Cx}{j k:Nat}{C:W7→Addr}{ps:List Str}{sp:W7→Sp}{dvs:List V}{m:Str}{pos apos:Pos}{e o:Expr}{es:List Expr}{to:TE}{t:TA}{E:XK}
theorem pe_methF {pl:Sem Bool}(D:Xei X.prog X.w X.K X.mg X.base C m j ps dvs sp)(hx:Xek (CXe X.prog X.w) X E)(hr:Room k X.A)(ho:PE X o to)(ha:PA X (e::es) t)(hk:j≤k:=by decide)
   (hst:starEach (e::es) X.env=(false,eval e X.env)::starEach es X.env:=by rfl) (hpl:(backTo pos (starEach es X.env)).any (·.1)=false:=by rfl)
   (ht:eval (.Call (.Attribute o m apos) (e::es) [] pos) X.env=(do
     let ov ←eval o X.env
     standAt apos.atName
     let (f,first) ←holding [ov] (getMethod ov m pl)
     callWith pos f first (backTo pos (starEach (e::es) X.env)) (backToKw pos (keywordEach [] X.env))):=by rfl) :
   PE X (.Call (.Attribute o m apos) (e::es) [] pos) (Xnw C m sp dvs E to t):=by
 intro pins s σ H Q I h
 refine PySem.W.methodCall_KW (pl:=pl) (thn (ho pins s σ H _ I h) fun u s1 ⟨x,H1,I1,rx,i,a,dx,fs,ex,ea,l,q⟩=>?_) ht
 subst ex
 obtain rfl:u=Value.ref a:=rx
 obtain⟨f,fd,ds,F,hm,hb,hd⟩:=(D i).ex
 refine Xdw I1 ea (D i).cl hm l ?_
 refine PySem.W.callWith_K (first:=[.ref a]) (h₀:=X.base) I.ok.mod.kin hm.kp (thn (ha pos pins s1 σ H1 _ I1 q) fun us s2 ⟨vs,H2,I2,r,q2⟩=>⟨I2.kIn,?_⟩) hst hpl
 exact Xku (us:=.ref a::us) (vs:=.ref a::vs) F (hr.mono hk) hb hd hx I2 (.cons rfl r) q2
theorem Xdi {pl:Sem Bool}(D:Xei X.prog X.w X.K X.mg X.base C m j ps dvs sp)(hx:Xek (CXe X.prog X.w) X E)(hr:Room k X.A)(ho:PE X o to)(hk:j≤k:=by decide)
   (ht:eval (.Call (.Attribute o m apos) [] [] pos) X.env=(do
     let ov ←eval o X.env
     standAt apos.atName
     let (f,first) ←holding [ov] (getMethod ov m pl)
     callWith pos f first (backTo pos (starEach [] X.env)) (backToKw pos (keywordEach [] X.env))):=by rfl) :
   PE X (.Call (.Attribute o m apos) [] [] pos) (Xnw C m sp dvs E to tNil):=by
 intro pins s σ H Q I h
 refine PySem.W.methodCall_KW (pl:=pl) (thn (ho pins s σ H _ I h) fun u s1 ⟨x,H1,I1,rx,i,a,dx,fs,ex,ea,l,q⟩=>?_) ht
 subst ex
 obtain rfl:u=Value.ref a:=rx
 obtain⟨f,fd,ds,F,hm,hb,hd⟩:=(D i).ex
 refine Xdw I1 ea (D i).cl hm l ?_
 exact PySem.W.callWith_K0 (first:=[.ref a]) I1.kIn hm.kp (Xku (us:=[.ref a]) (vs:=[.ref a]) F (hr.mono hk) hb hd hx I1 (.cons rfl .nil) q)
theorem Xxr {pl:Sem Bool}(D:Xei X.prog X.w X.K X.mg X.base C m j ps dvs sp)(hr:Room k X.A)(ho:PE X.nox o to)(ha:PA X.nox (e::es) t)(hk:j≤k:=by decide)
   (hst:starEach (e::es) X.env=(false,eval e X.env)::starEach es X.env:=by rfl) (hpl:(backTo pos (starEach es X.env)).any (·.1)=false:=by rfl)
   (ht:eval (.Call (.Attribute o m apos) (e::es) [] pos) X.env=(do
     let ov ←eval o X.env
     standAt apos.atName
     let (f,first) ←holding [ov] (getMethod ov m pl)
     callWith pos f first (backTo pos (starEach (e::es) X.env)) (backToKw pos (keywordEach [] X.env))):=by rfl) :
   PX X (.Call (.Attribute o m apos) (e::es) [] pos) (XCw C m sp dvs to t):=by
 intro pins s σ H QV EX Qp W I h hv hx
 refine PySem.W.methodCall_KW (pl:=pl) (wpAny_mono (ho pins s σ H _ (I.wish _) h) (fun u s1 ⟨x,H1,I1',rx,i,a,dx,fs,ex,ea,l,q⟩=>?_) (fun _ _ z=>z.elim)) ht
 have I1:=I1'.unwish
 subst ex
 obtain rfl:u=Value.ref a:=rx
 obtain⟨f,fd,ds,F,hm,hb,hd⟩:=(D i).ex
 refine Xdw I1 ea (D i).cl hm l ?_
 refine PySem.W.callWith_K (first:=[.ref a]) (h₀:=X.base) I.ok.mod.kin hm.kp (wpAny_mono (ha pos pins s1 σ H1 _ (I1.wish _) q) (fun us s2 ⟨vs,H2,I2',r,q2⟩=>?_) (fun _ _ z=>z.elim)) hst hpl
 have I2:=I2'.unwish
 exact⟨I2.kIn,XEr (us:=.ref a::us) (vs:=.ref a::vs) F (hr.mono hk) hb hd I2 (.cons rfl r) q2 hv fun y s' hq=>hx H2 s2 y s' I2 hq⟩
end
def Xrn (ok:W7→Prop)(C:W7→Addr)(m:Str)(sp:W7→Sp)(dvs:List V)(E:XK)(ta:TE)(t:TA):TE:=fun σ H Q=>ta σ H fun x H1=>∃i a dx fs,ok i∧x = .ref a∧H1 a=some (.ins (C i) dx fs)∧fs.lookup m=none∧t σ H1 fun vs H2=>sp i (x::(vs++dvs)) H2 Q E
section
variable {X:Cx}{j k:Nat}{C:W7→Addr}{ps:List Str}{sp:W7→Sp}{dvs:List V}{m:Str}{pos apos:Pos}{e o:Expr}{es:List Expr}{to:TE}{t:TA}{E:XK}{ok:W7→Prop}
theorem Xed {pl:Sem Bool}(D:Xcy X.prog X.w X.K X.mg X.base ok C m j ps dvs sp)(hx:Xek (CXe X.prog X.w) X E)(hr:Room k X.A)(ho:PE X o to)(ha:PA X (e::es) t)(hk:j≤k:=by decide)
   (hst:starEach (e::es) X.env=(false,eval e X.env)::starEach es X.env:=by rfl) (hpl:(backTo pos (starEach es X.env)).any (·.1)=false:=by rfl)
   (ht:eval (.Call (.Attribute o m apos) (e::es) [] pos) X.env=(do
     let ov ←eval o X.env
     standAt apos.atName
     let (f,first) ←holding [ov] (getMethod ov m pl)
     callWith pos f first (backTo pos (starEach (e::es) X.env)) (backToKw pos (keywordEach [] X.env))):=by rfl) :
   PE X (.Call (.Attribute o m apos) (e::es) [] pos) (Xrn ok C m sp dvs E to t):=by
 intro pins s σ H Q I h
 refine PySem.W.methodCall_KW (pl:=pl) (thn (ho pins s σ H _ I h) fun u s1 ⟨x,H1,I1,rx,i,a,dx,fs,hok,ex,ea,l,q⟩=>?_) ht
 subst ex
 obtain rfl:u=Value.ref a:=rx
 obtain⟨f,fd,ds,F,hm,hb,hd⟩:=(D i hok).ex
 refine Xdw I1 ea (D i hok).cl hm l ?_
 refine PySem.W.callWith_K (first:=[.ref a]) (h₀:=X.base) I.ok.mod.kin hm.kp (thn (ha pos pins s1 σ H1 _ I1 q) fun us s2 ⟨vs,H2,I2,r,q2⟩=>⟨I2.kIn,?_⟩) hst hpl
 exact Xku (us:=.ref a::us) (vs:=.ref a::vs) F (hr.mono hk) hb hd hx I2 (.cons rfl r) q2
end
section
variable {K:PySem.W.Frag}{σ:L2.St}{H:Hp}{Q:VK}{EX:XK}{C:W7→Addr}{m:Str}{sp:W7→Sp}{E:XK}{ta:TE}{t:TA}{dvs:List V}
theorem r_methF (h:ta σ H fun x H1=>∃i a dx fs,x = .ref a∧H1 a=some (.ins (C i) dx fs)∧fs.lookup m=none∧t σ H1 fun vs H2=>sp i (x::vs) H2 Q E):Xnw C m sp [] E ta t σ H Q:=by
 unfold Xnw
 simp only [List.append_nil]
 exact h
theorem r_xMethFD (h:ta σ H fun x H1=>∃i a dx fs,x = .ref a∧H1 a=some (.ins (C i) dx fs)∧fs.lookup m=none∧t σ H1 fun vs H2=>sp i (x::(vs++dvs)) H2 Q EX):XCw C m sp dvs ta t σ H Q EX:=h
theorem r_methS {ok:W7→Prop}(h:ta σ H fun x H1=>∃i a dx fs,ok i∧x = .ref a∧H1 a=some (.ins (C i) dx fs)∧fs.lookup m=none∧t σ H1 fun vs H2=>sp i (x::vs) H2 Q E):Xrn ok C m sp [] E ta t σ H Q:=by
 unfold Xrn
 simp only [List.append_nil]
 exact h
theorem r_matS {ok:W7→Prop}{a dx:Addr}{i:W7}{fs:List (Str×V)}{R:W7→Prop}(o:ok i)(h:H a=some (.ins (C i) dx fs))(l:fs.lookup m=none)(q:R i) :
   ∃i' a' dx' fs',ok i'∧V.ref a=V.ref a'∧H a'=some (.ins (C i') dx' fs')∧fs'.lookup m=none∧R i':=⟨i,a,dx,fs,o,rfl,h,l,q⟩
theorem r_matF {a dx:Addr}{i:W7}{fs:List (Str×V)}{R:W7→Prop}(h:H a=some (.ins (C i) dx fs))(l:fs.lookup m=none)(q:R i) :
   ∃i' a' dx' fs',V.ref a=V.ref a'∧H a'=some (.ins (C i') dx' fs')∧fs'.lookup m=none∧R i':=⟨i,a,dx,fs,rfl,h,l,q⟩
end
theorem decS {i j:Str}:decide (V.str i=V.str j)=decide (i=j):=by
 rw[Xmy,Bool.eq_iff_iff]
 simp
section
variable {H:Hp}{Q:VK}
theorem r_eqSt {i j:Str}(h:Q (.bl (decide (i=j))) H):rEq (.str i) (.str j) H Q:=⟨rfl,by rw[decS];exact h⟩
end
end Stow
namespace Stow
open PySem L2 PyProof.Rows
section
variable {X:Cx}{a:Expr}{ta:TE}
end
section
variable {K:PySem.W.Frag}{σ:L2.St}{H:Hp}{Q:VK}
end
end Stow
namespace Stow
open PySem L2 PyProof.Rows
theorem apart {ps:List Pc}{s e:Int}{y z:Pc}{i:Int}(c:Xas s ps e)(hy:y∈ps)(hz:z∈ps)(hne:y≠z)(h1:z.a≤i)(h2:i<z.a+z.l):i<y.a∨y.a+y.l≤i:=by
 rcases Int.lt_or_le i y.a with g | g
 · exact .inl g
 · rcases Int.lt_or_le i (y.a+y.l) with g2 | g2
   · exact absurd (Xpe c hy hz g g2 h1 h2) hne
   · exact .inr g2
end Stow
namespace Stow
open PySem L2 PyProof.Rows
end Stow
namespace Stow
open PySem L2 PyProof.Rows
def Al (z:Pc):Prop:=∃m q:Nat,z.l=2^m∧z.a=2^m*(q:Int)
theorem pw1 (i:Nat):1≤(2:Int)^i:=Xkh i
theorem pw2 (i:Nat):(2:Int)^(i+1)=2^i+2^i:=by rw[Int.pow_succ];omega
def spl (a:Int)(B e:Nat):List Pc:=(List.range' B e).map fun i:Nat=>⟨a+2^i,2^i,false⟩
theorem Xof (a:Int)(B e:Nat):spl a B (e+1)=⟨a+2^B,2^B,false⟩::spl a (B+1) e:=by
 unfold spl
 rw[List.range'_succ]
 rfl
theorem Xfy (a:Int):∀(e B:Nat),Xas (a+2^B) (spl a B e) (a+2^(B+e))
 | 0,B=>rfl
 | e+1,B=>by
   rw[Xof]
   refine⟨rfl,pw1 B,(fun h=>by cases h),?_⟩
   have:=Xfy a e (B+1)
   rw[pw2,show a+(2^B+2^B)=a+2^B+2^B by omega,show B+1+e=B+(e+1) by omega] at this
   exact this
theorem XGy {a:Int}{B e:Nat}{z:Pc}(h:z∈spl a B e):∃i,B≤i∧i<B+e∧z=⟨a+2^i,2^i,false⟩:=by
 unfold spl at h
 obtain⟨i,hi,e'⟩:=List.mem_map.mp h
 obtain⟨h1,h2⟩:=List.mem_range'_1.mp hi
 exact⟨i,h1,h2,e'.symm⟩
theorem Xzt (i e:Nat):(2:Int)^(i+e)=2^i*2^e:=Int.pow_add 2 i e
theorem Xxz (e:Nat):((2^e:Nat):Int)=2^e:=by
 induction e with
 | zero=>rfl
 | succ e ih=>rw[Nat.pow_succ,Int.natCast_mul,ih,Int.pow_succ];rfl
theorem XCl {a:Int}{M i q:Nat}(h:a=2^M*(q:Int))(hi:i≤M):∃r:Nat,a=2^i*(r:Int):=by
 obtain⟨e,rfl⟩:∃e,M=i+e:=⟨M-i,by omega⟩
 refine⟨2^e*q,?_⟩
 rw[h,Xzt,Int.natCast_mul,Xxz,Int.mul_assoc]
theorem XOj {a:Int}{M B e q:Nat}(h:a=2^M*(q:Int))(hB:B+e≤M):∀z∈spl a B e,Al z:=fun z hz=>by
 obtain⟨i,h1,h2,rfl⟩:=XGy hz
 obtain⟨r,hr⟩:=XCl h (show i≤M by omega)
 refine⟨i,r+1,rfl,?_⟩
 show a+2^i=2^i*((r+1:Nat):Int)
 rw[hr,Int.natCast_add,Int.mul_add]
 simp
def hcP (a:Int)(B M:Nat):List Pc:=⟨a,2^B,true⟩::spl a B (M-B)
theorem Xqr {a:Int}{B M:Nat}(h2:2≤B)(h:B≤M):Xas a (hcP a B M) (a+2^M):=by
 have h3:(3:Int)≤2^B:=by
   have:=Xec h2
   have e:(2:Int)^2=4:=by decide
   omega
 refine⟨rfl,pw1 B,fun _=>h3,?_⟩
 have:=Xfy a (M-B) B
 rw[show B+(M-B)=M by omega] at this
 exact this
theorem XJa {row:List Int}{ds rs:List Pc}{a:Int}{L e:Nat}(h0:0≤a)(hd:Xds ds a)(hr:Xfi rs (a+2^(L+1+e)))(hl:a+2^(L+1+e)≤row.length)(m:Xau row (ds++(spl a (L+1) e++rs))) :
   a+2^L+2^L≤row.length∧Xau (Xdg row (a+2^L) (2^L) false) (ds++(spl a L (e+1)++rs)):=by
 have c:=Xfy a e (L+1)
 have hle:=c.le
 have p1:=pw1 L
 have p2:=pw2 L
 have hb:a+2^L+2^L≤row.length:=by omega
 refine⟨hb,?_⟩
 rw[Xof,List.cons_append]
 refine Xau.lay (by omega) p1 hb (hd.mono (by omega)) ?_ m
 intro p hp
 rcases List.mem_append.mp hp with g | g
 · have:=c.fromOn p g
   omega
 · have:=hr p g
   omega
theorem XEe {row:List Int}{ds rs:List Pc}{a:Int}{B e:Nat}(h0:0≤a)(hd:Xds ds a)(hr:Xfi rs (a+2^(B+e)))(hl:a+2^(B+e)≤row.length)(m:Xau row (ds++(spl a B e++rs))) :
   a+2^B≤row.length∧Xau (Xdg row a (2^B) true) (ds++(⟨a,2^B,true⟩::(spl a B e++rs))):=by
 have c:=Xfy a e B
 have hle:=c.le
 have p1:=pw1 B
 have hb:a+2^B≤row.length:=by omega
 refine⟨hb,Xau.lay h0 p1 hb hd ?_ m⟩
 intro p hp
 rcases List.mem_append.mp hp with g | g
 · have:=c.fromOn p g
   omega
 · have:=hr p g
   omega
def Bst (b:Int)(ps:List Pc)(z:Pc):Prop:=z∈ps∧z.v=false∧b≤z.l∧∀y∈ps,y.v=false→b≤y.l→z.l<y.l∨(z.l=y.l∧z.a≤y.a)
theorem Bst.uniq {b n:Int}{ps:List Pc}{z y:Pc}(c:Xas 0 ps n)(h:Bst b ps z)(g:Bst b ps y):z=y:=by
 have h1:=h.2.2.2 y g.1 g.2.1 g.2.2.1
 have h2:=g.2.2.2 z h.1 h.2.1 h.2.2.1
 exact Xdx c h.1 g.1 (by omega)
def bud (m q:Nat):Int:=if q%2=0 then 2^m*(q:Int)+2^m else 2^m*(q:Int)-2^m
inductive MgTo (ps:List Pc):List Pc→List Pc→Nat→Nat→List Pc→List Pc→Nat→Nat→Prop
 | stop {ds rs:List Pc} {m q:Nat} (h:(⟨bud m q,2^m,false⟩:Pc) ∉ ps):MgTo ps ds rs m q ds rs m q
 | right {ds rs:List Pc} {m q:Nat} {ds' rs':List Pc} {m' q':Nat} (hq:q%2=0) (h:(⟨bud m q,2^m,false⟩:Pc)∈ps) (k:MgTo ps ds rs (m+1) (q/2) ds' rs' m' q'):MgTo ps ds (⟨bud m q,2^m,false⟩::rs) m q ds' rs' m' q'
 | left {ds rs:List Pc} {m q:Nat} {ds' rs':List Pc} {m' q':Nat} (hq:q%2=1) (h:(⟨bud m q,2^m,false⟩:Pc)∈ps) (k:MgTo ps ds rs (m+1) (q/2) ds' rs' m' q'):MgTo ps (ds++[⟨bud m q,2^m,false⟩]) rs m q ds' rs' m' q'
structure Lie (N:Nat)(ps ds rs:List Pc)(m q:Nat):Prop where
 le:m≤N
 c1:Xas 0 ds (2^m*(q:Int))
 c2:Xas (2^m*(q:Int)+2^m) rs (2^N)
 is:∀z:Pc,(z.a+z.l≤2^m*(q:Int)∨2^m*(q:Int)+2^m≤z.a)→(z∈ps↔z∈ds∨z∈rs)
theorem XDe {m q:Nat}(hq:q%2=0):(2:Int)^(m+1)*((q/2:Nat):Int)=2^m*(q:Int):=by
 obtain⟨r,rfl⟩:∃r,q=2*r:=⟨q/2,by omega⟩
 rw[show 2*r/2=r by omega,Int.pow_succ,Int.natCast_mul,Int.mul_assoc]
 rfl
theorem XTz {m q:Nat}(hq:q%2=1):(2:Int)^(m+1)*((q/2:Nat):Int)=2^m*(q:Int)-2^m:=by
 obtain⟨r,rfl⟩:∃r,q=2*r+1:=⟨q/2,by omega⟩
 rw[show (2*r+1)/2=r by omega,Int.pow_succ,Int.natCast_add,Int.natCast_mul,Int.mul_add,Int.mul_assoc]
 simp
theorem Lie.right {N:Nat}{ps ds rs:List Pc}{m q:Nat}(L:Lie N ps ds rs m q)(hq:q%2=0)(h:(⟨bud m q,2^m,false⟩:Pc)∈ps):∃rs1,rs=⟨bud m q,2^m,false⟩::rs1∧Lie N ps ds rs1 (m+1) (q/2):=by
 have eb:bud m q=2^m*(q:Int)+2^m:=by unfold bud;rw[if_pos hq]
 have p1:=pw1 m
 have p2:=pw2 m
 have ea:=XDe (m:=m) hq
 have hin:(⟨bud m q,2^m,false⟩:Pc)∈rs:=by
   rcases(L.is ⟨bud m q,2^m,false⟩ (.inr (by show _≤bud m q;omega))).mp h with g | g
   · have:=(L.c1.mem _ g).2.2.2
     have:bud m q+2^m≤2^m*(q:Int):=this
     omega
   · exact g
 cases rs with
 | nil=>cases hin
 | cons y r =>
   obtain⟨h0,h1,h3,h4⟩:=L.c2
   have ey:(⟨bud m q,2^m,false⟩:Pc)=y:=Xdx (ps:=y::r) ⟨h0,h1,h3,h4⟩ hin List.mem_cons_self (by show bud m q=y.a;omega)
   subst ey
   have h4:Xas (2^m*(q:Int)+2^m+2^m) r (2^N):=h4
   refine⟨r,rfl,?_,by rw[ea];exact L.c1,by rw[ea,p2,show (2:Int)^m*(q:Int)+(2^m+2^m)=2^m*(q:Int)+2^m+2^m by omega];exact h4,fun z hz=>?_⟩
   · have hle:=h4.le
     have hm:(2:Int)^m<2^N:=by
       have:0≤2^m*(q:Int):=Int.mul_nonneg (by omega) (by omega)
       omega
     exact Xlj hm
   · rw[ea,p2] at hz
     rw[L.is z (by omega)]
     constructor
     · rintro(g | g)
       · exact .inl g
       · rcases List.mem_cons.mp g with e | e
         · rw[e] at hz
           have hz:bud m q+2^m≤2^m*(q:Int)∨2^m*(q:Int)+(2^m+2^m)≤bud m q:=hz
           omega
         · exact .inr e
     · rintro(g | g)
       · exact .inl g
       · exact .inr (List.mem_cons_of_mem _ g)
theorem Lie.left {N:Nat}{ps ds rs:List Pc}{m q:Nat}(L:Lie N ps ds rs m q)(hq:q%2=1)(h:(⟨bud m q,2^m,false⟩:Pc)∈ps):∃ds1,ds=ds1++[⟨bud m q,2^m,false⟩]∧Lie N ps ds1 rs (m+1) (q/2):=by
 have eb:bud m q=2^m*(q:Int)-2^m:=by unfold bud;rw[if_neg (by omega)]
 have p1:=pw1 m
 have p2:=pw2 m
 have ea:=XTz (m:=m) hq
 have hin:(⟨bud m q,2^m,false⟩:Pc)∈ds:=by
   rcases(L.is ⟨bud m q,2^m,false⟩ (.inl (by show bud m q+2^m≤_;omega))).mp h with g | g
   · exact g
   · have:=(L.c2.mem _ g).1
     have:2^m*(q:Int)+2^m≤bud m q:=this
     omega
 obtain⟨i,hi⟩:=List.getElem?_of_mem hin
 obtain⟨d1,d2,e1,_,k1,k2⟩:=Xcw L.c1 hi
 have k2:Xas (bud m q+2^m) d2 (2^m*(q:Int)):=k2
 have k1:Xas 0 d1 (bud m q):=k1
 have e2:d2=[]:=by
   cases d2 with
   | nil=>rfl
   | cons y r =>
     have:=k2.le
     rw[List.length_cons] at this
     omega
 subst e2
 have hN:(2:Int)^m*(q:Int)+2^m≤2^N:=by have:=L.c2.le;omega
 refine⟨d1,e1,?_,by rw[ea,←eb];exact k1,by rw[ea,p2,show (2:Int)^m*(q:Int)-2^m+(2^m+2^m)=2^m*(q:Int)+2^m by omega];exact L.c2,fun z hz=>?_⟩
 · have hq1:(2:Int)^m≤2^m*(q:Int):=by
     have:=Int.mul_le_mul_of_nonneg_left (show (1:Int)≤(q:Int) by omega) (show (0:Int)≤2^m by omega)
     omega
   exact Xlj (show (2:Int)^m<2^N by omega)
 · rw[ea,p2] at hz
   rw[L.is z (by omega),e1]
   constructor
   · rintro(g | g)
     · rcases List.mem_append.mp g with e | e
       · exact .inl e
       · rw[List.mem_singleton.mp e] at hz
         have hz:bud m q+2^m≤2^m*(q:Int)-2^m∨2^m*(q:Int)-2^m+(2^m+2^m)≤bud m q:=hz
         omega
     · exact .inr g
   · rintro(g | g)
     · exact .inl (List.mem_append_left _ g)
     · exact .inr g
theorem MgTo.ex {N:Nat}{ps:List Pc}:∀(f:Nat) {ds rs:List Pc} {m q:Nat},N-m≤f→Lie N ps ds rs m q→∃ds' rs' m' q',MgTo ps ds rs m q ds' rs' m' q'∧Lie N ps ds' rs' m' q'
 | f,ds,rs,m,q,hf,L=>by
   by_cases h:(⟨bud m q,2^m,false⟩:Pc)∈ps
   · by_cases hq:q%2=0
     · obtain⟨rs1,e,L1⟩:=L.right hq h
       cases f with
       | zero=>have:=L1.le;omega
       | succ f =>
         obtain⟨ds',rs',m',q',k,L'⟩:=MgTo.ex f (by omega) L1
         exact⟨ds',rs',m',q',by rw[e];exact .right hq h k,L'⟩
     · obtain⟨ds1,e,L1⟩:=L.left (by omega) h
       cases f with
       | zero=>have:=L1.le;omega
       | succ f =>
         obtain⟨ds',rs',m',q',k,L'⟩:=MgTo.ex f (by omega) L1
         exact⟨ds',rs',m',q',by rw[e];exact .left (by omega) h k,L'⟩
   · exact⟨ds,rs,m,q,.stop h,L⟩
end Stow
namespace Stow
open PySem L2 PyProof.Rows
structure Sf where
 n:Int
 b:List Bool
def slP (n:Int):Int→List Bool→List Pc
 | _,[]=>[]
 | A,v::r=>⟨A,n,v⟩::slP n (A+n) r
def shP (s A:Int)(f:Sf):List Pc:=slP f.n A f.b++fr (A+f.n*(f.b.length:Int)) (A+s)
def alP (s:Int):Int→List Sf→List Pc
 | _,[]=>[]
 | A,f::r=>shP s A f++alP s (A+s) r
def SfW (s:Int)(f:Sf):Prop:=(f.n=0∧f.b=[])∨(3≤f.n∧f.n≤s∧f.n*(f.b.length:Int)≤s∧s<f.n*(f.b.length:Int)+f.n)
def SfOk (s:Int)(f:Sf):Prop:=SfW s f∧(f.n≠0→true∈f.b)
theorem Xcd (n:Int)(m:Nat):n*((m+1:Nat):Int)=n*(m:Int)+n:=by
 rw[Int.natCast_add,Int.mul_add]
 simp
theorem Xmr (n:Int):∀(b c:List Bool) (A:Int),slP n A (b++c)=slP n A b++slP n (A+n*(b.length:Int)) c
 | [],c,A=>by simp [slP]
 | v::r,c,A=>by
   have e:=Xcd n r.length
   show (⟨A,n,v⟩:Pc)::slP n (A+n) (r++c)=(⟨A,n,v⟩:Pc)::(slP n (A+n) r++slP n (A+n*((r.length+1:Nat):Int)) c)
   rw[Xmr n r c (A+n),e,show A+n+n*(r.length:Int)=A+(n*(r.length:Int)+n) by omega]
theorem Xkx {n:Int}(h:3≤n):∀(b:List Bool) (A:Int),Xas A (slP n A b) (A+n*(b.length:Int))
 | [],A=>by show A=_;simp
 | v::r,A=>by
   have e:=Xcd n r.length
   refine⟨rfl,by show 1≤n;omega,fun _=>h,?_⟩
   have:=Xkx h r (A+n)
   rw[show A+n+n*(r.length:Int)=A+n*((r.length+1:Nat):Int) by omega] at this
   exact this
theorem Xlx {s A:Int}{f:Sf}(h1:1≤s)(w:SfW s f):Xas A (shP s A f) (A+s):=by
 rcases w with ⟨e1,e2⟩ | ⟨h3,_,h4,_⟩
 · unfold shP
   rw[e1,e2]
   show Xas A (fr (A+0*((0:Nat):Int)) (A+s)) (A+s)
   rw[Int.zero_mul,Int.add_zero]
   exact Xfd (by omega)
 · exact(Xkx h3 f.b A).app (Xfd (by omega))
theorem Xdt {s:Int}(h1:1≤s):∀(fs:List Sf) (A:Int),(∀f∈fs,SfW s f)→Xas A (alP s A fs) (A+s*(fs.length:Int))
 | [],A,_=>by show A=_;simp
 | f::r,A,w=>by
   have e:=Xcd s r.length
   have:=Xdt h1 r (A+s) fun g hg=>w g (List.mem_cons_of_mem _ hg)
   rw[show A+s+s*(r.length:Int)=A+s*((r.length+1:Nat):Int) by omega] at this
   exact(Xlx h1 (w f List.mem_cons_self)).app this
theorem Xkn (s:Int):∀(b c:List Sf) (A:Int),alP s A (b++c)=alP s A b++alP s (A+s*(b.length:Int)) c
 | [],c,A=>by simp [alP]
 | f::r,c,A=>by
   have e:=Xcd s r.length
   show shP s A f++alP s (A+s) (r++c)=(shP s A f++alP s (A+s) r)++alP s (A+s*((r.length+1:Nat):Int)) c
   rw[Xkn s r c (A+s),e,show A+s+s*(r.length:Int)=A+(s*(r.length:Int)+s) by omega,List.append_assoc]
theorem Xer {α:Type}{xs:List α}{j:Nat}{x:α}(h:xs[j]?=some x):xs=xs.take j++x::xs.drop (j+1)∧(xs.take j).length=j∧∀y,xs.set j y=xs.take j++y::xs.drop (j+1):=by
 obtain⟨hj,hx⟩:=List.getElem?_eq_some_iff.mp h
 have e:xs=xs.take j++x::xs.drop (j+1):=by
   rw[←hx,←List.drop_eq_getElem_cons hj,List.take_append_drop]
 have l:(xs.take j).length=j:=by rw[List.length_take];omega
 refine⟨e,l,fun y=>?_⟩
 have:(xs.take j++x::xs.drop (j+1)).set j y=xs.take j++y::xs.drop (j+1):=by
   rw[List.set_append_right _ _ (by omega),l,Nat.sub_self,List.set_cons_zero]
 rw[←e] at this
 exact this
theorem Xkb {α:Type}{xs:List α}{j:Nat}{x:α}(h:xs[j]?=some x):xs.set j x=xs:=by
 obtain⟨e,_,g⟩:=Xer h
 rw[g x]
 exact e.symm
theorem Xjm {s:Int}{fs:List Sf}{j:Nat}{f:Sf}(h1:1≤s)(w:∀f∈fs,SfW s f)(h:fs[j]?=some f):∃ds rs,(∀g,alP s 0 (fs.set j g)=ds++(shP s (s*(j:Int)) g++rs))∧Xas 0 ds (s*(j:Int))∧Xas (s*(j:Int)+s) rs (s*(fs.length:Int)):=by
 obtain⟨e,l,g⟩:=Xer h
 have hj:j<fs.length:=(List.getElem?_eq_some_iff.mp h).1
 refine⟨alP s 0 (fs.take j),alP s (s*(j:Int)+s) (fs.drop (j+1)),fun y=>?_,?_,?_⟩
 · rw[g y,Xkn,l,Int.zero_add]
   rfl
 · have:=Xdt h1 (fs.take j) 0 fun f hf=>w f (List.mem_of_mem_take hf)
   rw[l,Int.zero_add] at this
   exact this
 · have:=Xdt h1 (fs.drop (j+1)) (s*(j:Int)+s) fun f hf=>w f (List.mem_of_mem_drop hf)
   rw[List.length_drop] at this
   have e2:s*(j:Int)+s+s*((fs.length-(j+1):Nat):Int)=s*(fs.length:Int):=by
     rw[←Xcd,←Int.mul_add,←Int.natCast_add,show j+1+(fs.length-(j+1))=fs.length by omega]
   rw[e2] at this
   exact this
theorem Xvo {s:Int}{fs:List Sf}{j:Nat}{f:Sf}(h:fs[j]?=some f):alP s 0 (fs.set j f)=alP s 0 fs:=by rw[Xkb h]
theorem Xqp {n A:Int}{b:List Bool}{i:Nat}{v0:Bool}(h:b[i]?=some v0):∃ds rs,∀v,slP n A (b.set i v)=ds++⟨A+n*(i:Int),n,v⟩::rs:=by
 obtain⟨_,l,g⟩:=Xer h
 refine⟨slP n A (b.take i),slP n (A+n*(i:Int)+n) (b.drop (i+1)),fun v=>?_⟩
 rw[g v,Xmr,l]
 rfl
theorem XJf {s:Int}{fs:List Sf}{j i:Nat}{n:Int}{b:List Bool}{v0:Bool}(h1:1≤s)(w:∀f∈fs,SfW s f)(h:fs[j]?=some ⟨n,b⟩)(hb:b[i]?=some v0):∃ds rs,∀v,alP s 0 (fs.set j ⟨n,b.set i v⟩)=ds++⟨s*(j:Int)+n*(i:Int),n,v⟩::rs:=by
 obtain⟨ds,rs,e,_,_⟩:=Xjm h1 w h
 obtain⟨d2,r2,e2⟩:=Xqp (n:=n) (A:=s*(j:Int)) hb
 refine⟨ds++d2,r2++fr (s*(j:Int)+n*(b.length:Int)) (s*(j:Int)+s)++rs,fun v=>?_⟩
 rw[e ⟨n,b.set i v⟩]
 unfold shP
 show ds++((slP n (s*(j:Int)) (b.set i v)++fr (s*(j:Int)+n*((b.set i v).length:Int)) (s*(j:Int)+s))++rs)=_
 rw[e2 v,List.length_set]
 simp [List.append_assoc]
theorem Xeq {s:Int}{fs:List Sf}{j i:Nat}{n:Int}{b:List Bool}{v0:Bool}(h:fs[j]?=some ⟨n,b⟩)(hb:b[i]?=some v0):alP s 0 (fs.set j ⟨n,b.set i v0⟩)=alP s 0 fs:=by rw[Xkb hb,Xkb h]
theorem W_set {s:Int}{fs:List Sf}{j:Nat}{g:Sf}(w:∀f∈fs,SfW s f)(hg:SfW s g):∀f∈fs.set j g,SfW s f:=fun f hf=>by
 rcases List.mem_or_eq_of_mem_set hf with h | h
 · exact w f h
 · rw[h];exact hg
theorem Xvu {s:Int}{n:Int}{b:List Bool}{i:Nat}{v:Bool}(w:SfW s ⟨n,b⟩)(hb:i<b.length):SfW s ⟨n,b.set i v⟩:=by
 rcases w with ⟨e1,e2⟩ | h
 · have e2:b=[]:=e2
   rw[e2] at hb
   exact absurd hb (Nat.not_lt_zero _)
 · right
   show 3≤n∧n≤s∧n*((b.set i v).length:Int)≤s∧s<n*((b.set i v).length:Int)+n
   rw[List.length_set]
   exact h
theorem XAz {s:Int}{fs:List Sf}{cs:List Int}{j i:Nat}{n:Int}{b:List Bool}{v0 v:Bool}(h1:1≤s)(w:∀f∈fs,SfW s f)(h:fs[j]?=some ⟨n,b⟩)(hb:b[i]?=some v0)(hl:(cs.length:Int)=s*(fs.length:Int))(m:Xau cs (alP s 0 fs)) :
   0≤s*(j:Int)+n*(i:Int)∧3≤n∧s*(j:Int)+n*(i:Int)+n≤cs.length∧(⟨s*(j:Int)+n*(i:Int),n,v0⟩:Pc)∈alP s 0 fs∧Xau (Xdg cs (s*(j:Int)+n*(i:Int)) n v) (alP s 0 (fs.set j ⟨n,b.set i v⟩)):=by
 obtain⟨ds,rs,e⟩:=XJf h1 w h hb
 have c:=Xdt h1 fs 0 w
 rw[Int.zero_add,←hl,←Xeq h hb,e v0] at c
 rw[←Xeq h hb,e v0] at m
 have hib:i<b.length:=(List.getElem?_eq_some_iff.mp hb).1
 have n3:3≤n:=by
   rcases w _ (List.mem_of_getElem? h) with ⟨_,e2⟩ | g
   · have e2:b=[]:=e2
     rw[e2] at hib
     exact absurd hib (Nat.not_lt_zero _)
   · exact g.1
 have hm:=c.mem ⟨s*(j:Int)+n*(i:Int),n,v0⟩ (List.mem_append_right _ List.mem_cons_self)
 obtain⟨k,c1,c2⟩:=Xgg c
 obtain⟨ea,_,_,c3⟩:=c2
 have ea:s*(j:Int)+n*(i:Int)=k:=ea
 have c3:Xas (k+n) rs cs.length:=c3
 refine⟨hm.1,n3,hm.2.2.2,?_,?_⟩
 · rw[←Xeq h hb,e v0]
   exact List.mem_append_right _ List.mem_cons_self
 rw[e v,ea]
 refine Xau.lay (by omega) (by omega) (by have:=hm.2.2.2;show k+n≤cs.length;rw[←ea];exact this) (c1.endBy (Int.le_refl 0)) c3.fromOn (m.sub fun p hp=>?_)
 rcases List.mem_append.mp hp with g | g
 · exact List.mem_append_left _ g
 · exact List.mem_append_right _ (List.mem_cons_of_mem _ g)
theorem Xfw {s A:Int}(h1:1≤s):shP s A ⟨0,[]⟩=[⟨A,s,false⟩]:=by
 unfold shP
 show []++fr (A+0*((0:Nat):Int)) (A+s)=_
 rw[Int.zero_mul,Int.add_zero,List.nil_append]
 unfold fr
 rw[if_neg (by omega),show A+s-A=s by omega]
def ctP (A e k:Int)(i:Nat):List Pc:=(List.range i).map fun j:Nat=>⟨A+k*(j:Int),min k (e-(A+k*(j:Int))),false⟩
theorem Xha (A e k:Int)(i:Nat):ctP A e k (i+1)=ctP A e k i++[⟨A+k*(i:Int),min k (e-(A+k*(i:Int))),false⟩]:=by
 unfold ctP
 rw[List.range_succ,List.map_append]
 rfl
theorem XGh (k A:Int)(i:Nat):slP k A (List.replicate (i+1) false)=slP k A (List.replicate i false)++[⟨A+k*(i:Int),k,false⟩]:=by
 rw[List.replicate_succ',Xmr,List.length_replicate]
 rfl
theorem Xkk {A s k:Int}(h1:1≤k):∀i:Nat,k*(i:Int)≤s→ctP A (A+s) k i=slP k A (List.replicate i false)
 | 0,_=>rfl
 | i+1,h=>by
   rw[Xcd] at h
   rw[Xha,XGh,Xkk h1 i (by omega),show min k (A+s-(A+k*(i:Int)))=k by omega]
theorem XKg {A s k:Int}{n q:Nat}(h1:1≤k)(hq1:k*(q:Int)≤s)(hq2:s<k*(q:Int)+k)(hn:n=q+(if k*(q:Int)=s then 0 else 1)):ctP A (A+s) k n=shP s A ⟨k,List.replicate q false⟩:=by
 unfold shP
 show _=slP k A (List.replicate q false)++fr (A+k*((List.replicate q false).length:Int)) (A+s)
 rw[List.length_replicate]
 unfold fr
 by_cases e:k*(q:Int)=s
 · rw[if_pos e,Nat.add_zero] at hn
   rw[hn,Xkk h1 q hq1,if_pos (by omega),List.append_nil]
 · rw[if_neg e] at hn
   rw[hn,Xha,Xkk h1 q hq1,if_neg (by omega),show min k (A+s-(A+k*(q:Int)))=A+s-(A+k*(q:Int)) by omega]
theorem Xnx {A e k:Int}(h0:0≤A)(h1:1≤k):∀i:Nat,(∀j:Nat,j<i→A+k*(j:Int)<e)→Xds (ctP A e k i) (A+k*(i:Int))
 | 0,_=>fun p hp=>by cases hp
 | i+1,h=>fun p hp=>by
   rw[Xha] at hp
   have e1:=Xcd k i
   have k0:0≤k*(i:Int):=Int.mul_nonneg (by omega) (by omega)
   rcases List.mem_append.mp hp with g | g
   · have:=Xnx h0 h1 i (fun j hj=>h j (by omega)) p g
     omega
   · rw[List.mem_singleton.mp g]
     have:=h i (by omega)
     show 0≤A+k*(i:Int)∧1≤min k (e-(A+k*(i:Int)))∧A+k*(i:Int)+min k (e-(A+k*(i:Int)))≤A+k*((i+1:Nat):Int)
     omega
theorem XFr {cs:List Int}{ds rs:List Pc}{A e k:Int}{i:Nat}(h0:0≤A)(h1:1≤k)(hd:Xds ds A)(hr:Xfi rs e)(hl:e≤cs.length)(hi:∀j:Nat,j<i+1→A+k*(j:Int)<e)(m:Xau cs (ds++ctP A e k i++rs)) :
   0≤A+k*(i:Int)∧1≤min k (e-(A+k*(i:Int)))∧A+k*(i:Int)+min k (e-(A+k*(i:Int)))≤cs.length∧Xau (Xdg cs (A+k*(i:Int)) (min k (e-(A+k*(i:Int)))) false) (ds++ctP A e k (i+1)++rs):=by
 have k0:0≤k*(i:Int):=Int.mul_nonneg (by omega) (by omega)
 have hii:=hi i (by omega)
 refine⟨by omega,by omega,by omega,?_⟩
 rw[Xha,←List.append_assoc,List.append_assoc _ [_] rs]
 exact Xau.lay (by omega) (by omega) (by omega) ((hd.mono (by omega)).app (Xnx h0 h1 i fun j hj=>hi j (by omega))) (fun p hp=>by have:=hr p hp;omega) m
end Stow
namespace Stow
open PySem L2 PyProof.Rows
def fitF (ps:List Pc)(k:Int):List Int:=(ps.filter fun z=>!z.v&&decide (z.l=k)).map (·.a)
def Xff (cs:List Int)(ps:List Pc)(k s:Int):List Int:=(fitF ps k).filter fun a=>decide (cs.getD (a-a%s).toNat 0/2=k)
theorem Xfq (p q:List Pc)(k:Int):fitF (p++q) k=fitF p k++fitF q k:=by unfold fitF;rw[List.filter_append,List.map_append]
theorem Xhs (cs:List Int)(p q:List Pc)(k s:Int):Xff cs (p++q) k s=Xff cs p k s++Xff cs q k s:=by unfold Xff;rw[Xfq,List.filter_append]
theorem Xma {ps:List Pc}{k:Int}{i:Nat}(h:i<ps.length):fitF (ps.take (i+1)) k=fitF (ps.take i) k++(if (!ps[i].v&&decide (ps[i].l=k))=true then [ps[i].a] else []):=by
 unfold fitF
 rw[List.take_add_one,List.getElem?_eq_getElem h,List.filter_append,List.map_append]
 congr 1
 simp only [Option.toList_some,List.filter_cons,List.filter_nil]
 split <;> rfl
theorem Xkm {ps:List Pc}{k a:Int}(h:a∈fitF ps k):∃z∈ps,z.v=false∧z.l=k∧z.a=a:=by
 unfold fitF at h
 obtain⟨z,hz,e⟩:=List.mem_map.mp h
 obtain⟨h1,h2⟩:=List.mem_filter.mp hz
 obtain⟨h3,h4⟩:=Bool.and_eq_true_iff.mp h2
 exact⟨z,h1,by simpa using h3,of_decide_eq_true h4,e⟩
theorem Xlw {ps:List Pc}{k:Int}(h:∀z∈ps,z.v=false→z.l≠k):fitF ps k=[]:=by
 cases e:fitF ps k with
 | nil=>rfl
 | cons a r =>
   obtain⟨z,h1,h2,h3,_⟩:=Xkm (show a∈fitF ps k by rw[e];exact List.mem_cons_self)
   exact absurd h3 (h z h1 h2)
theorem XEg {ps:List Pc}{k e:Int}{a:Int}(c:Xas 0 ps e)(h:a∈fitF ps k):0≤a∧a<e:=by
 obtain⟨z,hz,_,_,rfl⟩:=Xkm h
 obtain⟨h1,h2,_,h3⟩:=c.mem z hz
 omega
theorem XAw {a s:Int}(h:0≤a)(hs:1≤s):0≤a-a%s∧a-a%s≤a:=by
 have h1:=Int.emod_nonneg a (show s≠0 by omega)
 have h2:=Int.mul_ediv_add_emod a s
 have h3:0≤s*(a/s):=Int.mul_nonneg (by omega) (Int.ediv_nonneg h (by omega))
 omega
theorem Xxp {a s:Int}{j:Nat}(h1:s*(j:Int)≤a)(h2:a<s*(j:Int)+s):a-a%s=s*(j:Int)∧a/s=(j:Int)∧a%s=a-s*(j:Int):=by
 have hs:0<s:=by omega
 have e:a%s=a-s*(j:Int):=by
   have:=Int.add_mul_emod_self_left (a-s*(j:Int)) s (j:Int)
   rw[Int.sub_add_cancel] at this
   rw[this]
   exact Int.emod_eq_of_lt (by omega) (by omega)
 refine⟨by omega,?_,e⟩
 have h3:=Int.mul_ediv_add_emod a s
 rw[e] at h3
 have h4:s*(a/s)=s*(j:Int):=by omega
 exact Int.eq_of_mul_eq_mul_left (by omega) h4
theorem Xmk {n:Int}:∀{b:List Bool} {A:Int} {z:Pc},z∈slP n A b→z.l=n∧z.v∈b
 | v::r,A,z,h=>by
   rcases List.mem_cons.mp h with e | g
   · rw[e]
     exact⟨rfl,List.mem_cons_self⟩
   · obtain⟨h1,h2⟩:=Xmk g
     exact⟨h1,List.mem_cons_of_mem _ h2⟩
theorem XCf {b e:Int}{z:Pc}(h:z∈fr b e):z.a=b∧z.l=e-b∧z.v=false:=by
 unfold fr at h
 split at h
 · cases h
 · rw[List.mem_singleton.mp h]
   exact⟨rfl,rfl,rfl⟩
def flS (s:Int)(f:Sf):Int:=if f.n=0 then s else f.n
theorem Xry {s A:Int}{f:Sf}(h1:1≤s)(w:SfW s f):∃v r,shP s A f=⟨A,flS s f,v⟩::r:=by
 rcases w with ⟨e1,e2⟩ | ⟨h3,hn,h4,h5⟩
 · obtain⟨n,b⟩:=f
   have e1:n=0:=e1
   have e2:b=[]:=e2
   subst e1 e2
   exact⟨false,[],by rw[Xfw h1];rfl⟩
 · obtain⟨n,b⟩:=f
   cases b with
   | nil =>
     have h5:s<n*((0:Nat):Int)+n:=h5
     have hn:n≤s:=hn
     simp at h5
     omega
   | cons v r =>
     have h3:3≤n:=h3
     refine⟨v,slP n (A+n) r++fr (A+n*(((v::r).length:Nat):Int)) (A+s),?_⟩
     unfold flS
     rw[if_neg (show n≠0 by omega)]
     rfl
theorem Xhu {s k:Int}{f:Sf}{cs:List Int}{j:Nat}(h1:1≤s)(w:SfW s f)(m:Xau cs (shP s (s*(j:Int)) f)):Xff cs (shP s (s*(j:Int)) f) k s=if flS s f=k then fitF (shP s (s*(j:Int)) f) k else []:=by
 obtain⟨v,r,e⟩:=Xry (A:=s*(j:Int)) h1 w
 have hm:cs[(s*(j:Int)).toNat]?=some (mkOf (flS s f) v):=(m ⟨s*(j:Int),flS s f,v⟩ (by rw[e];exact List.mem_cons_self)).1
 have c:=Xlx (A:=s*(j:Int)) h1 w
 have hd:∀a∈fitF (shP s (s*(j:Int)) f) k,cs.getD (a-a%s).toNat 0/2=flS s f:=fun a ha=>by
   obtain⟨z,hz,_,_,rfl⟩:=Xkm ha
   obtain⟨c1,c2,_,c3⟩:=c.mem z hz
   rw[(Xxp c1 (by omega)).1,Xhx hm]
   exact Xjn _ _
 unfold Xff
 by_cases g:flS s f=k
 · rw[if_pos g]
   exact List.filter_eq_self.mpr fun a ha=>decide_eq_true (by rw[hd a ha];exact g)
 · rw[if_neg g]
   exact List.filter_eq_nil_iff.mpr fun a ha h=>g (by rw[←hd a ha];exact of_decide_eq_true h)
theorem Xpc {s k:Int}{f:Sf}{cs:List Int}{j:Nat}(h1:1≤s)(w:SfW s f)(m:Xau cs (shP s (s*(j:Int)) f))(hk:¬(f.n=k∧false∈f.b))(h0:¬(k=s∧f.n=0))(k1:1≤k):Xff cs (shP s (s*(j:Int)) f) k s=[]:=by
 rw[Xhu h1 w m]
 split
 · rename_i g
   refine Xlw fun z hz hv hl=>?_
   unfold flS at g
   rcases w with ⟨e1,e2⟩ | ⟨h3,_,h4,h5⟩
   · rw[if_pos e1] at g
     exact h0 ⟨g.symm,e1⟩
   · rw[if_neg (by omega)] at g
     unfold shP at hz
     rcases List.mem_append.mp hz with q | q
     · obtain⟨_,q2⟩:=Xmk q
       rw[hv] at q2
       exact hk ⟨g,q2⟩
     · obtain⟨_,q2,_⟩:=XCf q
       omega
 · rfl
theorem Xkg {s k:Int}{cs:List Int}(h1:1≤s)(k1:1≤k):∀{fs:List Sf} {j:Nat},(∀f∈fs,SfW s f)→Xau cs (alP s (s*(j:Int)) fs)→(∀f∈fs,¬(f.n=k∧false∈f.b)∧¬(k=s∧f.n=0))→Xff cs (alP s (s*(j:Int)) fs) k s=[]
 | [],_,_,_,_=>rfl
 | f::r,j,w,m,h=>by
   have m:Xau cs (shP s (s*(j:Int)) f++alP s (s*(j:Int)+s) r):=m
   show Xff cs (shP s (s*(j:Int)) f++alP s (s*(j:Int)+s) r) k s=[]
   obtain⟨g1,g2⟩:=h f List.mem_cons_self
   rw[Xhs,Xpc h1 (w f List.mem_cons_self) (m.sub fun p hp=>List.mem_append_left _ hp) g1 g2 k1,←Xcd,List.nil_append]
   exact Xkg h1 k1 (fun g hg=>w g (List.mem_cons_of_mem _ hg)) (by rw[Xcd];exact m.sub fun p hp=>List.mem_append_right _ hp) fun g hg=>h g (List.mem_cons_of_mem _ hg)
theorem Xvk {k:Int}:∀{b:List Bool} {A:Int} {i:Nat},b[i]?=some false→(∀i':Nat,i'<i→b[i']?≠some false)→∃r,fitF (slP k A b) k=(A+k*(i:Int))::r
 | v::r,A,0,h,_=>by
   have e:v=false:=Option.some.inj h
   subst e
   refine⟨fitF (slP k (A+k) r) k,?_⟩
   show ((⟨A,k,false⟩::slP k (A+k) r).filter fun z=>!z.v&&decide (z.l=k)).map (·.a)=_
   rw[List.filter_cons,if_pos (by simp)]
   simp [fitF]
 | v::r,A,i+1,h,g=>by
   have e:v=true:=by
     cases v with
     | true=>rfl
     | false=>exact absurd rfl (g 0 (Nat.succ_pos _))
   subst e
   obtain⟨q,hq⟩:=Xvk (k:=k) (b:=r) (A:=A+k) (i:=i) h fun i' hi=>g (i'+1) (by omega)
   refine⟨q,?_⟩
   show ((⟨A,k,true⟩::slP k (A+k) r).filter fun z=>!z.v&&decide (z.l=k)).map (·.a)=_
   rw[List.filter_cons,if_neg (by simp)]
   rw[Xcd,show A+(k*(i:Int)+k)=A+k+k*(i:Int) by omega]
   exact hq
theorem Xqq {s k:Int}{cs:List Int}{fs:List Sf}{j i:Nat}{b:List Bool}(h1:1≤s)(k3:3≤k)(w:∀f∈fs,SfW s f)(m:Xau cs (alP s 0 fs))(h:fs[j]?=some ⟨k,b⟩)(hb:b[i]?=some false)(hi:∀i':Nat,i'<i→b[i']?≠some false)
   (hj:∀(j':Nat) (f:Sf),j'<j→fs[j']?=some f→¬(f.n=k∧false∈f.b)∧¬(k=s∧f.n=0)):∃r,Xff cs (alP s 0 fs) k s=(s*(j:Int)+k*(i:Int))::r:=by
 obtain⟨e,l,_⟩:=Xer h
 have wj:=w _ (List.mem_of_getElem? h)
 have ea:alP s 0 fs=alP s 0 (fs.take j)++(shP s (s*(j:Int)) ⟨k,b⟩++alP s (s*(j:Int)+s) (fs.drop (j+1))):=by
   have:=congrArg (alP s 0) e
   rw[Xkn,l,Int.zero_add] at this
   exact this
 rw[ea] at m ⊢
 have n1:Xff cs (alP s 0 (fs.take j)) k s=[]:=by
   have:=Xkg (cs:=cs) (j:=0) h1 (by omega) (fs:=fs.take j) (k:=k) (fun f hf=>w f (List.mem_of_mem_take hf)) (by rw[show s*((0:Nat):Int)=0 by simp];exact m.sub fun p hp=>List.mem_append_left _ hp) fun f hf=>by
     obtain⟨j',hj'⟩:=List.getElem?_of_mem hf
     have hl:j'<j:=by
       have:=(List.getElem?_eq_some_iff.mp hj').1
       omega
     rw[List.getElem?_take_of_lt hl] at hj'
     exact hj j' f hl hj'
   rw[show s*((0:Nat):Int)=0 by simp] at this
   exact this
 obtain⟨r,hr⟩:=Xvk (k:=k) (A:=s*(j:Int)) hb hi
 rw[Xhs,n1,Xhs,Xhu h1 wj (m.sub fun p hp=>List.mem_append_right _ (List.mem_append_left _ hp)),if_pos (show flS s ⟨k,b⟩=k by unfold flS;rw[if_neg (show k≠0 by omega)])]
 refine⟨r++fitF (fr (s*(j:Int)+k*(b.length:Int)) (s*(j:Int)+s)) k++Xff cs (alP s (s*(j:Int)+s) (fs.drop (j+1))) k s,?_⟩
 unfold shP
 rw[Xfq]
 show []++((fitF (slP k (s*(j:Int)) b) k++fitF (fr (s*(j:Int)+k*(b.length:Int)) (s*(j:Int)+s)) k)++_)=_
 rw[hr]
 simp [List.append_assoc]
theorem Xhw {s A:Int}{f:Sf}(h1:1≤s)(o:SfOk s f):fitF (shP s A f) s=if f.n=0 then [A] else []:=by
 obtain⟨w,t⟩:=o
 rcases w with ⟨e1,e2⟩ | ⟨h3,hn,h4,h5⟩
 · obtain⟨n,b⟩:=f
   have e1:n=0:=e1
   have e2:b=[]:=e2
   subst e1 e2
   rw[Xfw h1,if_pos rfl]
   unfold fitF
   rw[List.filter_cons,if_pos (by simp)]
   rfl
 · have h0:f.n≠0:=by omega
   rw[if_neg h0]
   refine Xlw fun z hz hv hl=>?_
   unfold shP at hz
   have tt:=t h0
   have hlen:1≤f.b.length:=by
     rcases hb:f.b with _ | ⟨v,r⟩
     · rw[hb] at tt;cases tt
     · simp
   rcases List.mem_append.mp hz with q | q
   · obtain⟨q1,q2⟩:=Xmk q
     have hns:f.n=s:=by omega
     rw[hns] at h4
     have hl1:f.b.length≤1:=by
       refine Nat.le_of_not_lt fun h=>?_
       have:s*(2:Int)≤s*(f.b.length:Int):=Int.mul_le_mul_of_nonneg_left (by omega) (by omega)
       omega
     rcases hb:f.b with _ | ⟨v,r⟩
     · rw[hb] at tt;cases tt
     · rw[hb,List.length_cons] at hl1
       have hr:r=[]:=List.length_eq_zero_iff.mp (by omega)
       rw[hb,hr] at tt q2
       have e1:=List.mem_singleton.mp tt
       have e2:=List.mem_singleton.mp q2
       rw[hv,←e1] at e2
       cases e2
   · obtain⟨_,q2,_⟩:=XCf q
     have:f.n*(1:Int)≤f.n*(f.b.length:Int):=Int.mul_le_mul_of_nonneg_left (by omega) (by omega)
     omega
theorem Xml {s:Int}(h1:1≤s):∀{fs:List Sf} {A:Int},(∀f∈fs,SfOk s f)→(∀f∈fs,f.n≠0)→fitF (alP s A fs) s=[]
 | [],_,_,_=>rfl
 | f::r,A,o,h=>by
   show fitF (shP s A f++alP s (A+s) r) s=[]
   rw[Xfq,Xhw h1 (o f List.mem_cons_self),if_neg (h f List.mem_cons_self),List.nil_append]
   exact Xml h1 (fun g hg=>o g (List.mem_cons_of_mem _ hg)) fun g hg=>h g (List.mem_cons_of_mem _ hg)
theorem Xxq {s:Int}{fs:List Sf}{j:Nat}{f:Sf}(h1:1≤s)(o:∀f∈fs,SfOk s f)(h:fs[j]?=some f)(h0:f.n=0)(hj:∀(j':Nat) (f:Sf),j'<j→fs[j']?=some f→f.n≠0):∃r,fitF (alP s 0 fs) s=(s*(j:Int))::r:=by
 obtain⟨e,l,_⟩:=Xer h
 have ea:alP s 0 fs=alP s 0 (fs.take j)++(shP s (s*(j:Int)) f++alP s (s*(j:Int)+s) (fs.drop (j+1))):=by
   have:=congrArg (alP s 0) e
   rw[Xkn,l,Int.zero_add] at this
   exact this
 have n1:fitF (alP s 0 (fs.take j)) s=[]:=Xml h1 (fun f hf=>o f (List.mem_of_mem_take hf)) fun f hf=>by
   obtain⟨j',hj'⟩:=List.getElem?_of_mem hf
   have hl:j'<j:=by
     have:=(List.getElem?_eq_some_iff.mp hj').1
     omega
   rw[List.getElem?_take_of_lt hl] at hj'
   exact hj j' f hl hj'
 rw[ea,Xfq,n1,Xfq,Xhw h1 (o f (List.mem_of_getElem? h)),if_pos h0]
 exact⟨_,rfl⟩
def NoGr (s k:Int)(fs:List Sf):Prop:=(∀f∈fs,¬(f.n=k∧false∈f.b))∧(s<k∨∀f∈fs,f.n≠0)
def Gs (s k:Int)(fs:List Sf)(j i:Nat)(b:List Bool)(fs1:List Sf):Prop :=
 fs1[j]?=some ⟨k,b⟩∧b[i]?=some false∧(∀i':Nat,i'<i→b[i']?≠some false)∧(∀(j':Nat) (f:Sf),j'<j→fs[j']?=some f→¬(f.n=k∧false∈f.b)) ∧
 (fs1=fs∨((∀f∈fs,¬(f.n=k∧false∈f.b))∧k≤s∧i=0∧b=List.replicate (s/k).toNat false∧(∃f,fs[j]?=some f∧f.n=0)∧(∀(j':Nat) (f:Sf),j'<j→fs[j']?=some f→f.n≠0)∧fs1=fs.set j ⟨k,b⟩))
theorem Xgl {s k:Int}(h1:1≤k)(h2:k≤s):k*((s/k).toNat:Int)≤s∧s<k*((s/k).toNat:Int)+k∧1≤(s/k).toNat:=by
 have a1:=Int.mul_ediv_add_emod s k
 have a2:=Int.emod_nonneg s (show k≠0 by omega)
 have a3:=Int.emod_lt_of_pos s (show 0<k by omega)
 have a4:1≤s/k:=Int.le_ediv_of_mul_le (by omega) (by omega)
 have a5:((s/k).toNat:Int)=s/k:=Int.toNat_of_nonneg (by omega)
 rw[a5]
 omega
theorem XEh {s k:Int}{f:Sf}(h1:1≤s)(o:SfOk s f)(hk:f.n=k)(ks:k=s):false ∉ f.b:=fun hf=>by
 have h:=Xhw (A:=0) h1 o
 obtain⟨w,t⟩:=o
 rcases w with ⟨e1,e2⟩ | ⟨h3,hn,h4,h5⟩
 · rw[e2] at hf;cases hf
 · rw[if_neg (by omega)] at h
   obtain⟨i,hi⟩:=List.getElem?_of_mem hf
   have hm:(⟨0+f.n*(i:Int),f.n,false⟩:Pc)∈slP f.n 0 f.b:=by
     obtain⟨ds,rs,e⟩:=Xqp (n:=f.n) (A:=0) hi
     have:=e false
     rw[Xkb hi] at this
     rw[this]
     exact List.mem_append_right _ List.mem_cons_self
   have:(0+f.n*(i:Int))∈fitF (shP s 0 f) s:=by
     unfold fitF shP
     exact List.mem_map.mpr ⟨_,List.mem_filter.mpr ⟨List.mem_append_left _ hm,by simp;omega⟩,rfl⟩
   rw[h] at this
   cases this
theorem Gs.W {s k:Int}{fs fs1:List Sf}{j i:Nat}{b:List Bool}(g:Gs s k fs j i b fs1)(k3:3≤k)(o:∀f∈fs,SfOk s f):∀f∈fs1,SfW s f:=by
 obtain⟨_,_,_,_,e | ⟨_,ks,_,eb,_,_,e⟩⟩:=g
 · rw[e]
   exact fun f hf=>(o f hf).1
 · rw[e]
   obtain⟨d1,d2,_⟩:=Xgl (show 1≤k by omega) ks
   refine W_set (fun f hf=>(o f hf).1) (.inr ⟨k3,ks,?_,?_⟩)
   · show k*(b.length:Int)≤s
     rw[eb,List.length_replicate]
     exact d1
   · show s<k*(b.length:Int)+k
     rw[eb,List.length_replicate]
     exact d2
theorem Gs.slot {s k:Int}{fs fs1:List Sf}{cs:List Int}{j i:Nat}{b:List Bool}(g:Gs s k fs j i b fs1)(h1:1≤s)(k3:3≤k)(o:∀f∈fs,SfOk s f)(m:Xau cs (alP s 0 fs1)):∃r,Xff cs (alP s 0 fs1) k s=(s*(j:Int)+k*(i:Int))::r:=by
 have w:=g.W k3 o
 obtain⟨g1,g2,g3,g4,g5⟩:=g
 refine Xqq h1 k3 w m g1 g2 g3 fun j' f hj' hf=>?_
 rcases g5 with e | ⟨g6,ks,_,eb,_,g7,e⟩
 · rw[e] at hf
   refine⟨g4 j' f hj' hf,fun h=>?_⟩
   rw[e] at g1
   exact XEh h1 (o _ (List.mem_of_getElem? g1)) rfl h.1 (List.mem_of_getElem? g2)
 · rw[e,List.getElem?_set_ne (by omega)] at hf
   exact⟨g4 j' f hj' hf,fun h=>g7 j' f hj' hf h.2⟩
theorem Gs.ok {s k:Int}{fs fs1:List Sf}{j i:Nat}{b:List Bool}(g:Gs s k fs j i b fs1)(k3:3≤k)(o:∀f∈fs,SfOk s f):∀f∈fs1.set j ⟨k,b.set i true⟩,SfOk s f:=fun f hf=>by
 have w:=g.W k3 o
 have hib:i<b.length:=(List.getElem?_eq_some_iff.mp g.2.1).1
 rcases List.mem_or_eq_of_mem_set hf with h | h
 · obtain⟨g1,g2,g3,g4,g5⟩:=g
   rcases g5 with e | ⟨g6,ks,i0,eb,_,g7,e⟩
   · rw[e] at h
     exact o f h
   · rw[e] at hf
     rw[List.set_set] at hf
     rcases List.mem_or_eq_of_mem_set hf with h | h
     · exact o f h
     · rw[h]
       exact⟨Xvu (w _ (List.mem_of_getElem? g1)) hib,fun _=>List.mem_of_getElem? (List.getElem?_set_self hib)⟩
 · rw[h]
   exact⟨Xvu (w _ (List.mem_of_getElem? g.1)) hib,fun _=>List.mem_of_getElem? (List.getElem?_set_self hib)⟩
end Stow
namespace Stow
open PySem L2 PyProof.Rows
def XCb:V→List V→Hp→VK→Prop:=fun x vs H Q=>∃(l:Addr) (xs:List V) (y z:V) (j:Nat),x = .ref l∧vs=[y]∧H l=some (.lst xs)∧Xcr y=true∧xs.all Xcr=true∧xs[j]?=some z∧eqV z y=true∧(∀(m:Nat) (u:V),m<j→xs[m]?=some u→eqV u y=false)∧xs.length≤4000∧Q (.int (j:Int)) H
theorem Xnd {X:Cx}:MtM X "list.index" XCb:=by
 intro pins s σ H x vs v us Q I rx rv h
 obtain⟨l,xs,y,z,j,rfl,rfl,hH,fy,fs,hj,hz,hno,hl4,q⟩:=h
 cases rx
 obtain⟨u,rfl,ru⟩:=rv.one
 obtain⟨z0,its,n,r,hl,e⟩:=I.lstM hH
 obtain⟨w,hw,rw'⟩:=r.get hj
 have hjl:j<its.length:=(List.getElem?_eq_some_iff.mp hw).1
 have fl:∀(m:Nat) (u:V),xs[m]?=some u→Xcr u=true:=fun m u h=>List.all_eq_true.mp fs u (List.mem_of_getElem? h)
 have hxl:xs.length=its.length:=r.length
 refine call_meets F.slot_list_index ⟨_,e,rfl⟩ F.entry_list_index (F.args_list_index_2 _ _) (SeqAt.list_indexAt l its.toArray n none #[] u (eqU y) j (by simpa using hjl) (by omega) ?_ ?_) ⟨e,fun w hw=>Xhb ru fy r fs w (by simpa using hw),⟨.int (j:Int),H,I.tok _,⟨_,rfl⟩,q⟩⟩
 · have:its.toArray[j]'(by simpa using hjl)=w:=by
     have:=(List.getElem?_eq_some_iff.mp hw).2
     simpa using this
   rw[this,Xng rw' (fl j z hj)]
   exact hz
 · intro m hm hmj
   have hm':m<its.length:=by simpa using hm
   obtain⟨u',hu'⟩:∃u',xs[m]?=some u':=⟨_,List.getElem?_eq_getElem (by omega)⟩
   obtain⟨w',hw',rr⟩:=r.get hu'
   have:its.toArray[m]'hm=w':=by
     have:=(List.getElem?_eq_some_iff.mp hw').2
     simpa using this
   rw[this,Xng rr (fl m u' hu')]
   exact hno m u' hmj hu'
theorem XOd (b:List Bool):(b.map V.bl).all Xcr=true:=List.all_eq_true.mpr fun u hu=>by
 obtain⟨v,_,rfl⟩:=List.mem_map.mp hu
 rfl
end Stow
namespace Stow
open PySem L2 PyProof.Rows
def rowL (k:Int):List Int→List Pc
 | []=>[]
 | l::r=>⟨k,l,true⟩::rowL (k+l) r
theorem Xgk:∀(ls:List Int) (k:Int),ls.foldl (·+·) k=k+ls.foldl (·+·) 0
 | [],k=>by simp
 | l::r,k=>by
   rw[List.foldl_cons,List.foldl_cons,Xgk r (k+l),Xgk r (0+l)]
   omega
theorem Xmd (l:Int)(r:List Int):sumI (l::r)=l+sumI r:=by
 unfold sumI
 rw[List.foldl_cons,Xgk]
 omega
theorem Xic (ls:List Int)(l:Int):sumI (ls++[l])=sumI ls+l:=by
 unfold sumI
 rw[List.foldl_append]
 rfl
theorem Xhe:∀(ls:List Int) (k l:Int),rowL k (ls++[l])=rowL k ls++[⟨k+sumI ls,l,true⟩]
 | [],k,l=>by
   show [(⟨k,l,true⟩:Pc)]=[⟨k+sumI [],l,true⟩]
   rw[show sumI []=0 from rfl,Int.add_zero]
 | m::r,k,l=>by
   show (⟨k,m,true⟩:Pc)::rowL (k+m) (r++[l])=⟨k,m,true⟩::(rowL (k+m) r++[⟨k+sumI (m::r),l,true⟩])
   rw[Xhe r,Xmd,Int.add_assoc]
theorem Xfe:∀(ls:List Int) (k:Int),(∀l∈ls,3≤l)→Xas k (rowL k ls) (k+sumI ls)
 | [],k,_=>by
   show k=k+sumI []
   rw[show sumI []=0 from rfl,Int.add_zero]
 | m::r,k,h=>by
   have h3:=h m List.mem_cons_self
   refine⟨rfl,(show 1≤m by omega),fun _=>h3,?_⟩
   have:=Xfe r (k+m) fun l hl=>h l (List.mem_cons_of_mem _ hl)
   rw[Xmd,←Int.add_assoc]
   exact this
def rwP (ls:List Int)(n:Int):List Pc:=rowL 0 ls++fr (sumI ls) n
theorem Xiw {ls:List Int}{n:Int}(h3:∀l∈ls,3≤l)(hn:sumI ls≤n):Xas 0 (rwP ls n) n:=by
 have:=Xfe ls 0 h3
 rw[Int.zero_add] at this
 exact this.app (Xfd hn)
theorem Xxm (ls:List Int)(n L:Int):cutP (rowL 0 ls) [] (sumI ls) (n-sumI ls) (sumI ls) L=rwP (ls++[L]) n:=by
 unfold cutP rwP
 rw[Xhe,Xic,Int.zero_add,show fr (sumI ls) (sumI ls)=[] from if_pos rfl,List.append_nil,List.nil_append,List.append_assoc,show sumI ls+(n-sumI ls)=n by omega]
 rfl
theorem Xeu {ls:List Int}{n:Int}(h:sumI ls<n):rwP ls n=rowL 0 ls++[⟨sumI ls,n-sumI ls,false⟩]:=by
 unfold rwP fr
 rw[if_neg (by omega)]
theorem Xuz {ls:List Int}{n:Int}(h:sumI ls=n):rwP ls n=rowL 0 ls:=by
 unfold rwP fr
 rw[if_pos h,List.append_nil]
theorem Xul {cs ls:List Int}{n L:Int}(h3:∀l∈ls,3≤l)(hl:(cs.length:Int)=n)(h0:0≤sumI ls)(hL:1≤L)(hn:sumI ls+L≤n)(m:Xau cs (rwP ls n)) :
   Xau (cutO cs (sumI ls) (n-sumI ls) (sumI ls) L) (rwP (ls++[L]) n):=by
 rw[Xeu (by omega)] at m
 have c:=Xfe ls 0 h3
 rw[Int.zero_add] at c
 have:=Xiz (z:=⟨sumI ls,n-sumI ls,false⟩) (s:=sumI ls) (L:=L) (rs:=[]) h0 hL (Int.le_refl _) (show sumI ls+L≤sumI ls+(n-sumI ls) by omega) (show sumI ls+(n-sumI ls)≤(cs.length:Int) by omega) (c.endBy (Int.le_refl 0)) (fun p hp=>by cases hp) m
 have e:=Xxm ls n L
 rw[←e]
 exact this
theorem Xmt {ls:List Int}(h3:∀l∈ls,3≤l):0≤sumI ls:=by
 have:=(Xfe ls 0 h3).le
 omega
end Stow
namespace Stow
open PySem L2 PyProof.Rows
theorem XKh {i j:Nat}(h:(2:Int)^i=2^j):i=j:=by
 rcases Nat.lt_trichotomy i j with g | g | g
 · have:=Xec (show i+1≤j by omega)
   have:=pw2 i
   have:=pw1 i
   omega
 · exact g
 · have:=Xec (show j+1≤i by omega)
   have:=pw2 j
   have:=pw1 j
   omega
theorem lex2 (l1 a1 l2 a2:Int):HT.lexLt [l1,a1] [l2,a2]=if l1=l2 then decide (a1<a2) else decide (l1<l2):=by
 by_cases h:l1=l2
 · rw[if_pos h];simp [HT.lexLt,h];omega
 · rw[if_neg h];simp [HT.lexLt,h]
theorem Xht {xs:List (List Int)}(h2:∀k,k<xs.length→∃l a:Int,xs.getD k []=[l,a]):∀j,j<xs.length→∀k,k≤j→HT.lexLt (xs.getD k []) (xs.getD (Xdr xs j) [])=false
 | 0,h,k,hk=>by
   have:k=0:=by omega
   subst this
   obtain⟨l,a,e⟩:=h2 0 h
   show HT.lexLt (xs.getD 0 []) (xs.getD 0 [])=false
   rw[e]
   simp [HT.lexLt]
 | j+1,h,k,hk=>by
   have hm:=Xfp xs j
   obtain⟨l1,a1,e1⟩:=h2 (j+1) h
   obtain⟨l2,a2,e2⟩:=h2 (Xdr xs j) (by omega)
   obtain⟨l3,a3,e3⟩:=h2 k (by omega)
   unfold Xdr
   by_cases hl:HT.lexLt (xs.getD (j+1) []) (xs.getD (Xdr xs j) [])=true
   · rw[if_pos hl]
     by_cases e:k=j+1
     · rw[e,e1]
       simp [HT.lexLt]
     · have ih:=Xht h2 j (by omega) k (by omega)
       rw[e2,e3] at ih
       rw[e1,e2] at hl
       rw[e1,e3]
       rw[lex2] at ih hl ⊢
       by_cases c1:l3=l2
       · rw[if_pos c1] at ih
         have ih:=of_decide_eq_false ih
         by_cases c2:l1=l2
         · rw[if_pos c2] at hl
           have hl:=of_decide_eq_true hl
           rw[if_pos (by omega)]
           exact decide_eq_false (by omega)
         · rw[if_neg c2] at hl
           have hl:=of_decide_eq_true hl
           rw[if_neg (by omega)]
           exact decide_eq_false (by omega)
       · rw[if_neg c1] at ih
         have ih:=of_decide_eq_false ih
         by_cases c2:l1=l2
         · rw[if_pos c2] at hl
           rw[if_neg (by omega)]
           exact decide_eq_false (by omega)
         · rw[if_neg c2] at hl
           have hl:=of_decide_eq_true hl
           rw[if_neg (by omega)]
           exact decide_eq_false (by omega)
   · rw[if_neg hl]
     by_cases e:k=j+1
     · rw[e]
       simpa using hl
     · exact Xht h2 j (by omega) k (by omega)
def Gh (B:Nat)(ps ds rs:List Pc)(b:Int)(M:Nat):Prop:=ps=ds++⟨b,2^M,false⟩::rs∧Bst (2^B) ps ⟨b,2^M,false⟩
def NoH (B:Nat)(ps:List Pc):Prop:=∀z∈ps,z.v=false→z.l<2^B
theorem Xkt {i j:Nat}(h:(2:Int)^i≤2^j):i≤j:=by
 rcases Nat.lt_or_ge j i with g | g
 · have:=Xec (show j+1≤i from g)
   have:=pw1 j
   have:=pw2 j
   omega
 · exact g
theorem Gh.lie {B N M:Nat}{ps ds rs:List Pc}{b:Int}(g:Gh B ps ds rs b M)(hB:2≤B)(hc:Xas 0 ps (2^N))(al:∀z∈ps,Al z) :
   B≤M∧M≤N∧0≤b∧Xas 0 ds b∧Xas (b+2^M) rs (2^N)∧Xas 0 (ds++(hcP b B M++rs)) (2^N)∧(∀z∈ds++(hcP b B M++rs),Al z)∧(⟨b,2^B,true⟩:Pc)∈ds++(hcP b B M++rs):=by
 obtain⟨e,h1,h2,h3,h4⟩:=g
 have hBM:B≤M:=Xkt h3
 rw[e] at hc
 obtain⟨k,c1,c2⟩:=Xgg hc
 obtain⟨ea,_,_,c3⟩:=c2
 have ea:b=k:=ea
 subst ea
 have c3:Xas (b+2^M) rs (2^N):=c3
 have l1:=c1.le
 have l3:=c3.le
 have hMN:M≤N:=Xkt (by omega)
 obtain⟨m0,q0,e1,e2⟩:=al _ h1
 have e1:(2:Int)^M=2^m0:=e1
 have e2:b=2^m0*(q0:Int):=e2
 rw[←XKh e1] at e2
 obtain⟨r,hr⟩:=XCl e2 hBM
 refine⟨hBM,hMN,by omega,c1,c3,c1.app ((Xqr hB hBM).app c3),fun z hz=>?_,List.mem_append_right _ (List.mem_append_left _ List.mem_cons_self)⟩
 rcases List.mem_append.mp hz with g | g
 · exact al z (by rw[e];exact List.mem_append_left _ g)
 · rcases List.mem_append.mp g with g | g
   · rcases List.mem_cons.mp g with w | w
     · rw[w]
       exact⟨B,r,rfl,hr⟩
     · exact XOj e2 (show B+(M-B)≤M by omega) z w
   · exact al z (by rw[e];exact List.mem_append_right _ (List.mem_cons_of_mem _ g))
theorem Xgn.two' {k:Nat}{c:Int}(h:Xgn k c)(h3:3≤c):2≤k:=by
 rcases Nat.lt_or_ge k 2 with g | g
 · have h1:=h.1
   rcases(show k=0∨k=1 by omega) with e | e
   · rw[e] at h1
     have:(2:Int)^0=1:=by decide
     omega
   · rw[e] at h1
     have:(2:Int)^1=2:=by decide
     omega
 · exact g
theorem XBb (c:Int)(h:1≤c):∃k,Xgn k (c+2):=by
 have:=Xiy (c:=(c+1).toNat) (by omega)
 rw[show (((c+1).toNat:Nat):Int)+1=c+2 by omega] at this
 exact⟨_,this⟩
theorem Gs.len {s k:Int}{fs fs1:List Sf}{j i:Nat}{b:List Bool}(g:Gs s k fs j i b fs1):fs1.length=fs.length:=by
 obtain⟨_,_,_,_,e | ⟨_,_,_,_,_,_,e⟩⟩:=g
 · rw[e]
 · rw[e,List.length_set]
inductive St7
 | half (N:Nat) (ps:List Pc)
 | shel (s:Int) (fs:List Sf)
 | row (n:Int) (ls:List Int)
 | st (i:W7) (r n:Int) (ps:List Pc)
def ok4:W7→Prop
 | .half=>False
 | .shel=>False
 | .row=>False
 | _=>True
def ok3:W7→Prop
 | .half=>True
 | .shel=>True
 | .row=>True
 | _=>False
def St7.let3:St7→W7
 | .half _ _=>.half
 | .shel _ _=>.shel
 | .row _ _=>.row
 | .st i _ _ _=>i
def St7.ps:St7→List Pc
 | .half _ ps=>ps
 | .shel s fs=>alP s 0 fs
 | .row n ls=>rwP ls n
 | .st _ _ _ ps=>ps
def St7.s:St7→Int
 | .half N _=>2^N
 | .shel s _=>s
 | .row n _=>n
 | .st _ r _ _=>r
def St7.n:St7→Int
 | .half N _=>2^N
 | .shel s fs=>s*(fs.length:Int)
 | .row n _=>n
 | .st _ _ n _=>n
def St7.ok:St7→Prop
 | .half N ps=>N≤8∧Xas 0 ps (2^N)∧∀z∈ps,Al z
 | .shel s fs=>1≤s∧1≤fs.length∧∀f∈fs,SfOk s f
 | .row n ls=>1≤n∧(∀l∈ls,3≤l)∧sumI ls≤n
 | .st i _ n ps=>ok4 i∧Xas 0 ps n
theorem St7.ch {q:St7}(h:q.ok):Xas 0 q.ps q.n:=by
 cases q with
 | half N ps=>exact h.2.1
 | shel s fs =>
   have:=Xdt h.1 fs 0 (fun f hf=>(h.2.2 f hf).1)
   rw[Int.zero_add] at this
   exact this
 | row n ls=>exact Xiw h.2.1 h.2.2
 | st i r n ps=>exact h.2
def No7 (c:Int):St7→Prop
 | .half _ ps=>∀B,Xgn B (c+2)→NoH B ps
 | .shel s fs=>NoGr s (c+2) fs
 | .row n ls=>n<sumI ls+(c+2)
 | .st _ _ n ps=>ps=[⟨0,n,false⟩]∧n<c+2
inductive Ask7 (c:Int):St7→Int→St7→Prop
 | half {N B M:Nat} {ps ds rs:List Pc} {b:Int}:Xgn B (c+2)→Gh B ps ds rs b M→Ask7 c (.half N ps) (b+1) (.half N (ds++(hcP b B M++rs)))
 | shel {s:Int} {fs fs1:List Sf} {j i:Nat} {b:List Bool}:Gs s (c+2) fs j i b fs1→fs1.length=fs.length→Ask7 c (.shel s fs) (s*(j:Int)+(c+2)*(i:Int)+1) (.shel s (fs1.set j ⟨c+2,b.set i true⟩))
 | row {n:Int} {ls:List Int}:sumI ls+(c+2)≤n→Ask7 c (.row n ls) (sumI ls+1) (.row n (ls++[c+2]))
 | st {i:W7} {r r' n:Int}:c+2≤n→(i = .next→r'=c+2)→(i≠.next→r'=r)→Ask7 c (.st i r n [⟨0,n,false⟩]) 1 (.st i r' n (cutP [] [] 0 n 0 (c+2)))
end Stow
namespace Stow
open PySem L2 PyProof.Rows
structure DefD (P:Program)(w:World)(K:PySem.W.Frag)(mg:Str→Option Value)(base:Heap)(x:Str)(k:Nat)(ps:List Str)(dvs:List V)(sp:Sp):Prop where
 all:Defx P w K mg base x k ps sp
 less:∃(f:Addr) (fd:FuncData) (ds:List Value),FnOk P w K mg base (CXe P w) k f fd ps sp∧mg x=some (.ref f)∧PySem.W.keepIn K (.ref f)=true∧Xco K fd ps ds∧Vals dvs ds
structure SrcD (K:PySem.W.Frag)(mg:Str→Option Value)(x:Str)(st:Stmt)(T:Addr):Prop where
 ex:∃(f:Addr) (fd:FuncData),FunD K x x st (.ref T) f fd∧mg x=some (.ref f)∧PySem.W.keepIn K (.ref f)=true
theorem XDq {K:PySem.W.Frag}{h:Heap}{mg:Str→Option Value}{x:Str}{st:Stmt}{f T:Addr}{oc kV doc pm cdv ct:Value}{od an:Option Addr}{osl:Array (Option Value)}(X:K.In h)(G:h.Ns mainGlobals mg)
   (a:PySem.W.nsIn K mainGlobals x=some (some (.ref f))) (l:K.lookup f=some ⟨oc,od,.func (PySem.W.fnOf x x (Xaz st) (Xav st) (Xad st) (.ref T) kV doc pm an cdv ct),osl⟩)
   (c:PySem.W.codeIn K cdv x=true) (k:PySem.W.keepIn K (.ref f)=true):SrcD K mg x st T:=⟨f,_,Xho l c k,PySem.W.mg_of X G a,k⟩
section
variable {P:Program}{w:World}{K:PySem.W.Frag}{mg:Str→Option Value}{base:Heap}
theorem SrcD.okx {x:Str}{st:Stmt}{N ps:List Str}{k:Nat}{sp:Sp}{T:Addr}{dvs:List V}{ds:List Value}{tc:Value}{td:Option Addr}{tn:Nat}{tsl:Array (Option Value)}(S:SrcD K mg x st T)(lt:K.lookup T=some ⟨tc,td,.seq ds.toArray tn,tsl⟩)(sc:FnScope N ps (Xad st))
   (hA:∀(kV doc pm:Value) (an:Option Addr) (cdv ct:Value) (us:List Value),us.length=ps.length→∃k:Option (Array Value)→Sem (List (Str×Value)),
     bindArgs (PySem.W.fnOf x x (Xaz st) (Xav st) (Xad st) (.ref T) kV doc pm an cdv ct) ⟨us,[]⟩=seqItems? (.ref T) >>= k∧k (some ds.toArray)=pure (ps.zip us))
   (hD:∀(kV doc pm:Value) (an:Option Addr) (cdv ct:Value) (us:List Value),(us++ds).length=ps.length→∃k:Option (Array Value)→Sem (List (Str×Value)),
     bindArgs (PySem.W.fnOf x x (Xaz st) (Xav st) (Xad st) (.ref T) kV doc pm an cdv ct) ⟨us,[]⟩=seqItems? (.ref T) >>= k∧k (some ds.toArray)=pure (ps.zip (us++ds)))
   (v:Vals dvs ds) (len:∀vs H Q E,sp vs H Q E→vs.length=ps.length)
   (hbody:∀(f:Addr) (cdv:Value) (A:Around) (outer:List Env) (s:Shared) (H:Hp) (vs:List V) (Q:VK) (E:XK),Room k (A.deeper (envOfC x (Xad st) s.heap.objs.size f cdv))→sp vs H Q E →
     ∃t,PSs (cxOf (CXe P w) P w K mg base N x (Xad st) f cdv A outer s H E) (Xav st) t∧t { nx:=fun _ H'=>Q .non H',rt:=Q } (start N vs) H):DefD P w K mg base x (k+1) ps dvs sp:=by
 obtain⟨f,fd,F,hm,kp⟩:=S.ex
 have ok:=Xfo F sc len (hbody f)
 exact⟨⟨f,fd,ok,hm,kp,F.bindsA lt hA⟩,⟨f,fd,ds,ok,hm,kp,F.bindsD lt hD,v⟩⟩
end
section
variable {X:Cx}{x:Str}{j k:Nat}{ps:List Str}{sp:Sp}{dvs:List V}{p pos:Pos}{e:Expr}{es:List Expr}{t:TA}
theorem XEi (D:DefD X.prog X.w X.K X.mg X.base x j ps dvs sp)(hr:Room k X.A)(hg:Gl X x)(ha:PA X.nox (e::es) t)(hk:j≤k:=by decide)
   (hdb:(x==("__debug__":Str))=false:=by decide) (he:starEach (e::es) X.env=(false,eval e X.env)::starEach es X.env:=by rfl) (hpl:(backTo pos (starEach es X.env)).any (·.1)=false:=by rfl):PX X (.Call (.Name x p) (e::es) [] pos) (Xpd sp dvs t):=by
 obtain⟨f,fd,ds,F,hm,kp,b,v⟩:=D.less
 exact Xqj F (hr.mono hk) hg hm kp b v ha hdb he hpl
end
end Stow
def Stow.wA (l:List Lean.Name):Array (Lean.TSyntax ``Lean.Parser.Tactic.tacticSeq):=Lean.Unhygienic.run (l.toArray.mapM fun n=>`(tacticSeq| with_reducible refine $(Lean.mkIdent n) ?_))
local macro_rules
 | `(tactic| walk_at "set")=>`(tactic| first
   | exact Stow.set0_c
   | exact Stow.set0_1
   | exact Stow.set0_0
   | ((refine Stow.setS_c (r:=?r) ?h);(case h=>walk_at "set"))
   | ((refine Stow.setS_1 (r:=?r) ?h);(case h=>walk_at "set"))
   | ((refine Stow.setS_0 (r:=?r) ?h);(case h=>walk_at "set")))
local macro_rules
 | `(tactic| walk_at "look")=>`(tactic| first
   | with_reducible assumption
   | exact L2.upd_same
   | ((with_reducible refine Stow.look_ne ?a ?b);(case a=>(first | assumption | exact Ne.symm (by assumption)));(case b=>walk_at "look"))
   | ((with_reducible refine Stow.look_put ?a ?b);(case a=>(first | assumption | walk_at "look"));(case b=>walk_at "look"))
   | ((with_reducible refine Stow.look_tup (ys:=?ys) ?a ?b);(case a=>walk_at "look");(case b=>walk_at "look"))
   | assumption)
local macro_rules
 | `(tactic| walk_at "seq")=>`(tactic| first
   | with_reducible assumption
   | exact L2.SqL.of (by walk_at "look")
   | ((with_reducible refine Stow.seq_put ?a ?b);(case a=>assumption);(case b=>walk_at "seq"))
   | assumption)
local macro_rules
 | `(tactic| walk_at "num")=>`(tactic| first | assumption | omega | (simp only [List.length_map,List.length_set,List.length_append,List.length_cons,List.length_nil] <;> omega))
local macro_rules
 | `(tactic| walk_at "size")=>`(tactic| first | exact Stow.small4000 (by first | omega | (simp only [List.length_map,List.length_set,List.length_append,List.length_cons,List.length_nil] <;> omega)))
local macro_rules
 | `(tactic| walk_at "side")=>`(tactic| first
   | (show (0:Int)<_;first | decide | omega)
   | (show (0:Int)≤_;first | decide | omega)
   | exact Or.inr ⟨by decide,by decide⟩
   | exact Or.inl ⟨by decide,by decide⟩
   | exact⟨by decide,by decide⟩
   | exact⟨by decide,by decide,by decide⟩
   | exact⟨by decide,by decide,by assumption⟩
   | exact⟨by decide,by decide,by omega⟩
   | exact⟨by omega,by omega,by decide⟩
   | exact Or.inr ⟨by omega,by omega⟩
   | exact Or.inl ⟨by omega,by omega⟩
   | exact⟨by omega,by omega⟩)
local macro_rules
 | `(tactic| walk_at "ty")=>`(tactic| first | exact L2.TyOf.int _ | exact L2.TyOf.bl _ | exact L2.TyOf.non | ((refine L2.TyOf.lst (xs:=?xs) ?h);(case h=>walk_at "look")) | ((refine L2.TyOf.tup (xs:=?xs) ?h);(case h=>walk_at "look")) | exact L2.TyOf.str _)
local macro_rules
 | `(tactic| walk_at "kit")=>`(tactic| first | exact Stow.kit_ii | exact Stow.kit_ib | exact Stow.kit_bb | exact Stow.kit_ll | exact Stow.kit_tt)
local macro_rules
 | `(tactic| walk_at "sp")=>`(tactic| fail "no promise")
def Stow.wq0:=Stow.wA [`Stow.r_seq,`Stow.r_chain,`Stow.r_asg]
def Stow.wq1:=Stow.wA [`Stow.r_gname,`Stow.r_op,`Stow.r_cons,`Stow.r_nil,`Stow.r_c,`Stow.r_rI0,`Stow.r_call,`Stow.r_cb,`Stow.r_test,`Stow.r_tB,`Stow.r_bl,`Stow.r_ifS,`Stow.r_ret,`Stow.r_rt,`Stow.r_drop,`Stow.r_next,`Stow.r_not,`Stow.r_and,`Stow.r_or,`Stow.r_andV,`Stow.r_orV,`Stow.r_notV,`Stow.r_ifE,`Stow.r_ifN,`Stow.r_eqI,`Stow.r_neI,`Stow.r_isN,`Stow.r_int,`Stow.r_eqB,`Stow.r_neB,`Stow.r_tup,`Stow.r_lst,`Stow.r_bm,`Stow.r_bm0,`Stow.r_sl,`Stow.r_part,`Stow.r_nopart,`Stow.r_un,`Stow.r_rU,`Stow.r_intB,`Stow.r_intI,`Stow.r_truB,`Stow.r_gsub,`Stow.r_retN,`Stow.r_ct,`Stow.r_bk,`Stow.r_break,`Stow.r_cont,`L2.iteT,`L2.iteF]
def Stow.wq2:=Stow.wA [`Stow.r_raise,`Stow.r_raiseI,`Stow.r_tryAs,`Stow.r_try,`Stow.r_fldX,`Stow.r_for,`Stow.r_iL,`Stow.r_iR1,`Stow.r_iR2,`Stow.r_comp]
def Stow.wq3:=Stow.wA [`Stow.r_makeX,`Stow.r_makeI,`Stow.r_fldN]
def Stow.wq4:=Stow.wA [`Stow.r_tryE,`Stow.r_tryA,`Stow.r_xCall,`Stow.r_tryS,`Stow.r_xSet,`Stow.r_xIf,`Stow.r_xMeth,`Stow.r_xMethD,`Stow.r_xMake,`Stow.r_methD,`Stow.r_isB]
local macro_rules
 | `(tactic| walk_at "st")=>`(tactic| first
   | ((with_reducible refine Stow.r_var (v:=?v) ?e ?_);(case e=>exact rfl))
   $[| $(Stow.wq0):tacticSeq]*
   | ((with_reducible refine Stow.r_gnameN (σ':=?s) ?e ?_);(case e=>with_reducible (walk_at "set")))
   $[| $(Stow.wq1):tacticSeq]*
   | ((with_reducible refine Stow.r_rI ?c ?_);(case c=>walk_at "side"))
   | ((with_reducible refine Stow.r_tyL (xs:=?xs) ?h ?_);(case h=>walk_at "look"))
   | ((with_reducible refine Stow.r_appendI (ns:=?ns) ?h ?z ?_);(case h=>walk_at "look");(case z=>walk_at "size"))
   | ((with_reducible refine Stow.r_append (xs:=?xs) ?h ?z ?_);(case h=>walk_at "look");(case z=>walk_at "size"))
   | ((with_reducible refine Stow.r_gtup (xs:=?xs) ?h ?l ?_);(case h=>walk_at "look");(case l=>exact rfl))
   | (with_reducible refine Stow.r_gcons ?_)
   | (with_reducible refine Stow.r_gnil ?_)
   | ((with_reducible refine Stow.r_ixI (ns:=?ns) ?h ?a ?b ?_);(case h=>walk_at "seq");(case a=>walk_at "num");(case b=>walk_at "num"))
   | ((with_reducible refine Stow.r_ixT (xs:=?xs) (v:=?v) ?h ?e ?_);(case h=>walk_at "look");(case e=>exact rfl))
   | ((with_reducible refine Stow.r_setI (ns:=?ns) ?h ?a ?b ?_);(case h=>walk_at "look");(case a=>walk_at "num");(case b=>walk_at "num"))
   | ((with_reducible refine Stow.r_sllG (ns:=?ns) ?h ?_);(case h=>walk_at "seq"))
   | ((with_reducible refine Stow.r_sll (xs:=?xs) ?h ?_);(case h=>walk_at "seq"))
   | ((with_reducible refine Stow.r_lenI (ns:=?ns) ?h ?_);(case h=>walk_at "seq");(try rw[List.length_map]))
   | ((with_reducible refine Stow.r_lenL (xs:=?xs) ?h ?_);(case h=>walk_at "look"))
   | ((with_reducible refine Stow.r_lenT (xs:=?xs) ?h ?_);(case h=>walk_at "look"))
   | ((with_reducible refine Stow.r_listI (xs:=?xs) ?h ?_);(case h=>walk_at "seq"))
   | ((with_reducible refine Stow.r_isi (t:=?t) (b:=?b) ?y ?e ?_);(case y=>walk_at "ty");(case e=>walk_at "kit"))
   | ((with_reducible refine Stow.r_new ?h ?_);(case h=>(first | exact Nat.zero_le _ | simp)))
   | ((with_reducible refine Stow.r_truL (xs:=?xs) ?h ?_);(case h=>walk_at "seq"))
   | ((with_reducible refine Stow.r_ifdT ?c ?_);(case c=>(first | omega | exact rfl)))
   | ((with_reducible refine Stow.r_ifdF ?c ?_);(case c=>(first | omega | (intro h;cases h;done))))
   $[| $(Stow.wq2):tacticSeq]*
   | ((with_reducible refine Stow.r_isiX (C:=?C) (od:=?od) (b:=?b) ?h ?z ?e ?_);(case h=>walk_at "look");(case z=>assumption);(case e=>assumption))
   | ((with_reducible refine Stow.r_isiN (C:=?C) (od:=?od) (b:=?b) ?h ?z ?n ?e ?_);(case h=>walk_at "look");(case z=>assumption);(case n=>exact fun z=>nomatch z);(case e=>assumption))
   $[| $(Stow.wq3):tacticSeq]*
   | ((with_reducible refine Stow.r_catG (xs:=?xs) (zs:=?zs) ?h ?g ?z ?_);(case h=>walk_at "look");(case g=>walk_at "look");(case z=>walk_at "num"))
   | ((with_reducible refine Stow.r_cat (xs:=?xs) (zs:=?zs) ?h ?g ?z ?_);(case h=>walk_at "look");(case g=>walk_at "look");(case z=>(refine Nat.le_of_lt (L2.small1000 ?_);first | omega | simp)))
   | ((with_reducible refine Stow.r_slS ?h ?_);(case h=>decide))
   | (with_reducible refine Stow.r_max ?_)
   | (with_reducible refine Stow.r_fld ?_)
   | ((with_reducible refine Stow.r_at (C:=?C) (dx:=?dx) (fs:=?fs) (v:=?v) ?h ?c ?n ?l ?_);(case h=>walk_at "look");(case c=>assumption);(case n=>assumption);(case l=>exact rfl))
   | (with_reducible refine Stow.r_sfld ?_)
   | ((with_reducible refine Stow.r_sat (C:=?C) (dx:=?dx) (fs:=?fs) ?h ?c ?n ?l ?_);(case h=>walk_at "look");(case c=>assumption);(case n=>assumption);(case l=>(first | decide | simp)))
   | (with_reducible refine Stow.r_meth ?_)
   | ((with_reducible refine Stow.r_mat (dx:=?dx) (fs:=?fs) ?h ?l ?_);(case h=>walk_at "look");(case l=>exact rfl))
   | (with_reducible refine Stow.r_make ?_)
   | (with_reducible refine Stow.r_compG ?_)
   | ((with_reducible refine Stow.r_isiO (C:=?C) (dx:=?dx) (fs:=?fs) (b:=?b) ?h ?z ?e ?_);(case h=>walk_at "look");(case z=>assumption);(case e=>assumption))
   $[| $(Stow.wq4):tacticSeq]*
   | ((with_reducible refine Stow.r_notIn (xs:=?xs) ?h ?f ?g ?_);(case h=>walk_at "look");(case f=>exact rfl);(case g=>exact rfl))
   | (with_reducible refine Stow.r_nx ?_)
   | walk_at "sp")
local macro_rules
 | `(tactic| walk_at "go")=>`(tactic| repeat walk_at "st")
local macro_rules
 | `(tactic| walk_at "len")=>`(tactic| first | (rintro ⟨e,_⟩;exact congrArg List.length e) | (rintro ⟨_,h⟩;revert h;walk_at "len"))
local macro_rules
 | `(tactic| walk_at "gs")=>`(tactic| repeat (first | (with_reducible refine Stow.r_nx ?_) | ((fail_if_success (with_reducible refine Stow.r_isIf ?_));walk_at "st")))
local macro_rules
 | `(tactic| walk_at "ga")=>`(tactic| repeat ((fail_if_success (with_reducible refine Stow.r_isAnd ?_));(fail_if_success (with_reducible refine Stow.r_isOr ?_));walk_at "st"))
local macro_rules
 | `(tactic| walk_at "ge")=>`(tactic| repeat (first | (with_reducible refine Stow.r_nx ?_) | ((fail_if_success (with_reducible refine Stow.r_isSeq ?_));walk_at "st")))
local macro_rules
 | `(tactic| walk_at "g1")=>`(tactic| ((with_reducible refine Stow.r_seq ?_);walk_at "ge"))
def Stow.wq5:=Stow.wA [`Stow.r_dget,`Stow.r_dput,`Stow.r_forD,`Stow.r_forI,`Stow.r_dnew,`Stow.r_xExp]
local macro_rules
 | `(tactic| walk_at "st")=>`(tactic| first
   $[| $(Stow.wq5):tacticSeq]*
   | ((with_reducible refine Stow.r_tyD (kvs:=?kvs) ?h ?_);(case h=>walk_at "look")))
def Stow.wq6:=Stow.wA [`Stow.r_eqSS,`Stow.r_neSS,`Stow.r_eqSt,`Stow.r_neSt,`Stow.r_methF,`Stow.r_methFD,`Stow.r_methS]
local macro_rules
 | `(tactic| walk_at "st")=>`(tactic| first
   | (with_reducible refine Stow.r_dIn ?_)
   | (with_reducible refine Stow.r_dPop ?_)
   | ((with_reducible refine Stow.r_truD (kvs:=?kvs) ?h ?_);(case h=>walk_at "look"))
   $[| $(Stow.wq6):tacticSeq]*
   | ((with_reducible refine Stow.r_matS (i:=?i) (dx:=?dx) (fs:=?fs) ?o ?h ?l ?_);(case h=>walk_at "look");(case o=>(first | assumption | exact True.intro));(case l=>(first | exact Stow.fsF_none (by decide) (by decide) (by decide) | exact rfl)))
   | (with_reducible refine Stow.r_xMethF ?_)
   | (with_reducible refine Stow.r_xMethFD ?_)
   | ((with_reducible refine Stow.r_matF (i:=?i) (dx:=?dx) (fs:=?fs) ?h ?l ?_);(case h=>walk_at "look");(case l=>(first | exact Stow.fsF_none (by decide) (by decide) (by decide) | exact rfl)))
   | ((with_reducible refine Stow.r_at (C:=?C) (dx:=?dx) (fs:=?fs) (v:=?v) ?h ?c ?n ?l ?_);(case h=>walk_at "look");(case c=>assumption);(case n=>assumption);(case l=>exact Stow.fsF_cells))
   | ((with_reducible refine Stow.r_sat (C:=?C) (dx:=?dx) (fs:=?fs) ?h ?c ?n ?l ?_);(case h=>walk_at "look");(case c=>assumption);(case n=>assumption);(case l=>exact Stow.fsF_few)))
def Stow.wq7:=Stow.wA [`Stow.i_long,`Stow.i_live,`Stow.i_whole]
local macro_rules
 | `(tactic| walk_at "sp")=>`(tactic| first
   $[| $(Stow.wq7):tacticSeq]*
   | ((with_reducible refine Stow.i_cell (ns:=?ns) ?h ?a ?_);(case h=>walk_at "seq");(case a=>walk_at "nn"))
   | ((with_reducible refine Stow.i_can (ns:=?ns) ?h ?a ?b ?_);(case h=>walk_at "seq");(case a=>walk_at "num");(case b=>walk_at "num"))
   | ((with_reducible refine Stow.i_bad (ns:=?ns) ?h ?a ?b ?_);(case h=>walk_at "seq");(case a=>walk_at "num");(case b=>walk_at "num")))
local macro_rules
 | `(tactic| walk_at "nn")=>`(tactic| first | decide | omega | exact Int.emod_nonneg _ (by decide) | exact Int.emod_nonneg _ (by omega))
--GEN
namespace Stow
open PySem L2 PyProof.Rows
theorem fS {N Q:List Str}{sc:Scope}(a:sc.kind = .function:=by rfl)(b:sc.isCoroutine=false:=by rfl)(c:sc.isGenerator=false:=by rfl)(d:N.Nodup:=by decide +kernel)(e:N.take Q.length=Q:=by rfl)(f:∀x∈Q,sc.names.lookup x=some .local∨sc.names.lookup x=some .cell:=by decide +kernel)(g:∀y∈sc.names,y.2≠.free:=by decide +kernel):FnScope N Q sc:=⟨a,b,c,d,e,f,g⟩
abbrev Xwt:Stmt:=top 0
theorem sc_Z67:FnScope ["k"] ["k"] (Xad Xwt):=fS
abbrev BiS (x q:Str)(s:Stmt)(ps:List Str):Prop:=∀(kV doc pm:Value) (an:Option Addr) (cdv ct:Value) (us:List Value),us.length=ps.length→bindArgs (PySem.W.fnOf x q (Xaz s) (Xav s) (Xad s) .none kV doc pm an cdv ct) ⟨us,[]⟩=pure (ps.zip us)
theorem bi_Z67:BiS "_wall" "_wall" Xwt ["k"]:=fun _ _ _ _ _ _ us hl=>match us,hl with | [_],_=>rfl
abbrev Xtc:Stmt:=top 18
theorem XNi:FnScope ["count","bound"] ["count","bound"] (Xad Xtc):=fS
theorem XMa:BiS "check_ask" "check_ask" Xtc ["count","bound"]:=fun _ _ _ _ _ _ us hl=>match us,hl with | [_,_],_=>rfl
abbrev s_Z3:Stmt:=top 19
theorem sc_Z3:FnScope ["count","bound"] ["count","bound"] (Xad s_Z3):=fS
theorem bi_Z3:BiS "check_plain_ask" "check_plain_ask" s_Z3 ["count","bound"]:=fun _ _ _ _ _ _ us hl=>match us,hl with | [_,_],_=>rfl
abbrev Xqd:Stmt:=top 21
theorem XSo:FnScope ["long","live"] ["long","live"] (Xad Xqd):=fS
theorem XRb:BiS "mark_of" "mark_of" Xqd ["long","live"]:=fun _ _ _ _ _ _ us hl=>match us,hl with | [_,_],_=>rfl
abbrev Xqa:Stmt:=top 22
theorem XOs:FnScope ["number"] ["number"] (Xad Xqa):=fS
theorem XSc:BiS "long_of" "long_of" Xqa ["number"]:=fun _ _ _ _ _ _ us hl=>match us,hl with | [_],_=>rfl
abbrev Xti:Stmt:=top 23
theorem XNw:FnScope ["number"] ["number"] (Xad Xti):=fS
theorem XOm:BiS "live_of" "live_of" Xti ["number"]:=fun _ _ _ _ _ _ us hl=>match us,hl with | [_],_=>rfl
abbrev Xtb:Stmt:=top 26
theorem XCg:FnScope ["cells","at","long"] ["cells","at"] (Xad Xtb):=fS
theorem XQo:BiS "can_begin" "can_begin" Xtb ["cells","at"]:=fun _ _ _ _ _ _ us hl=>match us,hl with | [_,_],_=>rfl
abbrev s_Z7:Stmt:=top 27
theorem XMs:FnScope ["cells","at","last"] ["cells","at"] (Xad s_Z7):=fS
theorem bi_Z7:BiS "bad_of_piece" "bad_of_piece" s_Z7 ["cells","at"]:=fun _ _ _ _ _ _ us hl=>match us,hl with | [_,_],_=>rfl
abbrev Xru:Stmt:=top 28
theorem Xjc:FnScope ["cells","pieces","at","bad","long"] ["cells"] (Xad Xru):=fS
theorem XPm:BiS "looked" "looked" Xru ["cells"]:=fun _ _ _ _ _ _ us hl=>match us,hl with | [_],_=>rfl
abbrev Xtu:Stmt:=top 29
theorem XCj:FnScope ["count","cells"] ["count"] (Xad Xtu):=fS
theorem XPe:BiS "fresh_room" "fresh_room" Xtu ["count"]:=fun _ _ _ _ _ _ us hl=>match us,hl with | [_],_=>rfl
abbrev Xqf:Stmt:=top 31
theorem XCn:FnScope ["cells","at","long","live","row"] ["cells","at","long","live"] (Xad Xqf):=fS
theorem XNc:BiS "laid" "laid" Xqf ["cells","at","long","live"]:=fun _ _ _ _ _ _ us hl=>match us,hl with | [_,_,_,_],_=>rfl
abbrev Xue:Stmt:=top 32
theorem XNb:FnScope ["cells","begin","end"] ["cells","begin","end"] (Xad Xue):=fS
theorem XMc:BiS "laid_free" "laid_free" Xue ["cells","begin","end"]:=fun _ _ _ _ _ _ us hl=>match us,hl with | [_,_,_],_=>rfl
abbrev Xub:Stmt:=top 33
theorem XCt:FnScope ["cells","at","piece"] ["cells","at"] (Xad Xub):=fS
theorem XLw:BiS "piece_at" "piece_at" Xub ["cells","at"]:=fun _ _ _ _ _ _ us hl=>match us,hl with | [_,_],_=>rfl
abbrev XAs:Stmt:=top 34
theorem sc_Z49:FnScope ["cells","at","piece"] ["cells","at"] (Xad XAs):=fS
theorem bi_Z49:BiS "live_at" "live_at" XAs ["cells","at"]:=fun _ _ _ _ _ _ us hl=>match us,hl with | [_,_],_=>rfl
abbrev Xux:Stmt:=top 35
theorem XCh:FnScope ["cells","at","piece"] ["cells","at"] (Xad Xux):=fS
theorem bi_Z54:BiS "free_at" "free_at" Xux ["cells","at"]:=fun _ _ _ _ _ _ us hl=>match us,hl with | [_,_],_=>rfl
abbrev Xuh:Stmt:=top 36
theorem XDa:FnScope ["cells","cell","begins"] ["cells","cell"] (Xad Xuh):=fS
theorem XQf:BiS "begin_around" "begin_around" Xuh ["cells","cell"]:=fun _ _ _ _ _ _ us hl=>match us,hl with | [_,_],_=>rfl
abbrev Xuf:Stmt:=top 37
theorem Xhn:FnScope ["cells","at","place","long","begin","free_long","live","end","row"] ["cells","at","place","long"] (Xad Xuf):=fS
theorem bi_Z58:BiS "cut_out" "cut_out" Xuf ["cells","at","place","long"]:=fun _ _ _ _ _ _ us hl=>match us,hl with | [_,_,_,_],_=>rfl
abbrev s_Z5:Stmt:=top 38
theorem sc_Z5:FnScope ["pieces","row","at","long","live"] ["pieces"] (Xad s_Z5):=fS
theorem bi_Z5:BiS "joined_pieces" "joined_pieces" s_Z5 ["pieces"]:=fun _ _ _ _ _ _ us hl=>match us,hl with | [_],_=>rfl
abbrev XAj:Stmt:=top 39
theorem sc_Z60:FnScope ["cells","row","at","long","live"] ["cells"] (Xad XAj):=fS
theorem bi_Z60:BiS "joined" "joined" XAj ["cells"]:=fun _ _ _ _ _ _ us hl=>match us,hl with | [_],_=>rfl
abbrev Xto:Stmt:=top 43
theorem XSy:FnScope ["number"] ["number"] (Xad Xto):=fS
theorem XTb:BiS "is_power" "is_power" Xto ["number"]:=fun _ _ _ _ _ _ us hl=>match us,hl with | [_],_=>rfl
abbrev Xpy:Stmt:=top 44
theorem XUa:FnScope ["need"] ["need"] (Xad Xpy):=fS
theorem XPj:BiS "block_for" "block_for" Xpy ["need"]:=fun _ _ _ _ _ _ us hl=>match us,hl with | [_],_=>rfl
abbrev Xty:Stmt:=top 45
theorem Xnp:FnScope ["pieces","block","fit","long","at"] ["pieces","block"] (Xad Xty):=fS
theorem XMj:BiS "least_free" "least_free" Xty ["pieces","block"]:=fun _ _ _ _ _ _ us hl=>match us,hl with | [_,_],_=>rfl
abbrev Xrp:Stmt:=top 46
theorem Xnh:FnScope ["cells","at","long","block","row"] ["cells","at","long","block"] (Xad Xrp):=fS
theorem XLs:BiS "cut_down" "cut_down" Xrp ["cells","at","long","block"]:=fun _ _ _ _ _ _ us hl=>match us,hl with | [_,_,_,_],_=>rfl
abbrev Xrq:Stmt:=top 51
theorem XRe:FnScope ["size","shelf"] ["size","shelf"] (Xad Xrq):=fS
theorem XTw:BiS "all_whole" "all_whole" Xrq ["size","shelf"]:=fun _ _ _ _ _ _ us hl=>match us,hl with | [_,_],_=>rfl
abbrev Xsp:Stmt:=top 52
theorem XTk:FnScope ["at","shelf"] ["at","shelf"] (Xad Xsp):=fS
theorem XPn:BiS "begin_of" "begin_of" Xsp ["at","shelf"]:=fun _ _ _ _ _ _ us hl=>match us,hl with | [_,_],_=>rfl
abbrev Xpz:Stmt:=top 53
theorem XUe:FnScope ["cells","shelf"] ["cells","shelf"] (Xad Xpz):=fS
theorem XRu:BiS "whole_ones" "whole_ones" Xpz ["cells","shelf"]:=fun _ _ _ _ _ _ us hl=>match us,hl with | [_,_],_=>rfl
abbrev Xsq:Stmt:=top 54
theorem XCe:FnScope ["cells","shelf","size","fit"] ["cells","shelf","size"] (Xad Xsq):=fS
theorem XTv:BiS "free_slots" "free_slots" Xsq ["cells","shelf","size"]:=fun _ _ _ _ _ _ us hl=>match us,hl with | [_,_,_],_=>rfl
abbrev Xvx:Stmt:=top 55
theorem Xlb:FnScope ["cells","begin","shelf","size","row","end","at"] ["cells","begin","shelf","size"] (Xad Xvx):=fS
theorem XNm:BiS "cut_for" "cut_for" Xvx ["cells","begin","shelf","size"]:=fun _ _ _ _ _ _ us hl=>match us,hl with | [_,_,_,_],_=>rfl
abbrev Xug:Stmt:=top 56
theorem XCx:FnScope ["cells","shelf","size","begins"] ["cells","shelf","size"] (Xad Xug):=fS
theorem XNu:BiS "with_slot" "with_slot" Xug ["cells","shelf","size"]:=fun _ _ _ _ _ _ us hl=>match us,hl with | [_,_,_],_=>rfl
abbrev Xui:Stmt:=top 59
theorem Xli:FnScope ["piece","long","bound","at","piece_long","live","place"] ["piece","long","bound"] (Xad Xui):=fS
theorem XTs:BiS "first_place" "first_place" Xui ["piece","long","bound"]:=fun _ _ _ _ _ _ us hl=>match us,hl with | [_,_,_],_=>rfl
abbrev Xvv:Stmt:=top 60
theorem Xnq:FnScope ["cells","long","bound","spots","piece","place"] ["cells","long","bound"] (Xad Xvv):=fS
theorem XRh:BiS "spots_for" "spots_for" Xvv ["cells","long","bound"]:=fun _ _ _ _ _ _ us hl=>match us,hl with | [_,_,_],_=>rfl
abbrev Xvw:Stmt:=top 62
theorem XSl:FnScope ["ranked"] ["ranked"] (Xad Xvw):=fS
theorem XOf:BiS "least_place" "least_place" Xvw ["ranked"]:=fun _ _ _ _ _ _ us hl=>match us,hl with | [_],_=>rfl
abbrev Xpx:Stmt:=top 68
theorem XNr:FnScope ["word","size"] ["word","size"] (Xad Xpx):=fS
theorem XQt:BiS "stretches_of" "stretches_of" Xpx ["word","size"]:=fun _ _ _ _ _ _ us hl=>match us,hl with | [_,_],_=>rfl
abbrev Xit:Stmt:=top 70
theorem XPu:FnScope ["word","size","shelf"] ["word","size","shelf"] (Xad Xit):=fS
theorem XQm (T:Addr)(d1:Value)(kV doc pm:Value)(an:Option Addr)(cdv ct:Value)(us:List Value)(hl:us.length=["word","size","shelf"].length):∃k:Option (Array Value)→Sem (List (Str×Value)),bindArgs (PySem.W.fnOf "keeper_of" "keeper_of" (Xaz Xit) (Xav Xit) (Xad Xit) (.ref T) kV doc pm an cdv ct) ⟨us,[]⟩=seqItems? (.ref T) >>= k∧k (some [d1].toArray)=pure ((["word","size","shelf"]:List Str).zip us):=match us,hl with | [_,_,_],_=>⟨_,rfl,rfl⟩
theorem XPs (T:Addr)(d1:Value)(kV doc pm:Value)(an:Option Addr)(cdv ct:Value)(us:List Value)(hl:(us++[d1]).length=["word","size","shelf"].length):∃k:Option (Array Value)→Sem (List (Str×Value)),bindArgs (PySem.W.fnOf "keeper_of" "keeper_of" (Xaz Xit) (Xav Xit) (Xad Xit) (.ref T) kV doc pm an cdv ct) ⟨us,[]⟩=seqItems? (.ref T) >>= k∧k (some [d1].toArray)=pure ((["word","size","shelf"]:List Str).zip (us++[d1])):=match us,(show us.length=2 by simpa using hl) with | [_,_],_=>⟨_,rfl,rfl⟩
abbrev Xuk:Stmt:=top 72
theorem XNh:FnScope ["_law_script","_law_k"] ["_law_script","_law_k"] (Xad Xuk):=fS
theorem XNa:BiS "_law_cell_at" "_law_cell_at" Xuk ["_law_script","_law_k"]:=fun _ _ _ _ _ _ us hl=>match us,hl with | [_,_],_=>rfl
abbrev Xtn:Stmt:=top 73
theorem XNk:FnScope ["_law_found"] ["_law_found"] (Xad Xtn):=fS
theorem XMe:BiS "_law_whole" "_law_whole" Xtn ["_law_found"]:=fun _ _ _ _ _ _ us hl=>match us,hl with | [_],_=>rfl
abbrev Xsc:Stmt:=top 74
theorem XCi:FnScope ["_law_found","_law_due","_law_piece"] ["_law_found","_law_due"] (Xad Xsc):=fS
theorem XNz:BiS "_law_alike" "_law_alike" Xsc ["_law_found","_law_due"]:=fun _ _ _ _ _ _ us hl=>match us,hl with | [_,_],_=>rfl
abbrev Xpq:Stmt:=top 75
theorem Xnz:FnScope ["_law_word","_law_cell","_law_letters","_law_at","_law_sign"] ["_law_word","_law_cell"] (Xad Xpq):=fS
theorem XNo:BiS "_law_word_by" "_law_word_by" Xpq ["_law_word","_law_cell"]:=fun _ _ _ _ _ _ us hl=>match us,hl with | [_,_],_=>rfl
abbrev Xrr:Stmt:=top 76
theorem Xev:FnScope ["_law_word","_law_size","_law_shelf","_law_bare","_law_keeper","_law_flags","e"] ["_law_word","_law_size","_law_shelf","_law_bare"] (Xad Xrr):=fS
theorem XLq:BiS "_law_made" "_law_made" Xrr ["_law_word","_law_size","_law_shelf","_law_bare"]:=fun _ _ _ _ _ _ us hl=>match us,hl with | [_,_,_,_],_=>rfl
abbrev Xqt:Stmt:=top 77
theorem sc_Z18:FnScope ["_law_word","_law_size","_law_shelf"] ["_law_word","_law_size","_law_shelf"] (Xad Xqt):=fS
theorem XPz:BiS "_law_size_good" "_law_size_good" Xqt ["_law_word","_law_size","_law_shelf"]:=fun _ _ _ _ _ _ us hl=>match us,hl with | [_,_,_],_=>rfl
abbrev Xut:Stmt:=top 78
theorem Xvn:FnScope ["_law_keeper","_law_flags"] ["_law_keeper"] (Xad Xut):=fS
theorem bi_Z33:BiS "_law_classes" "_law_classes" Xut ["_law_keeper"]:=fun _ _ _ _ _ _ us hl=>match us,hl with | [_],_=>rfl
abbrev Xql:Stmt:=top 79
theorem Xle:FnScope ["_law_keeper","_law_word","_law_place"] ["_law_keeper"] (Xad Xql):=fS
theorem XOk:BiS "_law_asked" "_law_asked" Xql ["_law_keeper"]:=fun _ _ _ _ _ _ us hl=>match us,hl with | [_],_=>rfl
abbrev Xuv:Stmt:=top 80
theorem Xjf:FnScope ["_law_keeper","_law_word","_law_size","_law_shelf","_law_due","_law_least","_law_told"] ["_law_keeper","_law_word","_law_size","_law_shelf"] (Xad Xuv):=fS
theorem XQp:BiS "_law_fresh" "_law_fresh" Xuv ["_law_keeper","_law_word","_law_size","_law_shelf"]:=fun _ _ _ _ _ _ us hl=>match us,hl with | [_,_,_,_],_=>rfl
abbrev Xpr:Stmt:=top 81
theorem Xdh:FnScope ["_law_first","_law_second","_law_third","_law_words","_law_number","_law_word","_law_bare","_law_shelf","_law_size","_law_keeper","_law_flags","_law_due"] ["_law_first","_law_second","_law_third"] (Xad Xpr):=fS
theorem XLu:BiS "_law_one" "_law_one" Xpr ["_law_first","_law_second","_law_third"]:=fun _ _ _ _ _ _ us hl=>match us,hl with | [_,_,_],_=>rfl
abbrev Xms:Stmt:=top 82
theorem Xqs:FnScope ["_law_script","_law_k","_law_cells"] ["_law_script"] (Xad Xms):=fS
theorem bi_law:BiS "law" "law" Xms ["_law_script"]:=fun _ _ _ _ _ _ us hl=>match us,hl with | [_],_=>rfl
abbrev Xdc:Stmt:=Xaf (top 5) 0
theorem Xiu:FnScope ["self","cell"] ["self","cell"] (Xad Xdc):=fS
theorem Xil:BiS "__init__" "Broken.__init__" Xdc ["self","cell"]:=fun _ _ _ _ _ _ us hl=>match us,hl with | [_,_],_=>rfl
abbrev Xfk:Stmt:=Xaf (top 13) 0
theorem Xvb:FnScope ["self","line"] ["self","line"] (Xad Xfk):=fS
theorem Xur:BiS "__init__" "BadLine.__init__" Xfk ["self","line"]:=fun _ _ _ _ _ _ us hl=>match us,hl with | [_,_],_=>rfl
abbrev Xbf:Stmt:=Xaf (top 41) 0
theorem Xbv:FnScope ["self","size"] ["self","size"] (Xad Xbf):=fS
theorem Xbw:BiS "__init__" "Keeper.__init__" Xbf ["self","size"]:=fun _ _ _ _ _ _ us hl=>match us,hl with | [_,_],_=>rfl
abbrev Xeg:Stmt:=Xaf (top 66) 0
theorem Xme:FnScope ["self","size"] ["self","size"] (Xad Xeg):=fS
theorem Xkz:BiS "__init__" "Next.__init__" Xeg ["self","size"]:=fun _ _ _ _ _ _ us hl=>match us,hl with | [_,_],_=>rfl
abbrev Xdb:Stmt:=Xaf (top 47) 0
theorem Xim:FnScope ["self","size"] ["self","size"] (Xad Xdb):=fS
theorem Xin:BiS "__init__" "Halves.__init__" Xdb ["self","size"]:=fun _ _ _ _ _ _ us hl=>match us,hl with | [_,_],_=>rfl
abbrev Xcx:Stmt:=Xaf (top 57) 0
theorem Xfa:FnScope ["self","size","shelf","cells"] ["self","size","shelf"] (Xad Xcx):=fS
theorem Xii:BiS "__init__" "Shelves.__init__" Xcx ["self","size","shelf"]:=fun _ _ _ _ _ _ us hl=>match us,hl with | [_,_,_],_=>rfl
abbrev s_Z2:Stmt:=Xaf (top 41) 11
theorem sc_Z2:FnScope ["self","cells"] ["self","cells"] (Xad s_Z2):=fS
theorem bi_Z2:BiS "room_begin" "Keeper.room_begin" s_Z2 ["self","cells"]:=fun _ _ _ _ _ _ us hl=>match us,hl with | [_,_],_=>rfl
abbrev Xwc:Stmt:=Xaf (top 41) 3
theorem XTc:FnScope ["self","cells"] ["self","cells"] (Xad Xwc):=fS
theorem bi_Z26:BiS "lay" "Keeper.lay" Xwc ["self","cells"]:=fun _ _ _ _ _ _ us hl=>match us,hl with | [_,_],_=>rfl
abbrev s_Z6:Stmt:=Xaf (top 41) 2
theorem sc_Z6:FnScope ["self"] ["self"] (Xad s_Z6):=fS
theorem bi_Z6:BiS "pieces" "Keeper.pieces" s_Z6 ["self"]:=fun _ _ _ _ _ _ us hl=>match us,hl with | [_],_=>rfl
abbrev Xwn:Stmt:=Xaf (top 41) 1
theorem XTo:FnScope ["self"] ["self"] (Xad Xwn):=fS
theorem bi_Z10:BiS "cells" "Keeper.cells" Xwn ["self"]:=fun _ _ _ _ _ _ us hl=>match us,hl with | [_],_=>rfl
abbrev Xki:Stmt:=Xaf (top 47) 1
theorem Xoi:FnScope ["self","count","bound","block","at","long"] ["self","count","bound"] (Xad Xki):=fS
theorem XLt (T:Addr)(d1:Value)(kV doc pm:Value)(an:Option Addr)(cdv ct:Value)(us:List Value)(hl:us.length=["self","count","bound"].length):∃k:Option (Array Value)→Sem (List (Str×Value)),bindArgs (PySem.W.fnOf "ask" "Halves.ask" (Xaz Xki) (Xav Xki) (Xad Xki) (.ref T) kV doc pm an cdv ct) ⟨us,[]⟩=seqItems? (.ref T) >>= k∧k (some [d1].toArray)=pure ((["self","count","bound"]:List Str).zip us):=match us,hl with | [_,_,_],_=>⟨_,rfl,rfl⟩
theorem XMh (T:Addr)(d1:Value)(kV doc pm:Value)(an:Option Addr)(cdv ct:Value)(us:List Value)(hl:(us++[d1]).length=["self","count","bound"].length):∃k:Option (Array Value)→Sem (List (Str×Value)),bindArgs (PySem.W.fnOf "ask" "Halves.ask" (Xaz Xki) (Xav Xki) (Xad Xki) (.ref T) kV doc pm an cdv ct) ⟨us,[]⟩=seqItems? (.ref T) >>= k∧k (some [d1].toArray)=pure ((["self","count","bound"]:List Str).zip (us++[d1])):=match us,(show us.length=2 by simpa using hl) with | [_,_],_=>⟨_,rfl,rfl⟩
abbrev Xkj:Stmt:=Xaf (top 57) 2
theorem Xnn:FnScope ["self","count","bound","size","cells","at"] ["self","count","bound"] (Xad Xkj):=fS
theorem XRj (T:Addr)(d1:Value)(kV doc pm:Value)(an:Option Addr)(cdv ct:Value)(us:List Value)(hl:us.length=["self","count","bound"].length):∃k:Option (Array Value)→Sem (List (Str×Value)),bindArgs (PySem.W.fnOf "ask" "Shelves.ask" (Xaz Xkj) (Xav Xkj) (Xad Xkj) (.ref T) kV doc pm an cdv ct) ⟨us,[]⟩=seqItems? (.ref T) >>= k∧k (some [d1].toArray)=pure ((["self","count","bound"]:List Str).zip us):=match us,hl with | [_,_,_],_=>⟨_,rfl,rfl⟩
theorem XPl (T:Addr)(d1:Value)(kV doc pm:Value)(an:Option Addr)(cdv ct:Value)(us:List Value)(hl:(us++[d1]).length=["self","count","bound"].length):∃k:Option (Array Value)→Sem (List (Str×Value)),bindArgs (PySem.W.fnOf "ask" "Shelves.ask" (Xaz Xkj) (Xav Xkj) (Xad Xkj) (.ref T) kV doc pm an cdv ct) ⟨us,[]⟩=seqItems? (.ref T) >>= k∧k (some [d1].toArray)=pure ((["self","count","bound"]:List Str).zip (us++[d1])):=match us,(show us.length=2 by simpa using hl) with | [_,_],_=>⟨_,rfl,rfl⟩
abbrev Xji:Stmt:=Xaf (top 49) 0
theorem Xno:FnScope ["self","count","bound","at","long","live"] ["self","count","bound"] (Xad Xji):=fS
theorem bi_Z50 (T:Addr)(d1:Value)(kV doc pm:Value)(an:Option Addr)(cdv ct:Value)(us:List Value)(hl:us.length=["self","count","bound"].length):∃k:Option (Array Value)→Sem (List (Str×Value)),bindArgs (PySem.W.fnOf "ask" "Row.ask" (Xaz Xji) (Xav Xji) (Xad Xji) (.ref T) kV doc pm an cdv ct) ⟨us,[]⟩=seqItems? (.ref T) >>= k∧k (some [d1].toArray)=pure ((["self","count","bound"]:List Str).zip us):=match us,hl with | [_,_,_],_=>⟨_,rfl,rfl⟩
theorem XTr (T:Addr)(d1:Value)(kV doc pm:Value)(an:Option Addr)(cdv ct:Value)(us:List Value)(hl:(us++[d1]).length=["self","count","bound"].length):∃k:Option (Array Value)→Sem (List (Str×Value)),bindArgs (PySem.W.fnOf "ask" "Row.ask" (Xaz Xji) (Xav Xji) (Xad Xji) (.ref T) kV doc pm an cdv ct) ⟨us,[]⟩=seqItems? (.ref T) >>= k∧k (some [d1].toArray)=pure ((["self","count","bound"]:List Str).zip (us++[d1])):=match us,(show us.length=2 by simpa using hl) with | [_,_],_=>⟨_,rfl,rfl⟩
abbrev s_Z9:Stmt:=Xaf (top 64) 0
theorem XMv:FnScope ["self","long","bound","spots"] ["self","long","bound"] (Xad s_Z9):=fS
theorem bi_Z9:BiS "chosen" "First.chosen" s_Z9 ["self","long","bound"]:=fun _ _ _ _ _ _ us hl=>match us,hl with | [_,_,_],_=>rfl
abbrev Xyp:Stmt:=Xaf (top 65) 0
theorem Xth:FnScope ["self","long","bound","cells","spots"] ["self","long","bound"] (Xad Xyp):=fS
theorem XPp:BiS "chosen" "Best.chosen" Xyp ["self","long","bound"]:=fun _ _ _ _ _ _ us hl=>match us,hl with | [_,_,_],_=>rfl
abbrev Xxb:Stmt:=Xaf (top 66) 2
theorem XCo:FnScope ["self","long","bound","spots"] ["self","long","bound"] (Xad Xxb):=fS
theorem XSe:BiS "chosen" "Next.chosen" Xxb ["self","long","bound"]:=fun _ _ _ _ _ _ us hl=>match us,hl with | [_,_,_],_=>rfl
abbrev s_Z8:Stmt:=Xaf (top 67) 0
theorem XKv:FnScope ["self","long","bound","cells","spots"] ["self","long","bound"] (Xad s_Z8):=fS
theorem bi_Z8:BiS "chosen" "Likes.chosen" s_Z8 ["self","long","bound"]:=fun _ _ _ _ _ _ us hl=>match us,hl with | [_,_,_],_=>rfl
abbrev s_Z0:Stmt:=Xaf (top 63) 5
theorem sc_Z0:FnScope ["self","behind"] ["self","behind"] (Xad s_Z0):=fS
theorem bi_Z0:BiS "room_granted" "Stretches.room_granted" s_Z0 ["self","behind"]:=fun _ _ _ _ _ _ us hl=>match us,hl with | [_,_],_=>rfl
abbrev s_Z1:Stmt:=Xaf (top 66) 4
theorem sc_Z1:FnScope ["self","behind"] ["self","behind"] (Xad s_Z1):=fS
theorem bi_Z1:BiS "room_granted" "Next.room_granted" s_Z1 ["self","behind"]:=fun _ _ _ _ _ _ us hl=>match us,hl with | [_,_],_=>rfl
abbrev s_Z4:Stmt:=Xaf (top 63) 1
theorem XDs:FnScope ["self","count","bound","long","at"] ["self","count","bound"] (Xad s_Z4):=fS
theorem bi_Z4 (T:Addr)(d1:Value)(kV doc pm:Value)(an:Option Addr)(cdv ct:Value)(us:List Value)(hl:us.length=["self","count","bound"].length):∃k:Option (Array Value)→Sem (List (Str×Value)),bindArgs (PySem.W.fnOf "ask" "Stretches.ask" (Xaz s_Z4) (Xav s_Z4) (Xad s_Z4) (.ref T) kV doc pm an cdv ct) ⟨us,[]⟩=seqItems? (.ref T) >>= k∧k (some [d1].toArray)=pure ((["self","count","bound"]:List Str).zip us):=match us,hl with | [_,_,_],_=>⟨_,rfl,rfl⟩
theorem bd_Z4 (T:Addr)(d1:Value)(kV doc pm:Value)(an:Option Addr)(cdv ct:Value)(us:List Value)(hl:(us++[d1]).length=["self","count","bound"].length):∃k:Option (Array Value)→Sem (List (Str×Value)),bindArgs (PySem.W.fnOf "ask" "Stretches.ask" (Xaz s_Z4) (Xav s_Z4) (Xad s_Z4) (.ref T) kV doc pm an cdv ct) ⟨us,[]⟩=seqItems? (.ref T) >>= k∧k (some [d1].toArray)=pure ((["self","count","bound"]:List Str).zip (us++[d1])):=match us,(show us.length=2 by simpa using hl) with | [_,_],_=>⟨_,rfl,rfl⟩
abbrev nI (K:PySem.W.Frag)(m:Str)(f:Addr):Prop:=PySem.W.nsIn K mainGlobals m=some (some (.ref f))
abbrev fI (K:PySem.W.Frag)(C:Addr)(m:Str)(f:Addr):Prop:=PySem.W.findIn K (.ref C) m=some (some (.ref f))
abbrev cI (K:PySem.W.Frag)(c:Value)(m:Str):Prop:=PySem.W.codeIn K c m=true
abbrev kI (K:PySem.W.Frag)(f:Addr):Prop:=PySem.W.keepIn K (.ref f)=true
abbrev iI (K:PySem.W.Frag)(f:Addr):Prop:=PySem.W.isFn K (.ref f)=true
abbrev tI (K:PySem.W.Frag)(a b:Addr)(c:Bool):Prop:=PySem.W.kitOne K (.ref a) (.ref b)=some c
structure Txt (K:PySem.W.Frag)(mg:Str→Option Value)(Y0 Y13 Y15 Y7 Y11 Y2 Y5 Y10 Y19 Y4 Y14 Y3 Y12 Y16 Y9 Y8 Y22 Y6 Y1 Y17 Y20 Y21 Y18:Addr)(W0_:Tok)(W1_:Tok):Prop where
 zcT:mg "ValueError"=none
 n_any:mg "any"=none
 n_bool:mg "bool"=none
 n_int:mg "int"=none
 n_isinstance:mg "isinstance"=none
 n_len:mg "len"=none
 n_list:mg "list"=none
 n_max:mg "max"=none
 n_min:mg "min"=none
 n_range:mg "range"=none
 n_tuple:mg "tuple"=none
 zbG:mg "LEAST_LIVE"=some (.int 3 W0_)
 zcs:mg "MARKS"=some (.int 2 W1_)
 zdr:mg "StowError"=some (.ref Y0)
 zfK:mg "NoName"=some (.ref Y13)
 zfL:mg "NoSize"=some (.ref Y15)
 zfM:mg "Broken"=some (.ref Y7)
 zfN:mg "NoGive"=some (.ref Y11)
 zdw:mg "NoHandle"=some (.ref Y2)
 zea:mg "NoPiece"=some (.ref Y5)
 zfO:mg "NoCell"=some (.ref Y10)
 zgD:mg "NoAsk"=some (.ref Y19)
 zeb:mg "NoBound"=some (.ref Y4)
 zdx:mg "NoRoom"=some (.ref Y14)
 zec:mg "BadLine"=some (.ref Y3)
 zfP:mg "NoLine"=some (.ref Y12)
 zfQ:mg "NoTurn"=some (.ref Y16)
 zdy:mg "Keeper"=some (.ref Y9)
 zdz:mg "Halves"=some (.ref Y8)
 c_Row:mg "Row"=some (.ref Y22)
 zde:mg "Shelves"=some (.ref Y6)
 zct:mg "Stretches"=some (.ref Y1)
 zfy:mg "First"=some (.ref Y17)
 c_Best:mg "Best"=some (.ref Y20)
 c_Next:mg "Next"=some (.ref Y21)
 zfz:mg "Likes"=some (.ref Y18)
 zfR:XSet K Y7 "cell"
 zcU:XCls K mg "NoSize" Y15
 zfS:XCls K mg "NoName" Y13
 zdf:XCls K mg "NoPiece" Y5
 zch:XCls K mg "NoRoom" Y14
 zgE:XCls K mg "NoAsk" Y19
 zed:XCls K mg "NoBound" Y4
 zcv:Cls K Y17
 zac:Xca K Y17 "room_cells"
 zdg:Cls K Y20
 zae:Xca K Y20 "room_cells"
 zcu:Cls K Y21
 zaa:Xca K Y21 "room_cells"
 zaf:Xca K Y21 "room_rover"
 zcw:Cls K Y18
 zad:Xca K Y18 "room_cells"
 zcx:Cls K Y8
 zai:Xca K Y8 "room_cells"
 zbS:Cls K Y6
 zab:Xca K Y6 "room_cells"
 zam:Xca K Y6 "shelf"
 cl_Row:Cls K Y22
 zaj:Xca K Y22 "room_cells"
 zfT:XK0 K Y13
 zfU:XK0 K Y15
 zhY:XK0 K Y14
 zbV:Fits K Y13 Y0 true
 zbW:Fits K Y15 Y0 true
 zcp:Fits K Y14 Y14 true
 zaI:tI K Y13 Y13 true
 zaJ:tI K Y13 Y15 false
 zan:PySem.W.kitOne K (.ref Y13) (.type "ValueError")=some true
 zbf:tI K Y13 Y19 false
 zax:tI K Y13 Y4 false
 zaK:tI K Y13 Y10 false
 zaL:tI K Y13 Y11 false
 zar:tI K Y13 Y2 false
 zay:tI K Y13 Y5 false
 zaM:tI K Y13 Y14 false
 zaN:tI K Y13 Y7 false
 zaz:tI K Y13 Y3 false
 zaO:tI K Y13 Y12 false
 zaP:tI K Y13 Y16 false
 zaQ:tI K Y15 Y13 false
 zaR:tI K Y15 Y15 true
 zao:PySem.W.kitOne K (.ref Y15) (.type "ValueError")=some true
 zbg:tI K Y15 Y19 false
 zaA:tI K Y15 Y4 false
 zaS:tI K Y15 Y10 false
 zaT:tI K Y15 Y11 false
 zas:tI K Y15 Y2 false
 zaB:tI K Y15 Y5 false
 zaU:tI K Y15 Y14 false
 zaV:tI K Y15 Y7 false
 zaC:tI K Y15 Y3 false
 zaW:tI K Y15 Y12 false
 zaX:tI K Y15 Y16 false
 zfV:InsK K Y17
 zgF:InsK K Y20
 zgG:InsK K Y21
 zfW:InsK K Y18
 zee:InsK K Y8
 zdA:InsK K Y6
 ik_Row:InsK K Y22
 zbs:tI K Y17 Y17 true
 zbH:tI K Y17 Y20 false
 zbI:tI K Y17 Y21 false
 zbt:tI K Y17 Y18 false
 zbh:tI K Y17 Y8 false
 zaY:tI K Y17 Y6 false
 zbX:tI K Y17 Y22 false
 zat:tI K Y17 Y1 true
 zbi:tI K Y17 Y9 true
 zbJ:tI K Y20 Y17 false
 zbY:tI K Y20 Y20 true
 zbZ:tI K Y20 Y21 false
 zbK:tI K Y20 Y18 false
 zbu:tI K Y20 Y8 false
 zbj:tI K Y20 Y6 false
 zci:tI K Y20 Y22 false
 zaD:tI K Y20 Y1 true
 zbv:tI K Y20 Y9 true
 zbL:tI K Y21 Y17 false
 zca:tI K Y21 Y20 false
 zcb:tI K Y21 Y21 true
 zbM:tI K Y21 Y18 false
 zbw:tI K Y21 Y8 false
 zbk:tI K Y21 Y6 false
 zcj:tI K Y21 Y22 false
 zaE:tI K Y21 Y1 true
 zbx:tI K Y21 Y9 true
 zby:tI K Y18 Y17 false
 zbN:tI K Y18 Y20 false
 zbO:tI K Y18 Y21 false
 zbz:tI K Y18 Y18 true
 zbl:tI K Y18 Y8 false
 zaZ:tI K Y18 Y6 false
 zcc:tI K Y18 Y22 false
 zau:tI K Y18 Y1 true
 zbm:tI K Y18 Y9 true
 zbn:tI K Y8 Y17 false
 zbA:tI K Y8 Y20 false
 zbB:tI K Y8 Y21 false
 zbo:tI K Y8 Y18 false
 zba:tI K Y8 Y8 true
 zaF:tI K Y8 Y6 false
 zbP:tI K Y8 Y22 false
 zaq:tI K Y8 Y1 false
 zbb:tI K Y8 Y9 true
 zbc:tI K Y6 Y17 false
 zbp:tI K Y6 Y20 false
 zbq:tI K Y6 Y21 false
 zbd:tI K Y6 Y18 false
 zaG:tI K Y6 Y8 false
 zav:tI K Y6 Y6 true
 zbC:tI K Y6 Y22 false
 zap:tI K Y6 Y1 false
 zaH:tI K Y6 Y9 true
 zcd:tI K Y22 Y17 false
 zck:tI K Y22 Y20 false
 zcl:tI K Y22 Y21 false
 zce:tI K Y22 Y18 false
 zbQ:tI K Y22 Y8 false
 zbD:tI K Y22 Y6 false
 zcy:tI K Y22 Y22 true
 zbe:tI K Y22 Y1 false
 zbR:tI K Y22 Y9 true
section
variable {K:PySem.W.Frag}{mg:Str→Option Value}{Y0 Y13 Y15 Y7 Y11 Y2 Y5 Y10 Y19 Y4 Y14 Y3 Y12 Y16 Y9 Y8 Y22 Y6 Y1 Y17 Y20 Y21 Y18:Addr}{W0_:Tok}{W1_:Tok}
theorem T_cl (T:Txt K mg Y0 Y13 Y15 Y7 Y11 Y2 Y5 Y10 Y19 Y4 Y14 Y3 Y12 Y16 Y9 Y8 Y22 Y6 Y1 Y17 Y20 Y21 Y18 W0_ W1_):∀i,Cls K ((cF Y17 Y20 Y21 Y18 Y8 Y6 Y22) i):=Xtm T.zcv T.zdg T.zcu T.zcw T.zcx T.zbS T.cl_Row
theorem T_na (T:Txt K mg Y0 Y13 Y15 Y7 Y11 Y2 Y5 Y10 Y19 Y4 Y14 Y3 Y12 Y16 Y9 Y8 Y22 Y6 Y1 Y17 Y20 Y21 Y18 W0_ W1_):∀i,Xca K ((cF Y17 Y20 Y21 Y18 Y8 Y6 Y22) i) "room_cells":=Xtm (Q:=fun C=>Xca K C "room_cells") T.zac T.zae T.zaa T.zad T.zai T.zab T.zaj
end
def Xvs:Sp:=fun vs H Q _=>∃(n:Int) (v:Bool),vs=[.int n,.bl v]∧n.natAbs<2^220∧Q (.int (n*2+if v then 1 else 0)) H
section
variable {P:Program}{w:World}{base:Heap}{K:PySem.W.Frag}{mg:Str→Option Value}{Y0 Y13 Y15 Y7 Y11 Y2 Y5 Y10 Y19 Y4 Y14 Y3 Y12 Y16 Y9 Y8 Y22 Y6 Y1 Y17 Y20 Y21 Y18:Addr}{W0_:Tok}{W1_:Tok}
variable (T:Txt K mg Y0 Y13 Y15 Y7 Y11 Y2 Y5 Y10 Y19 Y4 Y14 Y3 Y12 Y16 Y9 Y8 Y22 Y6 Y1 Y17 Y20 Y21 Y18 W0_ W1_)
include T in
theorem d_Z55 (S:Src K mg "mark_of" Xqd) :Defx P w K mg base "mark_of" 1 ["long","live"] (Xvs):=by
 refine S.okx XSo XRb (fun vs H Q E h=>by revert h;walk_at "len") (fun f cdv A outer s H vs Q E hr h=>?_)
 refine⟨_,PSs.nox (Xab (Xbe (Xck (pv 1) (fun _=>rfl)) (Xae (Xai (Xak op_or (Xak Xjp (pv 0) Xag) Xag))) Xan) (Xae (Xai (Xak Xjp (pv 0) Xag)))),?_⟩
 obtain⟨n,v,rfl,hn,q⟩:=h
 walk_at "go"
 refine Xfv (fun hv=>?_) (fun hv=>?_)
 · walk_at "go"
   rw[two1,Xqn]
   subst hv
   exact q
 · walk_at "go"
   rw[two1]
   subst hv
   rw[if_neg Bool.false_ne_true,Int.add_zero] at q
   exact q
include T in
theorem d_Z52 (S:Src K mg "long_of" Xqa) :Defx P w K mg base "long_of" 1 ["number"] (Xgt):=by
 refine S.okx XOs XSc (fun vs H Q E h=>by revert h;walk_at "len") (fun f cdv A outer s H vs Q E hr h=>?_)
 refine⟨_,PSs.nox (Xae (Xai (Xak XMr (pv 0) Xag))),?_⟩
 obtain⟨n,rfl,q⟩:=h
 walk_at "go"
 rw[two1]
 exact q
include T in
theorem d_Z44 (S:Src K mg "live_of" Xti) :Defx P w K mg base "live_of" 1 ["number"] (Xnr):=by
 refine S.okx XNw XOm (fun vs H Q E h=>by revert h;walk_at "len") (fun f cdv A outer s H vs Q E hr h=>?_)
 refine⟨_,PSs.nox (Xae (Xai (Xbj Xcn (Xak Xsu (pv 0) Xag) Xag (Xaj _)))),?_⟩
 obtain⟨n,rfl,q⟩:=h
 walk_at "go"
 rw[Xzj]
 exact q
include T in
theorem d_Z36 (S:Src K mg "can_begin" Xtb)(D_Z52:Defx P w K mg base "long_of" 1 ["number"] (Xgt))(D_Z44:Defx P w K mg base "live_of" 1 ["number"] (Xnr)):Defx P w K mg base "can_begin" 2 ["cells","at"] (XKm K):=by
 refine S.okx XCg XQo (fun vs H Q E h=>by revert h;walk_at "len") (fun f cdv A outer s H vs Q E hr h=>?_)
 refine⟨_,PSs.nox (Xab (Xao (i:=2) XCg.nd rfl (Or.inl rfl) (Xah D_Z52 hr (by rfl) (Xaa (Xbx Xbi (pv 0) (pv 1) (fun _ _=>rfl)) Xac))) (Xab (Xbe (PW.pt (Xir (Xal Xis (pv 2) Xag (Xaj _)) (Xgr (Xal Xhh (Xak Xbq (pv 1) (pv 2)) (Xam Xbm (by rfl) T.n_len PySem.boot_len (Xaa (pv 0) Xac)) (Xaj _))))) (Xae (Xai Xcz)) Xan) (Xae (Xai (pe_or (Xbj Xtw (pv 2) (Xbb (v:=.int 3) (by rfl) T.zbG ⟨_,rfl⟩) (Xaj _)) (Xfj (XCc (Xah D_Z44 hr (by rfl) (Xaa (Xbx Xbi (pv 0) (pv 1) (fun _ _=>rfl)) Xac))))))))),?_⟩
 obtain⟨a,ns,k,rfl,hS,h0,h1,q⟩:=h
 have q':∀c,Xbo ns k=c→Q (.bl c) H:=fun c e=>e▸q
 walk_at "go"
 refine Xbd (fun hc=>?_) (fun hc=>?_)
 · walk_at "go"
   exact q' false (by unfold Xbo;rw[if_pos (Or.inl hc)])
 · walk_at "go"
   refine Xbd (fun hd=>?_) (fun hd=>?_)
   · walk_at "go"
     exact q' false (by unfold Xbo;rw[if_pos (Or.inr hd)])
   · walk_at "go"
     have ec:Xbo ns k=(decide (3≤ns.getD k.toNat 0/2)||!decide (ns.getD k.toNat 0%2=1)):=by
       unfold Xbo
       rw[if_neg (by omega)]
     refine Xfv (fun he=>?_) (fun he=>?_)
     · walk_at "go"
       exact q' true (by rw[ec,he,Bool.true_or])
     · walk_at "go"
       exact q' _ (by rw[ec,he,Bool.false_or])
include T in
theorem d_Z7 (S:Src K mg "bad_of_piece" s_Z7)(D_Z52:Defx P w K mg base "long_of" 1 ["number"] (Xgt))(D_Z36:Defx P w K mg base "can_begin" 2 ["cells","at"] (XKm K)):Defx P w K mg base "bad_of_piece" 3 ["cells","at"] (XLo K):=by
 refine S.okx XMs bi_Z7 (fun vs H Q E h=>by revert h;walk_at "len") (fun f cdv A outer s H vs Q E hr h=>?_)
 refine⟨_,PSs.nox (Xab (Xbe (Xcs (Xfg (Xah D_Z36 hr (by rfl) (Xaa (pv 0) (Xaa (pv 1) Xac))))) (Xae (Xai (pv 1))) Xan) (Xab (Xao (i:=2) XMs.nd rfl (Or.inl rfl) (Xak Xdn (Xak Xbq (pv 1) (Xah D_Z52 hr (by rfl) (Xaa (Xbx Xbi (pv 0) (pv 1) (fun _ _=>rfl)) Xac))) Xag)) (Xab (Xbe (Xal Xov (Xbx Xbi (pv 0) (pv 2) (fun _ _=>rfl)) (Xbx Xbi (pv 0) (pv 1) (fun _ _=>rfl)) (Xaj _)) (Xae (Xai (pv 2))) Xan) (Xae (Xai Xge))))),?_⟩
 obtain⟨a,ns,k,rfl,hS,h0,h1,q⟩:=h
 have q':∀c,Xdj ns k=c→Q (optV c) H:=fun c e=>e▸q
 walk_at "go"
 refine Xfv (fun hc=>?_) (fun hc=>?_)
 · obtain⟨b1,b2,_⟩:=(Xgp ns k).mp hc
   walk_at "go"
   refine Xbd (fun hd=>?_) (fun hd=>?_)
   · walk_at "go"
     exact q' none (Xwg hc hd)
   · walk_at "go"
     exact q' (some _) (XBc hc hd)
 · walk_at "go"
   exact q' (some k) (XNn hc)
theorem XBy {P:Program}{w:World}{base:Heap}{K:PySem.W.Frag}{mg:Str→Option Value}{Y7 Y0:Addr}{fI:Addr}{fd:FuncData}(F:Fun K "__init__" "Broken.__init__" Xdc fI fd)(XI:XIni K mg "Broken" Y7 Y0 fI)(Z:XSet K Y7 "cell"):DefI P w K mg base "Broken" Y7 Y0 1 ["self","cell"] (Xrb Y7 "cell"):=by
 refine⟨fI,fd,XI,Xbk F Xiu (fun vs H Q E h=>?_) (fun cdv A outer s H vs Q E hr h=>?_),F.binds Xil⟩
 · obtain⟨y,v,rfl,_⟩:=h
   rfl
 · obtain⟨y,v,rfl,hy,q⟩:=h
   exact⟨_,PSs.nox (Xae (XFz (pv 0) (pv 1))),_,rfl,_,rfl,y,_,rfl,hy,Z,fun dx hd=>q dx hd⟩
def LkW (H:Hp)(a p:Addr)(ns:List Int)(m:Nat)(σ:L2.St)(H':Hp):Prop :=
 ∃(ds:List Pc) (us:List V) (k:Int) (x y:Option V),σ=[some (.ref a),some (.ref p),some (.int k),x,y]∧m=(ns.length-k).toNat∧0≤k∧k≤ns.length∧(ds.length:Int)≤k∧WPre ns ds k∧Same H H'∧H' p=some (.lst us)∧Xbl H' us ds
include T in
theorem d_Z62 (S:Src K mg "looked" Xru)(D_Z52:Defx P w K mg base "long_of" 1 ["number"] (Xgt))(D_Z44:Defx P w K mg base "live_of" 1 ["number"] (Xnr))(D_Z7:Defx P w K mg base "bad_of_piece" 3 ["cells","at"] (XLo K))(D_Broken:DefI P w K mg base "Broken" Y7 Y0 1 ["self","cell"] (Xrb Y7 "cell")):Defx P w K mg base "looked" 4 ["cells"] (Xdp K Y7):=by
 refine S.okx Xjc XPm (fun vs H Q E h=>by revert h;walk_at "len") (fun f cdv A outer s H vs Q E hr h=>?_)
 refine⟨_,(Xab (Xao (i:=1) Xjc.nd rfl (Or.inl rfl) (Xby Xac)) (Xab (Xao (i:=2) Xjc.nd rfl (Or.inl rfl) Xag) (Xab (Xob PassesOwn.leaving (Xal Xis (pv 2) (Xam Xbm (by rfl) T.n_len PySem.boot_len (Xaa (pv 0) Xac)) (Xaj _)) (Xab (Xao (i:=3) Xjc.nd rfl (Or.inl rfl) (Xah D_Z7 hr (by rfl) (Xaa (pv 0) (Xaa (pv 2) Xac)))) (Xab (Xbe (Xal Xqi (pv 3) Xge (Xaj _)) (Xae (Xpv D_Broken hr rfl (Xaa (pv 3) Xac))) Xan) (Xab (Xao (i:=4) Xjc.nd rfl (Or.inl rfl) (Xah D_Z52 hr (by rfl) (Xaa (Xbx Xbi (pv 0) (pv 2) (fun _ _=>rfl)) Xac))) (Xab (Xce (Xwl PySem.F.plainAttrs_list PySem.F.slot_list_append PySem.F.type_list_append Xia (pv 1) (Xaa (Xdl (Xaa (pv 2) (Xaa (pv 4) (Xaa (Xah D_Z44 hr (by rfl) (Xaa (Xbx Xbi (pv 0) (pv 2) (fun _ _=>rfl)) Xac)) Xac)))) Xac))) (Xae (Xao (i:=2) Xjc.nd rfl (Or.inl rfl) (Xak Xbq (pv 2) (pv 4))))))))) (Xae (Xai (pv 1)))))),?_⟩
 obtain⟨a,ns,rfl,hS,hz,qe,q⟩:=h
 walk_at "go"
 intro p hp
 walk_at "go"
 refine⟨LkW H a p ns,⟨_,[],[],0,none,none,rfl,rfl,by omega,by omega,by decide,WPre.nil ns,Same.new hp,upd_same,Xbl.nil⟩,?_⟩
 rintro m σ H' ⟨ds,us,k,x,y,rfl,rfl,h0,hkl,hdl,w,s1,hp',pa⟩
 have hul:=pa.1
 have hS':SqL K H' a (ns.map V.int):=s1.seq hS
 walk_at "go"
 refine Xbd (fun hlt=>?_) (fun hlt=>?_)
 · refine⟨fun σ' H''=>∃m',m'<(ns.length-k).toNat∧LkW H a p ns m' σ' H'',fun σ' H'' hw=>hw,?_⟩
   walk_at "go"
   cases hb:Xdj ns k with
   | some b =>
     walk_at "go"
     refine XSw (fun dx hd=>?_)
     exact qe b (by rw[w.bad hlt hb]) dx _ (s1.put (s1.free hd)) upd_same
   | none =>
     obtain⟨b1,b2,b3⟩:=Xmo hb
     walk_at "go"
     intro t ht
     have hpt:p≠t:=Xat hp' ht
     walk_at "go"
     obtain⟨g1,g2⟩:=Xbl.push (z:=pcAt ns k) pa hp' ht
     dsimp only [pcAt] at g1 g2
     refine⟨_,?_,ds++[pcAt ns k],us++[.ref t],k+ns.getD k.toNat 0/2,_,_,rfl,rfl,by omega,by omega,?_,w.step hlt hb,(s1.put (s1.free ht)).put hp,g1,g2⟩
     · omega
     · rw[List.length_append,List.length_singleton]
       omega
 · walk_at "go"
   exact q (by rw[w.fin hlt]) p us H' hp s1 hp' (by rw[w.fin hlt];exact pa)
def Xcb (n:Int):List Int:=Xdg (List.replicate n.toNat 0) 0 n false
theorem Xci {n:Int}(h:0≤n):((Xcb n).length:Int)=n:=by
 unfold Xcb
 rw[Xbu,List.length_replicate]
 omega
theorem Xzd (n:Nat):(List.replicate n [V.int 0]).flatten=(List.replicate n (0:Int)).map V.int:=by
 induction n with
 | zero=>rfl
 | succ n ih=>rw[List.replicate_succ,List.flatten_cons,ih,List.replicate_succ,List.map_cons];rfl
def Xem (C:Addr):Sp:=fun vs H Q E=>∃n:Int,vs=[.int n]∧n≤4000∧(n<1→E (.ref C) none H)∧(1≤n→∀(p:Addr) (H':Hp),H p=none→Same H H'→H' p=some (.lst ((Xcb n).map V.int))→Q (.ref p) H')
include T in
theorem d_Z24 (S:Src K mg "fresh_room" Xtu)(D_Z55:Defx P w K mg base "mark_of" 1 ["long","live"] (Xvs)):Defx P w K mg base "fresh_room" 2 ["count"] (Xem Y15):=by
 refine S.okx XCj XPe (fun vs H Q E h=>by revert h;walk_at "len") (fun f cdv A outer s H vs Q E hr h=>?_)
 refine⟨_,(Xab (Xbe (Xal Xis (pv 0) Xag (Xaj _)) (Xae (Xch T.zcU hr.hd rfl (Xaa Xay Xac))) Xan) (Xab (Xao (i:=1) XCj.nd rfl (Or.inl rfl) (Xak Xnk (Xby (Xaa Xag Xac)) (pv 0))) (Xab (Xfl (Xah D_Z55 hr (by rfl) (Xaa (pv 0) (Xaa Xcz Xac))) (Xnf (pv 1) Xag Xgz)) (Xab (Xfl (Xah D_Z55 hr (by rfl) (Xaa (pv 0) (Xaa Xcz Xac))) (Xnf (pv 1) (Xak Xdn (pv 0) Xag) Xgz)) (Xae (Xai (pv 1))))))),?_⟩
 obtain⟨n,rfl,h4,qe,q⟩:=h
 walk_at "go"
 refine Xbd (fun hc=>?_) (fun hc=>?_)
 · walk_at "go"
   exact qe hc
 · have hn:n.natAbs<2^220:=Nat.lt_of_le_of_lt (show n.natAbs≤4000 by omega) (by decide)
   walk_at "go"
   intro l hl
   walk_at "go"
   refine⟨l,n,_,rfl,rfl,upd_same,by omega,by omega,(by show 1*n.toNat≤sizeLine;exact Nat.le_of_lt (small4000 (by omega))),fun p hp=>?_⟩
   rw[Xzd]
   have np:=(Same.new hl).free hp
   have s1:Same H (upd (upd H l (.lst [.int 0])) p (.lst ((List.replicate n.toNat (0:Int)).map V.int))):=(Same.new hl).put np
   have e1:upd (upd H l (.lst [.int 0])) p (.lst ((List.replicate n.toNat (0:Int)).map V.int)) p=some (.lst ((List.replicate n.toNat (0:Int)).map V.int)):=upd_same
   generalize upd (upd H l (.lst [.int 0])) p (.lst ((List.replicate n.toNat (0:Int)).map V.int))=H1 at s1 e1 ⊢
   have hlr:(List.replicate n.toNat (0:Int)).length=n.toNat:=List.length_replicate
   walk_at "go"
   refine⟨n,false,rfl,hn,?_⟩
   walk_at "go"
   refine⟨n,false,rfl,hn,?_⟩
   walk_at "go"
   refine q (by omega) p _ np ((s1.put np).put np) ?_
   unfold Xcb Xdg
   rw[show (0:Int)+n-1=n-1 by omega]
   exact upd_same
def Xix (K:PySem.W.Frag):Sp:=fun vs H Q _=>∃(a:Addr) (cs:List Int) (k l:Int) (v:Bool),vs=[.ref a,.int k,.int l,.bl v]∧SqL K H a (cs.map V.int)∧cs.length≤4000∧0≤k∧1≤l∧k+l≤cs.length ∧
 ∀(p:Addr) (H':Hp),H p=none→Same H H'→H' p=some (.lst ((Xdg cs k l v).map V.int))→Q (.ref p) H'
include T in
theorem d_Z72 (S:Src K mg "laid" Xqf)(D_Z55:Defx P w K mg base "mark_of" 1 ["long","live"] (Xvs)):Defx P w K mg base "laid" 2 ["cells","at","long","live"] (Xix K):=by
 refine S.okx XCn XNc (fun vs H Q E h=>by revert h;walk_at "len") (fun f cdv A outer s H vs Q E hr h=>?_)
 refine⟨_,PSs.nox (Xab (Xao (i:=4) XCn.nd rfl (Or.inl rfl) (Xdd Xcm (by rfl) T.n_list PyProof.Rows.boot_list (Xaa (pv 0) Xac))) (Xab (Xfl (Xah D_Z55 hr (by rfl) (Xaa (pv 2) (Xaa (pv 3) Xac))) (Xnf (pv 4) (pv 1) Xgz)) (Xab (Xfl (Xah D_Z55 hr (by rfl) (Xaa (pv 2) (Xaa (pv 3) Xac))) (Xnf (pv 4) (Xak Xdn (Xak Xbq (pv 1) (pv 2)) Xag) Xgz)) (Xae (Xai (pv 4)))))),?_⟩
 obtain⟨a,cs,k,l,v,rfl,hS,hz,h0,h1,hl,q⟩:=h
 have hn:l.natAbs<2^220:=Nat.lt_of_le_of_lt (show l.natAbs≤4000 by omega) (by decide)
 walk_at "go"
 intro p hp
 walk_at "go"
 refine⟨l,v,rfl,hn,?_⟩
 walk_at "go"
 refine⟨l,v,rfl,hn,?_⟩
 walk_at "go"
 refine q p _ hp (((Same.new hp).put hp).put hp) upd_same
def Xja (K:PySem.W.Frag):Sp:=fun vs H Q _=>∃(a:Addr) (cs:List Int) (b e:Int),vs=[.ref a,.int b,.int e]∧SqL K H a (cs.map V.int)∧cs.length≤4000∧0≤b∧b≤e∧e≤cs.length ∧
 ∀(p:Addr) (H':Hp),H p=none→Same H H'→H' p=some (.lst ((lfI cs b e).map V.int))→Q (.ref p) H'
include T in
theorem d_Z37 (S:Src K mg "laid_free" Xue)(D_Z72:Defx P w K mg base "laid" 2 ["cells","at","long","live"] (Xix K)):Defx P w K mg base "laid_free" 3 ["cells","begin","end"] (Xja K):=by
 refine S.okx XNb XMc (fun vs H Q E h=>by revert h;walk_at "len") (fun f cdv A outer s H vs Q E hr h=>?_)
 refine⟨_,PSs.nox (Xab (Xbe (Xal Xcn (pv 1) (pv 2) (Xaj _)) (Xae (Xai (Xdd Xcm (by rfl) T.n_list PyProof.Rows.boot_list (Xaa (pv 0) Xac)))) Xan) (Xae (Xai (Xah D_Z72 hr (by rfl) (Xaa (pv 0) (Xaa (pv 1) (Xaa (Xak Xdn (pv 2) (pv 1)) (Xaa Xcz Xac)))))))),?_⟩
 obtain⟨a,cs,b,e,rfl,hS,hz,h0,h1,hl,q⟩:=h
 walk_at "go"
 refine Xbd (fun he=>?_) (fun he=>?_)
 · walk_at "go"
   intro p hp
   walk_at "go"
   refine q p _ hp (Same.new hp) ?_
   unfold lfI
   rw[if_pos he]
   exact upd_same
 · walk_at "go"
   refine⟨a,cs,b,e-b,false,rfl,hS,hz,h0,by omega,by omega,fun p H' hp s1 g1=>?_⟩
   walk_at "go"
   refine q p H' hp s1 ?_
   unfold lfI
   rw[if_neg he]
   exact g1
def Xld (K:PySem.W.Frag)(C:Addr):Sp:=fun vs H Q E=>∃(a:Addr) (cs:List Int) (ps:List Pc) (k:Int),vs=[.ref a,.int k]∧SqL K H a (cs.map V.int)∧cs.length≤4000∧Xct cs 0=(ps,none) ∧
 (∀z∈ps,z.a=k→∀(t:Addr) (H':Hp),Same H H'→H' t=some (.tup [.int z.a,.int z.l,.bl z.v])→Q (.ref t) H') ∧
 ((∀z∈ps,z.a≠k)→∀(H':Hp),Same H H'→E (.ref C) none H')
def PaW (f0 f1:Option V)(H1:Hp)(ps:List Pc)(k:Int)(i:Nat)(σ:L2.St)(H':Hp):Prop:=H1=H'∧∃x2:Option V,σ=[f0,f1,x2]∧∀z∈ps.take i,z.a≠k
include T in
theorem d_Z43 (S:Src K mg "piece_at" Xub)(D_Z62:Defx P w K mg base "looked" 4 ["cells"] (Xdp K Y7)):Defx P w K mg base "piece_at" 5 ["cells","at"] (Xld K Y5):=by
 refine S.okx XCt XLw (fun vs H Q E h=>by revert h;walk_at "len") (fun f cdv A outer s H vs Q E hr h=>?_)
 refine⟨_,(Xab (Xks PassesOwn.leaving rfl (Xda (Xbr D_Z62 hr (by rfl) (Xaa (pv 0) Xac))) (Xar (i:=2) XCt.nd rfl (Or.inl rfl)) (Xae (Xbe (Xal Xcn (Xbx Xfh (pv 2) Xag (fun _ _=>rfl)) (pv 1) (Xaj _)) (Xae (Xai (pv 2))) Xan))) (Xae (Xch T.zdf hr.hd rfl (Xaa Xay Xac)))),?_⟩
 obtain⟨a,cs,ps,k,rfl,hS,hz,hw,q,qe⟩:=h
 walk_at "go"
 refine⟨a,cs,rfl,hS,hz,(fun c hc=>by rw[hw] at hc;cases hc),fun _ lp us H1 nlp s1 hlp pa=>?_⟩
 have pa:Xbl H1 us ps:=by rw[hw] at pa;exact pa
 have hul:=pa.1
 refine⟨lp,rfl,⟨_,SqL.of hlp⟩,Xkc (K:=K) (a:=lp) (xs:=us) (PaW (some (.ref a)) (some (.int k)) H1 ps k) ⟨rfl,none,rfl,fun z hz=>by cases hz⟩ (fun i σ H2 _ ⟨h,_⟩=>h▸SqL.of hlp) ?_ ?_⟩
 · rintro i y σ H2 hi ⟨rfl,x2,rfl,hq⟩
   have hil:i<us.length:=(List.getElem?_eq_some_iff.mp hi).1
   have hip:i<ps.length:=by omega
   obtain⟨t,et,hT⟩:=pa.2 i ps[i] (by simp [hip])
   have ey:y = .ref t:=Option.some.inj (hi.symm.trans et)
   subst ey
   walk_at "go"
   refine Xbd (fun hk=>?_) (fun hk=>?_)
   · walk_at "go"
     exact q ps[i] (by simp) hk t _ s1 hT
   · walk_at "go"
     refine⟨rfl,_,rfl,fun z hz=>?_⟩
     rw[List.take_add_one,List.getElem?_eq_getElem hip] at hz
     rcases List.mem_append.mp hz with h | h
     · exact hq z h
     · have:z=ps[i]:=by simpa using h
       rw[this];exact hk
 · rintro σ H2 ⟨rfl,x2,rfl,hq⟩
   rw[List.take_of_length_le (by omega)] at hq
   walk_at "go"
   exact qe hq _ s1
def Xsb (K:PySem.W.Frag)(C:Addr)(v:Bool):Sp:=fun vs H Q E=>∃(a:Addr) (cs:List Int) (ps:List Pc) (k:Int),vs=[.ref a,.int k]∧SqL K H a (cs.map V.int)∧cs.length≤4000∧Xct cs 0=(ps,none)∧Xas 0 ps cs.length ∧
 (∀z∈ps,z.a=k→z.v=v→∀(t:Addr) (H':Hp),Same H H'→H' t=some (.tup [.int z.a,.int z.l,.bl z.v])→Q (.ref t) H') ∧
 ((∀z∈ps,z.a=k→z.v≠v)→∀(H':Hp),Same H H'→E (.ref C) none H')
include T in
theorem d_Z54 (S:Src K mg "free_at" Xux)(D_Z43:Defx P w K mg base "piece_at" 5 ["cells","at"] (Xld K Y5)):Defx P w K mg base "free_at" 6 ["cells","at"] (Xsb K Y5 false):=by
 refine S.okx XCh bi_Z54 (fun vs H Q E h=>by revert h;walk_at "len") (fun f cdv A outer s H vs Q E hr h=>?_)
 refine⟨_,(Xab (Xao (i:=2) XCh.nd rfl (Or.inl rfl) (Xbr D_Z43 hr (by rfl) (Xaa (pv 0) (Xaa (pv 1) Xac)))) (Xab (Xbe (Xck (Xbx Xfh (pv 2) Xag (fun _ _=>rfl)) (fun _=>rfl)) (Xae (Xch T.zdf hr.hd rfl (Xaa Xay Xac))) Xan) (Xae (Xai (pv 2))))),?_⟩
 obtain⟨a,cs,ps,k,rfl,hS,hz,hw,hc,q,qe⟩:=h
 walk_at "go"
 refine⟨a,cs,ps,k,rfl,hS,hz,hw,fun z hm hk t H1 s1 ht=>?_,fun hn H1 s1=>qe (fun z hz hk=>absurd hk (hn z hz)) _ s1⟩
 walk_at "go"
 refine Xfv (fun hv=>?_) (fun hv=>?_)
 · walk_at "go"
   refine qe (fun y hy hk2=>?_) _ s1
   rw[Xdx hc hy hm (by omega),hv]
   exact fun z=>nomatch z
 · walk_at "go"
   exact q z hm hk hv t _ s1 ht
def XJs (K:PySem.W.Frag)(CP CR:Addr):Sp:=fun vs H Q E=>∃(a:Addr) (cs:List Int) (ps:List Pc) (k s L:Int),vs=[.ref a,.int k,.int s,.int L]∧SqL K H a (cs.map V.int)∧cs.length≤4000∧Xas 0 ps cs.length∧Xau cs ps∧1≤L ∧
 (∀z∈ps,z.a=k→z.v=false→z.a≤s→s+L≤z.a+z.l→∀(p:Addr) (H':Hp),H p=none→Same H H'→H' p=some (.lst ((cutO cs z.a z.l s L).map V.int))→Q (.ref p) H') ∧
 (∀z∈ps,z.a=k→z.v=false→¬(z.a≤s∧s+L≤z.a+z.l)→∀(H':Hp),Same H H'→E (.ref CR) none H') ∧
 ((∀z∈ps,z.a=k→z.v≠false)→∀(H':Hp),Same H H'→E (.ref CP) none H')
include T in
theorem d_Z58 (S:Src K mg "cut_out" Xuf)(D_Z54:Defx P w K mg base "free_at" 6 ["cells","at"] (Xsb K Y5 false))(D_Z37:Defx P w K mg base "laid_free" 3 ["cells","begin","end"] (Xja K))(D_Z72:Defx P w K mg base "laid" 2 ["cells","at","long","live"] (Xix K)):Defx P w K mg base "cut_out" 7 ["cells","at","place","long"] (XJs K Y5 Y14):=by
 refine S.okx Xhn bi_Z58 (fun vs H Q E h=>by revert h;walk_at "len") (fun f cdv A outer s H vs Q E hr h=>?_)
 refine⟨_,(Xab (Xfl (Xbr D_Z54 hr (by rfl) (Xaa (pv 0) (Xaa (pv 1) Xac))) (Xhz rfl (Xaq (Xar (i:=4) Xhn.nd rfl (Or.inl rfl)) (Xaq (Xar (i:=5) Xhn.nd rfl (Or.inl rfl)) (Xaq (Xar (i:=6) Xhn.nd rfl (Or.inl rfl)) Xcq))))) (Xab (Xao (i:=7) Xhn.nd rfl (Or.inl rfl) (Xak Xbq (pv 4) (pv 5))) (Xab (Xbe (PW.pt (Xir (Xal Xis (pv 2) (pv 4) (Xaj _)) (Xgr (Xal Xhh (Xak Xbq (pv 2) (pv 3)) (pv 7) (Xaj _))))) (Xae (Xch T.zch hr.hd rfl (Xaa Xay Xac))) Xan) (Xab (Xao (i:=8) Xhn.nd rfl (Or.inl rfl) (Xah D_Z37 hr (by rfl) (Xaa (pv 0) (Xaa (pv 4) (Xaa (pv 2) Xac))))) (Xab (Xao (i:=8) Xhn.nd rfl (Or.inl rfl) (Xah D_Z72 hr (by rfl) (Xaa (pv 8) (Xaa (pv 2) (Xaa (pv 3) (Xaa Xcz Xac)))))) (Xae (Xai (Xah D_Z37 hr (by rfl) (Xaa (pv 8) (Xaa (Xak Xbq (pv 2) (pv 3)) (Xaa (pv 7) Xac))))))))))),?_⟩
 obtain⟨a,cs,ps,k,s,L,rfl,hS,hz,hc,mk,hL,q,qr,qe⟩:=h
 have hw:=Xaw hc mk
 walk_at "go"
 refine⟨a,cs,ps,k,rfl,hS,by omega,hw,hc,fun z hm hk hv t H1 s1 ht=>?_,fun hn H1 s1=>qe hn _ s1⟩
 obtain⟨z0,z1,_,z4⟩:=hc.mem z hm
 walk_at "go"
 refine Xbd (fun h1=>?_) (fun h1=>?_)
 · walk_at "go"
   exact qr z hm hk hv (by omega) _ s1
 · walk_at "go"
   refine Xbd (fun h2=>?_) (fun h2=>?_)
   · walk_at "go"
     exact qr z hm hk hv (by omega) _ s1
   · walk_at "go"
     refine⟨a,cs,z.a,s,rfl,s1.seq hS,hz,z0,by omega,by omega,fun p2 H2 n2 s2 g2=>?_⟩
     walk_at "go"
     refine⟨p2,lfI cs z.a s,s,L,true,rfl,SqL.of g2,by rw[Xez];exact hz,by omega,hL,by rw[Xez];omega,fun p3 H3 n3 s3 g3=>?_⟩
     walk_at "go"
     refine⟨p3,Xdg (lfI cs z.a s) s L true,s+L,z.a+z.l,rfl,SqL.of g3,by rw[Xbu,Xez];exact hz,by omega,by omega,by rw[Xbu,Xez];omega,fun p4 H4 n4 s4 g4=>?_⟩
     walk_at "go"
     have s13:=(s1.trans s2).trans s3
     exact q z hm hk hv (by omega) (by omega) p4 H4 (s13.free n4) (s13.trans s4) g4
def Xmu (CA:Addr):Sp:=fun vs H Q E=>∃c b:Int,vs=[.int c,.int b]∧(c<1∨b<1→E (.ref CA) none H)∧(1≤c→1≤b→Q .non H)
include T in
theorem d_Z30 (S:Src K mg "check_ask" Xtc) :Defx P w K mg base "check_ask" 1 ["count","bound"] (Xmu Y19):=by
 refine S.okx XNi XMa (fun vs H Q E h=>by revert h;walk_at "len") (fun f cdv A outer s H vs Q E hr h=>?_)
 refine⟨_,(Xae (Xbe (PW.pt (Xir (Xal Xis (pv 0) Xag (Xaj _)) (Xgr (Xal Xis (pv 1) Xag (Xaj _))))) (Xae (Xch T.zgE hr.hd rfl (Xaa Xay Xac))) Xan)),?_⟩
 obtain⟨c,b,rfl,qe,q⟩:=h
 walk_at "go"
 refine Xbd (fun h1=>?_) (fun h1=>?_)
 · walk_at "go"
   exact qe (.inl h1)
 · walk_at "go"
   refine Xbd (fun h2=>?_) (fun h2=>?_)
   · walk_at "go"
     exact qe (.inr h2)
   · walk_at "go"
     exact q (by omega) (by omega)
def BgW (H1:Hp)(ps:List Pc)(s:Int)(D:Addr)(i:Nat)(ys:List V)(H2:Hp):Prop:=Same H1 H2∧H2 D=some (.lst ys)∧ys=(((ps.take i).filter fun z=>decide (z.a≤s)).map fun z=>V.int z.a)
def Xhc (CA CB:Addr):Sp:=fun vs H Q E=>∃c b:Int,vs=[.int c,.int b]∧(c<1∨b<1→E (.ref CA) none H)∧(1≤c→1≤b→b≠1→E (.ref CB) none H)∧(1≤c→b=1→Q .non H)
include T in
theorem d_Z3 (S:Src K mg "check_plain_ask" s_Z3)(D_Z30:Defx P w K mg base "check_ask" 1 ["count","bound"] (Xmu Y19)):Defx P w K mg base "check_plain_ask" 2 ["count","bound"] (Xhc Y19 Y4):=by
 refine S.okx sc_Z3 bi_Z3 (fun vs H Q E h=>by revert h;walk_at "len") (fun f cdv A outer s H vs Q E hr h=>?_)
 refine⟨_,(Xab (Xce (Xbr D_Z30 hr (by rfl) (Xaa (pv 0) (Xaa (pv 1) Xac)))) (Xae (Xbe (Xal Xov (pv 1) Xag (Xaj _)) (Xae (Xch T.zed hr.hd rfl (Xaa Xay Xac))) Xan))),?_⟩
 obtain⟨c,b,rfl,qa,qb,q⟩:=h
 walk_at "go"
 refine⟨c,b,rfl,qa,fun h1 h2=>?_⟩
 walk_at "go"
 refine Xbd (fun h3=>?_) (fun h3=>?_)
 · walk_at "go"
   exact q h1 h3
 · walk_at "go"
   exact qb h1 h2 h3
structure BS (C:W7→Addr)(i:W7)(x dx a:Addr)(r:Int)(cs:List Int)(ps:List Pc)(H:Hp):Prop where
 hx:H x=some (.ins (C i) dx (fsF i a r))
 ha:H a=some (.lst (cs.map V.int))
 hz:cs.length≤1200
 hc:Xas 0 ps cs.length
 mm:Xau cs ps
structure KS (C:W7→Addr)(x dx a:Addr)(q:St7)(cs:List Int)(H:Hp):Prop where
 hx:H x=some (.ins (C q.let3) dx (fsF q.let3 a q.s))
 ha:H a=some (.lst (cs.map V.int))
 hl:(cs.length:Int)=q.n
 hz:cs.length≤1200
 ok:q.ok
 mm:Xau cs q.ps
section
variable {C:W7→Addr}{x dx a:Addr}{q:St7}{cs:List Int}{H H':Hp}
theorem KS.same (S:KS C x dx a q cs H)(s:Same H H'):KS C x dx a q cs H':=⟨s x _ S.hx,s a _ S.ha,S.hl,S.hz,S.ok,S.mm⟩
theorem KS.ch (S:KS C x dx a q cs H):Xas 0 q.ps cs.length:=by rw[S.hl];exact St7.ch S.ok
theorem KS.bs (S:KS C x dx a q cs H):BS C q.let3 x dx a q.s cs q.ps H:=⟨S.hx,S.ha,S.hz,S.ch,S.mm⟩
end
def XGt (C:W7→Addr):Sp:=fun vs H Q _=>∃(i:W7) (x dx:Addr) (n:Int),vs=[.ref x,.int n]∧H x=some (.ins (C i) dx [])∧1≤n∧n≤4000 ∧
 ∀(a:Addr) (H':Hp),H a=none→Xba x H H'→H' x=some (.ins (C i) dx [("room_cells",.ref a)])→H' a=some (.lst ((Xcb n).map V.int))→Q .non H'
include T in
theorem d_Z56 {f₀:Addr}{fd₀:FuncData}(F:Fun K "__init__" "Keeper.__init__" Xbf f₀ fd₀)(M:ClsM K Y9 "__init__" f₀)(D_Z24:Defx P w K mg base "fresh_room" 2 ["count"] (Xem Y15)):Basex P w K mg base "Keeper" "__init__" 3 ["self","size"] (XGt (cF Y17 Y20 Y21 Y18 Y8 Y6 Y22)):=by
 refine⟨⟨Y9,f₀,fd₀,Xbk F Xbv (fun vs H Q E h=>by revert h;walk_at "len") (fun cdv A outer s H vs Q E hr h=>?_),M,F.binds Xbw,T.zdy⟩⟩
 refine⟨_,PSs.nox (Xae (Xet (pv 0) (Xah D_Z24 hr (by rfl) (Xaa (pv 1) Xac)) rfl)),?_⟩
 obtain⟨i,x,dx,n,rfl,hx,h1,h4,q⟩:=h
 have cl:=T_cl T i
 have na:=T_na T i
 walk_at "go"
 refine⟨n,rfl,h4,fun z=>absurd z (by omega),fun _ p H1 np s1 hp=>?_⟩
 have hx1:=s1 x _ hx
 have hne:p≠x:=fun z=>by rw[z,hx] at np;cases np
 walk_at "go"
 exact q p _ np (Xba.of s1).put upd_same (look_ne hne hp)
def spMk (C CS:Addr):Sp:=fun vs H Q E=>∃(x dx:Addr) (n:Int),vs=[.ref x,.int n]∧H x=some (.ins C dx [])∧n≤4000∧(n<1→E (.ref CS) none H) ∧
 (1≤n→∀(a:Addr) (H':Hp),H a=none→Xba x H H'→H' x=some (.ins C dx [("room_cells",.ref a)])→H' a=some (.lst ((Xcb n).map V.int))→Q .non H')
include T in
theorem XHa {f₀:Addr}{fd₀:FuncData}(F:Fun K "__init__" "Keeper.__init__" Xbf f₀ fd₀)(M:Mk K Y17 f₀)(D_Z24:Defx P w K mg base "fresh_room" 2 ["count"] (Xem Y15)):Makex P w K mg base "First" Y17 3 ["self","size"] [] (spMk Y17 Y15):=by
 refine⟨⟨f₀,fd₀,[],Xbk F Xbv (fun vs H Q E h=>by revert h;walk_at "len") (fun cdv A outer s H vs Q E hr h=>?_),M,F.binds Xbw,.nil⟩,T.zfy⟩
 refine⟨_,(Xae (Xet (pv 0) (Xbr D_Z24 hr (by rfl) (Xaa (pv 1) Xac)) rfl)),?_⟩
 obtain⟨x,dx,n,rfl,hx,h4,qe,q⟩:=h
 have cl:=T.zcv
 have na:=T.zac
 walk_at "go"
 refine⟨n,rfl,h4,fun z=>qe z,fun h1 p H1 np s1 hp=>?_⟩
 have hx1:=s1 x _ hx
 have hne:p≠x:=fun z=>by rw[z,hx] at np;cases np
 walk_at "go"
 exact q h1 p _ np (Xba.of s1).put upd_same (look_ne hne hp)
include T in
theorem XOo {f₀:Addr}{fd₀:FuncData}(F:Fun K "__init__" "Keeper.__init__" Xbf f₀ fd₀)(M:Mk K Y20 f₀)(D_Z24:Defx P w K mg base "fresh_room" 2 ["count"] (Xem Y15)):Makex P w K mg base "Best" Y20 3 ["self","size"] [] (spMk Y20 Y15):=by
 refine⟨⟨f₀,fd₀,[],Xbk F Xbv (fun vs H Q E h=>by revert h;walk_at "len") (fun cdv A outer s H vs Q E hr h=>?_),M,F.binds Xbw,.nil⟩,T.c_Best⟩
 refine⟨_,(Xae (Xet (pv 0) (Xbr D_Z24 hr (by rfl) (Xaa (pv 1) Xac)) rfl)),?_⟩
 obtain⟨x,dx,n,rfl,hx,h4,qe,q⟩:=h
 have cl:=T.zdg
 have na:=T.zae
 walk_at "go"
 refine⟨n,rfl,h4,fun z=>qe z,fun h1 p H1 np s1 hp=>?_⟩
 have hx1:=s1 x _ hx
 have hne:p≠x:=fun z=>by rw[z,hx] at np;cases np
 walk_at "go"
 exact q h1 p _ np (Xba.of s1).put upd_same (look_ne hne hp)
include T in
theorem XIt {f₀:Addr}{fd₀:FuncData}(F:Fun K "__init__" "Keeper.__init__" Xbf f₀ fd₀)(M:Mk K Y18 f₀)(D_Z24:Defx P w K mg base "fresh_room" 2 ["count"] (Xem Y15)):Makex P w K mg base "Likes" Y18 3 ["self","size"] [] (spMk Y18 Y15):=by
 refine⟨⟨f₀,fd₀,[],Xbk F Xbv (fun vs H Q E h=>by revert h;walk_at "len") (fun cdv A outer s H vs Q E hr h=>?_),M,F.binds Xbw,.nil⟩,T.zfz⟩
 refine⟨_,(Xae (Xet (pv 0) (Xbr D_Z24 hr (by rfl) (Xaa (pv 1) Xac)) rfl)),?_⟩
 obtain⟨x,dx,n,rfl,hx,h4,qe,q⟩:=h
 have cl:=T.zcw
 have na:=T.zad
 walk_at "go"
 refine⟨n,rfl,h4,fun z=>qe z,fun h1 p H1 np s1 hp=>?_⟩
 have hx1:=s1 x _ hx
 have hne:p≠x:=fun z=>by rw[z,hx] at np;cases np
 walk_at "go"
 exact q h1 p _ np (Xba.of s1).put upd_same (look_ne hne hp)
include T in
theorem d_Row {f₀:Addr}{fd₀:FuncData}(F:Fun K "__init__" "Keeper.__init__" Xbf f₀ fd₀)(M:Mk K Y22 f₀)(D_Z24:Defx P w K mg base "fresh_room" 2 ["count"] (Xem Y15)):Makex P w K mg base "Row" Y22 3 ["self","size"] [] (spMk Y22 Y15):=by
 refine⟨⟨f₀,fd₀,[],Xbk F Xbv (fun vs H Q E h=>by revert h;walk_at "len") (fun cdv A outer s H vs Q E hr h=>?_),M,F.binds Xbw,.nil⟩,T.c_Row⟩
 refine⟨_,(Xae (Xet (pv 0) (Xbr D_Z24 hr (by rfl) (Xaa (pv 1) Xac)) rfl)),?_⟩
 obtain⟨x,dx,n,rfl,hx,h4,qe,q⟩:=h
 have cl:=T.cl_Row
 have na:=T.zaj
 walk_at "go"
 refine⟨n,rfl,h4,fun z=>qe z,fun h1 p H1 np s1 hp=>?_⟩
 have hx1:=s1 x _ hx
 have hne:p≠x:=fun z=>by rw[z,hx] at np;cases np
 walk_at "go"
 exact q h1 p _ np (Xba.of s1).put upd_same (look_ne hne hp)
include T in
theorem d_Z23 {f₀:Addr}{fd₀:FuncData}(F:Fun K "__init__" "Keeper.__init__" Xbf f₀ fd₀)(M:ClsM K Y1 "__init__" f₀)(D_Z24:Defx P w K mg base "fresh_room" 2 ["count"] (Xem Y15)):Basex P w K mg base "Stretches" "__init__" 3 ["self","size"] (spMk Y21 Y15):=by
 refine⟨⟨Y1,f₀,fd₀,Xbk F Xbv (fun vs H Q E h=>by revert h;walk_at "len") (fun cdv A outer s H vs Q E hr h=>?_),M,F.binds Xbw,T.zct⟩⟩
 refine⟨_,(Xae (Xet (pv 0) (Xbr D_Z24 hr (by rfl) (Xaa (pv 1) Xac)) rfl)),?_⟩
 obtain⟨x,dx,n,rfl,hx,h4,qe,q⟩:=h
 have cl:=T.zcu
 have na:=T.zaa
 walk_at "go"
 refine⟨n,rfl,h4,fun z=>qe z,fun h1 p H1 np s1 hp=>?_⟩
 have hx1:=s1 x _ hx
 have hne:p≠x:=fun z=>by rw[z,hx] at np;cases np
 walk_at "go"
 exact q h1 p _ np (Xba.of s1).put upd_same (look_ne hne hp)
def XRi (C CS:Addr):Sp:=fun vs H Q E=>∃(x dx:Addr) (n:Int),vs=[.ref x,.int n]∧H x=some (.ins C dx [])∧n≤4000∧(n<1→E (.ref CS) none H) ∧
 (1≤n→∀(a:Addr) (H':Hp),H a=none→Xba x H H'→H' x=some (.ins C dx [("room_cells",.ref a),("room_rover",.int 0)])→H' a=some (.lst ((Xcb n).map V.int))→Q .non H')
include T in
theorem d_Next {f₀:Addr}{fd₀:FuncData}(F:Fun K "__init__" "Next.__init__" Xeg f₀ fd₀)(M:Mk K Y21 f₀)(D_Z23:Basex P w K mg base "Stretches" "__init__" 3 ["self","size"] (spMk Y21 Y15)):Makex P w K mg base "Next" Y21 4 ["self","size"] [] (XRi Y21 Y15):=by
 refine⟨⟨f₀,fd₀,[],Xbk F Xme (fun vs H Q E h=>by revert h;walk_at "len") (fun cdv A outer s H vs Q E hr h=>?_),M,F.binds Xkz,.nil⟩,T.c_Next⟩
 refine⟨_,(Xab (Xce (Xju D_Z23 Xfr hr (by rfl) (Xaa (pv 0) (Xaa (pv 1) Xac)))) (Xae (Xet (pv 0) Xag rfl))),?_⟩
 obtain⟨x,dx,n,rfl,hx,h4,qe,q⟩:=h
 have cl:=T.zcu
 have na:=T.zaa
 have nr:=T.zaf
 walk_at "go"
 refine⟨x,dx,n,rfl,hx,h4,fun z=>qe z,fun h1 a H1 na1 k1 hx1 ha1=>?_⟩
 have hne:a≠x:=fun z=>by rw[z,hx1] at ha1;cases ha1
 walk_at "go"
 exact q h1 a _ na1 (k1.trans Xba.refl.put) upd_same (look_ne hne ha1)
def Xvt (K:PySem.W.Frag)(C:W7→Addr)(i:W7):Sp:=fun vs H Q _=>∃(r:Int) (x h dx a:Addr) (cs:List Int),vs=[.ref x,.ref h]∧H x=some (.ins (C i) dx (fsF i a r))∧SqL K H h (cs.map V.int) ∧
 ∀(a':Addr) (H':Hp),H a'=none→Xba x H H'→H' x=some (.ins (C i) dx (fsF i a' r))→H' a'=some (.lst (cs.map V.int))→Q .non H'
include T in
theorem d_Z19 {f₀:Addr}{fd₀:FuncData}(F:Fun K "room_begin" "Keeper.room_begin" s_Z2 f₀ fd₀)(M:∀i,(ok3) i→Meth K ((cF Y17 Y20 Y21 Y18 Y8 Y6 Y22) i) "room_begin" f₀) :Xcy P w K mg base (ok3) (cF Y17 Y20 Y21 Y18 Y8 Y6 Y22) "room_begin" 1 ["self","cells"] [] (Xvt K (cF Y17 Y20 Y21 Y18 Y8 Y6 Y22)):=by
 refine Xcy.made (Xbk F sc_Z2 (fun vs H Q E h=>by obtain⟨_,_,h⟩:=h;revert h;walk_at "len") (fun cdv A outer s H vs Q E hr h=>?_)) M (F.binds bi_Z2) (T_cl T)
 refine⟨_,PSs.nox (Xae (Xet (pv 0) (Xdd Xcm (by rfl) T.n_list PyProof.Rows.boot_list (Xaa (pv 1) Xac)) rfl)),?_⟩
 obtain⟨i,hi,r,x,h,dx,a,cs,rfl,hx,hS,q⟩:=h
 have cl:=T_cl T i
 have na:=T_na T i
 walk_at "go"
 intro p np
 have s1:Same H (upd H p (.lst (cs.map V.int))):=Same.new np
 have hx1:=s1 x _ hx
 have hp:upd H p (.lst (cs.map V.int)) p=some (.lst (cs.map V.int)):=upd_same
 have hne:p≠x:=fun z=>by rw[z,hx] at np;cases np
 generalize upd H p (.lst (cs.map V.int))=H1 at s1 hx1 hp ⊢
 walk_at "go"
 exact q p _ np (Xba.of s1).put (by rw[upd_same,Xog]) (look_ne hne hp)
def Xvz (K:PySem.W.Frag)(C:W7→Addr)(i:W7):Sp:=fun vs H Q _=>∃(r:Int) (x h dx a:Addr) (cs0 cs:List Int) (ps:List Pc),vs=[.ref x,.ref h]∧H x=some (.ins (C i) dx (fsF i a r))∧H a=some (.lst (cs0.map V.int))∧cs.length=cs0.length∧SqL K H h (cs.map V.int)∧cs.length≤4000∧Xct cs 0=(ps,none) ∧
 ∀(a':Addr) (H':Hp),H a'=none→Xba x H H'→H' x=some (.ins (C i) dx (fsF i a' r))→H' a'=some (.lst (cs.map V.int))→Q .non H'
include T in
theorem d_lay {f₀:Addr}{fd₀:FuncData}(F:Fun K "lay" "Keeper.lay" Xwc f₀ fd₀)(M:∀i,(ok3) i→Meth K ((cF Y17 Y20 Y21 Y18 Y8 Y6 Y22) i) "lay" f₀)(D_Z62:Defx P w K mg base "looked" 4 ["cells"] (Xdp K Y7))(D_Z19:Xcy P w K mg base (ok3) (cF Y17 Y20 Y21 Y18 Y8 Y6 Y22) "room_begin" 1 ["self","cells"] [] (Xvt K (cF Y17 Y20 Y21 Y18 Y8 Y6 Y22))):Xcy P w K mg base (ok3) (cF Y17 Y20 Y21 Y18 Y8 Y6 Y22) "lay" 5 ["self","cells"] [] (Xvz K (cF Y17 Y20 Y21 Y18 Y8 Y6 Y22)):=by
 refine Xcy.made (Xbk F XTc (fun vs H Q E h=>by obtain⟨_,_,h⟩:=h;revert h;walk_at "len") (fun cdv A outer s H vs Q E hr h=>?_)) M (F.binds bi_Z26) (T_cl T)
 refine⟨_,PSs.nox (Xab (Xbe (Xal Xov (Xam Xbm (by rfl) T.n_len PySem.boot_len (Xaa (pv 1) Xac)) (Xam Xbm (by rfl) T.n_len PySem.boot_len (Xaa (Xeh (pv 0) rfl) Xac)) (Xaj _)) (Xae XAa) Xan) (Xab (Xce (Xah D_Z62 hr (by rfl) (Xaa (pv 1) Xac))) (Xae (Xce (Xed D_Z19 Xcf hr (pv 0) (Xaa (pv 1) Xac)))))),?_⟩
 obtain⟨i,hi,r,x,h,dx,a,cs0,cs,ps,rfl,hx,ha,hl,hS,hz,hw,q⟩:=h
 have cl:=T_cl T i
 have na:=T_na T i
 walk_at "go"
 refine⟨h,cs,rfl,hS,hz,(fun c hc=>by rw[hw] at hc;cases hc),fun _ lp us H1 nlp s1 hlp pa=>?_⟩
 have hx1:=s1 x _ hx
 walk_at "go"
 refine⟨r,x,h,dx,a,cs,rfl,hx1,s1.seq hS,fun a' H2 na2 k2 hx2 ha2=>?_⟩
 walk_at "go"
 exact q a' H2 (s1.free na2) ((Xba.of s1).trans k2) hx2 ha2
def Xfz (C:W7→Addr)(i:W7):Sp:=fun vs H Q _=>∃(r:Int) (x dx a:Addr) (cs:List Int) (ps:List Pc),vs=[.ref x]∧BS C i x dx a r cs ps H ∧
 ∀(p:Addr) (us:List V) (H':Hp),H p=none→Same H H'→H' p=some (.lst us)→Xbl H' us ps→Q (.ref p) H'
include T in
theorem d_Z59 {f₀:Addr}{fd₀:FuncData}(F:Fun K "pieces" "Keeper.pieces" s_Z6 f₀ fd₀)(M:∀i,Meth K ((cF Y17 Y20 Y21 Y18 Y8 Y6 Y22) i) "pieces" f₀)(D_Z62:Defx P w K mg base "looked" 4 ["cells"] (Xdp K Y7)):Xei P w K mg base (cF Y17 Y20 Y21 Y18 Y8 Y6 Y22) "pieces" 5 ["self"] [] (Xfz (cF Y17 Y20 Y21 Y18 Y8 Y6 Y22)):=by
 refine Xei.made (Xbk F sc_Z6 (fun vs H Q E h=>by obtain⟨_,h⟩:=h;revert h;walk_at "len") (fun cdv A outer s H vs Q E hr h=>?_)) M (F.binds bi_Z6) (T_cl T)
 refine⟨_,PSs.nox (Xae (Xai (Xah D_Z62 hr (by rfl) (Xaa (Xeh (pv 0) rfl) Xac)))),?_⟩
 obtain⟨i,r,x,dx,a,cs,ps,rfl,⟨hx,ha,hz,hc,mk⟩,q⟩:=h
 have cl:=T_cl T i
 have na:=T_na T i
 have hw:=Xaw hc mk
 walk_at "go"
 refine⟨a,cs,rfl,SqL.of ha,by omega,(fun c hc=>by rw[hw] at hc;cases hc),fun _ lp us H1 nlp s1 hlp pa=>?_⟩
 walk_at "go"
 exact q lp us H1 nlp s1 hlp (by rw[hw] at pa;exact pa)
def Xhd (C:W7→Addr)(k:W7):Sp:=fun vs H Q _=>∃(r:Int) (x dx a:Addr) (cs:List Int),vs=[.ref x]∧H x=some (.ins (C k) dx (fsF k a r))∧H a=some (.lst (cs.map V.int)) ∧
 ∀(p:Addr) (H':Hp),H p=none→Same H H'→H' p=some (.lst (cs.map V.int))→Q (.ref p) H'
include T in
theorem d_Z64 {f₀:Addr}{fd₀:FuncData}(F:Fun K "cells" "Keeper.cells" Xwn f₀ fd₀)(M:∀i,Meth K ((cF Y17 Y20 Y21 Y18 Y8 Y6 Y22) i) "cells" f₀) :Xei P w K mg base (cF Y17 Y20 Y21 Y18 Y8 Y6 Y22) "cells" 1 ["self"] [] (Xhd (cF Y17 Y20 Y21 Y18 Y8 Y6 Y22)):=by
 refine Xei.made (Xbk F XTo (fun vs H Q E h=>by obtain⟨_,h⟩:=h;revert h;walk_at "len") (fun cdv A outer s H vs Q E hr h=>?_)) M (F.binds bi_Z10) (T_cl T)
 refine⟨_,PSs.nox (Xae (Xai (Xdd Xcm (by rfl) T.n_list PyProof.Rows.boot_list (Xaa (Xeh (pv 0) rfl) Xac)))),?_⟩
 obtain⟨k,r,x,dx,a,cs,rfl,hx,ha,q⟩:=h
 have cl:=T_cl T k
 have na:=T_na T k
 walk_at "go"
 intro p np
 walk_at "go"
 exact q p _ np (Same.new np) upd_same
/-! bit_length -/
def bl (n:Int):Int:=((Builtin.Int.intBits n:Nat):Int)
section
variable {X:Cx}
def XHc:V→List V→Hp→VK→Prop:=fun x xs H Q=>∃i,x = .int i∧xs=[]∧Q (.int (bl i)) H
theorem Xkw:MtM X "int.bit_length" XHc:=by
 intro pins s σ H x xs v us Q I rx rs h
 obtain⟨i,rfl,rfl,q⟩:=h
 obtain⟨t,rfl⟩:=rx
 cases rs
 exact PyProof.Rows.call_int_bit_length ⟨.int (bl i),H,I.tok _,⟨_,rfl⟩,q⟩
end
theorem Xyq {n:Int}{k:Nat}(h2:2≤n)(h3:n<2^220)(hk:Xgn k n):bl (n-1)=(k:Int)∧(k:Int)≤1000:=by
 have e0:(n-1).natAbs=(n-1).toNat:=by omega
 have h1:=Xiy (c:=(n-1).toNat) (by omega)
 have e1:(((n-1).toNat:Nat):Int)+1=n:=by omega
 rw[e1] at h1
 have e2:Builtin.Int.intBits (n-1)=(n-1).toNat.log2+1:=by
   unfold Builtin.Int.intBits
   rw[if_neg (by simp;omega),e0]
 have e3:=h1.uniq hk
 unfold bl
 rw[e2,e3]
 refine⟨rfl,?_⟩
 rcases Nat.lt_or_ge 220 k with g | g
 · have:=hk.2 220 g
   omega
 · omega
def Xgv (n:Int):Bool:=decide (1≤n)&&decide (Builtin.bitAnd n (n-1)=0)
def XMu:Sp:=fun vs H Q _=>∃n:Int,vs=[.int n]∧Q (.bl (Xgv n)) H
include T in
theorem d_Z39 (S:Src K mg "is_power" Xto) :Defx P w K mg base "is_power" 1 ["number"] (XMu):=by
 refine S.okx XSy XTb (fun vs H Q E h=>by revert h;walk_at "len") (fun f cdv A outer s H vs Q E hr h=>?_)
 refine⟨_,PSs.nox (Xae (Xai (Xej (Xbj Xtw (pv 0) Xag (Xaj _)) (Xfj (Xbj Xcn (Xak Xsu (pv 0) (Xak Xdn (pv 0) Xag)) Xag (Xaj _)))))),?_⟩
 obtain⟨n,rfl,q⟩:=h
 unfold Xgv at q
 walk_at "go"
 refine Xbd (fun h1=>?_) (fun h1=>?_)
 · walk_at "go"
   rw[decide_eq_true h1,Bool.true_and] at q
   exact q
 · walk_at "go"
   rw[decide_eq_false h1,Bool.false_and] at q
   exact q
def XOr (C CN:Addr):Sp:=fun vs H Q E=>∃(x dx:Addr) (n:Int),vs=[.ref x,.int n]∧H x=some (.ins C dx [])∧n≤4000∧(Xgv n=false→E (.ref CN) none H) ∧
 (Xgv n=true→∀(a:Addr) (H':Hp),H a=none→Xba x H H'→H' x=some (.ins C dx [("room_cells",.ref a)])→H' a=some (.lst ((Xcb n).map V.int))→Q .non H')
include T in
theorem XBo {f₀:Addr}{fd₀:FuncData}(F:Fun K "__init__" "Halves.__init__" Xdb f₀ fd₀)(M:Mk K Y8 f₀)(D_Z39:Defx P w K mg base "is_power" 1 ["number"] (XMu))(D_Z56:Basex P w K mg base "Keeper" "__init__" 3 ["self","size"] (XGt (cF Y17 Y20 Y21 Y18 Y8 Y6 Y22))):Makex P w K mg base "Halves" Y8 4 ["self","size"] [] (XOr Y8 Y15):=by
 refine⟨⟨f₀,fd₀,[],Xbk F Xim (fun vs H Q E h=>by revert h;walk_at "len") (fun cdv A outer s H vs Q E hr h=>?_),M,F.binds Xin,.nil⟩,T.zdz⟩
 refine⟨_,(Xab (Xbe (Xcs (Xfg (Xah D_Z39 hr (by rfl) (Xaa (pv 1) Xac)))) (Xae (Xch T.zcU hr.hd rfl (Xaa Xay Xac))) Xan) (Xae (Xce (Xju D_Z56 Xcf hr (by rfl) (Xaa (pv 0) (Xaa (pv 1) Xac)))))),?_⟩
 obtain⟨x,dx,n,rfl,hx,h4,qe,q⟩:=h
 walk_at "go"
 refine⟨n,rfl,?_⟩
 walk_at "go"
 refine Xfv (fun hp=>?_) (fun hp=>?_)
 · have h1:1≤n:=by
     unfold Xgv at hp
     rw[Bool.and_eq_true,decide_eq_true_eq] at hp
     exact hp.1
   walk_at "go"
   refine⟨W7.half,x,dx,n,rfl,hx,h1,h4,fun a H1 na k1 hx1 ha1=>?_⟩
   walk_at "go"
   exact q hp a H1 na k1 hx1 ha1
 · walk_at "go"
   exact qe hp
def Xtv:Sp:=fun vs H Q _=>∃(n:Int) (k:Nat),vs=[.int n]∧2≤n∧n<2^220∧Xgn k n∧Q (.int (2^k)) H
include T in
theorem d_Z29 (S:Src K mg "block_for" Xpy) :Defx P w K mg base "block_for" 1 ["need"] (Xtv):=by
 refine S.okx XUa XPj (fun vs H Q E h=>by revert h;walk_at "len") (fun f cdv A outer s H vs Q E hr h=>?_)
 refine⟨_,PSs.nox (Xae (Xai (Xak Xjp Xag (Xne PySem.F.plainAttrs_int PySem.F.slot_int_bit_length PySem.F.type_int_bit_length Xkw (Xak Xdn (pv 0) Xag))))),?_⟩
 obtain⟨n,k,rfl,h2,h3,hk,q⟩:=h
 obtain⟨e,hb⟩:=Xyq (n:=n) (k:=k) h2 h3 hk
 walk_at "go"
 refine⟨rfl,_,rfl,rfl,?_⟩
 rw[e]
 walk_at "go"
 rw[show (1:Int)*2^(k:Int).toNat=2^k by rw[Int.one_mul];rfl]
 exact q
def fitL (b:Int)(ps:List Pc):List (List Int):=(ps.filter fun z=>!z.v&&decide (b≤z.l)).map fun z=>[z.l,z.a]
theorem Xva {ps:List Pc}{b:Int}{i:Nat}(h:i<ps.length):fitL b (ps.take (i+1))=fitL b (ps.take i)++(if (!ps[i].v&&decide (b≤ps[i].l))=true then [[ps[i].l,ps[i].a]] else []):=by
 unfold fitL
 rw[List.take_add_one,List.getElem?_eq_getElem h,List.filter_append,List.map_append]
 congr 1
 simp only [Option.toList_some,List.filter_cons,List.filter_nil]
 split <;> rfl
theorem Xkp {ps:List Pc}{b:Int}{k:Nat}(h:k<(fitL b ps).length):∃z∈ps,z.v=false∧b≤z.l∧(fitL b ps).getD k []=[z.l,z.a]:=by
 have e:(fitL b ps).getD k []=(fitL b ps)[k]:=by rw[List.getD_eq_getElem?_getD,List.getElem?_eq_getElem h];rfl
 have hm:(fitL b ps)[k]∈fitL b ps:=List.getElem_mem h
 rw[←e] at hm
 unfold fitL at hm
 obtain⟨z,hz,ez⟩:=List.mem_map.mp hm
 obtain⟨h1,h2⟩:=List.mem_filter.mp hz
 obtain⟨h3,h4⟩:=Bool.and_eq_true_iff.mp h2
 exact⟨z,h1,by simpa using h3,of_decide_eq_true h4,by unfold fitL;exact ez.symm⟩
theorem XFn {ps:List Pc}{b:Int}{z:Pc}(hz:z∈ps)(hv:z.v=false)(hl:b≤z.l):∃k,k<(fitL b ps).length∧(fitL b ps).getD k []=[z.l,z.a]:=by
 have:[z.l,z.a]∈fitL b ps:=by
   unfold fitL
   exact List.mem_map.mpr ⟨z,List.mem_filter.mpr ⟨hz,by rw[hv,decide_eq_true hl];rfl⟩,rfl⟩
 obtain⟨k,hk⟩:=List.getElem?_of_mem this
 exact⟨k,(List.getElem?_eq_some_iff.mp hk).1,by rw[List.getD_eq_getElem?_getD,hk];rfl⟩
theorem Xrk {ps:List Pc}{b:Int}{z:Pc}(h:Bst b ps z):0<(fitL b ps).length∧(fitL b ps).getD (Xdr (fitL b ps) ((fitL b ps).length-1)) []=[z.l,z.a]:=by
 obtain⟨h1,h2,h3,h4⟩:=h
 obtain⟨k,hk,ek⟩:=XFn h1 h2 h3
 have hm:=Xfp (fitL b ps) ((fitL b ps).length-1)
 obtain⟨y,hy,hyv,hyl,ey⟩:=Xkp (ps:=ps) (b:=b) (k:=Xdr (fitL b ps) ((fitL b ps).length-1)) (by omega)
 refine⟨by omega,?_⟩
 have hmin:=Xht (xs:=fitL b ps) (fun k hk=>let ⟨z,_,_,_,e⟩:=Xkp hk;⟨_,_,e⟩) ((fitL b ps).length-1) (by omega) k (by omega)
 rw[ek,ey,lex2] at hmin
 rw[ey]
 rcases h4 y hy hyv hyl with g | ⟨g1,g2⟩
 · rw[if_neg (by omega)] at hmin
   exact absurd g (of_decide_eq_false hmin)
 · rw[if_pos g1] at hmin
   have:=of_decide_eq_false hmin
   rw[g1,show y.a=z.a by omega]
def Xnu (CN:Addr):Sp:=fun vs H Q E=>∃(p:Addr) (us:List V) (ps:List Pc) (b:Int),vs=[.ref p,.int b]∧H p=some (.lst us)∧Xbl H us ps∧ps.length≤1200 ∧
 (((∀z∈ps,z.v=false→z.l<b)∧∀(H':Hp),Same H H'→E (.ref CN) none H')∨(∃z,Bst b ps z∧∀(u:Addr) (H':Hp),Same H H'→H' u=some (.tup [.int z.a,.int z.l])→Q (.ref u) H'))
def LfW (H1:Hp)(ps:List Pc)(b:Int)(D:Addr)(i:Nat)(ys:List V)(H2:Hp):Prop:=Same H1 H2∧H1 D=none∧H2 D=some (.lst ys)∧Xbp H2 ys ((fitL b (ps.take i)).map fun x=>x.map V.int)∧ys.length≤i
include T in
theorem d_Z25 (S:Src K mg "least_free" Xty) :Defx P w K mg base "least_free" 1 ["pieces","block"] (Xnu Y14):=by
 refine S.okx Xnp XMj (fun vs H Q E h=>by revert h;walk_at "len") (fun f cdv A outer s H vs Q E hr h=>?_)
 refine⟨_,(Xab (Xdz (i:=2) ["at","long","live"] ["block"] [1] Xnp.nd rfl (Or.inl rfl) rfl (Xda (pv 0)) (fun cl C s₀ H₀ ex=>(Xel (K:=K) (n:=3) rfl rfl (Xaq (Xar (i:=0) (show ((["at","long","live"]:List Str)++(["block"]:List Str)).Nodup by decide +kernel) rfl (Or.inl rfl)) (Xaq (Xar (i:=1) (show ((["at","long","live"]:List Str)++(["block"]:List Str)).Nodup by decide +kernel) rfl (Or.inl rfl)) (Xaq (Xar (i:=2) (show ((["at","long","live"]:List Str)++(["block"]:List Str)).Nodup by decide +kernel) rfl (Or.inl rfl)) Xcq))))) (fun cl C s₀ H₀ ex=>(Xhm (PW.pt (Xih (Xcs (Xib (K:=K) rfl (pv 2) (fun _=>rfl))) (Xfm (Xal Xtw (pv 1) (pv 3) (Xaj _))))))) (fun cl C s₀ H₀ ex=>(Xdl (Xaa (pv 1) (Xaa (pv 0) Xac)))) (Xcl rfl rfl rfl) (Xdm (n:="block") (by decide +kernel) rfl) (fun y h=>Xbc (by decide +kernel) h)) (Xab (Xbe (Xcs (Xck (pv 2) (fun _=>rfl))) (Xae (Xch T.zch hr.hd rfl (Xaa Xay Xac))) Xan) (Xab (Xfl (Xam (Xlt rfl hr.units) (by rfl) T.n_min PyProof.Rows.boot_min (Xaa (pv 2) Xac)) (Xhz rfl (Xaq (Xar (i:=3) Xnp.nd rfl (Or.inl rfl)) (Xaq (Xar (i:=4) Xnp.nd rfl (Or.inl rfl)) Xcq)))) (Xae (Xai (Xdl (Xaa (pv 4) (Xaa (pv 3) Xac)))))))),?_⟩
 obtain⟨p,us,ps,b,rfl,hp,pa,hz,hq⟩:=h
 have hul:=pa.1
 walk_at "go"
 refine⟨p,rfl,⟨_,SqL.of hp⟩,Xcg (K:=K) (a:=p) (xs:=us) (LfW H ps b) (fun D hD=>⟨Same.new hD,hD,upd_same,Xbp.nil,Nat.le_refl _⟩) (fun D i ys H2 _ h=>SqL.of (h.1 p _ hp)) ?_ ?_⟩
 · rintro D i y ys H2 hD hi ⟨s2,_,hD2,ta,hyl⟩ τ hτ
   have hil:i<us.length:=(List.getElem?_eq_some_iff.mp hi).1
   have hip:i<ps.length:=by omega
   obtain⟨t,et,hT⟩:=pa.2 i ps[i] (by simp [hip])
   have ey:y = .ref t:=Option.some.inj (hi.symm.trans et)
   subst ey
   have hT2:=s2 t _ hT
   have ef:=Xva (b:=b) hip
   generalize ps[i]=z at hT2 ef
   match τ,hτ with
   | [τ0,τ1,τ2],_ =>
     walk_at "go"
     refine⟨⟨[_,_,_],rfl,rfl⟩,?_⟩
     walk_at "go"
     refine Xfv (fun hv=>?_) (fun hv=>?_)
     · walk_at "go"
       rw[if_neg (by rw[hv];simp),List.append_nil] at ef
       exact Xdu hil ⟨s2,hD,hD2,by rw[ef];exact ta,by omega⟩
     · walk_at "go"
       refine Xbd (fun hc=>?_) (fun hc=>?_)
       · walk_at "go"
         intro t2 ht2
         rw[if_pos (by rw[hv,decide_eq_true (show b≤z.l by omega)];rfl)] at ef
         refine⟨look_put ht2 hD2,small4000 (by omega),Xdu hil ⟨(s2.put (s2.free ht2)).put hD,hD,upd_same,?_,by rw[List.length_append,List.length_singleton];omega⟩⟩
         rw[ef,List.map_append]
         exact ta.push hD2 ht2
       · walk_at "go"
         rw[if_neg (by rw[decide_eq_false (show ¬b≤z.l by omega)];simp),List.append_nil] at ef
         exact Xdu hil ⟨s2,hD,hD2,by rw[ef];exact ta,by omega⟩
 · rintro D ys H2 hD ⟨s2,_,hD2,ta,hyl⟩
   rw[List.take_of_length_le (by omega)] at ta
   rcases hq with ⟨hno,qe⟩ | ⟨z,hb,q⟩
   · have e0:fitL b ps=[]:=by
       cases e:fitL b ps with
       | nil=>rfl
       | cons x r =>
         obtain⟨z,h1,h2,h3,_⟩:=Xkp (ps:=ps) (b:=b) (k:=0) (by rw[e];simp)
         have:=hno z h1 h2
         omega
     rw[e0] at ta
     have hys:ys=[]:=List.length_eq_zero_iff.mp ta.1
     subst hys
     walk_at "go"
     refine iteT ?_
     walk_at "go"
     exact qe H2 s2
   · obtain⟨f1,f2⟩:=Xrk hb
     have hyl2:=ta.1
     rw[List.length_map] at hyl2
     cases ys with
     | nil=>rw[List.length_nil] at hyl2;omega
     | cons y0 yr =>
       walk_at "go"
       refine iteF ?_
       walk_at "go"
       refine⟨D,y0::yr,fitL b ps,rfl,hD2,ta,f1,fun t' et ht'=>?_⟩
       rw[f2] at ht'
       have ht3:H2 t'=some (.tup [.int z.l,.int z.a]):=ht'
       clear ht'
       walk_at "go"
       intro w hw
       walk_at "go"
       exact q w _ (s2.put (s2.free hw)) upd_same
/-! a block is cut down -/
def XCz (K:PySem.W.Frag):Sp:=fun vs H Q _=>∃(a:Addr) (cs:List Int) (b:Int) (B M:Nat) (ds rs:List Pc),vs=[.ref a,.int b,.int (2^M),.int (2^B)]∧SqL K H a (cs.map V.int)∧cs.length≤1200∧B≤M∧0≤b∧Xds ds b∧Xfi rs (b+2^M)∧b+2^M≤cs.length∧Xau cs (ds++rs) ∧
 ∀(p:Addr) (cs':List Int) (H':Hp),H p=none→Same H H'→H' p=some (.lst (cs'.map V.int))→cs'.length=cs.length→Xau cs' (ds++(hcP b B M++rs))→Q (.ref p) H'
def CdW (a:Addr)(b:Int)(B M:Nat)(ds rs:List Pc)(n:Nat)(H:Hp)(k:Nat)(σ:L2.St)(H':Hp):Prop :=
 ∃(r:Addr) (cs':List Int),B+k≤M∧σ=[some (.ref a),some (.int b),some (.int (2^(B+k))),some (.int (2^B)),some (.ref r)]∧Same H H'∧H r=none∧H' r=some (.lst (cs'.map V.int))∧cs'.length=n∧Xau cs' (ds++(spl b (B+k) (M-(B+k))++rs))
include T in
theorem d_Z42 (S:Src K mg "cut_down" Xrp)(D_Z72:Defx P w K mg base "laid" 2 ["cells","at","long","live"] (Xix K)):Defx P w K mg base "cut_down" 3 ["cells","at","long","block"] (XCz K):=by
 refine S.okx Xnh XLs (fun vs H Q E h=>by revert h;walk_at "len") (fun f cdv A outer s H vs Q E hr h=>?_)
 refine⟨_,PSs.nox (Xab (Xao (i:=4) Xnh.nd rfl (Or.inl rfl) (Xdd Xcm (by rfl) T.n_list PyProof.Rows.boot_list (Xaa (pv 0) Xac))) (Xab (Xob PassesOwn.never (Xal Xhh (pv 2) (pv 3) (Xaj _)) (Xab (Xao (i:=2) Xnh.nd rfl (Or.inl rfl) (Xak Xcv (pv 2) Xag)) (Xae (Xao (i:=4) Xnh.nd rfl (Or.inl rfl) (Xah D_Z72 hr (by rfl) (Xaa (pv 4) (Xaa (Xak Xbq (pv 1) (pv 2)) (Xaa (pv 2) (Xaa Xcz Xac))))))))) (Xae (Xai (Xah D_Z72 hr (by rfl) (Xaa (pv 4) (Xaa (pv 1) (Xaa (pv 3) (Xaa Xcz Xac))))))))),?_⟩
 obtain⟨a,cs,b,B,M,ds,rs,rfl,hS,hz,hBM,h0,hd,hr,hl,mk0,q⟩:=h
 walk_at "go"
 intro r hr0
 walk_at "go"
 refine⟨CdW a b B M ds rs cs.length H,⟨M-B,r,cs,by omega,(by rw[show B+(M-B)=M by omega];rfl),Same.new hr0,hr0,upd_same,rfl,by rw[show B+(M-B)=M by omega,Nat.sub_self];exact mk0⟩,?_⟩
 rintro k σ H' ⟨r,cs',hk,rfl,s1,nr,hr',hl',mk⟩
 have pB:=pw1 B
 walk_at "go"
 refine Xbd (fun hlt=>?_) (fun hlt=>?_)
 · refine⟨fun σ' H''=>∃k',k'<k∧CdW a b B M ds rs cs.length H k' σ' H'',fun σ' H'' hw=>hw,?_⟩
   obtain⟨k1,rfl⟩:∃k1,k=k1+1:=⟨k-1,by
     cases k with
     | zero=>rw[Nat.add_zero] at hlt;omega
     | succ k=>rfl⟩
   have p2:=pw2 (B+k1)
   have p1:=pw1 (B+k1)
   have e1:(2:Int)^(B+(k1+1))/2=2^(B+k1):=by rw[show B+(k1+1)=B+k1+1 by omega,p2];omega
   obtain⟨g1,mk3⟩:=XJa (L:=B+k1) (e:=M-(B+(k1+1))) h0 hd (by rw[show B+k1+1+(M-(B+(k1+1)))=M by omega];exact hr) (by rw[show B+k1+1+(M-(B+(k1+1)))=M by omega];omega) mk
   walk_at "go"
   rw[e1]
   generalize hg:(2:Int)^(B+k1)=L at p1 g1
   walk_at "go"
   refine⟨r,cs',b+L,L,false,rfl,SqL.of hr',by omega,by omega,p1,g1,fun p H2 np s2 hp=>?_⟩
   walk_at "go"
   subst hg
   refine⟨k1,by omega,p,_,by omega,rfl,s1.trans s2,s1.free np,hp,by rw[Xbu];exact hl',?_⟩
   rw[show M-(B+k1)=M-(B+(k1+1))+1 by omega]
   exact mk3
 · have e0:k=0:=by
     cases k with
     | zero=>rfl
     | succ k =>
       have:=Xec (show B+1≤B+(k+1) by omega)
       have:=pw2 B
       omega
   subst e0
   obtain⟨g1,mk3⟩:=XEe (B:=B) (e:=M-B) h0 hd (by rw[show B+(M-B)=M by omega];exact hr) (by rw[show B+(M-B)=M by omega];omega) mk
   walk_at "go"
   refine⟨r,cs',b,2^B,true,rfl,SqL.of hr',by omega,h0,pB,g1,fun p H2 np s2 hp=>?_⟩
   walk_at "go"
   exact q p _ H2 (s1.free np) (s1.trans s2) hp (by rw[Xbu];exact hl') mk3
def Xjg (C:W7→Addr)(CA CB CN:Addr)(i:W7):Sp:=fun vs H Q E=>∃(x dx a:Addr) (q:St7) (cs:List Int) (c b:Int),vs=[.ref x,.int c,.int b]∧i=q.let3∧KS C x dx a q cs H∧(c+2<2^220∧b=1)∧(c<1∨b<1→∀H',Same H H'→E (.ref CA) none H')∧(1≤c→1≤b→b≠1→∀H',Same H H'→E (.ref CB) none H') ∧
 (1≤c→b=1→((No7 c q∧∀H',Same H H'→E (.ref CN) none H')∨∃p q',Ask7 c q p q'∧∀(a':Addr) (cs':List Int) (H':Hp),H a'=none→Xba x H H'→cs'.length=cs.length→KS C x dx a' q' cs' H'→Q (.int p) H'))
include T in
theorem d_Z66 {f₀ T₀:Addr}{fd₀:FuncData}{tk₀:Tok}{tc₀:Value}{td₀:Option Addr}{tn₀:Nat}{ts₀:Array (Option Value)}(F:FunD K "ask" "Halves.ask" Xki (.ref T₀) f₀ fd₀)(LT:K.lookup T₀=some ⟨tc₀,td₀,.seq [.int 1 tk₀].toArray tn₀,ts₀⟩)(M:Meth K Y8 "ask" f₀)(D_Z3:Defx P w K mg base "check_plain_ask" 2 ["count","bound"] (Xhc Y19 Y4))(D_Z29:Defx P w K mg base "block_for" 1 ["need"] (Xtv))(D_Z59:Xei P w K mg base (cF Y17 Y20 Y21 Y18 Y8 Y6 Y22) "pieces" 5 ["self"] [] (Xfz (cF Y17 Y20 Y21 Y18 Y8 Y6 Y22)))(D_Z25:Defx P w K mg base "least_free" 1 ["pieces","block"] (Xnu Y14))(D_Z64:Xei P w K mg base (cF Y17 Y20 Y21 Y18 Y8 Y6 Y22) "cells" 1 ["self"] [] (Xhd (cF Y17 Y20 Y21 Y18 Y8 Y6 Y22)))(D_Z42:Defx P w K mg base "cut_down" 3 ["cells","at","long","block"] (XCz K))(D_lay:Xcy P w K mg base (ok3) (cF Y17 Y20 Y21 Y18 Y8 Y6 Y22) "lay" 5 ["self","cells"] [] (Xvz K (cF Y17 Y20 Y21 Y18 Y8 Y6 Y22))):MethD P w K mg base Y8 "ask" 6 ["self","count","bound"] [.int 1] (Xjg (cF Y17 Y20 Y21 Y18 Y8 Y6 Y22) Y19 Y4 Y14 W7.half):=by
 refine MethD.made (fd:=fd₀) ?_ M (F.bindsA LT (XLt T₀ _)) (F.bindsD LT (XMh T₀ _)) (.cons ⟨tk₀,rfl⟩ .nil) T.zcx
 refine Xfo F Xoi (fun vs H Q E h=>by revert h;walk_at "len") (fun cdv A outer s H vs Q E hr h=>?_)
 refine⟨_,(Xab (Xce (Xbr D_Z3 hr (by rfl) (Xaa (pv 1) (Xaa (pv 2) Xac)))) (Xab (Xao (i:=3) Xoi.nd rfl (Or.inl rfl) (Xah D_Z29 hr (by rfl) (Xaa (Xak Xbq (pv 1) (Xbb (v:=.int 2) (by rfl) T.zcs ⟨_,rfl⟩)) Xac))) (Xab (Xfl (Xbr D_Z25 hr (by rfl) (Xaa (Xdi D_Z59 Xcf hr (pv 0)) (Xaa (pv 3) Xac))) (Xhz rfl (Xaq (Xar (i:=4) Xoi.nd rfl (Or.inl rfl)) (Xaq (Xar (i:=5) Xoi.nd rfl (Or.inl rfl)) Xcq)))) (Xab (Xce (Xed D_lay Xcf hr (pv 0) (Xaa (Xah D_Z42 hr (by rfl) (Xaa (Xdi D_Z64 Xcf hr (pv 0)) (Xaa (pv 4) (Xaa (pv 5) (Xaa (pv 3) Xac))))) Xac))) (Xae (Xai (Xak Xbq (pv 4) Xag))))))),?_⟩
 obtain⟨x,dx,a,q3,cs,c,b0,rfl,hi,S,hc2,qa,qb,hq⟩:=h
 cases q3 with
 | shel _ _=>cases hi
 | row _ _=>cases hi
 | st i0 _ _ _ =>
   have hi0:W7.half=i0:=hi
   subst hi0
   exact(show False from S.ok.1).elim
 | half N ps =>
 have hx:H x=some (.ins ((cF Y17 Y20 Y21 Y18 Y8 Y6 Y22) W7.half) dx (fsF W7.half a (2^N))):=S.hx
 have ha:=S.ha
 have hl:(cs.length:Int)=2^N:=S.hl
 obtain⟨hN,hc,al⟩:=id S.ok
 have mk:Xau cs ps:=S.mm
 have cl:=T.zcx
 have na:=T.zai
 have hz:=S.hz
 have hple:0+(ps.length:Int)≤cs.length:=S.ch.le
 walk_at "go"
 refine⟨c,b0,rfl,fun h=>qa h H (Same.refl _),fun h1 h2 h3=>qb h1 h2 h3 H (Same.refl _),fun hc1 hb1=>?_⟩
 obtain⟨B,hB⟩:=XBb c hc1
 have B2:=hB.two' (by omega)
 walk_at "go"
 refine⟨c+2,B,rfl,by omega,hc2.1,hB,?_⟩
 walk_at "go"
 refine⟨2^N,x,dx,a,cs,ps,rfl,⟨hx,ha,hz,by rw[hl];exact hc,mk⟩,fun lp us H1 nlp s1 hlp pa=>?_⟩
 walk_at "go"
 refine⟨lp,us,ps,2^B,rfl,hlp,pa,by omega,?_⟩
 rcases hq hc1 hb1 with ⟨g,qe⟩ | ⟨p0,q0,G0,q⟩
 · exact .inl ⟨g B hB,fun H2 s2=>qe H2 (s1.trans s2)⟩
 cases G0 with
 | half hB' G =>
 rename_i B' M ds rs b
 have eB:=hB.uniq hB'
 subst eB
 refine .inr ⟨_,G.2,fun u H2 s2 hu=>?_⟩
 obtain⟨hBM,hMN,b0,c1,c3,c4,al4,_⟩:=G.lie B2 hc al
 have hu:H2 u=some (.tup [.int b,.int (2^M)]):=hu
 have s12:=s1.trans s2
 have hx2:=s12 x _ hx
 have ha2:=s12 a _ ha
 have l3:=c3.le
 walk_at "go"
 refine⟨2^N,x,dx,a,cs,rfl,hx2,ha2,fun p H3 np s3 hp=>?_⟩
 walk_at "go"
 refine⟨p,cs,b,B,M,ds,rs,rfl,SqL.of hp,by omega,hBM,b0,c1.endBy (Int.le_refl 0),c3.fromOn,by omega,mk.sub (fun y hy=>?_),fun p2 cs' H4 np2 s4 hp2 hl' mk'=>?_⟩
 · rw[G.1]
   rcases List.mem_append.mp hy with g | g
   · exact List.mem_append_left _ g
   · exact List.mem_append_right _ (List.mem_cons_of_mem _ g)
 have s34:=s3.trans s4
 have hw':=Xaw (by rw[hl',hl];exact c4) mk'
 walk_at "go"
 refine⟨2^N,x,p2,dx,a,cs,cs',_,rfl,s34 x _ hx2,s34 a _ ha2,hl',SqL.of hp2,by omega,hw',fun a' H5 na5 k5 hx5 ha5=>?_⟩
 walk_at "go"
 have s14:=s12.trans s34
 exact q a' cs' H5 (s14.free na5) ((Xba.of s14).trans k5) hl' ⟨hx5,ha5,by rw[hl'];exact hl,by omega,⟨hN,c4,al4⟩,mk'⟩
/-! shelves -/
def rep1 (s:Int)(m:Nat):List Int:=(List.replicate m (Xcb s)).flatten
theorem Xhp {s:Int}(h:1≤s):Xau (Xcb s) [⟨0,s,false⟩]:=by
 unfold Xcb
 exact Xau.lay (ds:=[]) (rs:=[]) (by omega) h (by rw[List.length_replicate];omega) (fun p hp=>by cases hp) (fun p hp=>by cases hp) (Xau.nil _)
theorem Xjw {s:Int}(h:1≤s)(m:Nat):((rep1 s m).length:Int)=s*(m:Int):=(Xga h (Xci (by omega)) (Xhp h) m).2
theorem Xre {s:Int}(h:1≤s)(m:Nat):Xct (rep1 s m) 0=(Xbs s 0 m,none):=by
 obtain⟨h1,h2⟩:=Xga h (Xci (by omega)) (Xhp h) m
 have c:=Xdq h m 0
 rw[show s*((0:Nat):Int)=0 by simp,Nat.zero_add] at c
 exact Xaw (by unfold rep1;rw[h2];exact c) h1
theorem Xpu (one:List Int):∀m:Nat,(List.replicate m (one.map V.int)).flatten=((List.replicate m one).flatten).map V.int
 | 0=>rfl
 | m+1=>by rw[List.replicate_succ,List.flatten_cons,Xpu one m,List.replicate_succ,List.flatten_cons,List.map_append]
def XCp (C:Addr):Sp:=fun vs H Q E=>∃(z s:Int),vs=[.int z,.int s]∧z≤4000∧s≤4000∧((z<1∨s<1∨(1≤s∧z%s≠0))→E (.ref C) none H) ∧
 (∀m:Nat,1≤s→1≤m→z=s*(m:Int)→∀(p:Addr) (H':Hp),H p=none→Same H H'→H' p=some (.lst ((rep1 s m).map V.int))→Q (.ref p) H')
include T in
theorem d_Z34 (S:Src K mg "all_whole" Xrq)(D_Z24:Defx P w K mg base "fresh_room" 2 ["count"] (Xem Y15)):Defx P w K mg base "all_whole" 3 ["size","shelf"] (XCp Y15):=by
 refine S.okx XRe XTw (fun vs H Q E h=>by revert h;walk_at "len") (fun f cdv A outer s H vs Q E hr h=>?_)
 refine⟨_,(Xab (Xbe (PW.pt (Xir (Xal Xis (pv 0) Xag (Xaj _)) (Xir (Xal Xis (pv 1) Xag (Xaj _)) (Xgr (Xal Xov (Xak Xbz (pv 0) (pv 1)) Xag (Xaj _)))))) (Xae (Xch T.zcU hr.hd rfl (Xaa Xay Xac))) Xan) (Xae (Xai (Xak Xnk (Xbr D_Z24 hr (by rfl) (Xaa (pv 1) Xac)) (Xak Xcv (pv 0) (pv 1)))))),?_⟩
 obtain⟨z,s,rfl,hz,hs,qe,q⟩:=h
 walk_at "go"
 refine Xbd (fun h1=>?_) (fun h1=>?_)
 · walk_at "go"
   exact qe (.inl h1)
 · walk_at "go"
   refine Xbd (fun h2=>?_) (fun h2=>?_)
   · walk_at "go"
     exact qe (.inr (.inl h2))
   · walk_at "go"
     refine Xbd (fun h3=>?_) (fun h3=>?_)
     · walk_at "go"
       obtain⟨m,em⟩:∃m:Nat,z=s*(m:Int):=⟨(z/s).toNat,by
         have h4:=Int.mul_ediv_add_emod z s
         have h5:0≤z/s:=Int.ediv_nonneg (by omega) (by omega)
         rw[Int.toNat_of_nonneg h5]
         omega⟩
       have m1:1≤m:=by
         cases m with
         | zero=>simp at em;omega
         | succ m=>omega
       have ed:z/s=(m:Int):=by rw[em];exact Int.mul_ediv_cancel_left _ (by omega)
       refine⟨s,rfl,hs,fun z=>absurd z (by omega),fun _ p1 H1 np s1 hp=>?_⟩
       walk_at "go"
       rw[ed]
       have hf:=Xci (n:=s) (by omega)
       have hm4:(m:Int)≤4000:=by
         have h6:=Int.mul_le_mul_of_nonneg_right (show (1:Int)≤s by omega) (show (0:Int)≤(m:Int) by omega)
         omega
       have hsz:(Xcb s).length*m≤4000:=by
         have e2:(((Xcb s).length*m:Nat):Int)=z:=by rw[Int.natCast_mul,hf,em]
         omega
       refine⟨p1,(m:Int),_,rfl,rfl,hp,by omega,by omega,(by show ((Xcb s).map V.int).length*(m:Int).toNat≤sizeLine;rw[List.length_map,Int.toNat_natCast];exact Nat.le_of_lt (small4000 hsz)),fun p2 np2=>?_⟩
       rw[Int.toNat_natCast,Xpu]
       walk_at "go"
       exact q m (by omega) m1 em p2 _ (s1.free np2) (s1.put (s1.free np2)) upd_same
     · walk_at "go"
       exact qe (.inr (.inr ⟨by omega,h3⟩))
def XRt:Sp:=fun vs H Q _=>∃(a s:Int),vs=[.int a,.int s]∧1≤s∧Q (.int (a-a%s)) H
include T in
theorem d_Z41 (S:Src K mg "begin_of" Xsp) :Defx P w K mg base "begin_of" 1 ["at","shelf"] (XRt):=by
 refine S.okx XTk XPn (fun vs H Q E h=>by revert h;walk_at "len") (fun f cdv A outer s H vs Q E hr h=>?_)
 refine⟨_,PSs.nox (Xae (Xai (Xak Xdn (pv 0) (Xak Xbz (pv 0) (pv 1))))),?_⟩
 obtain⟨a,s,rfl,hs,q⟩:=h
 walk_at "go"
 exact q
theorem turns {A s k:Int}(h1:1≤k)(h2:k≤s):(Builtin.Range.rangeSize A (A+s) k).toNat=(s/k).toNat+(if k*((s/k).toNat:Int)=s then 0 else 1):=by
 have h3:=Int.mul_ediv_add_emod s k
 have h4:=Int.emod_nonneg s (show k≠0 by omega)
 have h5:=Int.emod_lt_of_pos s (show 0<k by omega)
 have h6:1≤s/k:=(Int.le_ediv_iff_mul_le (by omega)).mpr (by omega)
 have e:((s/k).toNat:Int)=s/k:=Int.toNat_of_nonneg (by omega)
 rw[e]
 unfold Builtin.Range.rangeSize
 rw[if_pos (by omega),if_pos (by omega),show A+s-A-1=s-1 by omega]
 split
 · rename_i h
   have:(s-1)/k=s/k-1:=by
     have:s-1=(k-1)+k*(s/k-1):=by rw[Int.mul_sub];omega
     rw[this,Int.add_mul_ediv_left _ _ (by omega),Int.ediv_eq_zero_of_lt (by omega) (by omega)]
     omega
   rw[this]
   omega
 · rename_i h
   have:(s-1)/k=s/k:=by
     have:s-1=(s%k-1)+k*(s/k):=by omega
     rw[this,Int.add_mul_ediv_left _ _ (by omega),Int.ediv_eq_zero_of_lt (by omega) (by omega)]
     omega
   rw[this]
   omega
theorem Xmx {s:Int}(h:1≤s):∀(m j:Nat),alP s (s*(j:Int)) (List.replicate m ⟨0,[]⟩)=Xbs s j m
 | 0,j=>rfl
 | m+1,j=>by
   rw[Xeb,List.replicate_succ]
   show shP s (s*(j:Int)) ⟨0,[]⟩++alP s (s*(j:Int)+s) (List.replicate m ⟨0,[]⟩)=_
   rw[Xfw h,←Xcd,Xmx h m (j+1)]
   rfl
theorem Xkr {s:Int}{fs:List Sf}{cs:List Int}(hs:1≤s)(w:∀f∈fs,SfW s f)(hl:(cs.length:Int)=s*(fs.length:Int)):Xas 0 (alP s 0 fs) cs.length:=by
 have:=Xdt hs fs 0 w
 rw[Int.zero_add,←hl] at this
 exact this
def FtW (H1:Hp)(ps:List Pc)(k:Int)(D:Addr)(i:Nat)(ys:List V)(H2:Hp):Prop:=Same H1 H2∧H2 D=some (.lst ys)∧H1 D=none∧ys=(fitF (ps.take i) k).map V.int∧ys.length≤i
def Xoc (K:PySem.W.Frag):Sp:=fun vs H Q _=>∃(c:Addr) (cs:List Int) (ps:List Pc) (k:Int),vs=[.ref c,.int k]∧SqL K H c (cs.map V.int)∧cs.length≤4000∧Xct cs 0=(ps,none)∧ps.length≤4000 ∧
 ∀(p:Addr) (H':Hp),H p=none→Same H H'→H' p=some (.lst ((fitF ps k).map V.int))→Q (.ref p) H'
include T in
theorem d_Z22 (S:Src K mg "whole_ones" Xpz)(D_Z62:Defx P w K mg base "looked" 4 ["cells"] (Xdp K Y7)):Defx P w K mg base "whole_ones" 5 ["cells","shelf"] (Xoc K):=by
 refine S.okx XUe XRu (fun vs H Q E h=>by revert h;walk_at "len") (fun f cdv A outer s H vs Q E hr h=>?_)
 refine⟨_,PSs.nox (Xae (Xai (Xee ["at","long","live"] ["shelf"] [1] rfl (Xda (Xah D_Z62 hr (by rfl) (Xaa (pv 0) Xac))) (fun cl C s₀ H₀ ex=>(Xel (K:=K) (n:=3) rfl rfl (Xaq (Xar (i:=0) (show ((["at","long","live"]:List Str)++(["shelf"]:List Str)).Nodup by decide +kernel) rfl (Or.inl rfl)) (Xaq (Xar (i:=1) (show ((["at","long","live"]:List Str)++(["shelf"]:List Str)).Nodup by decide +kernel) rfl (Or.inl rfl)) (Xaq (Xar (i:=2) (show ((["at","long","live"]:List Str)++(["shelf"]:List Str)).Nodup by decide +kernel) rfl (Or.inl rfl)) Xcq))))) (fun cl C s₀ H₀ ex=>(Xhm (PW.pt (Xih (Xcs (Xib (K:=K) rfl (pv 2) (fun _=>rfl))) (Xfm (Xal Xcn (pv 1) (pv 3) (Xaj _))))))) (fun cl C s₀ H₀ ex=>(pv 0)) (Xcl rfl rfl rfl) (Xdm (n:="shelf") (by decide +kernel) rfl) (fun y h=>Xbc (by decide +kernel) h)))),?_⟩
 obtain⟨c,cs,ps,k,rfl,hS,hz,hw,hpz,q⟩:=h
 walk_at "go"
 refine⟨c,cs,rfl,hS,hz,(fun c hc=>by rw[hw] at hc;cases hc),fun _ lp us H1 nlp s1 hlp pa=>?_⟩
 have pa:Xbl H1 us ps:=by rw[hw] at pa;exact pa
 have hul:=pa.1
 walk_at "go"
 refine⟨lp,rfl,⟨_,SqL.of hlp⟩,Xcg (K:=K) (a:=lp) (xs:=us) (FtW H1 ps k) (fun D hD=>⟨Same.new hD,upd_same,hD,rfl,Nat.le_refl _⟩) (fun D i ys H2 _ h=>SqL.of (h.1 lp _ hlp)) ?_ ?_⟩
 · rintro D i y ys H2 hD hi ⟨s2,hD2,_,ey,hyl⟩ τ hτ
   have hil:i<us.length:=(List.getElem?_eq_some_iff.mp hi).1
   have hip:i<ps.length:=by omega
   obtain⟨t,et,hT⟩:=pa.2 i ps[i] (by simp [hip])
   have ey2:y = .ref t:=Option.some.inj (hi.symm.trans et)
   subst ey2
   have hT2:=s2 t _ hT
   have ef:=Xma (k:=k) hip
   generalize ps[i]=z at hT2 ef
   match τ,hτ with
   | [τ0,τ1,τ2],_ =>
     walk_at "go"
     refine⟨⟨[_,_,_],rfl,rfl⟩,?_⟩
     walk_at "go"
     refine Xfv (fun hv=>?_) (fun hv=>?_)
     · walk_at "go"
       rw[hv] at ef
       refine Xdu hil ⟨s2,hD2,hD,?_,by omega⟩
       rw[ey,ef]
       simp
     · walk_at "go"
       rw[hv] at ef
       refine Xbd (fun hl=>?_) (fun hl=>?_)
       · walk_at "go"
         rw[if_pos (by simp [hl])] at ef
         refine⟨hD2,small4000 (by omega),Xdu hil ⟨s2.put hD,upd_same,hD,?_,by rw[List.length_append,List.length_singleton];omega⟩⟩
         rw[ey,ef,List.map_append]
         rfl
       · walk_at "go"
         rw[if_neg (by simp [hl])] at ef
         exact Xdu hil ⟨s2,hD2,hD,by rw[ey,ef,List.append_nil],by omega⟩
 · rintro D ys H2 hD ⟨s2,hD2,_,ey,hyl⟩
   rw[List.take_of_length_le (by omega)] at ey
   walk_at "go"
   exact q D H2 (s1.free hD) (s1.trans s2) (by rw[hD2,ey])
def SlW (H1:Hp)(cs:List Int)(xs:List Int)(k s:Int)(D:Addr)(i:Nat)(ys:List V)(H2:Hp):Prop:=Same H1 H2∧H2 D=some (.lst ys)∧H1 D=none∧ys=((xs.take i).filter fun a=>decide (cs.getD (a-a%s).toNat 0/2=k)).map V.int∧ys.length≤i
def Xmj (K:PySem.W.Frag):Sp:=fun vs H Q _=>∃(c:Addr) (cs:List Int) (ps:List Pc) (s k:Int),vs=[.ref c,.int s,.int k]∧SqL K H c (cs.map V.int)∧cs.length≤4000∧Xct cs 0=(ps,none)∧ps.length≤4000∧Xas 0 ps cs.length∧1≤s ∧
 ∀(p:Addr) (H':Hp),H p=none→Same H H'→H' p=some (.lst ((Xff cs ps k s).map V.int))→Q (.ref p) H'
include T in
theorem d_Z20 (S:Src K mg "free_slots" Xsq)(D_Z62:Defx P w K mg base "looked" 4 ["cells"] (Xdp K Y7))(D_Z41:Defx P w K mg base "begin_of" 1 ["at","shelf"] (XRt))(D_Z52:Defx P w K mg base "long_of" 1 ["number"] (Xgt)):Defx P w K mg base "free_slots" 5 ["cells","shelf","size"] (Xmj K):=by
 refine S.okx XCe XTv (fun vs H Q E h=>by revert h;walk_at "len") (fun f cdv A outer s H vs Q E hr h=>?_)
 refine⟨_,PSs.nox (Xab (Xdz (i:=3) ["at","long","live"] ["size"] [2] XCe.nd rfl (Or.inl rfl) rfl (Xda (Xah D_Z62 hr (by rfl) (Xaa (pv 0) Xac))) (fun cl C s₀ H₀ ex=>(Xel (K:=K) (n:=3) rfl rfl (Xaq (Xar (i:=0) (show ((["at","long","live"]:List Str)++(["size"]:List Str)).Nodup by decide +kernel) rfl (Or.inl rfl)) (Xaq (Xar (i:=1) (show ((["at","long","live"]:List Str)++(["size"]:List Str)).Nodup by decide +kernel) rfl (Or.inl rfl)) (Xaq (Xar (i:=2) (show ((["at","long","live"]:List Str)++(["size"]:List Str)).Nodup by decide +kernel) rfl (Or.inl rfl)) Xcq))))) (fun cl C s₀ H₀ ex=>(Xhm (PW.pt (Xih (Xcs (Xib (K:=K) rfl (pv 2) (fun _=>rfl))) (Xfm (Xal Xcn (pv 1) (pv 3) (Xaj _))))))) (fun cl C s₀ H₀ ex=>(pv 0)) (Xcl rfl rfl rfl) (Xdm (n:="size") (by decide +kernel) rfl) (fun y h=>Xbc (by decide +kernel) h)) (Xae (Xai (Xee ["at"] ["size","cells","shelf"] [2,0,1] rfl (Xda (pv 3)) (fun cl C s₀ H₀ ex=>(Xar (i:=0) (show ((["at"]:List Str)++(["size","cells","shelf"]:List Str)).Nodup by decide +kernel) rfl (Or.inl rfl))) (fun cl C s₀ H₀ ex=>(Xhm (Xal Xcn (Xah D_Z52 hr (by rfl) (Xaa (Xbx (Xkq (K:=K) rfl) (pv 2) (Xah D_Z41 hr (by rfl) (Xaa (pv 0) (Xaa (pv 3) Xac))) (fun _ _=>rfl)) Xac)) (pv 1) (Xaj _)))) (fun cl C s₀ H₀ ex=>(pv 0)) (Xls rfl rfl rfl rfl rfl rfl rfl rfl rfl) (Xor (n:="size") (m:="cells") (o:="shelf") (by decide +kernel) rfl rfl rfl) (fun y h=>Xbc (by decide +kernel) h))))),?_⟩
 obtain⟨c,cs,ps,s,k,rfl,hS,hz,hw,hpz,hc,hs,q⟩:=h
 walk_at "go"
 refine⟨c,cs,rfl,hS,hz,(fun c hc=>by rw[hw] at hc;cases hc),fun _ lp us H1 nlp s1 hlp pa=>?_⟩
 have pa:Xbl H1 us ps:=by rw[hw] at pa;exact pa
 have hul:=pa.1
 walk_at "go"
 refine⟨lp,rfl,⟨_,SqL.of hlp⟩,Xcg (K:=K) (a:=lp) (xs:=us) (FtW H1 ps k) (fun D hD=>⟨Same.new hD,upd_same,hD,rfl,Nat.le_refl _⟩) (fun D i ys H2 _ h=>SqL.of (h.1 lp _ hlp)) ?_ ?_⟩
 · rintro D i y ys H2 hD hi ⟨s2,hD2,_,ey,hyl⟩ τ hτ
   have hil:i<us.length:=(List.getElem?_eq_some_iff.mp hi).1
   have hip:i<ps.length:=by omega
   obtain⟨t,et,hT⟩:=pa.2 i ps[i] (by simp [hip])
   have ey2:y = .ref t:=Option.some.inj (hi.symm.trans et)
   subst ey2
   have hT2:=s2 t _ hT
   have ef:=Xma (k:=k) hip
   generalize ps[i]=z at hT2 ef
   match τ,hτ with
   | [τ0,τ1,τ2],_ =>
     walk_at "go"
     refine⟨⟨[_,_,_],rfl,rfl⟩,?_⟩
     walk_at "go"
     refine Xfv (fun hv=>?_) (fun hv=>?_)
     · walk_at "go"
       rw[hv] at ef
       refine Xdu hil ⟨s2,hD2,hD,?_,by omega⟩
       rw[ey,ef]
       simp
     · walk_at "go"
       rw[hv] at ef
       refine Xbd (fun hl=>?_) (fun hl=>?_)
       · walk_at "go"
         rw[if_pos (by simp [hl])] at ef
         refine⟨hD2,small4000 (by omega),Xdu hil ⟨s2.put hD,upd_same,hD,?_,by rw[List.length_append,List.length_singleton];omega⟩⟩
         rw[ey,ef,List.map_append]
         rfl
       · walk_at "go"
         rw[if_neg (by simp [hl])] at ef
         exact Xdu hil ⟨s2,hD2,hD,by rw[ey,ef,List.append_nil],by omega⟩
 · rintro D ys H2 hD ⟨s2,hD2,_,ey,hyl⟩
   rw[List.take_of_length_le (by omega)] at ey
   subst ey
   rw[List.length_map] at hyl
   have hS2:=(s1.trans s2).seq hS
   have hfi:∀a∈fitF ps k,0≤a∧a<cs.length:=fun a h=>XEg hc h
   have hsl:Xff cs ps k s=(fitF ps k).filter fun a=>decide (cs.getD (a-a%s).toNat 0/2=k):=rfl
   generalize fitF ps k=xs at hD2 hyl hfi hsl
   walk_at "go"
   refine⟨D,rfl,⟨_,SqL.of hD2⟩,Xcg (K:=K) (a:=D) (xs:=xs.map V.int) (SlW H2 cs xs k s) (fun D' hD'=>⟨Same.new hD',upd_same,hD',rfl,Nat.le_refl _⟩) (fun D' i ys H3 _ h=>SqL.of (h.1 D _ hD2)) ?_ ?_⟩
   · rintro D' i y ys H3 hD' hi ⟨s3,hD3,_,ey,hyl2⟩ τ hτ
     obtain⟨a,ea,rfl⟩:∃a,xs[i]?=some a∧y = .int a:=by
       rw[List.getElem?_map] at hi
       obtain⟨a,h1,h2⟩:=Option.map_eq_some_iff.mp hi
       exact⟨a,h1,h2.symm⟩
     have hil:i<xs.length:=(List.getElem?_eq_some_iff.mp ea).1
     have hil2:i<(xs.map V.int).length:=by rw[List.length_map];exact hil
     obtain⟨a0,a1⟩:=hfi a (List.mem_of_getElem? ea)
     obtain⟨b0,b1⟩:=XAw a0 hs
     have hS3:=s3.seq hS2
     have et:xs.take (i+1)=xs.take i++[a]:=by rw[List.take_add_one,ea];rfl
     match τ,hτ with
     | [τ0],_ =>
       walk_at "go"
       refine⟨⟨[_],rfl,rfl⟩,?_⟩
       walk_at "go"
       refine⟨a,s,rfl,hs,?_⟩
       walk_at "go"
       refine Xbd (fun hl=>?_) (fun hl=>?_)
       · walk_at "go"
         refine⟨hD3,small4000 (by omega),Xdu hil2 ⟨s3.put hD',upd_same,hD',?_,by rw[List.length_append,List.length_singleton];omega⟩⟩
         rw[et,List.filter_append,List.map_append,ey,show ([a].filter fun a=>decide (cs.getD (a-a%s).toNat 0/2=k))=[a] by rw[List.filter_cons,if_pos (decide_eq_true hl)];rfl]
         rfl
       · walk_at "go"
         refine Xdu hil2 ⟨s3,hD3,hD',?_,by omega⟩
         rw[et,List.filter_append,List.map_append,ey,show ([a].filter fun a=>decide (cs.getD (a-a%s).toNat 0/2=k))=[] by rw[List.filter_cons,if_neg (fun z=>hl (of_decide_eq_true z))];rfl]
         simp
   · rintro D' ys H3 hD' ⟨s3,hD3,_,ey,hyl2⟩
     rw[List.length_map,List.take_of_length_le (Nat.le_refl _),←hsl] at ey
     walk_at "go"
     exact q D' H3 ((s1.trans s2).free hD') ((s1.trans s2).trans s3) (by rw[hD3,ey])
def XCr (K:PySem.W.Frag):Sp:=fun vs H Q _=>∃(c:Addr) (cs:List Int) (A s k:Int) (ds rs:List Pc),vs=[.ref c,.int A,.int s,.int k]∧SqL K H c (cs.map V.int)∧cs.length≤1200∧0≤A∧A+s≤cs.length∧1≤k∧k≤s∧Xds ds A∧Xfi rs (A+s)∧Xau cs (ds++rs) ∧
 ∀(p:Addr) (cs':List Int) (H':Hp),H p=none→Same H H'→H' p=some (.lst (cs'.map V.int))→cs'.length=cs.length→Xau cs' (ds++(shP s A ⟨k,List.replicate (s/k).toNat false⟩++rs))→Q (.ref p) H'
def CfW (c:Addr)(A s k:Int)(ds rs:List Pc)(n:Nat)(H:Hp)(i:Nat)(σ:L2.St)(H':Hp):Prop :=
 ∃(r:Addr) (cs':List Int) (x6:Option V),σ=[some (.ref c),some (.int A),some (.int s),some (.int k),some (.ref r),some (.int (A+s)),x6]∧Same H H'∧H r=none∧H' r=some (.lst (cs'.map V.int))∧cs'.length=n∧Xau cs' (ds++ctP A (A+s) k i++rs)
include T in
theorem d_Z45 (S:Src K mg "cut_for" Xvx)(D_Z72:Defx P w K mg base "laid" 2 ["cells","at","long","live"] (Xix K)):Defx P w K mg base "cut_for" 3 ["cells","begin","shelf","size"] (XCr K):=by
 refine S.okx Xlb XNm (fun vs H Q E h=>by revert h;walk_at "len") (fun f cdv A outer s H vs Q E hr h=>?_)
 refine⟨_,PSs.nox (Xab (Xao (i:=4) Xlb.nd rfl (Or.inl rfl) (Xdd Xcm (by rfl) T.n_list PyProof.Rows.boot_list (Xaa (pv 0) Xac))) (Xab (Xao (i:=5) Xlb.nd rfl (Or.inl rfl) (Xak Xbq (pv 1) (pv 2))) (Xab (Xks PassesOwn.never rfl (Xlo (by rfl) T.n_range (Xaa (pv 1) (Xaa (pv 5) (Xaa (pv 3) Xac)))) (Xar (i:=6) Xlb.nd rfl (Or.inl rfl)) (Xae (Xao (i:=4) Xlb.nd rfl (Or.inl rfl) (Xah D_Z72 hr (by rfl) (Xaa (pv 4) (Xaa (pv 6) (Xaa (Xam (Xmc rfl) (by rfl) T.n_min PyProof.Rows.boot_min (Xaa (pv 3) (Xaa (Xak Xdn (pv 5) (pv 6)) Xac))) (Xaa Xcz Xac)))))))) (Xae (Xai (pv 4)))))),?_⟩
 obtain⟨c,cs,A,s,k,ds,rs,rfl,hS,hz,h0,hl,h1,h2,hd,hr,mk,q⟩:=h
 obtain⟨d1,d2,d3⟩:=Xgl h1 h2
 have ht:=turns (A:=A) h1 h2
 walk_at "go"
 intro r nr
 walk_at "go"
 refine XQz ?_
 walk_at "go"
 refine⟨A,A+s,k,rfl,⟨by omega,by omega,by omega,by omega,by omega,by omega⟩,?_⟩
 rw[ht]
 refine Xnl (CfW c A s k ds rs cs.length H) ⟨r,cs,none,rfl,Same.new nr,nr,upd_same,rfl,by show Xau cs (ds++[]++rs);rw[List.append_nil];exact mk⟩ ?_ ?_
 · rintro i σ H2 hi ⟨r2,cs2,x6,rfl,s2,nr2,hr2,hl2,mk2⟩
   have hlt:∀j:Nat,j<i+1→A+k*(j:Int)<A+s:=fun j hj=>by
     by_cases e:k*((s/k).toNat:Int)=s
     · rw[if_pos e] at hi
       have:=Int.mul_le_mul_of_nonneg_left (show ((j:Int)+1)≤((s/k).toNat:Int) by omega) (show 0≤k by omega)
       rw[Int.mul_add,Int.mul_one] at this
       omega
     · rw[if_neg e] at hi
       have:=Int.mul_le_mul_of_nonneg_left (show (j:Int)≤((s/k).toNat:Int) by omega) (show 0≤k by omega)
       omega
   obtain⟨l0,l1,l2,mk3⟩:=XFr h0 h1 hd hr (by omega) hlt mk2
   have ei:A+(i:Int)*k=A+k*(i:Int):=by rw[Int.mul_comm]
   rw[ei]
   have el:(if A+s-(A+k*(i:Int))<k then A+s-(A+k*(i:Int)) else k)=min k (A+s-(A+k*(i:Int))):=by omega
   walk_at "go"
   rw[el]
   generalize min k (A+s-(A+k*(i:Int)))=l at l1 l2 mk3 ⊢
   generalize A+k*(i:Int)=b at l0 l2 mk3 ⊢
   walk_at "go"
   refine⟨r2,cs2,b,l,false,rfl,SqL.of hr2,by omega,l0,l1,by omega,fun p H3 np s3 hp=>?_⟩
   walk_at "go"
   exact⟨p,_,_,rfl,s2.trans s3,s2.free np,hp,by rw[Xbu];exact hl2,mk3⟩
 · rintro σ H2 ⟨r2,cs2,x6,rfl,s2,nr2,hr2,hl2,mk2⟩
   walk_at "go"
   refine q r2 cs2 H2 nr2 s2 hr2 hl2 ?_
   rw[XKg (q:=(s/k).toNat) h1 d1 d2 rfl,List.append_assoc] at mk2
   exact mk2
def XCs (K:PySem.W.Frag)(CN:Addr):Sp:=fun vs H Q E=>∃(c:Addr) (cs:List Int) (s k:Int) (fs:List Sf),vs=[.ref c,.int s,.int k]∧SqL K H c (cs.map V.int)∧cs.length≤1200∧(cs.length:Int)=s*(fs.length:Int)∧1≤s∧3≤k∧(∀f∈fs,SfOk s f)∧Xau cs (alP s 0 fs) ∧
 ((NoGr s k fs∧∀(H':Hp),Same H H'→E (.ref CN) none H') ∨
 (∃(j i:Nat) (b:List Bool) (fs1:List Sf),Gs s k fs j i b fs1∧∀(p:Addr) (cs':List Int) (H':Hp),Same H H'→SqL K H' p (cs'.map V.int)→cs'.length=cs.length→fs1.length=fs.length→Xau cs' (alP s 0 fs1)→Q (.ref p) H'))
include T in
theorem d_Z32 (S:Src K mg "with_slot" Xug)(D_Z20:Defx P w K mg base "free_slots" 5 ["cells","shelf","size"] (Xmj K))(D_Z22:Defx P w K mg base "whole_ones" 5 ["cells","shelf"] (Xoc K))(D_Z45:Defx P w K mg base "cut_for" 3 ["cells","begin","shelf","size"] (XCr K)):Defx P w K mg base "with_slot" 6 ["cells","shelf","size"] (XCs K Y14):=by
 refine S.okx XCx XNu (fun vs H Q E h=>by revert h;walk_at "len") (fun f cdv A outer s H vs Q E hr h=>?_)
 refine⟨_,(Xab (Xbe (Xck (Xah D_Z20 hr (by rfl) (Xaa (pv 0) (Xaa (pv 1) (Xaa (pv 2) Xac)))) (fun _=>rfl)) (Xae (Xai (pv 0))) Xan) (Xab (Xao (i:=3) XCx.nd rfl (Or.inl rfl) (Xah D_Z22 hr (by rfl) (Xaa (pv 0) (Xaa (pv 1) Xac)))) (Xab (Xbe (PW.pt (Xir (Xal Xhh (pv 2) (pv 1) (Xaj _)) (Xgr (Xcs (Xck (pv 3) (fun _=>rfl)))))) (Xae (Xch T.zch hr.hd rfl (Xaa Xay Xac))) Xan) (Xae (Xai (Xah D_Z45 hr (by rfl) (Xaa (pv 0) (Xaa (Xbx Xbi (pv 3) Xag (fun _ _=>rfl)) (Xaa (pv 1) (Xaa (pv 2) Xac)))))))))),?_⟩
 obtain⟨c,cs,s,k,fs,rfl,hS,hz,hl,hs,hk,ok,mk,hq⟩:=h
 have W:∀f∈fs,SfW s f:=fun f hf=>(ok f hf).1
 have ch:=Xkr hs W hl
 have hw:=Xaw ch mk
 have hle:=ch.le
 walk_at "go"
 refine⟨c,cs,_,s,k,rfl,hS,by omega,hw,by omega,ch,hs,fun p H1 np s1 hp=>?_⟩
 have hS1:=s1.seq hS
 have none1:(∀f∈fs,¬(f.n=k∧false∈f.b))→¬(k=s∧∃f∈fs,f.n=0)→Xff cs (alP s 0 fs) k s=[]:=fun g1 g2=>by
   have:=Xkg (cs:=cs) (fs:=fs) (j:=0) hs (show 1≤k by omega) W (by rw[show s*((0:Nat):Int)=0 by simp];exact mk) (fun f hf=>⟨g1 f hf,fun h=>g2 ⟨h.1,f,hf,h.2⟩⟩)
   rw[show s*((0:Nat):Int)=0 by simp] at this
   exact this
 rcases hq with ⟨⟨g1,g2⟩,qe⟩ | ⟨j,i,b,fs1,G,q⟩
 · have esl:=none1 g1 (by
     rintro⟨e,f,hf,e0⟩
     rcases g2 with g2 | g2
     · omega
     · exact g2 f hf e0)
   rw[esl,List.map_nil] at hp
   walk_at "go"
   refine iteT ?_
   walk_at "go"
   refine⟨c,cs,_,s,rfl,hS1,by omega,hw,by omega,fun p2 H2 np2 s2 hp2=>?_⟩
   walk_at "go"
   refine Xbd (fun hlt=>?_) (fun hlt=>?_)
   · walk_at "go"
     exact qe H2 (s1.trans s2)
   · have ef:=Xml (A:=0) hs ok (g2.resolve_left (by omega))
     rw[ef,List.map_nil] at hp2
     walk_at "go"
     refine iteT ?_
     walk_at "go"
     exact qe H2 (s1.trans s2)
 · obtain⟨c1,c2,c3,c4,c5⟩:=id G
   rcases c5 with e | ⟨c6,ks,i0,eb,⟨f0,c8,c9⟩,c10,e⟩
   · obtain⟨ys,esl⟩:=G.slot (cs:=cs) hs hk ok (by rw[e];exact mk)
     rw[e] at esl
     rw[esl,List.map_cons] at hp
     walk_at "go"
     refine iteF ?_
     walk_at "go"
     exact q c cs H1 s1 hS1 rfl (by rw[e]) (by rw[e];exact mk)
   · have ln:fs1.length=fs.length:=by rw[e];exact List.length_set
     by_cases hsk:k=s
     · have e1:(s/s).toNat=1:=by rw[Int.ediv_self (by omega)];rfl
       have ea:alP s 0 fs1=alP s 0 fs:=by
         obtain⟨ds,rs,e3,_,_⟩:=Xjm hs W c8
         have e4:=e3 f0
         rw[Xvo c8] at e4
         rw[e,e3,e4,eb,hsk,e1]
         have hf0:f0=⟨0,[]⟩:=by
           rcases(ok f0 (List.mem_of_getElem? c8)).1 with ⟨z1,z2⟩ | ⟨z3,_⟩
           · obtain⟨n0,b0⟩:=f0
             have z1:n0=0:=z1
             have z2:b0=[]:=z2
             rw[z1,z2]
           · omega
         rw[hf0,Xfw hs]
         unfold shP fr
         show ds++((⟨s*(j:Int),s,false⟩::slP s (s*(j:Int)+s) []++if s*(j:Int)+s*((1:Nat):Int)=s*(j:Int)+s then [] else [⟨s*(j:Int)+s*((1:Nat):Int),_,false⟩])++rs)=_
         rw[if_pos (by simp)]
         rfl
       obtain⟨ys,esl⟩:=G.slot (cs:=cs) hs hk ok (by rw[ea];exact mk)
       rw[ea] at esl
       rw[esl,List.map_cons] at hp
       walk_at "go"
       refine iteF ?_
       walk_at "go"
       exact q c cs H1 s1 hS1 rfl ln (by rw[ea];exact mk)
     · have esl:=none1 c6 (fun h=>hsk h.1)
       rw[esl,List.map_nil] at hp
       walk_at "go"
       refine iteT ?_
       walk_at "go"
       refine⟨c,cs,_,s,rfl,hS1,by omega,hw,by omega,fun p2 H2 np2 s2 hp2=>?_⟩
       obtain⟨zs,ef⟩:=Xxq hs ok c8 c9 c10
       rw[ef,List.map_cons] at hp2
       have hS2:=s2.seq hS1
       walk_at "go"
       refine iteF ?_
       walk_at "go"
       refine Xfx (v:=V.int (s*(j:Int))) (SqL.of hp2) (show atI (V.int _::_) ((0:Nat):Int)=some (V.int _) from Xes rfl) ?_
       walk_at "go"
       obtain⟨ds,rs,e3,k1,k2⟩:=Xjm hs W c8
       have l1:=k1.le
       have l2:=k2.le
       have mk2:=mk
       rw[←Xvo c8,e3 f0] at mk2
       refine⟨c,cs,s*(j:Int),s,k,ds,rs,rfl,hS2,hz,by omega,by omega,by omega,by omega,k1.endBy (Int.le_refl 0),k2.fromOn,mk2.sub (fun p hp=>?_),fun p3 cs' H3 np3 s3 hp3 hl3 mk3=>?_⟩
       · rcases List.mem_append.mp hp with g | g
         · exact List.mem_append_left _ g
         · exact List.mem_append_right _ (List.mem_append_right _ g)
       walk_at "go"
       exact q p3 cs' H3 ((s1.trans s2).trans s3) (SqL.of hp3) hl3 ln (by rw[e,e3,eb];exact mk3)
theorem Xba.free {x a:Addr}{H H':Hp}(k:Xba x H H')(hx:H' x≠none)(n:H' a=none):H a=none:=by
 cases e:H a with
 | none=>rfl
 | some o =>
   by_cases w:a=x
   · rw[w] at n
     exact absurd n hx
   · rw[k a o w e] at n
     cases n
def XUd (C CN:Addr):Sp:=fun vs H Q E=>∃(x dx:Addr) (z s:Int),vs=[.ref x,.int z,.int s]∧H x=some (.ins C dx [])∧z≤1200∧s≤4000∧((z<1∨s<1∨(1≤s∧z%s≠0))→E (.ref CN) none H) ∧
 (∀m:Nat,1≤s→1≤m→z=s*(m:Int)→∀(a:Addr) (H':Hp),H a=none→Xba x H H'→H' x=some (.ins C dx [("room_cells",.ref a),("shelf",.int s)])→H' a=some (.lst ((rep1 s m).map V.int))→Q .non H')
theorem XPr {s:Int}(h:1≤s)(m:Nat):((rep1 s m).length:Int)=s*((List.replicate m (⟨0,[]⟩:Sf)).length:Int)∧(∀f∈List.replicate m (⟨0,[]⟩:Sf),SfOk s f)∧Xau (rep1 s m) (alP s 0 (List.replicate m ⟨0,[]⟩)):=by
 refine⟨by rw[List.length_replicate];exact Xjw h m,fun f hf=>?_,?_⟩
 · rw[(List.mem_replicate.mp hf).2]
   exact⟨.inl ⟨rfl,rfl⟩,fun h0=>absurd rfl h0⟩
 · have:=Xmx h m 0
   rw[show s*((0:Nat):Int)=0 by simp] at this
   rw[this]
   exact(Xga h (Xci (by omega)) (Xhp h) m).1
include T in
theorem Xrw {f₀:Addr}{fd₀:FuncData}(F:Fun K "__init__" "Shelves.__init__" Xcx f₀ fd₀)(M:Mk K Y6 f₀)(D_Z34:Defx P w K mg base "all_whole" 3 ["size","shelf"] (XCp Y15))(D_Z56:Basex P w K mg base "Keeper" "__init__" 3 ["self","size"] (XGt (cF Y17 Y20 Y21 Y18 Y8 Y6 Y22)))(D_lay:Xcy P w K mg base (ok3) (cF Y17 Y20 Y21 Y18 Y8 Y6 Y22) "lay" 5 ["self","cells"] [] (Xvz K (cF Y17 Y20 Y21 Y18 Y8 Y6 Y22))):Makex P w K mg base "Shelves" Y6 6 ["self","size","shelf"] [] (XUd Y6 Y15):=by
 refine⟨⟨f₀,fd₀,[],Xbk F Xfa (fun vs H Q E h=>by revert h;walk_at "len") (fun cdv A outer s H vs Q E hr h=>?_),M,F.binds Xii,.nil⟩,T.zde⟩
 refine⟨_,(Xab (Xao (i:=3) Xfa.nd rfl (Or.inl rfl) (Xbr D_Z34 hr (by rfl) (Xaa (pv 1) (Xaa (pv 2) Xac)))) (Xab (Xce (Xju D_Z56 Xcf hr (by rfl) (Xaa (pv 0) (Xaa (pv 1) Xac)))) (Xab (Xet (pv 0) (pv 2) rfl) (Xae (Xce (Xed D_lay Xcf hr (pv 0) (Xaa (pv 3) Xac))))))),?_⟩
 obtain⟨x,dx,z,s,rfl,hx,hz,hs4,qe,q⟩:=h
 have cl:=T.zbS
 have na:=T.zab
 have nb:=T.zam
 walk_at "go"
 refine⟨z,s,rfl,by omega,by omega,qe,fun m' h1 m1 ez p H1 np s1 hp=>?_⟩
 have q:=q m' h1 m1 ez
 have z1:s≤s*(m':Int):=by
   have:=Int.mul_le_mul_of_nonneg_left (show (1:Int)≤(m':Int) by omega) (show 0≤s by omega)
   omega
 rw[←ez] at z1
 have hx1:=s1 x _ hx
 have hpx:p≠x:=fun w=>by rw[w,hx] at np;cases np
 walk_at "go"
 refine⟨W7.shel,x,dx,z,rfl,hx1,by omega,by omega,fun a H2 na2 k2 hx2 ha2=>?_⟩
 have hx2:H2 x=some (.ins Y6 dx [("room_cells",.ref a)]):=hx2
 have hp2:=k2 p _ hpx hp
 have hax:a≠x:=fun w=>by rw[w,hx1] at na2;cases na2
 have e1:=Xjw h1 m'
 have hl1:(rep1 s m').length=(Xcb z).length:=by
   have e2:=Xci (n:=z) (by omega)
   omega
 walk_at "go"
 have hxF:upd H2 x (.ins Y6 dx (putF "shelf" (.int s) [("room_cells",.ref a)])) x=some (.ins ((cF Y17 Y20 Y21 Y18 Y8 Y6 Y22) W7.shel) dx (fsF W7.shel a s)):=upd_same
 refine⟨W7.shel,x,dx,_,trivial,rfl,hxF,rfl,?_⟩
 walk_at "go"
 refine⟨s,x,p,dx,a,Xcb z,rep1 s m',_,rfl,hxF,look_ne hax ha2,hl1,SqL.of (look_ne hpx hp2),by omega,Xre h1 m',fun a' H4 na4 k4 hx4 ha4=>?_⟩
 walk_at "go"
 exact q a' H4 (Xba.free ((Xba.of s1).trans k2).put (by rw[hxF];exact fun w=>nomatch w) na4) (((Xba.of s1).trans k2).put.trans k4) hx4 ha4
include T in
theorem d_Z68 {f₀ T₀:Addr}{fd₀:FuncData}{tk₀:Tok}{tc₀:Value}{td₀:Option Addr}{tn₀:Nat}{ts₀:Array (Option Value)}(F:FunD K "ask" "Shelves.ask" Xkj (.ref T₀) f₀ fd₀)(LT:K.lookup T₀=some ⟨tc₀,td₀,.seq [.int 1 tk₀].toArray tn₀,ts₀⟩)(M:Meth K Y6 "ask" f₀)(D_Z3:Defx P w K mg base "check_plain_ask" 2 ["count","bound"] (Xhc Y19 Y4))(D_Z64:Xei P w K mg base (cF Y17 Y20 Y21 Y18 Y8 Y6 Y22) "cells" 1 ["self"] [] (Xhd (cF Y17 Y20 Y21 Y18 Y8 Y6 Y22)))(D_Z32:Defx P w K mg base "with_slot" 6 ["cells","shelf","size"] (XCs K Y14))(D_Z20:Defx P w K mg base "free_slots" 5 ["cells","shelf","size"] (Xmj K))(D_Z72:Defx P w K mg base "laid" 2 ["cells","at","long","live"] (Xix K))(D_lay:Xcy P w K mg base (ok3) (cF Y17 Y20 Y21 Y18 Y8 Y6 Y22) "lay" 5 ["self","cells"] [] (Xvz K (cF Y17 Y20 Y21 Y18 Y8 Y6 Y22))):MethD P w K mg base Y6 "ask" 7 ["self","count","bound"] [.int 1] (Xjg (cF Y17 Y20 Y21 Y18 Y8 Y6 Y22) Y19 Y4 Y14 W7.shel):=by
 refine MethD.made (fd:=fd₀) ?_ M (F.bindsA LT (XRj T₀ _)) (F.bindsD LT (XPl T₀ _)) (.cons ⟨tk₀,rfl⟩ .nil) T.zbS
 refine Xfo F Xnn (fun vs H Q E h=>by revert h;walk_at "len") (fun cdv A outer s H vs Q E hr h=>?_)
 refine⟨_,(Xab (Xce (Xbr D_Z3 hr (by rfl) (Xaa (pv 1) (Xaa (pv 2) Xac)))) (Xab (Xao (i:=3) Xnn.nd rfl (Or.inl rfl) (Xak Xbq (pv 1) (Xbb (v:=.int 2) (by rfl) T.zcs ⟨_,rfl⟩))) (Xab (Xao (i:=4) Xnn.nd rfl (Or.inl rfl) (Xbr D_Z32 hr (by rfl) (Xaa (Xdi D_Z64 Xcf hr (pv 0)) (Xaa (Xeh (pv 0) rfl) (Xaa (pv 3) Xac))))) (Xab (Xao (i:=5) Xnn.nd rfl (Or.inl rfl) (Xbx Xbi (Xah D_Z20 hr (by rfl) (Xaa (pv 4) (Xaa (Xeh (pv 0) rfl) (Xaa (pv 3) Xac)))) Xag (fun _ _=>rfl))) (Xab (Xce (Xed D_lay Xcf hr (pv 0) (Xaa (Xah D_Z72 hr (by rfl) (Xaa (pv 4) (Xaa (pv 5) (Xaa (pv 3) (Xaa Xcz Xac))))) Xac))) (Xae (Xai (Xak Xbq (pv 5) Xag)))))))),?_⟩
 obtain⟨x,dx,a,q3,cs,c,b0,rfl,hi,S,hc2,qa,qb,hq⟩:=h
 cases q3 with
 | half _ _=>cases hi
 | row _ _=>cases hi
 | st i0 _ _ _ =>
   have hi0:W7.shel=i0:=hi
   subst hi0
   exact(show False from S.ok.1).elim
 | shel s fs =>
 have hx:H x=some (.ins ((cF Y17 Y20 Y21 Y18 Y8 Y6 Y22) W7.shel) dx (fsF W7.shel a s)):=S.hx
 have hx0:H x=some (.ins Y6 dx [("room_cells",.ref a),("shelf",.int s)]):=S.hx
 have ha:=S.ha
 have hl:(cs.length:Int)=s*(fs.length:Int):=S.hl
 have hz:=S.hz
 obtain⟨hs3,hf1,ok⟩:=id S.ok
 have hs:1≤s:=by omega
 have mk:Xau cs (alP s 0 fs):=S.mm
 have cl:=T.zbS
 have na:=T.zab
 have nb:=T.zam
 walk_at "go"
 refine⟨c,b0,rfl,fun h=>qa h H (Same.refl _),fun h1 h2 h3=>qb h1 h2 h3 H (Same.refl _),fun hc hb1=>?_⟩
 walk_at "go"
 refine⟨s,x,dx,a,cs,rfl,hx,ha,fun p H1 np s1 hp=>?_⟩
 have hx1:=s1 x _ hx
 have hx01:=s1 x _ hx0
 have ha1:=s1 a _ ha
 walk_at "go"
 refine⟨p,cs,s,c+2,fs,rfl,SqL.of hp,hz,hl,hs,by omega,ok,mk,?_⟩
 rcases hq hc hb1 with ⟨g,qe⟩ | ⟨p0,q0,G0,q⟩
 · exact .inl ⟨g,fun H2 s2=>qe H2 (s1.trans s2)⟩
 cases G0 with
 | shel G ln0 =>
 rename_i fs1 j i b
 refine .inr ⟨j,i,b,fs1,G,fun p2 cs2 H2 s2 hp2 hl2 ln mk2=>?_⟩
 have W1:=G.W (by omega) ok
 have hl3:(cs2.length:Int)=s*(fs1.length:Int):=by rw[hl2,ln];exact hl
 have ch2:=Xkr hs W1 hl3
 have hw2:=Xaw ch2 mk2
 have hle2:=ch2.le
 have hx2:=s2 x _ hx1
 have hx02:=s2 x _ hx01
 have ha2:=s2 a _ ha1
 obtain⟨ys,esl⟩:=G.slot hs (by omega) ok mk2
 walk_at "go"
 refine⟨p2,cs2,_,s,c+2,rfl,hp2,by omega,hw2,by omega,ch2,hs,fun p3 H3 np3 s3 hp3=>?_⟩
 rw[esl,List.map_cons] at hp3
 have hp23:=s3.seq hp2
 have hx3:=s3 x _ hx2
 have ha3:=s3 a _ ha2
 obtain⟨g0,_,g4,_,mk4⟩:=XAz (v:=true) hs W1 G.1 G.2.1 hl3 mk2
 have ok4:=G.ok (by omega) ok
 walk_at "go"
 refine Xfx (SqL.of hp3) (show atI (V.int _::_) ((0:Nat):Int)=some (V.int _) from Xes rfl) ?_
 generalize eat:s*(j:Int)+(c+2)*(i:Int)=at0 at g0 g4 mk4 q
 walk_at "go"
 refine⟨p2,cs2,at0,c+2,true,rfl,hp23,by omega,g0,by omega,g4,fun p4 H4 np4 s4 hp4=>?_⟩
 have hl4:(Xdg cs2 at0 (c+2) true).length=cs.length:=by rw[Xbu];exact hl2
 have hl5:((Xdg cs2 at0 (c+2) true).length:Int)=s*((fs1.set j ⟨c+2,b.set i true⟩).length:Int):=by rw[Xbu,List.length_set];exact hl3
 have hw4:=Xaw (Xkr hs (fun f hf=>(ok4 f hf).1) hl5) mk4
 walk_at "go"
 refine⟨s,x,p4,dx,a,cs,_,_,rfl,s4 x _ hx3,s4 a _ ha3,hl4,SqL.of hp4,by omega,hw4,fun a' H5 na5 k5 hx5 ha5=>?_⟩
 walk_at "go"
 have s14:=((s1.trans s2).trans s3).trans s4
 exact q a' _ H5 (s14.free na5) ((Xba.of s14).trans k5) hl4 ⟨hx5,ha5,hl5,by omega,⟨hs3,by rw[List.length_set,ln];exact hf1,ok4⟩,mk4⟩
theorem Xlf (l:List Int):l=[]∨∃D y,l=D++[y]:=by
 rcases List.eq_nil_or_concat l with h | ⟨D,y,h⟩
 · exact .inl h
 · exact .inr ⟨D,y,by simpa using h⟩
include T in
theorem d_Z65 {f₀ T₀:Addr}{fd₀:FuncData}{tk₀:Tok}{tc₀:Value}{td₀:Option Addr}{tn₀:Nat}{ts₀:Array (Option Value)}(F:FunD K "ask" "Row.ask" Xji (.ref T₀) f₀ fd₀)(LT:K.lookup T₀=some ⟨tc₀,td₀,.seq [.int 1 tk₀].toArray tn₀,ts₀⟩)(M:Meth K Y22 "ask" f₀)(D_Z3:Defx P w K mg base "check_plain_ask" 2 ["count","bound"] (Xhc Y19 Y4))(D_Z59:Xei P w K mg base (cF Y17 Y20 Y21 Y18 Y8 Y6 Y22) "pieces" 5 ["self"] [] (Xfz (cF Y17 Y20 Y21 Y18 Y8 Y6 Y22)))(D_Z64:Xei P w K mg base (cF Y17 Y20 Y21 Y18 Y8 Y6 Y22) "cells" 1 ["self"] [] (Xhd (cF Y17 Y20 Y21 Y18 Y8 Y6 Y22)))(D_Z58:Defx P w K mg base "cut_out" 7 ["cells","at","place","long"] (XJs K Y5 Y14))(D_lay:Xcy P w K mg base (ok3) (cF Y17 Y20 Y21 Y18 Y8 Y6 Y22) "lay" 5 ["self","cells"] [] (Xvz K (cF Y17 Y20 Y21 Y18 Y8 Y6 Y22))):MethD P w K mg base Y22 "ask" 8 ["self","count","bound"] [.int 1] (Xjg (cF Y17 Y20 Y21 Y18 Y8 Y6 Y22) Y19 Y4 Y14 W7.row):=by
 refine MethD.made (fd:=fd₀) ?_ M (F.bindsA LT (bi_Z50 T₀ _)) (F.bindsD LT (XTr T₀ _)) (.cons ⟨tk₀,rfl⟩ .nil) T.cl_Row
 refine Xfo F Xno (fun vs H Q E h=>by revert h;walk_at "len") (fun cdv A outer s H vs Q E hr h=>?_)
 refine⟨_,(Xab (Xce (Xbr D_Z3 hr (by rfl) (Xaa (pv 1) (Xaa (pv 2) Xac)))) (Xab (Xfl (Xbx Xbi (Xdi D_Z59 Xcf hr (pv 0)) (XEo Xuo Xag) (fun _ _=>rfl)) (Xhz rfl (Xaq (Xar (i:=3) Xno.nd rfl (Or.inl rfl)) (Xaq (Xar (i:=4) Xno.nd rfl (Or.inl rfl)) (Xaq (Xar (i:=5) Xno.nd rfl (Or.inl rfl)) Xcq))))) (Xab (Xbe (Xck (pv 5) (fun _=>rfl)) (Xae (Xch T.zch hr.hd rfl (Xaa Xay Xac))) Xan) (Xab (Xce (Xed D_lay Xcf hr (pv 0) (Xaa (Xbr D_Z58 hr (by rfl) (Xaa (Xdi D_Z64 Xcf hr (pv 0)) (Xaa (pv 3) (Xaa (pv 3) (Xaa (Xak Xbq (pv 1) (Xbb (v:=.int 2) (by rfl) T.zcs ⟨_,rfl⟩)) Xac))))) Xac))) (Xae (Xai (Xak Xbq (pv 3) Xag))))))),?_⟩
 obtain⟨x,dx,a,q3,cs,c,b0,rfl,hi,S,hc2,qa,qb,hq⟩:=h
 cases q3 with
 | half _ _=>cases hi
 | shel _ _=>cases hi
 | st i0 _ _ _ =>
   have hi0:W7.row=i0:=hi
   subst hi0
   exact(show False from S.ok.1).elim
 | row n ls =>
 have hl:(cs.length:Int)=n:=S.hl
 subst hl
 obtain⟨hn3,h3,hs⟩:=id S.ok
 have cl:=T.cl_Row
 have na:=T.zaj
 have hx:H x=some (.ins ((cF Y17 Y20 Y21 Y18 Y8 Y6 Y22) W7.row) dx (fsF W7.row a cs.length)):=S.hx
 have ha:=S.ha
 have hz:=S.hz
 have hc:Xas 0 (rwP ls cs.length) cs.length:=S.ch
 have mk:Xau cs (rwP ls cs.length):=S.mm
 have h0:=Xmt h3
 walk_at "go"
 refine⟨c,b0,rfl,fun h=>qa h H (Same.refl _),fun h1 h2 h3=>qb h1 h2 h3 H (Same.refl _),fun h1 hb1=>?_⟩
 have qe:(cs.length:Int)<sumI ls+(c+2)→∀H',Same H H'→E (.ref Y14) none H':=fun hlt=>by
   rcases hq h1 hb1 with ⟨_,qe⟩ | ⟨p0,q0,G0,_⟩
   · exact qe
   · cases G0 with
     | row g=>omega
 have q:sumI ls+(c+2)≤cs.length→∀(a':Addr) (cs':List Int) (H':Hp),H a'=none→Xba x H H'→cs'.length=cs.length→KS (cF Y17 Y20 Y21 Y18 Y8 Y6 Y22) x dx a' (.row cs.length (ls++[c+2])) cs' H'→Q (.int (sumI ls+1)) H':=fun hle=>by
   rcases hq h1 hb1 with ⟨g,_⟩ | ⟨p0,q0,G0,q⟩
   · have g:(cs.length:Int)<sumI ls+(c+2):=g
     omega
   · cases G0 with
     | row g=>exact q
 walk_at "go"
 refine⟨_,x,dx,a,cs,_,rfl,S.bs,fun lp us H1 nlp s1 hlp pa=>?_⟩
 have pa:Xbl H1 us (rwP ls cs.length):=pa
 have hx1:=s1 x _ hx
 have ha1:=s1 a _ ha
 by_cases hf:sumI ls<cs.length
 · rw[Xeu hf] at pa
   obtain⟨ui,t,rfl,pi,hT⟩:=pa.unsnoc
   have hT:H1 t=some (.tup [.int (sumI ls),.int (cs.length-sumI ls),.bl false]):=hT
   walk_at "go"
   refine Xkl (SqL.of hlp) ?_
   walk_at "go"
   refine⟨_,x,dx,a,cs,rfl,hx1,ha1,fun p H2 np s2 hp=>?_⟩
   have hx2:=s2 x _ hx1
   have ha2:=s2 a _ ha1
   have s12:=s1.trans s2
   have hfm:(⟨sumI ls,cs.length-sumI ls,false⟩:Pc)∈rwP ls cs.length:=by rw[Xeu hf];simp
   walk_at "go"
   refine⟨p,cs,rwP ls cs.length,sumI ls,sumI ls,c+2,rfl,SqL.of hp,by omega,hc,mk,by omega,fun z hzm hk hv e1 e2 p2 H3 np2 s3 hp2=>?_,fun z hzm hk hv hno H3 s3=>?_,fun hno=>absurd rfl (hno _ hfm rfl)⟩
   · have ez:=Xdx hc hzm hfm hk
     subst ez
     have e2:sumI ls+(c+2)≤sumI ls+(cs.length-sumI ls):=e2
     have hle:sumI ls+(c+2)≤cs.length:=by omega
     have hp2:H3 p2=some (.lst ((cutO cs (sumI ls) (cs.length-sumI ls) (sumI ls) (c+2)).map V.int)):=hp2
     have s13:=s12.trans s3
     have m2:=Xul h3 rfl h0 (show 1≤c+2 by omega) hle mk
     have g3:∀l∈ls++[c+2],3≤l:=fun l hl=>(List.mem_append.mp hl).elim (h3 l) fun hl=>by rw[List.mem_singleton.mp hl];omega
     have c2:=Xiw g3 (show sumI (ls++[c+2])≤cs.length by rw[Xic];omega)
     have lc:=Xgx cs (sumI ls) (cs.length-sumI ls) (sumI ls) (c+2)
     have c2':Xas 0 (rwP (ls++[c+2]) cs.length) (cutO cs (sumI ls) (cs.length-sumI ls) (sumI ls) (c+2)).length:=by rw[lc];exact c2
     have out:True:=trivial
     generalize cutO cs (sumI ls) (cs.length-sumI ls) (sumI ls) (c+2)=cs' at hp2 m2 lc c2'
     walk_at "go"
     refine⟨_,x,p2,dx,a,cs,cs',_,rfl,s3 x _ hx2,s3 a _ ha2,lc,SqL.of hp2,by omega,Xaw c2' m2,fun a' H4 na4 k4 hx4 ha4=>?_⟩
     walk_at "go"
     exact q hle a' cs' H4 (s13.free na4) ((Xba.of s13).trans k4) lc ⟨hx4,ha4,by rw[lc];rfl,by omega,⟨hn3,g3,by rw[Xic];omega⟩,m2⟩
   · have ez:=Xdx hc hzm hfm hk
     subst ez
     have hno:¬(sumI ls≤sumI ls∧sumI ls+(c+2)≤sumI ls+(cs.length-sumI ls)):=hno
     exact qe (by omega) H3 (s12.trans s3)
 · have ef:sumI ls=cs.length:=by omega
   rw[Xuz ef] at pa
   rcases Xlf ls with e0 | ⟨D,l,e0⟩
   · rw[e0] at ef
     have:(0:Int)=cs.length:=ef
     omega
   · rw[e0,Xhe] at pa
     obtain⟨ui,t,rfl,pi,hT⟩:=pa.unsnoc
     have hT:H1 t=some (.tup [.int (0+sumI D),.int l,.bl true]):=hT
     walk_at "go"
     refine Xkl (SqL.of hlp) ?_
     walk_at "go"
     exact qe (by omega) H1 s1
def Xey (L b:Int)(z:Pc):Option (List V):=if z.v=true then none else (fp z.a z.l L b).map fun p=>[V.int z.a,V.int p]
def Xcu (ps:List Pc)(L b:Int):List (List V):=ps.filterMap (Xey L b)
theorem Xla {ps:List Pc}{L b:Int}{i:Nat}{z:Pc}(h:ps[i]?=some z):Xcu (ps.take (i+1)) L b=Xcu (ps.take i) L b++(Xey L b z).toList:=by
 unfold Xcu
 rw[List.take_add_one,h,List.filterMap_append]
 cases e:Xey L b z <;> simp [e]
theorem Xmp (ps:List Pc)(L b:Int):(Xcu ps L b).length≤ps.length:=List.length_filterMap_le _ _
def Xnv:Sp:=fun vs H Q _=>∃(t:Addr) (a n L b:Int) (v:Bool),vs=[.ref t,.int L,.int b]∧H t=some (.tup [.int a,.int n,.bl v])∧1≤b∧Q (optV (fp a n L b)) H
def Xie (K:PySem.W.Frag):Sp:=fun vs H Q _=>∃(a:Addr) (cs:List Int) (ps:List Pc) (L b:Int),vs=[.ref a,.int L,.int b]∧SqL K H a (cs.map V.int)∧cs.length≤4000∧Xct cs 0=(ps,none)∧1≤b ∧
 ∀(p:Addr) (us:List V) (H':Hp),H p=none→Same H H'→H' p=some (.lst us)→Xbp H' us (Xcu ps L b)→Q (.ref p) H'
include T in
theorem d_Z14 (S:Src K mg "first_place" Xui) :Defx P w K mg base "first_place" 1 ["piece","long","bound"] (Xnv):=by
 refine S.okx Xli XTs (fun vs H Q E h=>by revert h;walk_at "len") (fun f cdv A outer s H vs Q E hr h=>?_)
 refine⟨_,PSs.nox (Xab (Xfl (pv 0) (Xhz rfl (Xaq (Xar (i:=3) Xli.nd rfl (Or.inl rfl)) (Xaq (Xar (i:=4) Xli.nd rfl (Or.inl rfl)) (Xaq (Xar (i:=5) Xli.nd rfl (Or.inl rfl)) Xcq))))) (Xab (Xao (i:=6) Xli.nd rfl (Or.inl rfl) (Xak Xbq (pv 3) (Xak Xbz (XEo Xuo (Xak Xbq (pv 3) Xag)) (pv 2)))) (Xab (Xbe (Xal Xhh (Xak Xbq (pv 6) (pv 1)) (Xak Xbq (pv 3) (pv 4)) (Xaj _)) (Xae (Xai Xge)) Xan) (Xae (Xai (pv 6)))))),?_⟩
 obtain⟨t,a,n,L,b,v,rfl,ht,hb,q⟩:=h
 have e:a + -(a+1)%b=fpl a b:=by unfold fpl;rw[Xjl hb]
 walk_at "go"
 rw[e]
 refine Xbd (fun hc=>?_) (fun hc=>?_)
 · walk_at "go"
   unfold fp at q
   rw[if_neg (by omega)] at q
   exact q
 · walk_at "go"
   unfold fp at q
   rw[if_pos (by omega)] at q
   exact q
def SpW (f0 f1 f2:Option V)(sp lp:Addr)(us:List V)(ps:List Pc)(L b:Int)(H:Hp)(i:Nat)(σ:L2.St)(H':Hp):Prop :=
 ∃(ws:List V) (x4 x5:Option V),σ=[f0,f1,f2,some (.ref sp),x4,x5]∧Same H H'∧H' lp=some (.lst us)∧Xbl H' us ps∧H' sp=some (.lst ws)∧Xbp H' ws (Xcu (ps.take i) L b)
include T in
theorem d_Z28 (S:Src K mg "spots_for" Xvv)(D_Z14:Defx P w K mg base "first_place" 1 ["piece","long","bound"] (Xnv))(D_Z62:Defx P w K mg base "looked" 4 ["cells"] (Xdp K Y7)):Defx P w K mg base "spots_for" 5 ["cells","long","bound"] (Xie K):=by
 refine S.okx Xnq XRh (fun vs H Q E h=>by revert h;walk_at "len") (fun f cdv A outer s H vs Q E hr h=>?_)
 refine⟨_,PSs.nox (Xab (Xao (i:=3) Xnq.nd rfl (Or.inl rfl) (Xby Xac)) (Xab (Xks PassesOwn.never rfl (Xda (Xah D_Z62 hr (by rfl) (Xaa (pv 0) Xac))) (Xar (i:=4) Xnq.nd rfl (Or.inl rfl)) (Xab (Xao (i:=5) Xnq.nd rfl (Or.inl rfl) (Xah D_Z14 hr (by rfl) (Xaa (pv 4) (Xaa (pv 1) (Xaa (pv 2) Xac))))) (Xae (Xbe (PW.pt (Xih (Xcs (Xck (Xbx Xfh (pv 4) Xag (fun _ _=>rfl)) (fun _=>rfl))) (Xfm (Xal Xqi (pv 5) Xge (Xaj _))))) (Xae (Xce (Xwl PySem.F.plainAttrs_list PySem.F.slot_list_append PySem.F.type_list_append Xia (pv 3) (Xaa (Xdl (Xaa (Xbx Xfh (pv 4) Xag (fun _ _=>rfl)) (Xaa (pv 5) Xac))) Xac)))) Xan)))) (Xae (Xai (pv 3))))),?_⟩
 obtain⟨a,cs,ps,L,b,rfl,hS,hz,hw,hb,q⟩:=h
 walk_at "go"
 intro sp hsp
 walk_at "go"
 refine⟨a,cs,rfl,(Same.new hsp).seq hS,hz,(fun c hc=>by rw[hw] at hc;cases hc),fun _ lp us H1 nlp s1 hlp pa=>?_⟩
 have pa:Xbl H1 us ps:=by rw[hw] at pa;exact pa
 have hps:(ps.length:Int)≤cs.length:=by
   have:=Xll cs cs.length 0 (by omega) (by omega)
   rw[hw] at this
   exact this
 have hul:=pa.1
 have hsp1:=s1 sp _ upd_same
 have hne:lp≠sp:=fun z=>by rw[z,upd_same] at nlp;cases nlp
 have s01:Same H H1:=(Same.new hsp).trans s1
 refine⟨lp,rfl,⟨_,SqL.of hlp⟩,Xkc (K:=K) (a:=lp) (xs:=us) (SpW (some (.ref a)) (some (.int L)) (some (.int b)) sp lp us ps L b H) ⟨[],none,none,rfl,s01,hlp,pa,hsp1,Xbp.nil⟩ (fun i σ H2 _ ⟨_,_,_,_,_,h,_⟩=>SqL.of h) ?_ ?_⟩
 · rintro i y σ H2 hi ⟨ws,x4,x5,rfl,s2,hlp2,pa2,hsp2,ta⟩
   have hil:i<us.length:=(List.getElem?_eq_some_iff.mp hi).1
   have hip:i<ps.length:=by omega
   obtain⟨t,et,hT⟩:=pa2.2 i ps[i] (by simp [hip])
   have ey:y = .ref t:=Option.some.inj (hi.symm.trans et)
   subst ey
   have ht:=Xla (L:=L) (b:=b) (show ps[i]?=some ps[i] by simp [hip])
   have hwl:ws.length≤4000:=by
     have h1:=ta.1
     have h2:=Xmp (ps.take i) L b
     rw[List.length_take] at h2
     omega
   generalize ps[i]=z at hT ht
   walk_at "go"
   refine⟨t,z.a,z.l,L,b,z.v,rfl,hT,hb,?_⟩
   cases ef:fp z.a z.l L b with
   | none =>
     walk_at "go"
     have e:Xey L b z=none:=by
       unfold Xey
       split
       · rfl
       · rw[ef];rfl
     rw[e,Option.toList_none,List.append_nil] at ht
     refine Xfv (fun hv=>?_) (fun hv=>?_)
     · walk_at "go"
       exact⟨ws,_,_,rfl,s2,hlp2,pa2,hsp2,by rw[ht];exact ta⟩
     · walk_at "go"
       exact⟨ws,_,_,rfl,s2,hlp2,pa2,hsp2,by rw[ht];exact ta⟩
   | some p =>
     walk_at "go"
     refine Xfv (fun hv=>?_) (fun hv=>?_)
     · walk_at "go"
       have e:Xey L b z=none:=by unfold Xey;rw[if_pos hv]
       rw[e,Option.toList_none,List.append_nil] at ht
       exact⟨ws,_,_,rfl,s2,hlp2,pa2,hsp2,by rw[ht];exact ta⟩
     · walk_at "go"
       intro t2 ht2
       have hst:sp≠t2:=Xat hsp2 ht2
       have hlt:lp≠t2:=Xat hlp2 ht2
       walk_at "go"
       have e:Xey L b z=some [V.int z.a,V.int p]:=by unfold Xey;rw[hv,if_neg Bool.false_ne_true,ef];rfl
       rw[e] at ht
       exact⟨ws++[.ref t2],_,_,rfl,(s2.put (s2.free ht2)).put hsp,look_ne hne (look_ne hlt hlp2),(pa2.mono (Xmf (.inl ht2))).mono (Xmf (.inr ⟨ws,look_ne hst hsp2⟩)),upd_same,by rw[ht];exact ta.push hsp2 ht2⟩
 · rintro σ H2 ⟨ws,x4,x5,rfl,s2,hlp2,pa2,hsp2,ta⟩
   walk_at "go"
   rw[List.take_of_length_le (by omega)] at ta
   exact q sp ws H2 hsp s2 hsp2 ta
def Xhq:Sp:=fun vs H Q _=>∃(p:Addr) (us:List V) (xs:List (List Int)),vs=[.ref p]∧H p=some (.lst us)∧Xbp H us (xs.map fun x=>x.map V.int)∧(∀x∈xs,x.length=3) ∧
 (xs=[]→Q .non H)∧(0<xs.length→Q (.int ((xs.getD (Xdr xs (xs.length-1)) []).getD 2 0)) H)
include T in
theorem d_Z16 (S:Src K mg "least_place" Xvw) :Defx P w K mg base "least_place" 1 ["ranked"] (Xhq):=by
 refine S.okx XSl XOf (fun vs H Q E h=>by revert h;walk_at "len") (fun f cdv A outer s H vs Q E hr h=>?_)
 refine⟨_,PSs.nox (Xab (Xbe (Xcs (Xck (pv 0) (fun _=>rfl))) (Xae (Xai Xge)) Xan) (Xae (Xai (Xbx Xfh (Xam (Xlt rfl hr.units) (by rfl) T.n_min PyProof.Rows.boot_min (Xaa (pv 0) Xac)) Xag (fun _ _=>rfl))))),?_⟩
 obtain⟨p,us,xs,rfl,hp,ta,h3,q0,q⟩:=h
 have hl:=ta.1
 rw[List.length_map] at hl
 cases hx:us with
 | nil =>
   rw[hx] at hp hl
   walk_at "go"
   refine iteT ?_
   walk_at "go"
   exact q0 (List.length_eq_zero_iff.mp hl.symm)
 | cons u r =>
   have hpos:0<xs.length:=by rw[←hl,hx,List.length_cons];omega
   have hm:Xdr xs (xs.length-1)<xs.length:=by have:=Xfp xs (xs.length-1);omega
   rw[hx] at hp ta
   walk_at "go"
   refine iteF ?_
   walk_at "go"
   refine⟨p,_,xs,rfl,hp,ta,hpos,fun t _ ht=>?_⟩
   have q1:=q hpos
   have hm3:(xs.getD (Xdr xs (xs.length-1)) []).length=3:=by
     have:xs.getD (Xdr xs (xs.length-1)) []=xs[Xdr xs (xs.length-1)]:=by simp [hm]
     rw[this]
     exact h3 _ (List.getElem_mem hm)
   generalize xs.getD (Xdr xs (xs.length-1)) []=m at ht q1 hm3
   match m,hm3 with
   | [m0,m1,m2],_ =>
     walk_at "go"
     exact q1
def BaW (H1:Hp)(ps:List Pc)(s:Int)(D:Addr)(i:Nat)(ys:List V)(H2:Hp):Prop:=Same H1 H2∧H2 D=some (.lst ys)∧ys=(((ps.take i).filter fun z=>decide (z.a≤s)).map fun z=>V.int z.a)
def Xoe (K:PySem.W.Frag):Sp:=fun vs H Q _=>∃(a:Addr) (cs:List Int) (ps:List Pc) (i:Nat) (z:Pc) (s:Int),vs=[.ref a,.int s]∧SqL K H a (cs.map V.int)∧cs.length≤4000∧Xas 0 ps cs.length∧Xau cs ps∧ps[i]?=some z∧z.a≤s∧s<z.a+z.l∧∀(H':Hp),Same H H'→Q (.int z.a) H'
theorem Xqe {ps:List Pc}{n s:Int}{i:Nat}{z:Pc}(hc:Xas 0 ps n)(hi:ps[i]?=some z)(h1:z.a≤s)(h2:s<z.a+z.l):∃D,(ps.filter fun z=>decide (z.a≤s))=D++[z]:=by
 obtain⟨ds,rs,e1,e2,k1,k2⟩:=Xcw hc hi
 subst e1
 refine⟨ds.filter fun z=>decide (z.a≤s),?_⟩
 have e:(rs.filter fun z=>decide (z.a≤s))=[]:=List.filter_eq_nil_iff.mpr fun p hp=>by
   have:=k2.fromOn p hp
   rw[decide_eq_false (by omega)]
   exact Bool.false_ne_true
 rw[List.filter_append,List.filter_cons,if_pos (decide_eq_true h1),e]
include T in
theorem d_Z11 (S:Src K mg "begin_around" Xuh)(D_Z62:Defx P w K mg base "looked" 4 ["cells"] (Xdp K Y7)):Defx P w K mg base "begin_around" 5 ["cells","cell"] (Xoe K):=by
 refine S.okx XDa XQf (fun vs H Q E h=>by revert h;walk_at "len") (fun f cdv A outer s H vs Q E hr h=>?_)
 refine⟨_,PSs.nox (Xab (Xdz (i:=2) ["at","long","live"] ["cell"] [1] XDa.nd rfl (Or.inl rfl) rfl (Xda (Xah D_Z62 hr (by rfl) (Xaa (pv 0) Xac))) (fun cl C s₀ H₀ ex=>(Xel (K:=K) (n:=3) rfl rfl (Xaq (Xar (i:=0) (show ((["at","long","live"]:List Str)++(["cell"]:List Str)).Nodup by decide +kernel) rfl (Or.inl rfl)) (Xaq (Xar (i:=1) (show ((["at","long","live"]:List Str)++(["cell"]:List Str)).Nodup by decide +kernel) rfl (Or.inl rfl)) (Xaq (Xar (i:=2) (show ((["at","long","live"]:List Str)++(["cell"]:List Str)).Nodup by decide +kernel) rfl (Or.inl rfl)) Xcq))))) (fun cl C s₀ H₀ ex=>(Xhm (Xal op_le (pv 0) (pv 3) (Xaj _)))) (fun cl C s₀ H₀ ex=>(pv 0)) (Xcl rfl rfl rfl) (Xdm (n:="cell") (by decide +kernel) rfl) (fun y h=>Xbc (by decide +kernel) h)) (Xae (Xai (Xbx Xbi (pv 2) (XEo Xuo Xag) (fun _ _=>rfl))))),?_⟩
 obtain⟨a,cs,ps,i,z,s,rfl,hS,hz,hc,mk,hi,h1,h2,q⟩:=h
 have hw:=Xaw hc mk
 have hple:=hc.le
 walk_at "go"
 refine⟨a,cs,rfl,hS,hz,(fun c hc=>by rw[hw] at hc;cases hc),fun _ lp us H1 nlp s1 hlp pa=>?_⟩
 have pa:Xbl H1 us ps:=by rw[hw] at pa;exact pa
 have hul:=pa.1
 walk_at "go"
 refine⟨lp,rfl,⟨_,SqL.of hlp⟩,Xcg (K:=K) (a:=lp) (xs:=us) (fs:=[some (.int s)]) (BaW H1 ps s) (fun D hD=>⟨Same.new hD,upd_same,rfl⟩) (fun D i ys H2 _ h=>SqL.of (h.1 lp _ hlp)) ?_ ?_⟩
 · rintro D i y ys H2 hD hi ⟨s2,hD2,hy⟩ τ hτ
   have hil:i<us.length:=(List.getElem?_eq_some_iff.mp hi).1
   obtain⟨t,w,rfl,hw1,hT⟩:=XEa (pa.same s2) hi
   have hfl:=take_succ_filter (fun p:Pc=>decide (p.a≤s)) ps i w hw1
   have hyl:ys.length≤i:=by
     rw[hy,List.length_map]
     refine Nat.le_trans (List.length_filter_le _ _) ?_
     rw[List.length_take]
     omega
   match τ,hτ with
   | [τ0,τ1,τ2],_ =>
     walk_at "go"
     refine⟨⟨[_,_,_],rfl,rfl⟩,?_⟩
     walk_at "go"
     refine Xbd (fun hle=>?_) (fun hle=>?_)
     · rw[if_pos (decide_eq_true hle)] at hfl
       walk_at "go"
       refine⟨hD2,small4000 (by omega),Xdu hil ⟨s2.put hD,upd_same,?_⟩⟩
       rw[hfl,List.map_append,←hy]
       rfl
     · rw[if_neg (by rw[decide_eq_false hle];exact Bool.false_ne_true),List.append_nil] at hfl
       exact Xdu hil ⟨s2,hD2,by rw[hfl];exact hy⟩
 · rintro D ys H2 hD ⟨s2,hD2,hy⟩
   rw[List.take_of_length_le (by omega)] at hy
   obtain⟨D0,e0⟩:=Xqe hc hi h1 h2
   rw[e0,List.map_append] at hy
   subst hy
   walk_at "go"
   refine Xkl (SqL.of hD2) ?_
   walk_at "go"
   exact q H2 (s1.trans s2)
theorem XEn {X:Cx}{K:PySem.W.Frag}{e:Expr}{f:Str}{pos:Pos}{ta:TE}(hK:X.K=K)(he:PE X e ta)(hb:attributeBase e f X.env (eval e X.env)=eval e X.env):PE X (.Attribute e f pos) (tFld K ta f):=hK▸Xeh he hb
theorem XFk {X:Cx}{K:PySem.W.Frag}{T:String}{name:Str}{id:String}{r:V→List V→Hp→VK→Prop}{o:Expr}{to:TE}{apos cpos:Pos}(hK:X.K=K)(pa:PlainAttrs T)(slot:Slot T name id)(hty:typeOf (.builtin id)=pure (.type "method_descriptor"))(hm:MtR X id r)(ho:PE X o to)
   (hbase:attributeBase o name X.env (eval o X.env)=eval o X.env:=by rfl) (hline:(apos.endLine==cpos.line)=true:=by rfl):PE X (.Call (.Attribute o name apos) [] [] cpos) (tBM0 K T r to):=hK▸Xne pa slot hty hm ho hbase hline
theorem Xef (n L:Int):(∀q∈Xcu [⟨0,n,false⟩] L 1,q=[.int 0,.int 0])∧(Xcu [⟨0,n,false⟩] L 1).length=(if L≤n then 1 else 0):=by
 have e:Xey L 1 ⟨0,n,false⟩=if L≤n then some [.int 0,.int 0] else none:=by
   unfold Xey
   rw[if_neg (show ¬(false=true) from Bool.false_ne_true)]
   show (fp 0 n L 1).map (fun p=>[V.int 0,V.int p])=_
   unfold fp
   have e0:fpl 0 1=0:=by decide
   rw[e0]
   by_cases h:L≤n
   · rw[if_pos h,if_pos (by omega)]
     rfl
   · rw[if_neg h,if_neg (by omega)]
     rfl
 unfold Xcu
 rw[List.filterMap_cons,e]
 by_cases h:L≤n
 · rw[if_pos h,if_pos h]
   exact⟨fun q hq=>List.mem_singleton.mp hq,rfl⟩
 · rw[if_neg h,if_neg h]
   exact⟨fun q hq=>(by cases hq),rfl⟩
def ChW (H1:Hp)(D:Addr)(i:Nat)(ys:List V)(H2:Hp):Prop:=Same H1 H2∧H2 D=some (.lst ys)∧∃xs:List (List Int),Xbp H2 ys (xs.map fun x=>x.map V.int)∧xs.length=i∧∀x∈xs,∃k,x=[k,0,0]
theorem Xoa {xs:List (List Int)}(h:∀x∈xs,∃k,x=[k,0,0])(j:Nat):(xs.getD j []).getD 2 0=0:=by
 rw[List.getD_eq_getElem?_getD (l:=xs)]
 cases e:xs[j]? with
 | none=>rfl
 | some x =>
   obtain⟨k,ex⟩:=h x (List.mem_of_getElem? e)
   show x.getD 2 0=0
   rw[ex]
   rfl
def Xfb (C:W7→Addr)(i:W7):Sp:=fun vs H Q _=>∃(r:Int) (x dx a:Addr) (cs:List Int) (n L:Int),vs=[.ref x,.int L,.int 1]∧H x=some (.ins (C i) dx (fsF i a r))∧H a=some (.lst (cs.map V.int))∧(cs.length:Int)=n∧cs.length≤1200∧1≤n∧Xau cs [⟨0,n,false⟩]∧1≤L∧∀H',Same H H'→Q (if L≤n then .int 0 else .non) H'
theorem Xdf {n:Int}(h:1≤n):Xas 0 [⟨0,n,false⟩] n:=⟨rfl,h,(fun h=>by cases h),by show (0:Int)+n=n;omega⟩
include T in
theorem d_Z38 {f₀:Addr}{fd₀:FuncData}(F:Fun K "chosen" "First.chosen" s_Z9 f₀ fd₀)(M:Meth K Y17 "chosen" f₀)(D_Z28:Defx P w K mg base "spots_for" 5 ["cells","long","bound"] (Xie K))(D_Z16:Defx P w K mg base "least_place" 1 ["ranked"] (Xhq)):Methx P w K mg base Y17 "chosen" 6 ["self","long","bound"] [] (Xfb (cF Y17 Y20 Y21 Y18 Y8 Y6 Y22) W7.first):=by
 refine⟨⟨f₀,fd₀,[],Xbk F XMv (fun vs H Q E h=>by revert h;walk_at "len") (fun cdv A outer s H vs Q E hr h=>?_),M,F.binds bi_Z9,.nil⟩,T.zcv⟩
 refine⟨_,PSs.nox (Xab (Xao (i:=3) XMv.nd rfl (Or.inl rfl) (Xah D_Z28 hr (by rfl) (Xaa (Xeh (pv 0) rfl) (Xaa (pv 1) (Xaa (pv 2) Xac))))) (Xae (Xai (Xah D_Z16 hr (by rfl) (Xaa (Xwq ["at","place"] rfl (Xda (pv 3)) (fun cl C s₀ H₀ ex=>(Xel (K:=K) (n:=2) rfl rfl (Xaq (Xar (i:=0) (show ((["at","place"]:List Str)++([]:List Str)).Nodup by decide +kernel) rfl (Or.inl rfl)) (Xaq (Xar (i:=1) (show ((["at","place"]:List Str)++([]:List Str)).Nodup by decide +kernel) rfl (Or.inl rfl)) Xcq)))) (fun cl C s₀ H₀ ex=>Xgo) (fun cl C s₀ H₀ ex=>(Xdl (Xaa Xag (Xaa (pv 0) (Xaa (pv 1) Xac))))) ) Xac))))),?_⟩
 obtain⟨r,x,dx,a,cs,n,L,rfl,hx,ha,hl,hz,h1,mk,hL,q⟩:=h
 have hx:H x=some (.ins Y17 dx [("room_cells",.ref a)]):=hx
 have cl:=T.zcv
 have na:=T.zac
 walk_at "go"
 refine⟨a,cs,[⟨0,n,false⟩],L,1,rfl,SqL.of ha,by omega,Xaw (by rw[hl];exact Xdf h1) mk,Int.le_refl _,fun sp us H1 nsp s1 hsp tsp=>?_⟩
 obtain⟨hs0,hsl⟩:=Xef n L
 generalize Xcu [⟨0,n,false⟩] L 1=qs at tsp hs0 hsl
 have htl:=tsp.1
 have hq1:qs.length≤1:=by rw[hsl];split <;> omega
 have ha1:=s1 a _ ha
 have hx1:=s1 x _ hx
 walk_at "go"
 refine⟨sp,rfl,⟨_,SqL.of hsp⟩,Xcg (K:=K) (a:=sp) (xs:=us) (fs:=[]) (ChW H1) (fun D hD=>⟨Same.new hD,upd_same,[],Xbp.nil,rfl,(fun x hx=>by cases hx)⟩) (fun D i ys H2 _ h=>SqL.of (h.1 sp _ hsp)) ?_ ?_⟩
 · rintro D i y ys H2 hD hi ⟨s2,hD2,xs,ta,xl,x0⟩ τ hτ
   have hil:i<us.length:=(List.getElem?_eq_some_iff.mp hi).1
   have hiq:i<qs.length:=by omega
   obtain⟨t,et,hT⟩:=tsp.2 i qs[i] (by simp [hiq])
   rw[hs0 _ (List.getElem_mem hiq)] at hT
   have ey:y = .ref t:=Option.some.inj (hi.symm.trans et)
   subst ey
   have hT2:=s2 t _ hT
   have ha2:=s2 a _ ha1
   have hx2:=s2 x _ hx1
   have hyl:=ta.1
   rw[List.length_map] at hyl
   match τ,hτ with
   | [τ0,τ1],_ =>
     walk_at "go"
     refine⟨⟨[_,_],rfl,rfl⟩,?_⟩
     walk_at "go"
     intro t2 ht2
     exact⟨look_put ht2 hD2,small4000 (by omega),Xdu hil ⟨(s2.put (s2.free ht2)).put hD,upd_same,xs++[[_,0,0]],by rw[List.map_append];exact ta.push hD2 ht2,by rw[List.length_append,xl];rfl,fun x hx=>(List.mem_append.mp hx).elim (x0 x) fun w=>⟨_,List.mem_singleton.mp w⟩⟩⟩
 · rintro D ys H2 hD ⟨s2,hD2,xs,ta,xl,x0⟩
   have q:=q H2 (s1.trans s2)
   walk_at "go"
   refine⟨D,ys,xs,rfl,hD2,ta,(fun x hx=>by obtain⟨k,e⟩:=x0 x hx;rw[e];rfl),fun z=>?_,fun hp=>?_⟩
   · rw[if_neg (fun h=>by rw[if_pos h] at hsl;rw[z,List.length_nil] at xl;omega)] at q
     walk_at "go"
     exact q
   · rw[Xoa x0]
     rw[if_pos (Int.not_lt.mp fun h=>by rw[if_neg (by omega)] at hsl;omega)] at q
     walk_at "go"
     exact q
include T in
theorem d_Z53 {f₀:Addr}{fd₀:FuncData}(F:Fun K "chosen" "Best.chosen" Xyp f₀ fd₀)(M:Meth K Y20 "chosen" f₀)(D_Z28:Defx P w K mg base "spots_for" 5 ["cells","long","bound"] (Xie K))(D_Z16:Defx P w K mg base "least_place" 1 ["ranked"] (Xhq))(D_Z52:Defx P w K mg base "long_of" 1 ["number"] (Xgt)):Methx P w K mg base Y20 "chosen" 6 ["self","long","bound"] [] (Xfb (cF Y17 Y20 Y21 Y18 Y8 Y6 Y22) W7.best):=by
 refine⟨⟨f₀,fd₀,[],Xbk F Xth (fun vs H Q E h=>by revert h;walk_at "len") (fun cdv A outer s H vs Q E hr h=>?_),M,F.binds XPp,.nil⟩,T.zdg⟩
 refine⟨_,PSs.nox (Xab (Xao (i:=3) Xth.nd rfl (Or.inr rfl) (Xeh (pv 0) rfl)) (Xab (Xao (i:=4) Xth.nd rfl (Or.inl rfl) (Xah D_Z28 hr (by rfl) (Xaa (pv 3) (Xaa (pv 1) (Xaa (pv 2) Xac))))) (Xae (Xai (Xah D_Z16 hr (by rfl) (Xaa (Xee ["at","place"] ["cells"] [3] rfl (Xda (pv 4)) (fun cl C s₀ H₀ ex=>(Xel (K:=K) (n:=2) rfl rfl (Xaq (Xar (i:=0) (show ((["at","place"]:List Str)++(["cells"]:List Str)).Nodup by decide +kernel) rfl (Or.inl rfl)) (Xaq (Xar (i:=1) (show ((["at","place"]:List Str)++(["cells"]:List Str)).Nodup by decide +kernel) rfl (Or.inl rfl)) Xcq)))) (fun cl C s₀ H₀ ex=>Xgo) (fun cl C s₀ H₀ ex=>(Xdl (Xaa (Xah D_Z52 hr (by rfl) (Xaa (Xbx (Xkq (K:=K) rfl) (pv 2) (pv 0) (fun _ _=>rfl)) Xac)) (Xaa (pv 0) (Xaa (pv 1) Xac))))) (Xcl rfl rfl rfl) (Xdm (n:="cells") (by decide +kernel) rfl) (fun y h=>Xbc (by decide +kernel) h)) Xac)))))),?_⟩
 obtain⟨r,x,dx,a,cs,n,L,rfl,hx,ha,hl,hz,h1,mk,hL,q⟩:=h
 have hx:H x=some (.ins Y20 dx [("room_cells",.ref a)]):=hx
 have cl:=T.zdg
 have na:=T.zae
 walk_at "go"
 refine⟨a,cs,[⟨0,n,false⟩],L,1,rfl,SqL.of ha,by omega,Xaw (by rw[hl];exact Xdf h1) mk,Int.le_refl _,fun sp us H1 nsp s1 hsp tsp=>?_⟩
 obtain⟨hs0,hsl⟩:=Xef n L
 generalize Xcu [⟨0,n,false⟩] L 1=qs at tsp hs0 hsl
 have htl:=tsp.1
 have hq1:qs.length≤1:=by rw[hsl];split <;> omega
 have ha1:=s1 a _ ha
 have hx1:=s1 x _ hx
 walk_at "go"
 refine⟨sp,rfl,⟨_,SqL.of hsp⟩,Xcg (K:=K) (a:=sp) (xs:=us) (fs:=[some (.ref a)]) (ChW H1) (fun D hD=>⟨Same.new hD,upd_same,[],Xbp.nil,rfl,(fun x hx=>by cases hx)⟩) (fun D i ys H2 _ h=>SqL.of (h.1 sp _ hsp)) ?_ ?_⟩
 · rintro D i y ys H2 hD hi ⟨s2,hD2,xs,ta,xl,x0⟩ τ hτ
   have hil:i<us.length:=(List.getElem?_eq_some_iff.mp hi).1
   have hiq:i<qs.length:=by omega
   obtain⟨t,et,hT⟩:=tsp.2 i qs[i] (by simp [hiq])
   rw[hs0 _ (List.getElem_mem hiq)] at hT
   have ey:y = .ref t:=Option.some.inj (hi.symm.trans et)
   subst ey
   have hT2:=s2 t _ hT
   have ha2:=s2 a _ ha1
   have hx2:=s2 x _ hx1
   have hyl:=ta.1
   rw[List.length_map] at hyl
   match τ,hτ with
   | [τ0,τ1],_ =>
     walk_at "go"
     refine⟨⟨[_,_],rfl,rfl⟩,?_⟩
     walk_at "go"
     intro t2 ht2
     exact⟨look_put ht2 hD2,small4000 (by omega),Xdu hil ⟨(s2.put (s2.free ht2)).put hD,upd_same,xs++[[_,0,0]],by rw[List.map_append];exact ta.push hD2 ht2,by rw[List.length_append,xl];rfl,fun x hx=>(List.mem_append.mp hx).elim (x0 x) fun w=>⟨_,List.mem_singleton.mp w⟩⟩⟩
 · rintro D ys H2 hD ⟨s2,hD2,xs,ta,xl,x0⟩
   have q:=q H2 (s1.trans s2)
   walk_at "go"
   refine⟨D,ys,xs,rfl,hD2,ta,(fun x hx=>by obtain⟨k,e⟩:=x0 x hx;rw[e];rfl),fun z=>?_,fun hp=>?_⟩
   · rw[if_neg (fun h=>by rw[if_pos h] at hsl;rw[z,List.length_nil] at xl;omega)] at q
     walk_at "go"
     exact q
   · rw[Xoa x0]
     rw[if_pos (Int.not_lt.mp fun h=>by rw[if_neg (by omega)] at hsl;omega)] at q
     walk_at "go"
     exact q
include T in
theorem d_Z51 {f₀:Addr}{fd₀:FuncData}(F:Fun K "chosen" "Next.chosen" Xxb f₀ fd₀)(M:Meth K Y21 "chosen" f₀)(D_Z28:Defx P w K mg base "spots_for" 5 ["cells","long","bound"] (Xie K))(D_Z16:Defx P w K mg base "least_place" 1 ["ranked"] (Xhq)):Methx P w K mg base Y21 "chosen" 6 ["self","long","bound"] [] (Xfb (cF Y17 Y20 Y21 Y18 Y8 Y6 Y22) W7.next):=by
 refine⟨⟨f₀,fd₀,[],Xbk F XCo (fun vs H Q E h=>by revert h;walk_at "len") (fun cdv A outer s H vs Q E hr h=>?_),M,F.binds XSe,.nil⟩,T.zcu⟩
 refine⟨_,PSs.nox (Xab (Xao (i:=3) XCo.nd rfl (Or.inl rfl) (Xah D_Z28 hr (by rfl) (Xaa (Xeh (pv 0) rfl) (Xaa (pv 1) (Xaa (pv 2) Xac))))) (Xae (Xai (Xah D_Z16 hr (by rfl) (Xaa (Xee ["at","place"] ["self"] [0] rfl (Xda (pv 3)) (fun cl C s₀ H₀ ex=>(Xel (K:=K) (n:=2) rfl rfl (Xaq (Xar (i:=0) (show ((["at","place"]:List Str)++(["self"]:List Str)).Nodup by decide +kernel) rfl (Or.inl rfl)) (Xaq (Xar (i:=1) (show ((["at","place"]:List Str)++(["self"]:List Str)).Nodup by decide +kernel) rfl (Or.inl rfl)) Xcq)))) (fun cl C s₀ H₀ ex=>Xgo) (fun cl C s₀ H₀ ex=>(Xdl (Xaa (XBl (Xal Xtw (pv 0) (XEn (K:=K) rfl (pv 2) rfl) (Xaj _)) Xag Xag) (Xaa (pv 0) (Xaa (pv 1) Xac))))) (Xcl rfl rfl rfl) (Xdm (n:="self") (by decide +kernel) rfl) (fun y h=>Xbc (by decide +kernel) h)) Xac))))),?_⟩
 obtain⟨r,x,dx,a,cs,n,L,rfl,hx,ha,hl,hz,h1,mk,hL,q⟩:=h
 have hx:H x=some (.ins Y21 dx [("room_cells",.ref a),("room_rover",.int r)]):=hx
 have cl:=T.zcu
 have na:=T.zaa
 have nr:=T.zaf
 walk_at "go"
 refine⟨a,cs,[⟨0,n,false⟩],L,1,rfl,SqL.of ha,by omega,Xaw (by rw[hl];exact Xdf h1) mk,Int.le_refl _,fun sp us H1 nsp s1 hsp tsp=>?_⟩
 obtain⟨hs0,hsl⟩:=Xef n L
 generalize Xcu [⟨0,n,false⟩] L 1=qs at tsp hs0 hsl
 have htl:=tsp.1
 have hq1:qs.length≤1:=by rw[hsl];split <;> omega
 have ha1:=s1 a _ ha
 have hx1:=s1 x _ hx
 walk_at "go"
 refine⟨sp,rfl,⟨_,SqL.of hsp⟩,Xcg (K:=K) (a:=sp) (xs:=us) (fs:=[some (.ref x)]) (ChW H1) (fun D hD=>⟨Same.new hD,upd_same,[],Xbp.nil,rfl,(fun x hx=>by cases hx)⟩) (fun D i ys H2 _ h=>SqL.of (h.1 sp _ hsp)) ?_ ?_⟩
 · rintro D i y ys H2 hD hi ⟨s2,hD2,xs,ta,xl,x0⟩ τ hτ
   have hil:i<us.length:=(List.getElem?_eq_some_iff.mp hi).1
   have hiq:i<qs.length:=by omega
   obtain⟨t,et,hT⟩:=tsp.2 i qs[i] (by simp [hiq])
   rw[hs0 _ (List.getElem_mem hiq)] at hT
   have ey:y = .ref t:=Option.some.inj (hi.symm.trans et)
   subst ey
   have hT2:=s2 t _ hT
   have ha2:=s2 a _ ha1
   have hx2:=s2 x _ hx1
   have hyl:=ta.1
   rw[List.length_map] at hyl
   match τ,hτ with
   | [τ0,τ1],_ =>
     walk_at "go"
     refine⟨⟨[_,_],rfl,rfl⟩,?_⟩
     walk_at "go"
     refine Xbd (fun hge=>?_) (fun hge=>?_)
     · walk_at "go"
       intro t2 ht2
       exact⟨look_put ht2 hD2,small4000 (by omega),Xdu hil ⟨(s2.put (s2.free ht2)).put hD,upd_same,xs++[[_,0,0]],by rw[List.map_append];exact ta.push hD2 ht2,by rw[List.length_append,xl];rfl,fun x hx=>(List.mem_append.mp hx).elim (x0 x) fun w=>⟨_,List.mem_singleton.mp w⟩⟩⟩
     · walk_at "go"
       intro t2 ht2
       exact⟨look_put ht2 hD2,small4000 (by omega),Xdu hil ⟨(s2.put (s2.free ht2)).put hD,upd_same,xs++[[_,0,0]],by rw[List.map_append];exact ta.push hD2 ht2,by rw[List.length_append,xl];rfl,fun x hx=>(List.mem_append.mp hx).elim (x0 x) fun w=>⟨_,List.mem_singleton.mp w⟩⟩⟩
 · rintro D ys H2 hD ⟨s2,hD2,xs,ta,xl,x0⟩
   have q:=q H2 (s1.trans s2)
   walk_at "go"
   refine⟨D,ys,xs,rfl,hD2,ta,(fun x hx=>by obtain⟨k,e⟩:=x0 x hx;rw[e];rfl),fun z=>?_,fun hp=>?_⟩
   · rw[if_neg (fun h=>by rw[if_pos h] at hsl;rw[z,List.length_nil] at xl;omega)] at q
     walk_at "go"
     exact q
   · rw[Xoa x0]
     rw[if_pos (Int.not_lt.mp fun h=>by rw[if_neg (by omega)] at hsl;omega)] at q
     walk_at "go"
     exact q
include T in
theorem d_Z40 {f₀:Addr}{fd₀:FuncData}(F:Fun K "chosen" "Likes.chosen" s_Z8 f₀ fd₀)(M:Meth K Y18 "chosen" f₀)(D_Z28:Defx P w K mg base "spots_for" 5 ["cells","long","bound"] (Xie K))(D_Z16:Defx P w K mg base "least_place" 1 ["ranked"] (Xhq))(D_Z52:Defx P w K mg base "long_of" 1 ["number"] (Xgt)):Methx P w K mg base Y18 "chosen" 6 ["self","long","bound"] [] (Xfb (cF Y17 Y20 Y21 Y18 Y8 Y6 Y22) W7.likes):=by
 refine⟨⟨f₀,fd₀,[],Xbk F XKv (fun vs H Q E h=>by revert h;walk_at "len") (fun cdv A outer s H vs Q E hr h=>?_),M,F.binds bi_Z8,.nil⟩,T.zcw⟩
 refine⟨_,PSs.nox (Xab (Xao (i:=3) XKv.nd rfl (Or.inr rfl) (Xeh (pv 0) rfl)) (Xab (Xao (i:=4) XKv.nd rfl (Or.inl rfl) (Xah D_Z28 hr (by rfl) (Xaa (pv 3) (Xaa (pv 1) (Xaa (pv 2) Xac))))) (Xae (Xai (Xah D_Z16 hr (by rfl) (Xaa (Xee ["at","place"] ["cells"] [3] rfl (Xda (pv 4)) (fun cl C s₀ H₀ ex=>(Xel (K:=K) (n:=2) rfl rfl (Xaq (Xar (i:=0) (show ((["at","place"]:List Str)++(["cells"]:List Str)).Nodup by decide +kernel) rfl (Or.inl rfl)) (Xaq (Xar (i:=1) (show ((["at","place"]:List Str)++(["cells"]:List Str)).Nodup by decide +kernel) rfl (Or.inl rfl)) Xcq)))) (fun cl C s₀ H₀ ex=>Xgo) (fun cl C s₀ H₀ ex=>(Xdl (Xaa (XFk (K:=K) rfl PySem.F.plainAttrs_int PySem.F.slot_int_bit_length PySem.F.type_int_bit_length Xkw (Xah D_Z52 hr (by rfl) (Xaa (Xbx (Xkq (K:=K) rfl) (pv 2) (pv 0) (fun _ _=>rfl)) Xac))) (Xaa (pv 0) (Xaa (pv 1) Xac))))) (Xcl rfl rfl rfl) (Xdm (n:="cells") (by decide +kernel) rfl) (fun y h=>Xbc (by decide +kernel) h)) Xac)))))),?_⟩
 obtain⟨r,x,dx,a,cs,n,L,rfl,hx,ha,hl,hz,h1,mk,hL,q⟩:=h
 have hx:H x=some (.ins Y18 dx [("room_cells",.ref a)]):=hx
 have cl:=T.zcw
 have na:=T.zad
 walk_at "go"
 refine⟨a,cs,[⟨0,n,false⟩],L,1,rfl,SqL.of ha,by omega,Xaw (by rw[hl];exact Xdf h1) mk,Int.le_refl _,fun sp us H1 nsp s1 hsp tsp=>?_⟩
 obtain⟨hs0,hsl⟩:=Xef n L
 generalize Xcu [⟨0,n,false⟩] L 1=qs at tsp hs0 hsl
 have htl:=tsp.1
 have hq1:qs.length≤1:=by rw[hsl];split <;> omega
 have ha1:=s1 a _ ha
 have hx1:=s1 x _ hx
 walk_at "go"
 refine⟨sp,rfl,⟨_,SqL.of hsp⟩,Xcg (K:=K) (a:=sp) (xs:=us) (fs:=[some (.ref a)]) (ChW H1) (fun D hD=>⟨Same.new hD,upd_same,[],Xbp.nil,rfl,(fun x hx=>by cases hx)⟩) (fun D i ys H2 _ h=>SqL.of (h.1 sp _ hsp)) ?_ ?_⟩
 · rintro D i y ys H2 hD hi ⟨s2,hD2,xs,ta,xl,x0⟩ τ hτ
   have hil:i<us.length:=(List.getElem?_eq_some_iff.mp hi).1
   have hiq:i<qs.length:=by omega
   obtain⟨t,et,hT⟩:=tsp.2 i qs[i] (by simp [hiq])
   rw[hs0 _ (List.getElem_mem hiq)] at hT
   have ey:y = .ref t:=Option.some.inj (hi.symm.trans et)
   subst ey
   have hT2:=s2 t _ hT
   have ha2:=s2 a _ ha1
   have hx2:=s2 x _ hx1
   have hyl:=ta.1
   rw[List.length_map] at hyl
   match τ,hτ with
   | [τ0,τ1],_ =>
     walk_at "go"
     refine⟨⟨[_,_],rfl,rfl⟩,?_⟩
     walk_at "go"
     refine⟨rfl,_,rfl,rfl,?_⟩
     walk_at "go"
     intro t2 ht2
     exact⟨look_put ht2 hD2,small4000 (by omega),Xdu hil ⟨(s2.put (s2.free ht2)).put hD,upd_same,xs++[[_,0,0]],by rw[List.map_append];exact ta.push hD2 ht2,by rw[List.length_append,xl];rfl,fun x hx=>(List.mem_append.mp hx).elim (x0 x) fun w=>⟨_,List.mem_singleton.mp w⟩⟩⟩
 · rintro D ys H2 hD ⟨s2,hD2,xs,ta,xl,x0⟩
   have q:=q H2 (s1.trans s2)
   walk_at "go"
   refine⟨D,ys,xs,rfl,hD2,ta,(fun x hx=>by obtain⟨k,e⟩:=x0 x hx;rw[e];rfl),fun z=>?_,fun hp=>?_⟩
   · rw[if_neg (fun h=>by rw[if_pos h] at hsl;rw[z,List.length_nil] at xl;omega)] at q
     walk_at "go"
     exact q
   · rw[Xoa x0]
     rw[if_pos (Int.not_lt.mp fun h=>by rw[if_neg (by omega)] at hsl;omega)] at q
     walk_at "go"
     exact q
theorem fsF_r {i:W7}{a:Addr}{r:Int}(r':Int)(h:i≠W7.next)(h4:ok4 i):fsF i a r=fsF i a r':=by
 cases i
 · rfl
 · rfl
 · exact absurd rfl h
 · rfl
 · exact h4.elim
 · exact h4.elim
 · exact h4.elim
def okS:W7→Prop
 | .first=>True
 | .best=>True
 | .likes=>True
 | _=>False
def Xjr (C:W7→Addr)(i:W7):Sp:=fun vs H Q _=>∃(r r':Int) (x dx a:Addr),vs=[.ref x,.int r']∧H x=some (.ins (C i) dx (fsF i a r))∧∀H',Xba x H H'→H' x=some (.ins (C i) dx (fsF i a r'))→Q .non H'
include T in
theorem d_Z71 {f₀:Addr}{fd₀:FuncData}(F:Fun K "room_granted" "Stretches.room_granted" s_Z0 f₀ fd₀)(M:∀i,(okS) i→Meth K ((cF Y17 Y20 Y21 Y18 Y8 Y6 Y22) i) "room_granted" f₀) :Xcy P w K mg base (okS) (cF Y17 Y20 Y21 Y18 Y8 Y6 Y22) "room_granted" 1 ["self","behind"] [] (Xjr (cF Y17 Y20 Y21 Y18 Y8 Y6 Y22)):=by
 refine Xcy.made (Xbk F sc_Z0 (fun vs H Q E h=>by obtain⟨_,_,h⟩:=h;revert h;walk_at "len") (fun cdv A outer s H vs Q E hr h=>?_)) M (F.binds bi_Z0) (T_cl T)
 refine⟨_,PSs.nox (Xae XDm),?_⟩
 obtain⟨i,hi,r,r',x,dx,a,rfl,hx,q⟩:=h
 walk_at "go"
 refine q _ Xba.refl ?_
 cases i <;> first | exact hx | exact(show False from hi).elim
include T in
theorem d_Z70 {f₀:Addr}{fd₀:FuncData}(F:Fun K "room_granted" "Next.room_granted" s_Z1 f₀ fd₀)(M:∀i,(fun i=>i=W7.next) i→Meth K ((cF Y17 Y20 Y21 Y18 Y8 Y6 Y22) i) "room_granted" f₀) :Xcy P w K mg base (fun i=>i=W7.next) (cF Y17 Y20 Y21 Y18 Y8 Y6 Y22) "room_granted" 1 ["self","behind"] [] (Xjr (cF Y17 Y20 Y21 Y18 Y8 Y6 Y22)):=by
 refine Xcy.made (Xbk F sc_Z1 (fun vs H Q E h=>by obtain⟨_,_,h⟩:=h;revert h;walk_at "len") (fun cdv A outer s H vs Q E hr h=>?_)) M (F.binds bi_Z1) (T_cl T)
 refine⟨_,PSs.nox (Xae (Xet (pv 0) (pv 1) rfl)),?_⟩
 obtain⟨i,hi,r,r',x,dx,a,rfl,hx,q⟩:=h
 have hi:i=W7.next:=hi
 subst hi
 have hx:H x=some (.ins Y21 dx [("room_cells",.ref a),("room_rover",.int r)]):=hx
 have cl:=T.zcu
 have na:=T.zaa
 have nr:=T.zaf
 walk_at "go"
 exact q _ Xba.refl.put upd_same
include T in
theorem d_Z63 {f₀ T₀:Addr}{fd₀:FuncData}{tk₀:Tok}{tc₀:Value}{td₀:Option Addr}{tn₀:Nat}{ts₀:Array (Option Value)}(F:FunD K "ask" "Stretches.ask" s_Z4 (.ref T₀) f₀ fd₀)(LT:K.lookup T₀=some ⟨tc₀,td₀,.seq [.int 1 tk₀].toArray tn₀,ts₀⟩)(M:∀i,(ok4) i→Meth K ((cF Y17 Y20 Y21 Y18 Y8 Y6 Y22) i) "ask" f₀)(D_Z30:Defx P w K mg base "check_ask" 1 ["count","bound"] (Xmu Y19))(D_chosen:Xcy P w K mg base (ok4) (cF Y17 Y20 Y21 Y18 Y8 Y6 Y22) "chosen" 6 ["self","long","bound"] [] (Xfb (cF Y17 Y20 Y21 Y18 Y8 Y6 Y22)))(D_Z58:Defx P w K mg base "cut_out" 7 ["cells","at","place","long"] (XJs K Y5 Y14))(D_Z11:Defx P w K mg base "begin_around" 5 ["cells","cell"] (Xoe K))(D_room_granted:Xcy P w K mg base (ok4) (cF Y17 Y20 Y21 Y18 Y8 Y6 Y22) "room_granted" 1 ["self","behind"] [] (Xjr (cF Y17 Y20 Y21 Y18 Y8 Y6 Y22))):MethSD P w K mg base (ok4) (cF Y17 Y20 Y21 Y18 Y8 Y6 Y22) "ask" 8 ["self","count","bound"] [.int 1] (Xjg (cF Y17 Y20 Y21 Y18 Y8 Y6 Y22) Y19 Y4 Y14):=by
 refine MethSD.made (fd:=fd₀) ?_ M (F.bindsA LT (bi_Z4 T₀ _)) (F.bindsD LT (bd_Z4 T₀ _)) (.cons ⟨tk₀,rfl⟩ .nil) (T_cl T)
 refine Xfo F XDs (fun vs H Q E h=>by obtain⟨_,_,h⟩:=h;revert h;walk_at "len") (fun cdv A outer s H vs Q E hr h=>?_)
 refine⟨_,(Xab (Xce (Xbr D_Z30 hr (by rfl) (Xaa (pv 1) (Xaa (pv 2) Xac)))) (Xab (Xao (i:=3) XDs.nd rfl (Or.inl rfl) (Xak Xbq (pv 1) (Xbb (v:=.int 2) (by rfl) T.zcs ⟨_,rfl⟩))) (Xab (Xao (i:=4) XDs.nd rfl (Or.inl rfl) (Xed D_chosen Xcf hr (pv 0) (Xaa (pv 3) (Xaa (pv 2) Xac)))) (Xab (Xbe (Xal Xtq (pv 4) Xge (Xaj _)) (Xae (Xch T.zch hr.hd rfl (Xaa Xay Xac))) Xan) (Xab (Xet (pv 0) (Xbr D_Z58 hr (by rfl) (Xaa (Xeh (pv 0) rfl) (Xaa (Xah D_Z11 hr (by rfl) (Xaa (Xeh (pv 0) rfl) (Xaa (pv 4) Xac))) (Xaa (pv 4) (Xaa (pv 3) Xac))))) rfl) (Xab (Xce (Xed D_room_granted Xcf hr (pv 0) (Xaa (Xak Xbq (pv 4) (pv 3)) Xac))) (Xae (Xai (Xak Xbq (pv 4) Xag))))))))),?_⟩
 obtain⟨i,hi,x,dx,a,q3,cs,c,b0,rfl,rfl,S,hc2,qa,qb,hq⟩:=h
 cases q3 with
 | half _ _=>exact(show False from hi).elim
 | shel _ _=>exact(show False from hi).elim
 | row _ _=>exact(show False from hi).elim
 | st k r n ps =>
 have hi:ok4 k:=hi
 have hx:H x=some (.ins ((cF Y17 Y20 Y21 Y18 Y8 Y6 Y22) k) dx (fsF k a r)):=S.hx
 have ha:=S.ha
 have hl:(cs.length:Int)=n:=S.hl
 have hz:=S.hz
 have hch:Xas 0 ps n:=S.ok.2
 have mk:Xau cs ps:=S.mm
 have cl:=T_cl T k
 have na:=T_na T k
 obtain⟨_,rfl⟩:=hc2
 walk_at "go"
 refine⟨c,1,rfl,fun h=>qa h H (Same.refl _),fun h1 _=>?_⟩
 rcases hq h1 rfl with ⟨⟨e,hlt⟩,qe⟩ | ⟨p0,q0,G0,q⟩
 · subst e
   have n1:1≤n:=hch.2.1
   walk_at "go"
   refine⟨r,x,dx,a,cs,n,c+2,rfl,hx,ha,hl,hz,n1,mk,by omega,fun H1 s1=>?_⟩
   rw[if_neg (by omega)]
   walk_at "go"
   exact qe H1 s1
 cases G0 with
 | st g1 g2 g3 =>
 rename_i r'
 have n1:1≤n:=hch.2.1
 have oc:Xas 0 [⟨0,n,false⟩] cs.length:=by rw[hl];exact Xdf n1
 walk_at "go"
 refine⟨r,x,dx,a,cs,n,c+2,rfl,hx,ha,hl,hz,n1,mk,by omega,fun H1 s1=>?_⟩
 rw[if_pos (by omega)]
 have hx1:=s1 x _ hx
 have ha1:=s1 a _ ha
 walk_at "go"
 refine⟨a,cs,[⟨0,n,false⟩],0,⟨0,n,false⟩,0,rfl,SqL.of ha1,by omega,oc,mk,rfl,Int.le_refl _,by show (0:Int)<0+n;omega,fun H2 s2=>?_⟩
 have hx2:=s2 x _ hx1
 have ha2:=s2 a _ ha1
 walk_at "go"
 refine⟨a,cs,[⟨0,n,false⟩],0,0,c+2,rfl,SqL.of ha2,by omega,oc,mk,by omega,fun y hy hk hv' e1 e2 p H3 np s3 hp=>?_,fun y hy hk hv' hn'=>?_,fun hn'=>absurd rfl (hn' ⟨0,n,false⟩ (List.mem_singleton.mpr rfl) rfl)⟩
 · have ey:=List.mem_singleton.mp hy
   subst ey
   have hx3:=s3 x _ hx2
   have hne:p≠x:=fun z=>by rw[z,hx2] at np;cases np
   have s13:=(s1.trans s2).trans s3
   walk_at "go"
   generalize hH:upd H3 x _=H4
   have hx4:H4 x=some (.ins ((cF Y17 Y20 Y21 Y18 Y8 Y6 Y22) k) dx (fsF k p r)):=by rw[←hH,upd_same,Xog]
   have hp4:H4 p=some (.lst ((cutO cs 0 n 0 (c+2)).map V.int)):=by rw[←hH];exact look_ne hne hp
   have k4:Xba x H H4:=by rw[←hH];exact(Xba.of s13).put
   walk_at "go"
   refine⟨r,0+(c+2),x,dx,p,rfl,hx4,fun H5 k5 hx5=>?_⟩
   walk_at "go"
   have hx6:H5 x=some (.ins ((cF Y17 Y20 Y21 Y18 Y8 Y6 Y22) k) dx (fsF k p r')):=by
     by_cases hk:k = .next
     · rw[g2 hk]
       rw[Int.zero_add] at hx5
       exact hx5
     · rw[fsF_r r' hk hi] at hx5
       exact hx5
   refine q p _ H5 ((s1.trans s2).free np) (k4.trans k5) (by rw[Xgx]) ⟨hx6,k5 p _ hne hp4,by rw[Xgx];exact hl,by rw[Xgx];exact hz,⟨hi,?_⟩,?_⟩
   · exact Xoo (by omega) (Int.le_refl _) (by omega) (show (0:Int)=0 from rfl) (show (0:Int)+n=n by omega)
   · exact Xiz (z:=⟨0,n,false⟩) (Int.le_refl _) (by omega) (Int.le_refl _) (by show (0:Int)+(c+2)≤0+n;omega) (by show (0:Int)+n≤cs.length;omega) (fun p hp=>by cases hp) (fun p hp=>by cases hp) mk
 · have ey:=List.mem_singleton.mp hy
   subst ey
   exact absurd ⟨Int.le_refl _,by show (0:Int)+(c+2)≤0+n;omega⟩ hn'
def Xbh:W7→Str
 | .first=>"first"
 | .best=>"best"
 | .next=>"next"
 | .likes=>"likes"
 | .half=>"halves"
 | .shel=>"shelves"
 | .row=>"row"
def gdF (n s:Int):W7→Prop
 | .half=>Xgv n=true
 | .shel=>1≤n∧1≤s∧n%s=0
 | _=>1≤n
inductive Fr7 (n s:Int):W7→St7→Prop
 | st {i:W7}:ok4 i→Fr7 n s i (.st i 0 n [⟨0,n,false⟩])
 | half {N:Nat}:N≤8→n=2^N→Fr7 n s .half (.half N [⟨0,2^N,false⟩])
 | shel {m:Nat}:1≤m→1≤s→n=s*(m:Int)→Fr7 n s .shel (.shel s (List.replicate m ⟨0,[]⟩))
 | row:1≤n→Fr7 n s .row (.row n [])
theorem Xfn {n:Int}(h:1≤n):Xas 0 [⟨0,n,false⟩] ((Xcb n).length:Int)∧Xau (Xcb n) [⟨0,n,false⟩]:=by
 have hl:=Xci (show 0≤n by omega)
 refine⟨⟨rfl,h,(fun h=>by cases h),?_⟩,fun p hp=>?_⟩
 · show (0:Int)+n=_
   rw[hl];omega
 · rw[List.mem_singleton.mp hp]
   unfold Xcb at hl ⊢
   rw[Xbu] at hl
   exact⟨Xhy (Int.le_refl 0) h (by omega),Xje (Int.le_refl 0) h (by omega)⟩
theorem Xjv {C:W7→Addr}{i:W7}{x dx a:Addr}{n:Int}{H H1 H2:Hp}(h4:ok4 i)(n1:1≤n)(n2:n≤1200)(nx:H x=none)(s:Same H H1)(k:Xba x H1 H2)(hx:H2 x=some (.ins (C i) dx (fsF i a 0)))(ha:H2 a=some (.lst ((Xcb n).map V.int))):Same H H2∧KS C x dx a (.st i 0 n [⟨0,n,false⟩]) (Xcb n) H2:=by
 have fl:=Xci (show 0≤n by omega)
 obtain⟨f1,f2⟩:=Xfn n1
 exact⟨fun b o h=>k b o (fun e=>by rw[e,nx] at h;cases h) (s b o h),⟨hx,ha,fl,by omega,⟨h4,Xdf n1⟩,f2⟩⟩
def spOf (C:W7→Addr)(CN CS:Addr):Sp:=fun vs H Q E=>∃(wd:Str) (n:Int),vs=[.str wd,.int n]∧n≤1200∧((∀i,ok4 i→wd≠Xbh i)→∀H',Same H H'→E (.ref CN) none H')∧(∀i,ok4 i→wd=Xbh i→n<1→∀H',Same H H'→E (.ref CS) none H') ∧
 (∀i,ok4 i→wd=Xbh i→1≤n→∀(x dx a:Addr) (H':Hp),H x=none→Same H H'→KS C x dx a (.st i 0 n [⟨0,n,false⟩]) (Xcb n) H'→Q (.ref x) H')
include T in
theorem d_Z12 (S:Src K mg "stretches_of" Xpx)(D_First:Makex P w K mg base "First" Y17 3 ["self","size"] [] (spMk Y17 Y15))(D_Best:Makex P w K mg base "Best" Y20 3 ["self","size"] [] (spMk Y20 Y15))(D_Next:Makex P w K mg base "Next" Y21 4 ["self","size"] [] (XRi Y21 Y15))(D_Likes:Makex P w K mg base "Likes" Y18 3 ["self","size"] [] (spMk Y18 Y15)):Defx P w K mg base "stretches_of" 6 ["word","size"] (spOf (cF Y17 Y20 Y21 Y18 Y8 Y6 Y22) Y13 Y15):=by
 refine S.okx XNr XQt (fun vs H Q E h=>by revert h;walk_at "len") (fun f cdv A outer s H vs Q E hr h=>?_)
 refine⟨_,(Xab (Xbe (Xal Xcn (pv 0) Xay (Xaj _)) (Xae (Xai (Xea D_First Xfr hr (by rfl) (Xaa (pv 1) Xac)))) Xan) (Xab (Xbe (Xal Xcn (pv 0) Xay (Xaj _)) (Xae (Xai (Xea D_Best Xfr hr (by rfl) (Xaa (pv 1) Xac)))) Xan) (Xab (Xbe (Xal Xcn (pv 0) Xay (Xaj _)) (Xae (Xai (Xea D_Next Xfr hr (by rfl) (Xaa (pv 1) Xac)))) Xan) (Xab (Xbe (Xal Xcn (pv 0) Xay (Xaj _)) (Xae (Xai (Xea D_Likes Xfr hr (by rfl) (Xaa (pv 1) Xac)))) Xan) (Xae (Xch T.zfS hr.hd rfl (Xaa Xay Xac))))))),?_⟩
 obtain⟨wd,n,rfl,h4,qn,qs,q⟩:=h
 walk_at "go"
 refine Xbd (fun h_first=>?_) (fun h_first=>?_)
 · walk_at "go"
   intro x dx nx ndx nex
   have s6:Same H (upd (upd H dx (.own x)) x (.ins Y17 dx [])):=(Same.new ndx).put nx
   refine⟨x,dx,n,rfl,upd_same,by omega,fun hn=>qs W7.first trivial h_first hn _ s6,fun h1 a H7 na7 k7 hx7 ha7=>⟨rfl,?_⟩⟩
   obtain⟨s7,S7⟩:=Xjv (C:=(cF Y17 Y20 Y21 Y18 Y8 Y6 Y22)) (i:=W7.first) trivial h1 h4 nx s6 k7 hx7 ha7
   walk_at "go"
   exact q W7.first trivial h_first h1 x dx a H7 nx s7 S7
 walk_at "go"
 refine Xbd (fun h_best=>?_) (fun h_best=>?_)
 · walk_at "go"
   intro x dx nx ndx nex
   have s6:Same H (upd (upd H dx (.own x)) x (.ins Y20 dx [])):=(Same.new ndx).put nx
   refine⟨x,dx,n,rfl,upd_same,by omega,fun hn=>qs W7.best trivial h_best hn _ s6,fun h1 a H7 na7 k7 hx7 ha7=>⟨rfl,?_⟩⟩
   obtain⟨s7,S7⟩:=Xjv (C:=(cF Y17 Y20 Y21 Y18 Y8 Y6 Y22)) (i:=W7.best) trivial h1 h4 nx s6 k7 hx7 ha7
   walk_at "go"
   exact q W7.best trivial h_best h1 x dx a H7 nx s7 S7
 walk_at "go"
 refine Xbd (fun h_next=>?_) (fun h_next=>?_)
 · walk_at "go"
   intro x dx nx ndx nex
   have s6:Same H (upd (upd H dx (.own x)) x (.ins Y21 dx [])):=(Same.new ndx).put nx
   refine⟨x,dx,n,rfl,upd_same,by omega,fun hn=>qs W7.next trivial h_next hn _ s6,fun h1 a H7 na7 k7 hx7 ha7=>⟨rfl,?_⟩⟩
   obtain⟨s7,S7⟩:=Xjv (C:=(cF Y17 Y20 Y21 Y18 Y8 Y6 Y22)) (i:=W7.next) trivial h1 h4 nx s6 k7 hx7 ha7
   walk_at "go"
   exact q W7.next trivial h_next h1 x dx a H7 nx s7 S7
 walk_at "go"
 refine Xbd (fun h_likes=>?_) (fun h_likes=>?_)
 · walk_at "go"
   intro x dx nx ndx nex
   have s6:Same H (upd (upd H dx (.own x)) x (.ins Y18 dx [])):=(Same.new ndx).put nx
   refine⟨x,dx,n,rfl,upd_same,by omega,fun hn=>qs W7.likes trivial h_likes hn _ s6,fun h1 a H7 na7 k7 hx7 ha7=>⟨rfl,?_⟩⟩
   obtain⟨s7,S7⟩:=Xjv (C:=(cF Y17 Y20 Y21 Y18 Y8 Y6 Y22)) (i:=W7.likes) trivial h1 h4 nx s6 k7 hx7 ha7
   walk_at "go"
   exact q W7.likes trivial h_likes h1 x dx a H7 nx s7 S7
 walk_at "go"
 refine qn (fun i h4 e=>?_) _ (Same.refl _)
 cases i
 · exact h_first e
 · exact h_best e
 · exact h_next e
 · exact h_likes e
 · exact(show False from h4).elim
 · exact(show False from h4).elim
 · exact(show False from h4).elim
theorem XJn:∀n:Nat,n<401→Xgv (n:Int)=true→∃N,N<9∧(n:Int)=2^N:=by decide +kernel
theorem XNd {n:Int}(h:Xgv n=true)(h4:n≤400):∃N:Nat,N≤8∧n=2^N:=by
 have h1:1≤n:=by
   unfold Xgv at h
   rw[Bool.and_eq_true,decide_eq_true_eq] at h
   exact h.1
 have e:((n.toNat:Nat):Int)=n:=by omega
 obtain⟨N,hN,eN⟩:=XJn n.toNat (by omega) (by rw[e];exact h)
 exact⟨N,by omega,by rw[←e];exact eN⟩
theorem gd4 {n s:Int}{i:W7}(h:ok4 i):gdF n s i↔1≤n:=by
 cases i <;> first | exact Iff.rfl | exact(show False from h).elim
def Xxi (C:W7→Addr)(CN CS:Addr):Sp:=fun vs H Q E=>∃(wd:Str) (n s:Int),vs=[.str wd,.int n,.int s]∧n≤400∧s≤4000∧((∀i,wd≠Xbh i)→∀H',Same H H'→E (.ref CN) none H')∧(∀i,wd=Xbh i→¬gdF n s i→∀H',Same H H'→E (.ref CS) none H') ∧
 (∀i,wd=Xbh i→gdF n s i→∀(x dx a:Addr) (q:St7) (cs:List Int) (H':Hp),H x=none→Same H H'→Fr7 n s i q→KS C x dx a q cs H'→Q (.ref x) H')
include T in
theorem d_Z27 {T₀:Addr}{tk₀:Tok}{tc₀:Value}{td₀:Option Addr}{tn₀:Nat}{ts₀:Array (Option Value)}(S:SrcD K mg "keeper_of" Xit T₀)(LT:K.lookup T₀=some ⟨tc₀,td₀,.seq [.int 8 tk₀].toArray tn₀,ts₀⟩)(D_Halves:Makex P w K mg base "Halves" Y8 4 ["self","size"] [] (XOr Y8 Y15))(D_Shelves:Makex P w K mg base "Shelves" Y6 6 ["self","size","shelf"] [] (XUd Y6 Y15))(D_Row:Makex P w K mg base "Row" Y22 3 ["self","size"] [] (spMk Y22 Y15))(D_Z12:Defx P w K mg base "stretches_of" 6 ["word","size"] (spOf (cF Y17 Y20 Y21 Y18 Y8 Y6 Y22) Y13 Y15)):DefD P w K mg base "keeper_of" 8 ["word","size","shelf"] [.int 8] (Xxi (cF Y17 Y20 Y21 Y18 Y8 Y6 Y22) Y13 Y15):=by
 refine S.okx LT XPu (XQm T₀ _) (XPs T₀ _) (.cons ⟨tk₀,rfl⟩ .nil) (fun vs H Q E h=>by revert h;walk_at "len") (fun f cdv A outer s H vs Q E hr h=>?_)
 refine⟨_,(Xab (Xbe (Xal Xcn (pv 0) Xay (Xaj _)) (Xae (Xai (Xea D_Halves Xfr hr (by rfl) (Xaa (pv 1) Xac)))) Xan) (Xab (Xbe (Xal Xcn (pv 0) Xay (Xaj _)) (Xae (Xai (Xea D_Shelves Xfr hr (by rfl) (Xaa (pv 1) (Xaa (pv 2) Xac))))) Xan) (Xab (Xbe (Xal Xcn (pv 0) Xay (Xaj _)) (Xae (Xai (Xea D_Row Xfr hr (by rfl) (Xaa (pv 1) Xac)))) Xan) (Xae (Xai (Xbr D_Z12 hr (by rfl) (Xaa (pv 0) (Xaa (pv 1) Xac)))))))),?_⟩
 obtain⟨wd,n,s,rfl,h4,h40,qn,qs,q⟩:=h
 have sm:∀{x:Addr} {H1 H2:Hp},H x=none→Same H H1→Xba x H1 H2→Same H H2:=fun nx s k b o h=>k b o (fun e=>by rw[e,nx] at h;cases h) (s b o h)
 walk_at "go"
 refine Xbd (fun h1=>?_) (fun h1=>?_)
 · walk_at "go"
   intro x dx nx ndx nex
   have s6:Same H (upd (upd H dx (.own x)) x (.ins Y8 dx [])):=(Same.new ndx).put nx
   refine⟨x,dx,n,rfl,upd_same,by omega,fun hp=>qs .half h1 (fun g=>by have g:Xgv n=true:=g;rw[hp] at g;cases g) _ s6,fun hp a H7 na7 k7 hx7 ha7=>⟨rfl,?_⟩⟩
   obtain⟨N,hN,rfl⟩:=XNd hp h4
   have p1:=pw1 N
   have fl:=Xci (show 0≤(2:Int)^N by omega)
   walk_at "go"
   exact q .half h1 hp x dx a _ _ H7 nx (sm nx s6 k7) (.half hN rfl) ⟨hx7,ha7,fl,by omega,⟨hN,Xdf p1,fun z hz=>by rw[List.mem_singleton.mp hz];exact⟨N,0,rfl,by simp⟩⟩,(Xfn p1).2⟩
 walk_at "go"
 refine Xbd (fun h2=>?_) (fun h2=>?_)
 · walk_at "go"
   intro x dx nx ndx nex
   have s6:Same H (upd (upd H dx (.own x)) x (.ins Y6 dx [])):=(Same.new ndx).put nx
   refine⟨x,dx,n,s,rfl,upd_same,by omega,h40,fun hb=>qs .shel h2 (fun g=>?_) _ s6,fun m s1 m1 ez a H7 na7 k7 hx7 ha7=>⟨rfl,?_⟩⟩
   · obtain⟨g1,g2,g3⟩:=(show 1≤n∧1≤s∧n%s=0 from g)
     omega
   obtain⟨r1,r2,r3⟩:=XPr s1 m
   have r4:=Xjw s1 m
   have z1:s≤s*(m:Int):=by
     have:=Int.mul_le_mul_of_nonneg_left (show (1:Int)≤(m:Int) by omega) (show 0≤s by omega)
     omega
   walk_at "go"
   exact q .shel h2 ⟨by omega,s1,by rw[ez];exact Int.mul_emod_right _ _⟩ x dx a _ _ H7 nx (sm nx s6 k7) (.shel m1 s1 ez) ⟨hx7,ha7,r1,by omega,⟨s1,by rw[List.length_replicate];exact m1,r2⟩,r3⟩
 walk_at "go"
 refine Xbd (fun h3=>?_) (fun h3=>?_)
 · walk_at "go"
   intro x dx nx ndx nex
   have s6:Same H (upd (upd H dx (.own x)) x (.ins Y22 dx [])):=(Same.new ndx).put nx
   refine⟨x,dx,n,rfl,upd_same,by omega,fun hn=>qs .row h3 (fun g=>by have g:1≤n:=g;omega) _ s6,fun n1 a H7 na7 k7 hx7 ha7=>⟨rfl,?_⟩⟩
   have fl:=Xci (show 0≤n by omega)
   have e:rwP [] n=[⟨0,n,false⟩]:=by
     rw[Xeu (ls:=[]) (show sumI []<n from (by show (0:Int)<n;omega))]
     show [(⟨0,n-0,false⟩:Pc)]=_
     rw[Int.sub_zero]
   walk_at "go"
   exact q .row h3 n1 x dx a _ _ H7 nx (sm nx s6 k7) (.row n1) ⟨hx7,ha7,fl,by omega,⟨n1,(fun l hl=>by cases hl),by show (0:Int)≤n;omega⟩,by show Xau (Xcb n) (rwP [] n);rw[e];exact(Xfn n1).2⟩
 walk_at "go"
 refine⟨wd,n,rfl,by omega,fun hn H' s'=>qn (fun i e=>?_) H' s',fun i h e hlt H' s'=>qs i e (fun g=>by have:=(gd4 h).mp g;omega) H' s',fun i h e n1 x dx a H' nx s' S=>q i e ((gd4 h).mpr n1) x dx a _ _ H' nx s' (.st h) S⟩
 cases i
 · exact hn .first trivial e
 · exact hn .best trivial e
 · exact hn .next trivial e
 · exact hn .likes trivial e
 · exact h1 e
 · exact h2 e
 · exact h3 e
include T in
theorem d_Z31 (S:Src K mg "_law_cell_at" Xuk) :Defx P w K mg base "_law_cell_at" 1 ["_law_script","_law_k"] (Xsy K):=by
 refine S.okx XNh XNa (fun vs H Q E h=>by revert h;walk_at "len") (fun f cdv A outer s H vs Q E hr h=>?_)
 refine⟨_,PSs.nox (Xab (Xbe (Xal Xis (pv 1) (Xam Xbm (by rfl) T.n_len PySem.boot_len (Xaa (pv 0) Xac)) (Xaj _)) (Xae (Xai (Xbx Xbi (pv 0) (pv 1) (fun _ _=>rfl)))) Xan) (Xae (Xai Xag))),?_⟩
 obtain⟨a,ns,k,rfl,hS,h0,q⟩:=h
 walk_at "go"
 refine Xbd (fun hc=>?_) (fun hc=>?_)
 · walk_at "go"
   exact q
 · walk_at "go"
   have e:ns.getD k.toNat 0=0:=by
     rw[List.getD_eq_getElem?_getD,List.getElem?_eq_none (by omega)]
     rfl
   rw[e] at q
   exact q
include T in
theorem d_Z46 (S:Src K mg "_law_whole" Xtn) :Defx P w K mg base "_law_whole" 1 ["_law_found"] (Xkd):=by
 refine S.okx XNk XMe (fun vs H Q E h=>by revert h;walk_at "len") (fun f cdv A outer s H vs Q E hr h=>?_)
 refine⟨_,PSs.nox (Xae (Xai (Xej (Xam Xfs (by rfl) T.n_isinstance PyProof.Rows.boot_isinstance (Xaa (pv 0) (Xaa (Xgj (v:=.ty "int") (by rfl) T.n_int PyProof.Rows.boot_int rfl) Xac))) (Xfj (XCc (Xam Xfs (by rfl) T.n_isinstance PyProof.Rows.boot_isinstance (Xaa (pv 0) (Xaa (Xgj (v:=.ty "bool") (by rfl) T.n_bool PyProof.Rows.boot_bool rfl) Xac)))))))),?_⟩
 obtain⟨n,rfl,q⟩:=h
 walk_at "go"
 exact q
def Xri:Sp:=fun vs H Q _=>∃(b c:Addr) (us ws:List V) (ps:List Pc),vs=[.ref b,.ref c]∧H b=some (.lst us)∧H c=some (.lst ws)∧Xbl H us ps∧Xbl H ws ps∧Q (.bl true) H
def AlW (b c:Addr)(H:Hp)(i:Nat)(σ:L2.St)(H':Hp):Prop:=∃x2:Option V,σ=[some (.ref b),some (.ref c),x2]∧H'=H
include T in
theorem d_Z47 (S:Src K mg "_law_alike" Xsc)(D_Z46:Defx P w K mg base "_law_whole" 1 ["_law_found"] (Xkd)):Defx P w K mg base "_law_alike" 2 ["_law_found","_law_due"] (Xri):=by
 refine S.okx XCi XNz (fun vs H Q E h=>by revert h;walk_at "len") (fun f cdv A outer s H vs Q E hr h=>?_)
 refine⟨_,PSs.nox (Xab (Xbe (PW.pt (Xir (Xcs (Xfg (Xam Xfs (by rfl) T.n_isinstance PyProof.Rows.boot_isinstance (Xaa (pv 0) (Xaa (Xgj (v:=.ty "list") (by rfl) T.n_list PyProof.Rows.boot_list rfl) Xac))))) (Xgr (Xal Xov (Xam Xbm (by rfl) T.n_len PySem.boot_len (Xaa (pv 0) Xac)) (Xam Xbm (by rfl) T.n_len PySem.boot_len (Xaa (pv 1) Xac)) (Xaj _))))) (Xae (Xai Xcz)) Xan) (Xab (Xks PassesOwn.never rfl (Xda (pv 0)) (Xar (i:=2) XCi.nd rfl (Or.inl rfl)) (Xab (Xbe (PW.pt (Xir (Xcs (Xfg (Xam Xfs (by rfl) T.n_isinstance PyProof.Rows.boot_isinstance (Xaa (pv 2) (Xaa (Xgj (v:=.ty "tuple") (by rfl) T.n_tuple PyProof.Rows.boot_tuple rfl) Xac))))) (Xir (Xal Xov (Xam Xbm (by rfl) T.n_len PySem.boot_len (Xaa (pv 2) Xac)) Xag (Xaj _)) (Xgr (Xcs (Xfg (Xam Xfs (by rfl) T.n_isinstance PyProof.Rows.boot_isinstance (Xaa (Xbx Xfh (pv 2) Xag (fun _ _=>rfl)) (Xaa (Xgj (v:=.ty "bool") (by rfl) T.n_bool PyProof.Rows.boot_bool rfl) Xac))))))))) (Xae (Xai Xcz)) Xan) (Xae (Xbe (PW.pt (Xir (Xcs (Xfg (Xah D_Z46 hr (by rfl) (Xaa (Xbx Xfh (pv 2) Xag (fun _ _=>rfl)) Xac)))) (Xgr (Xcs (Xfg (Xah D_Z46 hr (by rfl) (Xaa (Xbx Xfh (pv 2) Xag (fun _ _=>rfl)) Xac))))))) (Xae (Xai Xcz)) Xan)))) (Xae (Xai (Xbj (XDh hr.units) (pv 0) (pv 1) (Xaj _)))))),?_⟩
 obtain⟨b,c,us,ws,ps,rfl,hb,hc,pb,pc,q⟩:=h
 have l1:=pb.1
 have l2:=pc.1
 walk_at "go"
 refine⟨b,rfl,⟨_,SqL.of hb⟩,Xkc (K:=K) (a:=b) (xs:=us) (AlW b c H) ⟨none,rfl,rfl⟩ (fun i σ H2 _ ⟨_,_,h⟩=>by rw[h];exact SqL.of hb) ?_ ?_⟩
 · rintro i y σ H2 hi ⟨x2,rfl,rfl⟩
   have hil:i<us.length:=(List.getElem?_eq_some_iff.mp hi).1
   have hip:i<ps.length:=by omega
   obtain⟨t,et,hT⟩:=pb.2 i ps[i] (by simp [hip])
   have ey:y = .ref t:=Option.some.inj (hi.symm.trans et)
   subst ey
   generalize ps[i]=z at hT
   walk_at "go"
   exact⟨_,rfl,rfl⟩
 · rintro σ H2 ⟨x2,rfl,rfl⟩
   walk_at "go"
   refine⟨b,c,us,ws,ps,rfl,rfl,hb,hc,pb,pc,?_⟩
   walk_at "go"
   exact q
def gdB (wd:Str)(n s:Int):Bool:=if wd="halves" then decide (0<n)&&decide (Builtin.bitAnd n (n-1)=0) else if wd="shelves" then decide (0<n)&&(decide (0<s)&&decide (n%s=0)) else decide (0<n)
def XCd:Sp:=fun vs H Q _=>∃(wd:Str) (n s:Int),vs=[.str wd,.int n,.int s]∧Q (.bl (gdB wd n s)) H
include T in
theorem d_Z18 (S:Src K mg "_law_size_good" Xqt) :Defx P w K mg base "_law_size_good" 1 ["_law_word","_law_size","_law_shelf"] (XCd):=by
 refine S.okx sc_Z18 XPz (fun vs H Q E h=>by revert h;walk_at "len") (fun f cdv A outer s H vs Q E hr h=>?_)
 refine⟨_,PSs.nox (Xab (Xbe (Xal Xcn (pv 0) Xay (Xaj _)) (Xae (Xai (Xej (Xbj Xhh (pv 1) Xag (Xaj _)) (Xfj (Xbj Xcn (Xak Xsu (pv 1) (Xak Xdn (pv 1) Xag)) Xag (Xaj _)))))) Xan) (Xab (Xbe (Xal Xcn (pv 0) Xay (Xaj _)) (Xae (Xai (Xej (Xbj Xhh (pv 1) Xag (Xaj _)) (Xej (Xbj Xhh (pv 2) Xag (Xaj _)) (Xfj (Xbj Xcn (Xak Xbz (pv 1) (pv 2)) Xag (Xaj _))))))) Xan) (Xae (Xai (Xbj Xhh (pv 1) Xag (Xaj _)))))),?_⟩
 obtain⟨wd,n,s,rfl,q⟩:=h
 unfold gdB at q
 walk_at "go"
 refine Xbd (fun h1=>?_) (fun h1=>?_)
 · rw[if_pos h1] at q
   walk_at "go"
   refine Xbd (fun h2=>?_) (fun h2=>?_)
   · rw[decide_eq_true h2,Bool.true_and] at q
     walk_at "go"
     exact q
   · rw[decide_eq_false h2,Bool.false_and] at q
     walk_at "go"
     exact q
 rw[if_neg h1] at q
 walk_at "go"
 refine Xbd (fun h2=>?_) (fun h2=>?_)
 · rw[if_pos h2] at q
   walk_at "go"
   refine Xbd (fun h3=>?_) (fun h3=>?_)
   · rw[decide_eq_true h3,Bool.true_and] at q
     walk_at "go"
     refine Xbd (fun h4=>?_) (fun h4=>?_)
     · rw[decide_eq_true h4,Bool.true_and] at q
       walk_at "go"
       exact q
     · rw[decide_eq_false h4,Bool.false_and] at q
       walk_at "go"
       exact q
   · rw[decide_eq_false h3,Bool.false_and] at q
     walk_at "go"
     exact q
 rw[if_neg h2] at q
 walk_at "go"
 exact q
def idF:W7→Nat
 | .first=>0
 | .best=>1
 | .next=>2
 | .likes=>3
 | .half=>4
 | .shel=>5
 | .row=>6
def clB (i:W7)(k:Nat):Bool:=decide (k=idF i)||(decide (k=7)&&decide (idF i<4))||decide (k=8)
section
variable {K:PySem.W.Frag}{mg:Str→Option Value}{Y0 Y13 Y15 Y7 Y11 Y2 Y5 Y10 Y19 Y4 Y14 Y3 Y12 Y16 Y9 Y8 Y22 Y6 Y1 Y17 Y20 Y21 Y18:Addr}{W0_:Tok}{W1_:Tok}
theorem T_ik (T:Txt K mg Y0 Y13 Y15 Y7 Y11 Y2 Y5 Y10 Y19 Y4 Y14 Y3 Y12 Y16 Y9 Y8 Y22 Y6 Y1 Y17 Y20 Y21 Y18 W0_ W1_):∀i,InsK K ((cF Y17 Y20 Y21 Y18 Y8 Y6 Y22) i):=Xtm (Q:=fun C=>InsK K C) T.zfV T.zgF T.zgG T.zfW T.zee T.zdA T.ik_Row
theorem T_k0 (T:Txt K mg Y0 Y13 Y15 Y7 Y11 Y2 Y5 Y10 Y19 Y4 Y14 Y3 Y12 Y16 Y9 Y8 Y22 Y6 Y1 Y17 Y20 Y21 Y18 W0_ W1_):∀i,PySem.W.kitOne K (.ref ((cF Y17 Y20 Y21 Y18 Y8 Y6 Y22) i)) (.ref Y17)=some (clB i 0):=fun i=>by
 cases i
 · exact T.zbs
 · exact T.zbJ
 · exact T.zbL
 · exact T.zby
 · exact T.zbn
 · exact T.zbc
 · exact T.zcd
theorem T_k1 (T:Txt K mg Y0 Y13 Y15 Y7 Y11 Y2 Y5 Y10 Y19 Y4 Y14 Y3 Y12 Y16 Y9 Y8 Y22 Y6 Y1 Y17 Y20 Y21 Y18 W0_ W1_):∀i,PySem.W.kitOne K (.ref ((cF Y17 Y20 Y21 Y18 Y8 Y6 Y22) i)) (.ref Y20)=some (clB i 1):=fun i=>by
 cases i
 · exact T.zbH
 · exact T.zbY
 · exact T.zca
 · exact T.zbN
 · exact T.zbA
 · exact T.zbp
 · exact T.zck
theorem T_k2 (T:Txt K mg Y0 Y13 Y15 Y7 Y11 Y2 Y5 Y10 Y19 Y4 Y14 Y3 Y12 Y16 Y9 Y8 Y22 Y6 Y1 Y17 Y20 Y21 Y18 W0_ W1_):∀i,PySem.W.kitOne K (.ref ((cF Y17 Y20 Y21 Y18 Y8 Y6 Y22) i)) (.ref Y21)=some (clB i 2):=fun i=>by
 cases i
 · exact T.zbI
 · exact T.zbZ
 · exact T.zcb
 · exact T.zbO
 · exact T.zbB
 · exact T.zbq
 · exact T.zcl
theorem T_k3 (T:Txt K mg Y0 Y13 Y15 Y7 Y11 Y2 Y5 Y10 Y19 Y4 Y14 Y3 Y12 Y16 Y9 Y8 Y22 Y6 Y1 Y17 Y20 Y21 Y18 W0_ W1_):∀i,PySem.W.kitOne K (.ref ((cF Y17 Y20 Y21 Y18 Y8 Y6 Y22) i)) (.ref Y18)=some (clB i 3):=fun i=>by
 cases i
 · exact T.zbt
 · exact T.zbK
 · exact T.zbM
 · exact T.zbz
 · exact T.zbo
 · exact T.zbd
 · exact T.zce
theorem T_k4 (T:Txt K mg Y0 Y13 Y15 Y7 Y11 Y2 Y5 Y10 Y19 Y4 Y14 Y3 Y12 Y16 Y9 Y8 Y22 Y6 Y1 Y17 Y20 Y21 Y18 W0_ W1_):∀i,PySem.W.kitOne K (.ref ((cF Y17 Y20 Y21 Y18 Y8 Y6 Y22) i)) (.ref Y8)=some (clB i 4):=fun i=>by
 cases i
 · exact T.zbh
 · exact T.zbu
 · exact T.zbw
 · exact T.zbl
 · exact T.zba
 · exact T.zaG
 · exact T.zbQ
theorem T_k5 (T:Txt K mg Y0 Y13 Y15 Y7 Y11 Y2 Y5 Y10 Y19 Y4 Y14 Y3 Y12 Y16 Y9 Y8 Y22 Y6 Y1 Y17 Y20 Y21 Y18 W0_ W1_):∀i,PySem.W.kitOne K (.ref ((cF Y17 Y20 Y21 Y18 Y8 Y6 Y22) i)) (.ref Y6)=some (clB i 5):=fun i=>by
 cases i
 · exact T.zaY
 · exact T.zbj
 · exact T.zbk
 · exact T.zaZ
 · exact T.zaF
 · exact T.zav
 · exact T.zbD
theorem T_k6 (T:Txt K mg Y0 Y13 Y15 Y7 Y11 Y2 Y5 Y10 Y19 Y4 Y14 Y3 Y12 Y16 Y9 Y8 Y22 Y6 Y1 Y17 Y20 Y21 Y18 W0_ W1_):∀i,PySem.W.kitOne K (.ref ((cF Y17 Y20 Y21 Y18 Y8 Y6 Y22) i)) (.ref Y22)=some (clB i 6):=fun i=>by
 cases i
 · exact T.zbX
 · exact T.zci
 · exact T.zcj
 · exact T.zcc
 · exact T.zbP
 · exact T.zbC
 · exact T.zcy
theorem T_k7 (T:Txt K mg Y0 Y13 Y15 Y7 Y11 Y2 Y5 Y10 Y19 Y4 Y14 Y3 Y12 Y16 Y9 Y8 Y22 Y6 Y1 Y17 Y20 Y21 Y18 W0_ W1_):∀i,PySem.W.kitOne K (.ref ((cF Y17 Y20 Y21 Y18 Y8 Y6 Y22) i)) (.ref Y1)=some (clB i 7):=fun i=>by
 cases i
 · exact T.zat
 · exact T.zaD
 · exact T.zaE
 · exact T.zau
 · exact T.zaq
 · exact T.zap
 · exact T.zbe
theorem T_k8 (T:Txt K mg Y0 Y13 Y15 Y7 Y11 Y2 Y5 Y10 Y19 Y4 Y14 Y3 Y12 Y16 Y9 Y8 Y22 Y6 Y1 Y17 Y20 Y21 Y18 W0_ W1_):∀i,PySem.W.kitOne K (.ref ((cF Y17 Y20 Y21 Y18 Y8 Y6 Y22) i)) (.ref Y9)=some (clB i 8):=fun i=>by
 cases i
 · exact T.zbi
 · exact T.zbv
 · exact T.zbx
 · exact T.zbm
 · exact T.zbb
 · exact T.zaH
 · exact T.zbR
end
theorem cat2 {H3:Hp}{p1 y:Addr}{xs ys:List V}{o:HO}{Q:VK}(h1:H3 p1=some (.lst xs))(hy:H3 y=some o)(hz:xs.length+ys.length≤4000)(q:∀p H',Same H3 H'→H' y=some o→H' p=some (.lst (xs++ys))→Q (.ref p) H'):∀p,H3 p=none→rCat (.ref p1) (.ref p) (upd H3 p (.lst ys)) Q:=fun p hp =>
 have s1:Same H3 (upd H3 p (.lst ys)):=Same.new hp
 r_cat (s1 p1 _ h1) upd_same (Nat.le_of_lt (small4000 hz)) fun p' hp'=>q p' _ (s1.trans (Same.new hp')) ((s1.trans (Same.new hp')) y _ hy) upd_same
def Xlc (C:W7→Addr):Sp:=fun vs H Q _=>∃(i:W7) (x dx:Addr) (fs:List (Str×V)),vs=[.ref x]∧H x=some (.ins (C i) dx fs)∧∀(p:Addr) (H':Hp),Same H H'→H' p=some (.lst (((List.range 9).map (clB i)).map V.bl))→Q (.ref p) H'
seal L2.PSs L2.PS L2.PE L2.PA in
include T in
theorem d_Z33 (S:Src K mg "_law_classes" Xut) :Defx P w K mg base "_law_classes" 1 ["_law_keeper"] (Xlc (cF Y17 Y20 Y21 Y18 Y8 Y6 Y22)):=by
 refine S.okx Xvn bi_Z33 (fun vs H Q E h=>by revert h;walk_at "len") (fun f cdv A outer s H vs Q E hr h=>?_)
 refine⟨_,PSs.nox (Xab (Xao (i:=1) Xvn.nd rfl (Or.inl rfl) (Xby (Xaa (Xam Xcp (by rfl) T.n_isinstance PyProof.Rows.boot_isinstance (Xaa (pv 0) (Xaa (Xbb (v:=.ref Y17) (by rfl) T.zfy rfl) Xac))) (Xaa (Xam Xcp (by rfl) T.n_isinstance PyProof.Rows.boot_isinstance (Xaa (pv 0) (Xaa (Xbb (v:=.ref Y20) (by rfl) T.c_Best rfl) Xac))) (Xaa (Xam Xcp (by rfl) T.n_isinstance PyProof.Rows.boot_isinstance (Xaa (pv 0) (Xaa (Xbb (v:=.ref Y21) (by rfl) T.c_Next rfl) Xac))) (Xaa (Xam Xcp (by rfl) T.n_isinstance PyProof.Rows.boot_isinstance (Xaa (pv 0) (Xaa (Xbb (v:=.ref Y18) (by rfl) T.zfz rfl) Xac))) Xac)))))) (Xab (Xao (i:=1) Xvn.nd rfl (Or.inl rfl) (Xak Xft (pv 1) (Xby (Xaa (Xam Xcp (by rfl) T.n_isinstance PyProof.Rows.boot_isinstance (Xaa (pv 0) (Xaa (Xbb (v:=.ref Y8) (by rfl) T.zdz rfl) Xac))) (Xaa (Xam Xcp (by rfl) T.n_isinstance PyProof.Rows.boot_isinstance (Xaa (pv 0) (Xaa (Xbb (v:=.ref Y6) (by rfl) T.zde rfl) Xac))) (Xaa (Xam Xcp (by rfl) T.n_isinstance PyProof.Rows.boot_isinstance (Xaa (pv 0) (Xaa (Xbb (v:=.ref Y22) (by rfl) T.c_Row rfl) Xac))) Xac)))))) (Xae (Xai (Xak Xft (pv 1) (Xby (Xaa (Xam Xcp (by rfl) T.n_isinstance PyProof.Rows.boot_isinstance (Xaa (pv 0) (Xaa (Xbb (v:=.ref Y1) (by rfl) T.zct rfl) Xac))) (Xaa (Xam Xcp (by rfl) T.n_isinstance PyProof.Rows.boot_isinstance (Xaa (pv 0) (Xaa (Xbb (v:=.ref Y9) (by rfl) T.zdy rfl) Xac))) Xac)))))))),?_⟩
 obtain⟨i,x,dx,fs,rfl,hx,q⟩:=h
 have ik:=T_ik T i
 have k0:=T_k0 T i
 have k1:=T_k1 T i
 have k2:=T_k2 T i
 have k3:=T_k3 T i
 have k4:=T_k4 T i
 have k5:=T_k5 T i
 have k6:=T_k6 T i
 have k7:=T_k7 T i
 have k8:=T_k8 T i
 walk_at "go"
 intro p1 n1
 generalize eH:upd H p1 _=H1
 have s1:Same H H1:=by rw[←eH];exact Same.new n1
 have hp1:H1 p1=some (.lst [.bl (clB i 0),.bl (clB i 1),.bl (clB i 2),.bl (clB i 3)]):=by rw[←eH];exact upd_same
 clear eH
 have hx1:=s1 x _ hx
 walk_at "go"
 refine cat2 hp1 hx1 (by simp) (fun p3 H3 s3 hx3 hp3=>?_)
 simp only [List.cons_append,List.nil_append] at hp3
 walk_at "go"
 refine cat2 hp3 hx3 (by simp) (fun p5 H5 s5 hx5 hp5=>?_)
 simp only [List.cons_append,List.nil_append] at hp5
 walk_at "go"
 exact q p5 H5 ((s1.trans s3).trans s5) hp5
def Xqv (C:W7→Addr):Sp:=fun vs H Q _=>∃(x dx a:Addr) (q:St7) (cs:List Int),vs=[.ref x]∧KS C x dx a q cs H ∧
 ((No7 1 q∧∀(t:Addr) (H':Hp),Same H H'→H' t=some (.tup [.str "no",.int 0])→Q (.ref t) H') ∨
  ∃q',Ask7 1 q 1 q'∧∀(t:Addr) (H':Hp),Xba x H H'→H' t=some (.tup [.str "at",.int 1])→Q (.ref t) H')
include T in
theorem d_Z57 (S:Src K mg "_law_asked" Xql)(D_ask:MethFD P w K mg base (cF Y17 Y20 Y21 Y18 Y8 Y6 Y22) "ask" 8 ["self","count","bound"] [.int 1] (Xjg (cF Y17 Y20 Y21 Y18 Y8 Y6 Y22) Y19 Y4 Y14)):Defx P w K mg base "_law_asked" 9 ["_law_keeper"] (Xqv (cF Y17 Y20 Y21 Y18 Y8 Y6 Y22)):=by
 refine S.okx Xle XOk (fun vs H Q E h=>by revert h;walk_at "len") (fun f cdv A outer s H vs Q E hr h=>?_)
 refine⟨_,PSs.nox (Xab (Xao (i:=1) Xle.nd rfl (Or.inl rfl) Xay) (Xab (Xao (i:=2) Xle.nd rfl (Or.inl rfl) Xag) (Xab (XGx (i:=2) Xle.nd rfl (Or.inl rfl) (Xxr D_ask.less hr (pv 0) (Xaa Xag Xac)) ⟨rfl,rfl⟩ (XEd (by rfl) T.zdx (fun x=>(Xae (Xao (i:=1) Xle.nd rfl (Or.inl rfl) Xay))) XCy)) (Xae (Xai (Xdl (Xaa (pv 1) (Xaa (pv 2) Xac)))))))),?_⟩
 obtain⟨x,dx,a,q3,cs,rfl,S,hq⟩:=h
 have hx:=S.hx
 walk_at "go"
 refine⟨x,dx,a,q3,cs,1,1,rfl,rfl,S,⟨by decide,rfl⟩,fun h=>absurd h (by decide),fun _ _ h=>absurd rfl h,fun _ _=>?_⟩
 rcases hq with ⟨hn,q⟩ | ⟨q',hA,q⟩
 · refine .inl ⟨hn,fun H1 s1=>⟨_,rfl,fun y hy=>Or.inl ⟨T.zcp,?_⟩⟩⟩
   have s2:=s1.put (o:=ExcO y Y14 none) (s1.free hy)
   generalize upd H1 y (ExcO y Y14 none)=H2 at s2 ⊢
   walk_at "go"
   intro t nt
   walk_at "go"
   exact q t _ (s2.put (s2.free nt)) upd_same
 · refine .inr ⟨1,q',hA,fun a' cs' H1 na k1 l1 S1=>?_⟩
   walk_at "go"
   intro t nt
   walk_at "go"
   exact q t _ (k1.trans (Xba.of (Same.new nt))) upd_same
def fstL (n s:Int):W7→Int
 | .shel=>s
 | _=>n
def lstL:W7→Int
 | .half=>4
 | _=>3
theorem XRy {B:Nat}(h:Xgn B (1+2)):B=2:=h.uniq ⟨by decide,fun i hi=>by
 match i,hi with
 | 0,_=>decide
 | 1,_=>decide⟩
theorem fr_no {n s:Int}{i:W7}{q:St7}(f:Fr7 n s i q)(h:fstL n s i<lstL i):No7 1 q:=by
 cases f with
 | st h4 =>
   refine⟨rfl,?_⟩
   cases i <;> first | exact h | exact(show False from h4).elim
 | half hN e =>
   rename_i N
   intro B hB z hz hv
   have h:n<4:=h
   rw[XRy hB,List.mem_singleton.mp hz]
   show (2:Int)^N<2^2
   rw[←e]
   exact h
 | shel m1 s1 e =>
   have h:s<3:=h
   exact⟨(fun f hf hh=>by rw[(List.mem_replicate.mp hf).2] at hh;cases hh.2),.inl h⟩
 | row n1 =>
   have h:n<3:=h
   show n<sumI []+(1+2)
   show n<0+(1+2)
   omega
theorem XPw {n s:Int}{i:W7}{q:St7}(f:Fr7 n s i q)(h:lstL i≤fstL n s i):∃q',Ask7 1 q 1 q':=by
 cases f with
 | st h4 =>
   have h:1+2≤n:=by cases i <;> first | exact h | exact(show False from h4).elim
   by_cases e:i = .next
   · exact⟨_,.st (r':=1+2) h (fun _=>rfl) (fun g=>absurd e g)⟩
   · exact⟨_,.st (r':=0) h (fun g=>absurd g e) (fun _=>rfl)⟩
 | half hN e =>
   rename_i N
   have h:4≤n:=h
   have hL:Xgn 2 (1+2):=⟨by decide,fun i hi=>by
     match i,hi with
     | 0,_=>decide
     | 1,_=>decide⟩
   exact⟨_,.half (b:=0) (M:=N) (ds:=[]) (rs:=[]) hL ⟨rfl,List.mem_singleton.mpr rfl,rfl,by show (2:Int)^2≤2^N;rw[←e];exact h,fun y hy _ _=>.inr (by rw[List.mem_singleton.mp hy];exact⟨rfl,Int.le_refl _⟩)⟩⟩
 | shel m1 s1 e =>
   rename_i m
   have h:3≤s:=h
   have hno:∀f∈List.replicate m (⟨0,[]⟩:Sf),¬(f.n=1+2∧false∈f.b):=fun f hf hh=>by rw[(List.mem_replicate.mp hf).2] at hh;cases hh.2
   obtain⟨_,_,d3⟩:=Xgl (show (1:Int)≤1+2 by decide) (show 1+2≤s from h)
   have hg:(List.replicate m (⟨0,[]⟩:Sf))[0]?=some ⟨0,[]⟩:=by rw[List.getElem?_replicate,if_pos (by omega)]
   have g:Gs s (1+2) (List.replicate m ⟨0,[]⟩) 0 0 (List.replicate (s/(1+2)).toNat false) ((List.replicate m (⟨0,[]⟩:Sf)).set 0 ⟨1+2,List.replicate (s/(1+2)).toNat false⟩) :=
     ⟨List.getElem?_set_self (by rw[List.length_replicate];omega),by rw[List.getElem?_replicate,if_pos (by omega)],fun i' hi=>absurd hi (Nat.not_lt_zero _),fun j' f hj=>absurd hj (Nat.not_lt_zero _),.inr ⟨hno,h,rfl,rfl,⟨_,hg,rfl⟩,fun j' f hj=>absurd hj (Nat.not_lt_zero _),rfl⟩⟩
   have a1:=Ask7.shel (c:=1) g g.len
   have e3:s*((0:Nat):Int)+(1+2)*((0:Nat):Int)+1=1:=by simp
   rw[e3] at a1
   exact⟨_,a1⟩
 | row n1 =>
   have h:3≤n:=h
   have:=Ask7.row (c:=1) (n:=n) (ls:=[]) (by show (0:Int)+(1+2)≤n;omega)
   exact⟨_,this⟩
theorem XMt {i:W7}:Xbh i="halves"↔i = .half:=by
 cases i <;> first | exact⟨fun _=>rfl,fun _=>rfl⟩ | exact⟨fun h=>absurd h (by decide +kernel),fun h=>nomatch h⟩
theorem XCm {i:W7}:Xbh i="shelves"↔i = .shel:=by
 cases i <;> first | exact⟨fun _=>rfl,fun _=>rfl⟩ | exact⟨fun h=>absurd h (by decide +kernel),fun h=>nomatch h⟩
theorem XMi {n s:Int}{i:W7}{q:St7}(f:Fr7 n s i q)(h:i≠.shel):q.ps=[⟨0,n,false⟩]∧fstL n s i=n:=by
 cases f with
 | st h4=>exact⟨rfl,by cases i <;> first | rfl | exact absurd rfl h⟩
 | half hN e=>exact⟨by rw[e];rfl,rfl⟩
 | shel m1 s1 e=>exact absurd rfl h
 | row n1 =>
   refine⟨?_,rfl⟩
   show rwP [] n=_
   rw[Xeu (ls:=[]) (show sumI []<n from (by show (0:Int)<n;omega))]
   show [(⟨0,n-0,false⟩:Pc)]=_
   rw[Int.sub_zero]
def DuW (H1:Hp)(s:Int)(D:Addr)(i:Nat)(ys:List V)(H2:Hp):Prop:=Same H1 H2∧H2 D=some (.lst ys)∧H1 D=none∧Xbl H2 ys (Xbs s 0 i)∧ys.length≤i
theorem Xln (s:Int)(i:Nat):Xbs s 0 (i+1)=Xbs s 0 i++[⟨s*(i:Int),s,false⟩]:=by
 unfold Xbs
 rw[List.range'_concat,List.map_append]
 simp
def spFr (C:W7→Addr):Sp:=fun vs H Q _=>∃(i:W7) (x dx a:Addr) (q:St7) (cs:List Int) (n s:Int),vs=[.ref x,.str (Xbh i),.int n,.int s]∧KS C x dx a q cs H∧Fr7 n s i q∧gdF n s i∧n≤400∧∀H',Xba x H H'→Q (.bl true) H'
include T in
theorem d_Z48 (S:Src K mg "_law_fresh" Xuv)(D_Z47:Defx P w K mg base "_law_alike" 2 ["_law_found","_law_due"] (Xri))(D_Z59:Xei P w K mg base (cF Y17 Y20 Y21 Y18 Y8 Y6 Y22) "pieces" 5 ["self"] [] (Xfz (cF Y17 Y20 Y21 Y18 Y8 Y6 Y22)))(D_Z57:Defx P w K mg base "_law_asked" 9 ["_law_keeper"] (Xqv (cF Y17 Y20 Y21 Y18 Y8 Y6 Y22)))(D_Z46:Defx P w K mg base "_law_whole" 1 ["_law_found"] (Xkd)):Defx P w K mg base "_law_fresh" 10 ["_law_keeper","_law_word","_law_size","_law_shelf"] (spFr (cF Y17 Y20 Y21 Y18 Y8 Y6 Y22)):=by
 refine S.okx Xjf XQp (fun vs H Q E h=>by revert h;walk_at "len") (fun f cdv A outer s H vs Q E hr h=>?_)
 refine⟨_,PSs.nox (Xab (Xao (i:=4) Xjf.nd rfl (Or.inl rfl) (Xby (Xaa (Xdl (Xaa Xag (Xaa (pv 2) (Xaa Xcz Xac)))) Xac))) (Xab (Xao (i:=5) Xjf.nd rfl (Or.inl rfl) Xag) (Xab (Xbe (Xal Xcn (pv 1) Xay (Xaj _)) (Xae (Xao (i:=5) Xjf.nd rfl (Or.inl rfl) Xag)) Xan) (Xab (Xbe (Xal Xcn (pv 1) Xay (Xaj _)) (Xae (Xdz (i:=4) ["_law_number"] ["_law_shelf"] [3] Xjf.nd rfl (Or.inl rfl) rfl (Xlh (by rfl) T.n_range (Xaa (Xak Xcv (pv 2) (pv 3)) Xac)) (fun cl C s₀ H₀ ex=>(Xar (i:=0) (show ((["_law_number"]:List Str)++(["_law_shelf"]:List Str)).Nodup by decide +kernel) rfl (Or.inl rfl))) (fun cl C s₀ H₀ ex=>Xgo) (fun cl C s₀ H₀ ex=>(Xdl (Xaa (Xak Xsr (pv 0) (pv 1)) (Xaa (pv 1) (Xaa Xcz Xac))))) (Xcl rfl rfl rfl) (Xdm (n:="_law_shelf") (by decide +kernel) rfl) (fun y h=>Xbc (by decide +kernel) h))) Xan) (Xab (Xbe (Xcs (Xfg (Xah D_Z47 hr (by rfl) (Xaa (Xdi D_Z59 Xcf hr (pv 0)) (Xaa (pv 4) Xac))))) (Xae (Xai Xcz)) Xan) (Xab (Xao (i:=6) Xjf.nd rfl (Or.inl rfl) (Xah D_Z57 hr (by rfl) (Xaa (pv 0) Xac))) (Xab (Xbe (Xal Xtw (Xbx Xfh (Xbx Xbi (pv 4) Xag (fun _ _=>rfl)) Xag (fun _ _=>rfl)) (pv 5) (Xaj _)) (Xae (Xai (Xej (Xah D_Z46 hr (by rfl) (Xaa (Xbx Xfh (pv 6) Xag (fun _ _=>rfl)) Xac)) (Xfj (Xbj (XCv hr.units0) (pv 6) (Xdl (Xaa Xay (Xaa Xag Xac))) (Xaj _)))))) Xan) (Xae (Xai (Xej (Xbj (XCv hr.units0) (pv 6) (Xdl (Xaa Xay (Xaa Xag Xac))) (Xaj _)) (Xfj (Xah D_Z47 hr (by rfl) (Xaa (Xdi D_Z59 Xcf hr (pv 0)) (Xaa (pv 4) Xac)))))))))))))),?_⟩
 obtain⟨i,x,dx,a,q3,cs,n,s,rfl,S,f,g,h4,q⟩:=h
 have hx:=S.hx
 walk_at "go"
 intro t0 m0
 generalize eH:upd H t0 _=H1
 have s1:Same H H1:=by rw[←eH];exact Same.new m0
 have ht0:H1 t0=some (.tup [.int 0,.int n,.bl false]):=by rw[←eH];exact upd_same
 clear eH
 walk_at "go"
 intro d0 k0
 generalize eH:upd H1 d0 _=H2
 have s2:Same H1 H2:=by rw[←eH];exact Same.new k0
 have hd0:H2 d0=some (.lst [.ref t0]):=by rw[←eH];exact upd_same
 clear eH
 have ht2:=s2 t0 _ ht0
 have s02:=s1.trans s2
 walk_at "gs"
 refine Xgs (M:=fun σ' H'=>H'=H2∧σ'=[some (.ref x),some (.str (Xbh i)),some (.int n),some (.int s),some (.ref d0),some (.int (lstL i)),none]) ?_ (fun nx hM=>?_)
 · rintro σ1 H3 ⟨rfl,rfl⟩
   walk_at "gs"
   refine Xgs (M:=fun σ' H'=>∃(d t:Addr) (us:List V),Same H H'∧σ'=[some (.ref x),some (.str (Xbh i)),some (.int n),some (.int s),some (.ref d),some (.int (lstL i)),none]∧H' d=some (.lst us)∧Xbl H' us q3.ps∧us[0]?=some (.ref t)∧H' t=some (.tup [.int 0,.int (fstL n s i),.bl false])) ?_ (fun nx hM=>?_)
   · rintro σ2 H4 ⟨d,t,us,s4,rfl,hd,pd,hu,ht⟩
     have S4:=S.same s4
     have hx4:=S4.hx
     walk_at "go"
     refine⟨_,x,dx,a,cs,_,rfl,S4.bs,fun lp ws H5 nlp s5 hlp pa=>?_⟩
     walk_at "go"
     refine⟨lp,d,ws,us,q3.ps,rfl,hlp,s5 d _ hd,pa,pd.same s5,?_⟩
     have S5:=S4.same s5
     have hx5:=S5.hx
     walk_at "go"
     refine⟨x,dx,a,q3,cs,rfl,S5,?_⟩
     by_cases hle:lstL i≤fstL n s i
     · obtain⟨q',hA⟩:=XPw f hle
       refine .inr ⟨q',hA,fun t6 H6 k6 ht6=>?_⟩
       have hd6:=k6 d _ (fun e=>by have:=s5 d _ hd;rw[e,hx5] at this;cases this) (s5 d _ hd)
       have htt6:=k6 t _ (fun e=>by have:=s5 t _ ht;rw[e,hx5] at this;cases this) (s5 t _ ht)
       walk_at "go"
       refine Xfx (SqL.of hd6) (Xes hu) ?_
       walk_at "go"
       intro p np
       refine⟨t6,p,_,rfl,rfl,SqT.of ((Same.new np) t6 _ ht6),SqT.of upd_same,rfl,?_⟩
       walk_at "go"
       exact q _ ((Xba.of (s4.trans s5)).trans (k6.trans (Xba.of (Same.new np))))
     · refine .inl ⟨fr_no f (by omega),fun t6 H6 s6 ht6=>?_⟩
       have hd6:=s6 d _ (s5 d _ hd)
       have htt6:=s6 t _ (s5 t _ ht)
       walk_at "go"
       refine Xfx (SqL.of hd6) (Xes hu) ?_
       walk_at "go"
       intro p np
       refine⟨t6,p,_,rfl,rfl,SqT.of ((Same.new np) t6 _ ht6),SqT.of upd_same,rfl,?_⟩
       have s7:Same H5 (upd H6 p (.tup [.str "no",.int 0])):=s6.trans (Same.new np)
       have S7:=S5.same s7
       have hd7:=s7 d _ (s5 d _ hd)
       have pd7:=(pd.same s5).same s7
       have hx7:=S7.hx
       generalize upd H6 p (.tup [.str "no",.int 0])=H7 at s7 S7 hd7 pd7 hx7 ⊢
       walk_at "go"
       refine⟨_,x,dx,a,cs,_,rfl,S7.bs,fun lp2 ws2 H8 nlp2 s8 hlp2 pa2=>?_⟩
       walk_at "go"
       refine⟨lp2,d,ws2,us,q3.ps,rfl,hlp2,s8 d _ hd7,pa2,pd7.same s8,?_⟩
       walk_at "go"
       exact q _ (Xba.of (((s4.trans s5).trans s7).trans s8))
   · walk_at "go"
     refine Xbd (fun h1=>?_) (fun h1=>?_)
     · have hi:=XCm.mp h1
       subst hi
       cases f with
       | st h4'=>exact(show False from h4').elim
       | shel m1 s1' e =>
       rename_i m
       have z1:s≤s*(m:Int):=by
         have:=Int.mul_le_mul_of_nonneg_left (show (1:Int)≤(m:Int) by omega) (show 0≤s by omega)
         omega
       have z2:(m:Int)≤s*(m:Int):=by
         have:=Int.mul_le_mul_of_nonneg_right (show (1:Int)≤s by omega) (show (0:Int)≤(m:Int) by omega)
         omega
       have ed:n/s=(m:Int):=by rw[e];exact Int.mul_ediv_cancel_left _ (by omega)
       have hs30:s<1073741824:=by omega
       walk_at "go"
       rw[ed]
       refine⟨_,rfl,by omega,by omega,Xhl (fs:=[some (.int s)]) (DuW H3 s) (fun D hD=>⟨Same.new hD,upd_same,hD,Xbl.nil,Nat.le_refl _⟩) ?_ ?_⟩
       · rintro D2 k ys H5 hD hk ⟨s5,hD5,_,pd,hyl⟩ τ hτ
         rw[Int.zero_add]
         match τ,hτ with
         | [τ0],_ =>
           walk_at "go"
           refine⟨⟨[_],rfl,rfl⟩,?_⟩
           walk_at "go"
           intro t5 nt5
           obtain⟨g1,g2⟩:=Xbl.push (z:=⟨s*(k:Int),s,false⟩) pd hD5 nt5
           rw[Int.mul_comm (k:Int) s]
           exact⟨look_put nt5 hD5,small4000 (by omega),Xdu (by omega) ⟨(s5.put (s5.free nt5)).put hD,upd_same,hD,by rw[Xln];exact g2,by rw[List.length_append,List.length_singleton];omega⟩⟩
       rintro D5 ys H5 hD5 ⟨s5,hD55,_,pd,hyl⟩
       rw[Int.toNat_natCast] at pd
       have ea:=Xmx s1' m 0
       rw[show s*((0:Nat):Int)=0 by simp] at ea
       obtain⟨t5,et5,hT5⟩:=pd.2 0 ⟨s*((0:Nat):Int),s,false⟩ (by
         obtain⟨m',rfl⟩:∃m',m=m'+1:=⟨m-1,by omega⟩
         rw[Xeb]
         rfl)
       rw[show s*((0:Nat):Int)=0 by simp] at hT5
       walk_at "go"
       exact hM _ _ ⟨D5,t5,ys,s02.trans s5,rfl,hD55,by show Xbl H5 ys (alP s 0 (List.replicate m ⟨0,[]⟩));rw[ea];exact pd,et5,hT5⟩
     · walk_at "go"
       obtain⟨e1,e2⟩:=XMi f (fun e=>h1 (XCm.mpr e))
       exact hM _ _ ⟨d0,t0,_,s02,rfl,hd0,by rw[e1];exact Xbl.nil.snoc (p:=⟨0,n,false⟩) ht2,rfl,by rw[e2];exact ht2⟩
 · walk_at "go"
   refine Xbd (fun h1=>?_) (fun h1=>?_)
   · walk_at "go"
     refine hM _ _ ⟨rfl,?_⟩
     rw[XMt.mp h1]
     rfl
   · walk_at "go"
     refine hM _ _ ⟨rfl,?_⟩
     have e:lstL i=3:=by cases i <;> first | rfl | exact absurd rfl h1
     rw[e]
     rfl
inductive Er2
 | name | size
def cE2 (C1 C2:Addr):Er2→Addr
 | .name=>C1
 | .size=>C2
def nE2:Er2→Nat
 | .name=>0
 | .size=>1
def flE (e:Er2)(k:Nat):Bool:=decide (k=nE2 e)||decide (k=2)
section
variable {K:PySem.W.Frag}{mg:Str→Option Value}{Y0 Y13 Y15 Y7 Y11 Y2 Y5 Y10 Y19 Y4 Y14 Y3 Y12 Y16 Y9 Y8 Y22 Y6 Y1 Y17 Y20 Y21 Y18:Addr}{W0_:Tok}{W1_:Tok}
theorem T_ft (T:Txt K mg Y0 Y13 Y15 Y7 Y11 Y2 Y5 Y10 Y19 Y4 Y14 Y3 Y12 Y16 Y9 Y8 Y22 Y6 Y1 Y17 Y20 Y21 Y18 W0_ W1_):∀e,Fits K ((cE2 Y13 Y15) e) Y0 true:=fun e=>by
 cases e
 · exact T.zbV
 · exact T.zbW
theorem T_zx (T:Txt K mg Y0 Y13 Y15 Y7 Y11 Y2 Y5 Y10 Y19 Y4 Y14 Y3 Y12 Y16 Y9 Y8 Y22 Y6 Y1 Y17 Y20 Y21 Y18 W0_ W1_):∀e,XK0 K ((cE2 Y13 Y15) e):=fun e=>by
 cases e
 · exact T.zfT
 · exact T.zfU
theorem T_i0 (T:Txt K mg Y0 Y13 Y15 Y7 Y11 Y2 Y5 Y10 Y19 Y4 Y14 Y3 Y12 Y16 Y9 Y8 Y22 Y6 Y1 Y17 Y20 Y21 Y18 W0_ W1_):∀e,PySem.W.kitOne K (.ref ((cE2 Y13 Y15) e)) (.ref Y13)=some (flE e 0):=fun e=>by
 cases e
 · exact T.zaI
 · exact T.zaQ
theorem T_i1 (T:Txt K mg Y0 Y13 Y15 Y7 Y11 Y2 Y5 Y10 Y19 Y4 Y14 Y3 Y12 Y16 Y9 Y8 Y22 Y6 Y1 Y17 Y20 Y21 Y18 W0_ W1_):∀e,PySem.W.kitOne K (.ref ((cE2 Y13 Y15) e)) (.ref Y15)=some (flE e 1):=fun e=>by
 cases e
 · exact T.zaJ
 · exact T.zaR
theorem T_i2 (T:Txt K mg Y0 Y13 Y15 Y7 Y11 Y2 Y5 Y10 Y19 Y4 Y14 Y3 Y12 Y16 Y9 Y8 Y22 Y6 Y1 Y17 Y20 Y21 Y18 W0_ W1_):∀e,PySem.W.kitOne K (.ref ((cE2 Y13 Y15) e)) (.type "ValueError")=some (flE e 2):=fun e=>by
 cases e
 · exact T.zan
 · exact T.zao
theorem T_i3 (T:Txt K mg Y0 Y13 Y15 Y7 Y11 Y2 Y5 Y10 Y19 Y4 Y14 Y3 Y12 Y16 Y9 Y8 Y22 Y6 Y1 Y17 Y20 Y21 Y18 W0_ W1_):∀e,PySem.W.kitOne K (.ref ((cE2 Y13 Y15) e)) (.ref Y19)=some (flE e 3):=fun e=>by
 cases e
 · exact T.zbf
 · exact T.zbg
theorem T_i4 (T:Txt K mg Y0 Y13 Y15 Y7 Y11 Y2 Y5 Y10 Y19 Y4 Y14 Y3 Y12 Y16 Y9 Y8 Y22 Y6 Y1 Y17 Y20 Y21 Y18 W0_ W1_):∀e,PySem.W.kitOne K (.ref ((cE2 Y13 Y15) e)) (.ref Y4)=some (flE e 4):=fun e=>by
 cases e
 · exact T.zax
 · exact T.zaA
theorem T_i5 (T:Txt K mg Y0 Y13 Y15 Y7 Y11 Y2 Y5 Y10 Y19 Y4 Y14 Y3 Y12 Y16 Y9 Y8 Y22 Y6 Y1 Y17 Y20 Y21 Y18 W0_ W1_):∀e,PySem.W.kitOne K (.ref ((cE2 Y13 Y15) e)) (.ref Y10)=some (flE e 5):=fun e=>by
 cases e
 · exact T.zaK
 · exact T.zaS
theorem T_i6 (T:Txt K mg Y0 Y13 Y15 Y7 Y11 Y2 Y5 Y10 Y19 Y4 Y14 Y3 Y12 Y16 Y9 Y8 Y22 Y6 Y1 Y17 Y20 Y21 Y18 W0_ W1_):∀e,PySem.W.kitOne K (.ref ((cE2 Y13 Y15) e)) (.ref Y11)=some (flE e 6):=fun e=>by
 cases e
 · exact T.zaL
 · exact T.zaT
theorem T_i7 (T:Txt K mg Y0 Y13 Y15 Y7 Y11 Y2 Y5 Y10 Y19 Y4 Y14 Y3 Y12 Y16 Y9 Y8 Y22 Y6 Y1 Y17 Y20 Y21 Y18 W0_ W1_):∀e,PySem.W.kitOne K (.ref ((cE2 Y13 Y15) e)) (.ref Y2)=some (flE e 7):=fun e=>by
 cases e
 · exact T.zar
 · exact T.zas
theorem T_i8 (T:Txt K mg Y0 Y13 Y15 Y7 Y11 Y2 Y5 Y10 Y19 Y4 Y14 Y3 Y12 Y16 Y9 Y8 Y22 Y6 Y1 Y17 Y20 Y21 Y18 W0_ W1_):∀e,PySem.W.kitOne K (.ref ((cE2 Y13 Y15) e)) (.ref Y5)=some (flE e 8):=fun e=>by
 cases e
 · exact T.zay
 · exact T.zaB
theorem T_i9 (T:Txt K mg Y0 Y13 Y15 Y7 Y11 Y2 Y5 Y10 Y19 Y4 Y14 Y3 Y12 Y16 Y9 Y8 Y22 Y6 Y1 Y17 Y20 Y21 Y18 W0_ W1_):∀e,PySem.W.kitOne K (.ref ((cE2 Y13 Y15) e)) (.ref Y14)=some (flE e 9):=fun e=>by
 cases e
 · exact T.zaM
 · exact T.zaU
theorem T_i10 (T:Txt K mg Y0 Y13 Y15 Y7 Y11 Y2 Y5 Y10 Y19 Y4 Y14 Y3 Y12 Y16 Y9 Y8 Y22 Y6 Y1 Y17 Y20 Y21 Y18 W0_ W1_):∀e,PySem.W.kitOne K (.ref ((cE2 Y13 Y15) e)) (.ref Y7)=some (flE e 10):=fun e=>by
 cases e
 · exact T.zaN
 · exact T.zaV
theorem T_i11 (T:Txt K mg Y0 Y13 Y15 Y7 Y11 Y2 Y5 Y10 Y19 Y4 Y14 Y3 Y12 Y16 Y9 Y8 Y22 Y6 Y1 Y17 Y20 Y21 Y18 W0_ W1_):∀e,PySem.W.kitOne K (.ref ((cE2 Y13 Y15) e)) (.ref Y3)=some (flE e 11):=fun e=>by
 cases e
 · exact T.zaz
 · exact T.zaC
theorem T_i12 (T:Txt K mg Y0 Y13 Y15 Y7 Y11 Y2 Y5 Y10 Y19 Y4 Y14 Y3 Y12 Y16 Y9 Y8 Y22 Y6 Y1 Y17 Y20 Y21 Y18 W0_ W1_):∀e,PySem.W.kitOne K (.ref ((cE2 Y13 Y15) e)) (.ref Y12)=some (flE e 12):=fun e=>by
 cases e
 · exact T.zaO
 · exact T.zaW
theorem T_i13 (T:Txt K mg Y0 Y13 Y15 Y7 Y11 Y2 Y5 Y10 Y19 Y4 Y14 Y3 Y12 Y16 Y9 Y8 Y22 Y6 Y1 Y17 Y20 Y21 Y18 W0_ W1_):∀e,PySem.W.kitOne K (.ref ((cE2 Y13 Y15) e)) (.ref Y16)=some (flE e 13):=fun e=>by
 cases e
 · exact T.zaP
 · exact T.zaX
end
theorem Xij:bootBuiltins "ValueError"=some (.type "ValueError"):=by decide +kernel
theorem XRa {K:PySem.W.Frag}{H:Hp}{x C:Addr}{n:String}{od:Option Addr}{b:Bool}{P:Bool→Prop}(h:H x=some (ExcO x C od))(z:XK0 K C)(e:PySem.W.kitOne K (.ref C) (.type n)=some b)(q:P b) :
   ∃x' C0 od' v b',[V.ref x,V.ty n]=[V.ref x',v]∧H x'=some (ExcO x' C0 od')∧XK0 K C0∧clsV v≠.none∧PySem.W.kitOne K (.ref C0) (clsV v)=some b'∧P b':=⟨x,C,od,.ty n,b,rfl,h,z,(fun z=>nomatch z),e,q⟩
def RfE (wd:Str)(n s:Int):Er2→Prop
 | .name=>∀i,wd≠Xbh i
 | .size=>∃i,wd=Xbh i∧¬gdF n s i
theorem Xjo {i j:W7}(h:Xbh i=Xbh j):i=j:=by
 cases i <;> cases j <;> first | rfl | exact absurd h (by decide +kernel)
theorem kof_e {C:W7→Addr}{CE:Er2→Addr}{wd:Str}{n s:Int}{H:Hp}{Q:VK}{E:XK}(h4:n≤400)(h40:s≤4000)(e:Er2)(he:RfE wd n s e)(qE:∀H',Same H H'→E (.ref (CE e)) none H'):Xxi C (CE .name) (CE .size) [.str wd,.int n,.int s] H Q E:=by
 refine⟨wd,n,s,rfl,h4,h40,?_⟩
 cases e with
 | name=>exact⟨fun _=>qE,fun i e=>absurd e (he i),fun i e=>absurd e (he i)⟩
 | size =>
   obtain⟨j,ej,hj⟩:=he
   refine⟨fun h=>absurd ej (h j),fun _ _ _=>qE,fun i e g=>?_⟩
   rw[ej] at e
   rw[←Xjo e] at g
   exact absurd g hj
theorem kof_g {C:W7→Addr}{CE:Er2→Addr}{wd:Str}{n s:Int}{H:Hp}{Q:VK}{E:XK}{i:W7}(h4:n≤400)(h40:s≤4000)(he:wd=Xbh i)(g:gdF n s i)(q:∀(x dx a:Addr) (q:St7) (cs:List Int) (H':Hp),H x=none→Same H H'→Fr7 n s i q→KS C x dx a q cs H'→Q (.ref x) H'):Xxi C (CE .name) (CE .size) [.str wd,.int n,.int s] H Q E:=by
 refine⟨wd,n,s,rfl,h4,h40,fun h=>absurd he (h i),fun j ej hj=>?_,fun j ej _ x dx a q' cs H' nx s' f S=>?_⟩
 · rw[he] at ej
   rw[←Xjo ej] at hj
   exact absurd g hj
 · rw[he] at ej
   rw[←Xjo ej] at f
   exact q x dx a q' cs H' nx s' f S
def XCq (C:W7→Addr):Sp:=fun vs H Q _=>∃(wd:Str) (n s:Int) (br:Bool),vs=[.str wd,.int n,.int s,.bl br]∧n≤400∧s≤4000 ∧
 ((∃e,RfE wd n (if br=true then 8 else s) e∧∀(t l:Addr) (H':Hp),Same H H'→H' t=some (.tup [.non,.ref l])→H' l=some (.lst (((List.range 14).map (flE e)).map V.bl))→Q (.ref t) H') ∨
  ∃i,wd=Xbh i∧gdF n (if br=true then 8 else s) i∧∀(x dx a:Addr) (q:St7) (cs:List Int) (t l:Addr) (H':Hp),H x=none→Same H H'→Fr7 n (if br=true then 8 else s) i q→KS C x dx a q cs H'→H' t=some (.tup [.ref x,.ref l])→H' l=some (.lst [])→Q (.ref t) H')
seal L2.PSs L2.PS L2.PE L2.PA in
include T in
theorem d_Z61 (S:Src K mg "_law_made" Xrr)(D_Z27:DefD P w K mg base "keeper_of" 8 ["word","size","shelf"] [.int 8] (Xxi (cF Y17 Y20 Y21 Y18 Y8 Y6 Y22) Y13 Y15)):Defx P w K mg base "_law_made" 9 ["_law_word","_law_size","_law_shelf","_law_bare"] (XCq (cF Y17 Y20 Y21 Y18 Y8 Y6 Y22)):=by
 refine S.okx Xev XLq (fun vs H Q E h=>by revert h;walk_at "len") (fun f cdv A outer s H vs Q E hr h=>?_)
 refine⟨_,PSs.nox (Xab (Xao (i:=4) Xev.nd rfl (Or.inl rfl) Xge) (Xab (Xao (i:=5) Xev.nd rfl (Or.inl rfl) (Xby Xac)) (Xab (XFa (XTg (Xck (pv 3) (fun _=>rfl)) (Xsh (i:=4) Xev.nd rfl (Or.inl rfl) (XEi D_Z27 hr (by rfl) (Xaa (pv 0) (Xaa (pv 1) Xac)))) (Xsh (i:=4) Xev.nd rfl (Or.inl rfl) (XHe D_Z27.all hr (by rfl) (Xaa (pv 0) (Xaa (pv 1) (Xaa (pv 2) Xac)))))) ⟨rfl,rfl⟩ (Xpn (i:=6) (by rfl) T.zdr Xev.nd rfl rfl (fun x=>(Xab (Xao (i:=5) Xev.nd rfl (Or.inl rfl) (Xby (Xaa (Xam (Xbn PySem.F.attr_ValueError.ga) (by rfl) T.n_isinstance PyProof.Rows.boot_isinstance (Xaa (pv 6) (Xaa (Xbb (v:=.ref Y13) (by rfl) T.zfK rfl) Xac))) (Xaa (Xam (Xbn PySem.F.attr_ValueError.ga) (by rfl) T.n_isinstance PyProof.Rows.boot_isinstance (Xaa (pv 6) (Xaa (Xbb (v:=.ref Y15) (by rfl) T.zfL rfl) Xac))) (Xaa (Xam (Xbn PySem.F.attr_ValueError.ga) (by rfl) T.n_isinstance PyProof.Rows.boot_isinstance (Xaa (pv 6) (Xaa (Xgj (v:=.ty "ValueError") (by rfl) T.zcT Xij rfl) Xac))) Xac))))) (Xab (Xao (i:=5) Xev.nd rfl (Or.inl rfl) (Xak Xft (pv 5) (Xby (Xaa (Xam (Xbn PySem.F.attr_ValueError.ga) (by rfl) T.n_isinstance PyProof.Rows.boot_isinstance (Xaa (pv 6) (Xaa (Xbb (v:=.ref Y19) (by rfl) T.zgD rfl) Xac))) (Xaa (Xam (Xbn PySem.F.attr_ValueError.ga) (by rfl) T.n_isinstance PyProof.Rows.boot_isinstance (Xaa (pv 6) (Xaa (Xbb (v:=.ref Y4) (by rfl) T.zeb rfl) Xac))) (Xaa (Xam (Xbn PySem.F.attr_ValueError.ga) (by rfl) T.n_isinstance PyProof.Rows.boot_isinstance (Xaa (pv 6) (Xaa (Xbb (v:=.ref Y10) (by rfl) T.zfO rfl) Xac))) (Xaa (Xam (Xbn PySem.F.attr_ValueError.ga) (by rfl) T.n_isinstance PyProof.Rows.boot_isinstance (Xaa (pv 6) (Xaa (Xbb (v:=.ref Y11) (by rfl) T.zfN rfl) Xac))) Xac))))))) (Xab (Xao (i:=5) Xev.nd rfl (Or.inl rfl) (Xak Xft (pv 5) (Xby (Xaa (Xam (Xbn PySem.F.attr_ValueError.ga) (by rfl) T.n_isinstance PyProof.Rows.boot_isinstance (Xaa (pv 6) (Xaa (Xbb (v:=.ref Y2) (by rfl) T.zdw rfl) Xac))) (Xaa (Xam (Xbn PySem.F.attr_ValueError.ga) (by rfl) T.n_isinstance PyProof.Rows.boot_isinstance (Xaa (pv 6) (Xaa (Xbb (v:=.ref Y5) (by rfl) T.zea rfl) Xac))) (Xaa (Xam (Xbn PySem.F.attr_ValueError.ga) (by rfl) T.n_isinstance PyProof.Rows.boot_isinstance (Xaa (pv 6) (Xaa (Xbb (v:=.ref Y14) (by rfl) T.zdx rfl) Xac))) Xac)))))) (Xab (Xao (i:=5) Xev.nd rfl (Or.inl rfl) (Xak Xft (pv 5) (Xby (Xaa (Xam (Xbn PySem.F.attr_ValueError.ga) (by rfl) T.n_isinstance PyProof.Rows.boot_isinstance (Xaa (pv 6) (Xaa (Xbb (v:=.ref Y7) (by rfl) T.zfM rfl) Xac))) (Xaa (Xam (Xbn PySem.F.attr_ValueError.ga) (by rfl) T.n_isinstance PyProof.Rows.boot_isinstance (Xaa (pv 6) (Xaa (Xbb (v:=.ref Y3) (by rfl) T.zec rfl) Xac))) (Xaa (Xam (Xbn PySem.F.attr_ValueError.ga) (by rfl) T.n_isinstance PyProof.Rows.boot_isinstance (Xaa (pv 6) (Xaa (Xbb (v:=.ref Y12) (by rfl) T.zfP rfl) Xac))) Xac)))))) (Xae (Xao (i:=5) Xev.nd rfl (Or.inl rfl) (Xak Xft (pv 5) (Xby (Xaa (Xam (Xbn PySem.F.attr_ValueError.ga) (by rfl) T.n_isinstance PyProof.Rows.boot_isinstance (Xaa (pv 6) (Xaa (Xbb (v:=.ref Y16) (by rfl) T.zfQ rfl) Xac))) Xac)))))))))) XCy)) (Xae (Xai (Xdl (Xaa (pv 4) (Xaa (pv 5) Xac)))))))),?_⟩
 obtain⟨wd,n,s,br,rfl,h4,h40,hq⟩:=h
 have h8:(8:Int)≤4000:=by decide
 walk_at "go"
 intro p0 n0
 generalize eH:upd H p0 _=H0
 have s0:Same H H0:=by rw[←eH];exact Same.new n0
 have h0:H0 p0=some (.lst []):=by rw[←eH];exact upd_same
 clear eH
 walk_at "go"
 refine Xfv (fun hb=>?_) (fun hb=>?_)
 all_goals
   rw[hb] at hq
   walk_at "go"
   try unfold Xpd
   walk_at "go"
   rcases hq with ⟨e,he,q⟩ | ⟨i,hw,hg,q⟩
   · refine kof_e (CE:=cE2 Y13 Y15) h4 (by first | exact h40 | exact h8) e he (fun H1 s1=>⟨_,rfl,fun y hy=>Or.inl ⟨T_ft T e,?_⟩⟩)
     have s2:=s1.put (o:=ExcO y ((cE2 Y13 Y15) e) none) (s1.free hy)
     have hy2:upd H1 y (ExcO y ((cE2 Y13 Y15) e) none) y=some (ExcO y ((cE2 Y13 Y15) e) none):=upd_same
     generalize upd H1 y (ExcO y ((cE2 Y13 Y15) e) none)=H2 at s2 hy2 ⊢
     have x1:=T_zx T e
     have i0:=T_i0 T e
     have i1:=T_i1 T e
     have i2:=T_i2 T e
     have i3:=T_i3 T e
     have i4:=T_i4 T e
     have i5:=T_i5 T e
     have i6:=T_i6 T e
     have i7:=T_i7 T e
     have i8:=T_i8 T e
     have i9:=T_i9 T e
     have i10:=T_i10 T e
     have i11:=T_i11 T e
     have i12:=T_i12 T e
     have i13:=T_i13 T e
     walk_at "go"
     refine XRa (C:=(cE2 Y13 Y15) e) (od:=none) hy2 x1 i2 ?_
     walk_at "go"
     intro p1 m1
     generalize eH:upd H2 p1 _=H3
     have s3:Same H2 H3:=by rw[←eH];exact Same.new m1
     have hp1:H3 p1=some (.lst [.bl (flE e 0),.bl (flE e 1),.bl (flE e 2)]):=by rw[←eH];exact upd_same
     clear eH
     have hy1:=s3 y _ hy2
     walk_at "go"
     refine cat2 hp1 hy1 (by simp) (fun p3 H4 s4 hy3 hp3=>?_)
     simp only [List.cons_append,List.nil_append] at hp3
     walk_at "go"
     refine cat2 hp3 hy3 (by simp) (fun p5 H5 s5 hy5 hp5=>?_)
     simp only [List.cons_append,List.nil_append] at hp5
     walk_at "go"
     refine cat2 hp5 hy5 (by simp) (fun p7 H6 s6 hy7 hp7=>?_)
     simp only [List.cons_append,List.nil_append] at hp7
     walk_at "go"
     refine cat2 hp7 hy7 (by simp) (fun p9 H7 s7 hy9 hp9=>?_)
     simp only [List.cons_append,List.nil_append] at hp9
     walk_at "go"
     intro t nt
     have sA:=((((s0.trans s2).trans s3).trans s4).trans s5).trans (s6.trans s7)
     exact q t p9 _ (sA.trans (Same.new nt)) upd_same ((Same.new nt) p9 _ hp9)
   · refine kof_g (CE:=cE2 Y13 Y15) h4 (by first | exact h40 | exact h8) hw hg (fun x dx a q' cs H1 nx s1 f S=>?_)
     have h1:=s1 p0 _ h0
     walk_at "go"
     intro t nt
     exact q x dx a q' cs t p0 _ (s0.free nx) ((s0.trans s1).trans (Same.new nt)) f (S.same (Same.new nt)) upd_same ((Same.new nt) p0 _ h1)
/-! ### texts: put together,made great,cut,of bounded length -/
def rCatS:V→V→Hp→VK→Prop:=fun x y H Q=>∃i j:Str,x = .str i∧y = .str j∧i.length+j.length≤sizeLine∧Q (.str (i++j)) H
theorem Xen {X:Cx}:OpR X (binaryOp .Add) rCatS:=by
 intro pins s σ H x y v u Q I rx ry h
 obtain⟨i,j,rfl,rfl,hz,q⟩:=h
 obtain⟨t,rfl⟩:=rx
 obtain⟨t',rfl⟩:=ry
 exact SB.add (fun t'' k=>⟨.str _,H,I.tok k,⟨_,rfl⟩,q⟩) hz
def rUp:V→List V→Hp→VK→Prop:=fun x xs H Q=>∃i:Str,x = .str i∧xs=[]∧Builtin.Str.tooLong (Txt.upper i).length=false∧Q (.str (Txt.upper i)) H
theorem Xnt {X:Cx}:MtM X "str.upper" rUp:=by
 intro pins s σ H x xs v us Q I rx rs h
 obtain⟨i,rfl,rfl,hf,q⟩:=h
 obtain⟨t,rfl⟩:=rx
 have e:=rs.zero
 subst e
 exact PySem.W.KXw.upper rfl hf fun t' k=>⟨.str _,H,I.tok k,⟨_,rfl⟩,q⟩
def rSlB:V→Option Int→Option Int→Hp→VK→Prop:=fun x lo hi H Q=>∃z,x = .str z∧z.length≤sizeLine∧∀y:Str,y.length≤z.length→Q (.str y) H
theorem Xew {X:Cx}:SlR X rSlB:=by
 intro pins s σ H x v vl vu lo hi sl Q I rx hs pl pu h
 obtain⟨z,rfl,hz,q⟩:=h
 obtain⟨t,rfl⟩:=rx
 refine⟨"str",_,PySem.F.slot_str_getitem.lookup,typeIs_str _ _ _,?_⟩
 have key:∀(l u:Option (Int×Tok)),s.heap.IsSlice sl l u none→wpAny (model X.prog X.w) X.A (getItem (.str z t) (.ref sl)) (EP X pins σ Q) X.xe s:=fun l u hsl =>
   wpAny_getItem_str_slice (l:=l) (u:=u) (st:=none) hsl rfl (post_val_or_str ⟨Nat.le_trans (Txt.slice_le z _ _) hz,fun t' k=>⟨.str _,H,I.tok k,⟨_,rfl⟩,q _ (Txt.slice_le z _ _)⟩⟩)
 obtain⟨o,e,c,d⟩:=hs
 cases pl with
 | none =>
   cases pu with
   | none=>exact key none none ⟨o,e,c,d⟩
   | int j uj=>exact key none (some (_,_)) ⟨o,e,c,d⟩
 | int i ui =>
   cases pu with
   | none=>exact key (some (_,_)) none ⟨o,e,c,d⟩
   | int j uj=>exact key (some (_,_)) (some (_,_)) ⟨o,e,c,d⟩
theorem XJo (a b:Str):(a++b).length=a.length+b.length:=by
 show (a.cps++b.cps).size=_
 rw[Array.size_append]
 rfl
theorem Xgq {a b:Str}{H:Hp}{Q:VK}(h:a.length+b.length≤1000)(q:∀y:Str,y.length=a.length+b.length→Q (.str y) H):rCatS (.str a) (.str b) H Q:=⟨a,b,rfl,rfl,Nat.le_trans h (by decide),q _ (XJo a b)⟩
theorem Xlq {a:Str}{lo hi:Option Int}{H:Hp}{Q:VK}(h:a.length≤1000)(q:∀y:Str,y.length≤a.length→Q (.str y) H):rSlB (.str a) lo hi H Q:=⟨a,rfl,Nat.le_trans h (by decide),q⟩
theorem r_upB {a:Str}{H:Hp}{Q:VK}(h:a.length≤1000)(q:∀y:Str,y.length≤3*a.length→Q (.str y) H):rUp (.str a) [] H Q:=by
 have hl:=len_upper a
 refine⟨a,rfl,rfl,decide_eq_false (fun g=>?_),q _ hl⟩
 have e:sizeLine=16777216:=by decide
 omega
theorem XQl {a:Str}{i:Int}{H:Hp}{Q:VK}(h0:0≤i)(h1:i<a.length)(hl:a.length≤1000)(q:∀y:Str,y.length=1→Q (.str y) H):rIxS (.str a) (.int i) H Q:=by
 have hk:i.toNat<a.cps.toList.length:=by
   rw[Array.length_toList]
   show i.toNat<a.length
   omega
 have:=Xes (xs:=a.cps.toList) (List.getElem?_eq_getElem hk)
 rw[Int.toNat_of_nonneg h0] at this
 exact⟨a,i,_,rfl,rfl,Nat.le_trans hl (by decide),this,q _ rfl⟩
theorem XRl {K:PySem.W.Frag}{a:Str}{H:Hp}{P:Nat→Prop}(h:a.length≤1000)(q:P a.length):∃x n,[V.str a]=[x]∧LenV K x H n∧P n:=⟨_,_,rfl,⟨Nat.le_trans h (by decide),rfl⟩,q⟩
theorem ix4 {a b c d:Str}{n:Int}(h0:0≤n)(h4:n<4):∃z,atI [V.str a,.str b,.str c,.str d] n=some (.str z)∧(z=a∨z=b∨z=c∨z=d):=by
 rcases(show n=0∨n=1∨n=2∨n=3 by omega) with rfl | rfl | rfl | rfl
 · exact⟨a,rfl,.inl rfl⟩
 · exact⟨b,rfl,.inr (.inl rfl)⟩
 · exact⟨c,rfl,.inr (.inr (.inl rfl))⟩
 · exact⟨d,rfl,.inr (.inr (.inr rfl))⟩
def Xnj:Sp:=fun vs H Q _=>∃(wd:Str) (c:Int),vs=[.str wd,.int c]∧1≤wd.length∧wd.length≤100∧0≤c∧∀(y:Str) (H':Hp),Same H H'→Q (.str y) H'
seal L2.PSs L2.PS L2.PE L2.PA in
include T in
theorem d_Z35 (S:Src K mg "_law_word_by" Xpq) :Defx P w K mg base "_law_word_by" 1 ["_law_word","_law_cell"] (Xnj):=by
 refine S.okx Xnz XNo (fun vs H Q E h=>by revert h;walk_at "len") (fun f cdv A outer s H vs Q E hr h=>?_)
 refine⟨_,PSs.nox (Xab (Xao (i:=2) Xnz.nd rfl (Or.inl rfl) Xay) (Xab (Xao (i:=3) Xnz.nd rfl (Or.inl rfl) (Xak Xbz (Xak Xcv (pv 1) Xag) (Xam Xyz (by rfl) T.n_len PySem.boot_len (Xaa (pv 0) Xac)))) (Xab (Xao (i:=4) Xnz.nd rfl (Or.inl rfl) (Xbx XCk (pv 2) (Xak Xbz (Xak Xcv (pv 1) Xag) Xag) (fun _ _=>rfl))) (Xab (Xbe (Xal Xcn (Xak Xbz (pv 1) Xag) Xag (Xaj _)) (Xae (Xai (Xak Xen (Xdk Xew (pv 0) Xep (Xex (pv 3))) (Xdk Xew (pv 0) (Xex (Xak Xbq (pv 3) Xag)) Xep)))) Xan) (Xab (Xbe (Xal Xcn (Xak Xbz (pv 1) Xag) Xag (Xaj _)) (Xae (Xai (Xak Xen (Xak Xen (Xdk Xew (pv 0) Xep (Xex (pv 3))) (pv 4)) (Xdk Xew (pv 0) (Xex (Xak Xbq (pv 3) Xag)) Xep)))) Xan) (Xab (Xbe (Xal Xcn (Xak Xbz (pv 1) Xag) Xag (Xaj _)) (Xae (Xai (Xak Xen (Xak Xen (Xdk Xew (pv 0) Xep (Xex (pv 3))) (Xbx Xbi (Xby (Xaa (pv 4) (Xaa Xay (Xaa Xay (Xaa Xay Xac))))) (Xak Xbz (Xak Xcv (pv 1) Xag) Xag) (fun _ _=>rfl))) (Xdk Xew (pv 0) (Xex (pv 3)) Xep)))) Xan) (Xab (Xbe (Xal Xcn (Xak Xbz (pv 1) Xag) Xag (Xaj _)) (Xae (Xai (Xbx Xbi (Xby (Xaa (Xne PySem.F.plainAttrs_str PySem.F.slot_str_upper PySem.F.type_str_upper Xnt (pv 0)) (Xaa (Xak Xen (Xak Xen (Xdk Xew (pv 0) Xep (Xex (pv 3))) (Xne PySem.F.plainAttrs_str PySem.F.slot_str_upper PySem.F.type_str_upper Xnt (Xbx XCk (pv 0) (pv 3) (fun _ _=>rfl)))) (Xdk Xew (pv 0) (Xex (Xak Xbq (pv 3) Xag)) Xep)) (Xaa (Xak Xen (pv 0) Xay) (Xaa Xay Xac))))) (Xak Xbz (Xak Xcv (pv 1) Xag) Xag) (fun _ _=>rfl)))) Xan) (Xae (Xai (pv 0)))))))))),?_⟩
 obtain⟨wd,c,rfl,w1,w2,c0,q⟩:=h
 have m0:=Int.emod_nonneg (c/12) (show (wd.length:Int)≠0 by omega)
 have m1:=Int.emod_lt_of_pos (c/12) (show (0:Int)<wd.length by omega)
 walk_at "go"
 refine XRl (by omega) ?_
 walk_at "go"
 refine XQl (by omega) (by show c/144%26<26;omega) (by decide) (fun y0 l0=>?_)
 walk_at "go"
 refine Xbd (fun h1=>?_) (fun h1=>?_)
 · walk_at "go"
   refine Xlq (by omega) (fun y1 l1=>?_)
   walk_at "go"
   refine Xlq (by omega) (fun y2 l2=>?_)
   walk_at "go"
   refine Xgq (by omega) (fun y3 l3=>?_)
   walk_at "go"
   exact q _ _ (Same.refl _)
 walk_at "go"
 refine Xbd (fun h2=>?_) (fun h2=>?_)
 · walk_at "go"
   refine Xlq (by omega) (fun y1 l1=>?_)
   walk_at "go"
   refine Xgq (by omega) (fun y2 l2=>?_)
   walk_at "go"
   refine Xlq (by omega) (fun y3 l3=>?_)
   walk_at "go"
   refine Xgq (by omega) (fun y4 l4=>?_)
   walk_at "go"
   exact q _ _ (Same.refl _)
 walk_at "go"
 refine Xbd (fun h3=>?_) (fun h3=>?_)
 · walk_at "go"
   refine Xlq (by omega) (fun y1 l1=>?_)
   walk_at "go"
   intro p hp
   walk_at "go"
   obtain⟨z,ez,hz⟩:=ix4 (a:=y0) (b:=" ") (c:="_") (d:="s") (n:=c/3744%4) (by omega) (by omega)
   have lz:z.length≤1:=by
     rcases hz with rfl | rfl | rfl | rfl
     · omega
     · decide
     · decide
     · decide
   refine Xfx (SqL.of upd_same) ez ?_
   walk_at "go"
   refine Xgq (by omega) (fun y2 l2=>?_)
   walk_at "go"
   refine Xlq (by omega) (fun y3 l3=>?_)
   walk_at "go"
   refine Xgq (by omega) (fun y4 l4=>?_)
   walk_at "go"
   exact q _ _ (Same.new hp)
 walk_at "go"
 refine Xbd (fun h4=>?_) (fun h4=>?_)
 · walk_at "go"
   refine⟨rfl,r_upB (by omega) (fun y1 l1=>?_)⟩
   walk_at "go"
   refine Xlq (by omega) (fun y2 l2=>?_)
   walk_at "go"
   refine XQl (by omega) (by omega) (by omega) (fun y3 l3=>?_)
   walk_at "go"
   refine⟨rfl,r_upB (by omega) (fun y4 l4=>?_)⟩
   walk_at "go"
   refine Xgq (by omega) (fun y5 l5=>?_)
   walk_at "go"
   refine Xlq (by omega) (fun y6 l6=>?_)
   walk_at "go"
   refine Xgq (by omega) (fun y7 l7=>?_)
   walk_at "go"
   refine Xgq (Nat.add_le_add w2 (show (("s":Str)).length≤900 by decide)) (fun y8 l8=>?_)
   walk_at "go"
   intro p hp
   walk_at "go"
   obtain⟨z,ez,hz⟩:=ix4 (a:=y1) (b:=y7) (c:=y8) (d:="") (n:=c/144%4) (by omega) (by omega)
   refine Xfx (SqL.of upd_same) ez ?_
   walk_at "go"
   exact q _ _ (Same.new hp)
 walk_at "go"
 exact q _ _ (Same.refl _)
section
variable {X:Cx}{pins:List (Addr×Obj)}{σ:L2.St}{H:Hp}{s:Shared}{A:Around}
/-! ### lists of flat values compared: the same,or of other lengths -/
theorem Xzc (n:Nat):(List.range n).all (fun _=>true)=true:=by simp
theorem Xph {a b:Addr}{xs:List V}(I:Inv X pins σ H s)(ha:H a=some (.lst xs))(hb:H b=some (.lst xs))(hf:xs.all Xcr=true) :
   ∃its its2:List Value,s.heap.IsList a its.toArray∧s.heap.IsList b its2.toArray∧its.length=xs.length∧its2.length=xs.length ∧
     ∀j (h1:j<its.toArray.size) (h2:j<its2.toArray.size),SeqAt.EqAt A s its.toArray[j] its2.toArray[j] true:=by
 obtain⟨its,r1,p1,_⟩:=I.list (SqL.of ha)
 obtain⟨its2,r2,p2,_⟩:=I.list (SqL.of hb)
 have l1:=r1.length
 have l2:=r2.length
 refine⟨its,its2,p1.isList,p2.isList,l1.symm,l2.symm,fun j h1 h2=>?_⟩
 rw[List.size_toArray] at h1 h2
 have hj:j<xs.length:=by omega
 obtain⟨u1,e1,q1⟩:=r1.get (i:=j) (x:=xs[j]) (by simp [hj])
 obtain⟨u2,e2,q2⟩:=r2.get (i:=j) (x:=xs[j]) (by simp [hj])
 obtain⟨g1,f1⟩:=List.getElem?_eq_some_iff.mp e1
 obtain⟨g2,f2⟩:=List.getElem?_eq_some_iff.mp e2
 have fl:Xcr xs[j]=true:=List.all_eq_true.mp hf _ (List.getElem_mem hj)
 have z:=Xod (A:=A) (s:=s) q1 q2 fl fl
 rw[Xko fl,←f1,←f2] at z
 simpa using z
theorem Xvr {a b:Addr}{xs:List V}(hu:A.units<cLine)(I:Inv X pins σ H s)(ha:H a=some (.lst xs))(hb:H b=some (.lst xs))(hf:xs.all Xcr=true):SeqAt.RcAt A s (.ref a) (.ref b) true:=by
 obtain⟨its,its2,p1,p2,l1,l2,he⟩:=Xph (A:=A.in1) I ha hb hf
 have key:=SeqAt.RcAt.lists (e:=fun _=>true) p1 p2 (by rw[List.size_toArray,List.size_toArray];omega) hu he
 rw[Xzc] at key
 exact key
end
section
variable {X:Cx}
theorem Xjt (hu:X.A.units+64<cLine):OpR X (compareOp .Eq) (fun x y H Q=>∃a b xs,x = .ref a∧y = .ref b∧H a=some (.lst xs)∧H b=some (.lst xs)∧xs.all Xcr=true∧Q (.bl true) H):=by
 intro pins s σ H x y v u Q I rx ry h
 obtain⟨a,b,xs,rfl,rfl,ha,hb,hf,q⟩:=h
 cases rx
 cases ry
 exact Xvr (A:=X.A) (by omega) I ha hb hf _ _ _ _ ⟨.bl true,H,I,rfl,q⟩
end
theorem XOp {X:Cx}{K:PySem.W.Frag}{o e:Expr}{es:List Expr}{to:TE}{t:TA}{name:Str}{apos cpos:Pos}{T id:String}{r:V→List V→Hp→VK→Prop}(hK:X.K=K)(pa:PlainAttrs T)(slot:Slot T name id)(hty:typeOf (.builtin id)=pure (.type "method_descriptor"))(hm:MtR X id r)(ho:PE X o to)(ha:PA X (e::es) t)
   (hbase:attributeBase o name X.env (eval o X.env)=eval o X.env:=by rfl)
   (hfew:((backTo cpos (starEach (e::es) X.env)).all (fun x=>!x.1)&&(backToKw cpos (keywordEach [] X.env)).all (fun x=>x.1.isSome)
     && decide ((e::es).length+([]:List Keyword).length+(if ([]:List Keyword).isEmpty then 0 else 1)<30))=true:=by rfl)
   (hline:(apos.endLine==cpos.line)=true:=by rfl) (hs:starEach (e::es) X.env=(false,eval e X.env)::starEach es X.env:=by rfl) (hplain:(backTo cpos (starEach es X.env)).any (·.1)=false:=by rfl) :
   PE X (.Call (.Attribute o name apos) (e::es) [] cpos) (tBM K T r to t):=hK▸Xwl pa slot hty hm ho ha hbase hfew hline hs hplain
def wsV:List V:=[.str "first",.str "best",.str "next",.str "likes",.str "halves",.str "shelves",.str "row"]
theorem ws_at {n:Int}(h0:0≤n)(h7:n<7):∃i,atI wsV n=some (.str (Xbh i)):=by
 rcases(show n=0∨n=1∨n=2∨n=3∨n=4∨n=5∨n=6 by omega) with rfl | rfl | rfl | rfl | rfl | rfl | rfl
 · exact⟨.first,rfl⟩
 · exact⟨.best,rfl⟩
 · exact⟨.next,rfl⟩
 · exact⟨.likes,rfl⟩
 · exact⟨.half,rfl⟩
 · exact⟨.shel,rfl⟩
 · exact⟨.row,rfl⟩
theorem XLv (i:W7):1≤(Xbh i).length∧(Xbh i).length≤100:=by cases i <;> decide
theorem XUc (i:W7):inV (.str (Xbh i)) wsV=true:=by cases i <;> decide +kernel
theorem ws_no {w:Str}(h:∀i,w≠Xbh i):inV (.str w) wsV=false:=by
 have k:∀i,eqV (.str (Xbh i)) (.str w)=false:=fun i=>beq_eq_false_iff_ne.mpr fun e=>h i e.symm
 show (eqV _ _||(eqV _ _||(eqV _ _||(eqV _ _||(eqV _ _||(eqV _ _||(eqV _ _||false)))))))=false
 rw[show (V.str "first") = .str (Xbh .first) from rfl,show (V.str "best") = .str (Xbh .best) from rfl,show (V.str "next") = .str (Xbh .next) from rfl,show (V.str "likes") = .str (Xbh .likes) from rfl,show (V.str "halves") = .str (Xbh .half) from rfl,show (V.str "shelves") = .str (Xbh .shel) from rfl,show (V.str "row") = .str (Xbh .row) from rfl]
 simp only [k,Bool.or_false]
theorem ws_ix (i:W7):∀(m:Nat) (u:V),m<idF i→wsV[m]?=some u→eqV u (.str (Xbh i))=false:=by
 have k:∀m,m<idF i→((wsV[m]?).map fun u=>eqV u (.str (Xbh i)))=some false:=by cases i <;> decide +kernel
 intro m u hm hu
 have:=k m hm
 rw[hu] at this
 exact Option.some.inj this
theorem Xsz {H:Hp}{Q:VK}{l:Addr}(i:W7)(h:H l=some (.lst wsV))(q:Q (.int (idF i:Nat)) H):XCb (.ref l) [.str (Xbh i)] H Q :=
 ⟨l,wsV,.str (Xbh i),.str (Xbh i),idF i,rfl,rfl,h,rfl,rfl,by cases i <;> rfl,beq_self_eq_true _,ws_ix i,by decide,q⟩
theorem XMw {n s:Int}{i:W7}(g:gdF n s i):gdB (Xbh i) n s=true:=by
 cases i <;> first
   | (have g:1≤n:=g;exact decide_eq_true (by omega))
   | (have g:Xgv n=true:=g
      unfold Xgv at g
      rw[show decide (1≤n)=decide (0<n) from rfl] at g
      exact g)
   | (have g:1≤n∧1≤s∧n%s=0:=g
      show (decide (0<n)&&(decide (0<s)&&decide (n%s=0)))=true
      rw[decide_eq_true g.2.2,decide_eq_true (show 0<n by omega),decide_eq_true (show 0<s by omega)]
      rfl)
theorem gd_no {n s:Int}{i:W7}(g:¬gdF n s i):gdB (Xbh i) n s=false:=by
 cases e:gdB (Xbh i) n s
 · rfl
 · refine absurd ?_ g
   cases i <;> first
     | (show 1≤n;have e:decide (0<n)=true:=e;have:=of_decide_eq_true e;omega)
     | exact e
     | (have e:(decide (0<n)&&(decide (0<s)&&decide (n%s=0)))=true:=e
        rw[Bool.and_eq_true,Bool.and_eq_true] at e
        exact⟨of_decide_eq_true e.1,of_decide_eq_true e.2.1,of_decide_eq_true e.2.2⟩)
theorem Xtp {a s:Int}(h0:0≤a)(h1:a≤12)(h2:s≤25):a*s≤400:=by
 rcases(show a=0∨a=1∨a=2∨a=3∨a=4∨a=5∨a=6∨a=7∨a=8∨a=9∨a=10∨a=11∨a=12 by omega) with rfl | rfl | rfl | rfl | rfl | rfl | rfl | rfl | rfl | rfl | rfl | rfl | rfl <;> omega
theorem XNs {k:Int}(h0:0≤k)(h1:k<9):(1:Int)*2^k.toNat≤400:=by
 rcases(show k=0∨k=1∨k=2∨k=3∨k=4∨k=5∨k=6∨k=7∨k=8 by omega) with rfl | rfl | rfl | rfl | rfl | rfl | rfl | rfl | rfl <;> decide
theorem due_is (i:W7):((List.range 7).map fun k:Nat=>V.bl (decide ((k:Int)=(idF i:Nat))))++[.bl (decide ((idF i:Nat)<(4:Int))),.bl true]=((List.range 9).map (clB i)).map V.bl:=by cases i <;> rfl
theorem Xmh (b:List Bool):(b.map V.bl).all Xcr=true:=XOd b
def DeW (H1:Hp)(j:W7)(D:Addr)(k:Nat)(ys:List V)(H2:Hp):Prop:=Same H1 H2∧H2 D=some (.lst ys)∧H1 D=none∧ys=(List.range k).map fun m:Nat=>V.bl (decide ((m:Int)=(idF j:Nat)))
theorem XOc {n s:Int}{i:W7}{q:St7}(f:Fr7 n s i q):q.let3=i:=by cases f <;> rfl
def XQa:Sp:=fun vs H Q _=>∃c0 c1 c2:Int,vs=[.int c0,.int c1,.int c2]∧∀H',Same H H'→Q (.bl true) H'
seal L2.PSs L2.PS L2.PE L2.PA in
include T in
theorem d_Z69 (S:Src K mg "_law_one" Xpr)(D_Z35:Defx P w K mg base "_law_word_by" 1 ["_law_word","_law_cell"] (Xnj))(D_Z61:Defx P w K mg base "_law_made" 9 ["_law_word","_law_size","_law_shelf","_law_bare"] (XCq (cF Y17 Y20 Y21 Y18 Y8 Y6 Y22)))(D_Z18:Defx P w K mg base "_law_size_good" 1 ["_law_word","_law_size","_law_shelf"] (XCd))(D_Z33:Defx P w K mg base "_law_classes" 1 ["_law_keeper"] (Xlc (cF Y17 Y20 Y21 Y18 Y8 Y6 Y22)))(D_Z48:Defx P w K mg base "_law_fresh" 10 ["_law_keeper","_law_word","_law_size","_law_shelf"] (spFr (cF Y17 Y20 Y21 Y18 Y8 Y6 Y22))):Defx P w K mg base "_law_one" 11 ["_law_first","_law_second","_law_third"] (XQa):=by
 refine S.okx Xdh XLu (fun vs H Q E h=>by revert h;walk_at "len") (fun f cdv A outer s H vs Q E hr h=>?_)
 refine⟨_,PSs.nox (Xab (Xao (i:=3) Xdh.nd rfl (Or.inr rfl) (Xby (Xaa Xay (Xaa Xay (Xaa Xay (Xaa Xay (Xaa Xay (Xaa Xay (Xaa Xay Xac))))))))) (Xab (Xao (i:=4) Xdh.nd rfl (Or.inl rfl) (Xak Xbz (pv 0) Xag)) (Xab (Xao (i:=5) Xdh.nd rfl (Or.inr rfl) (Xah D_Z35 hr (by rfl) (Xaa (Xbx Xbi (pv 3) (pv 4) (fun _ _=>rfl)) (Xaa (Xak Xcv (Xak Xbz (Xak Xsr (pv 0) Xag) Xag) Xag) Xac)))) (Xab (Xao (i:=6) Xdh.nd rfl (Or.inl rfl) (Xbj Xcn (Xak Xbz (Xak Xcv (pv 2) Xag) Xag) Xag (Xaj _))) (Xab (Xao (i:=7) Xdh.nd rfl (Or.inl rfl) (Xak Xdn (Xak Xbz (pv 2) Xag) Xag)) (Xab (Xao (i:=8) Xdh.nd rfl (Or.inl rfl) (Xak Xdn (Xak Xbz (pv 1) Xag) Xag)) (Xab (Xbe (PW.pt (Xih (Xal Xcn (Xbx Xbi (pv 3) (pv 4) (fun _ _=>rfl)) Xay (Xaj _)) (Xfm (Xal Xhh (Xak Xbz (Xak Xcv (pv 1) Xag) Xag) Xag (Xaj _))))) (Xae (Xao (i:=8) Xdh.nd rfl (Or.inl rfl) (Xak Xjp Xag (Xak Xbz (pv 1) Xag)))) Xan) (Xab (Xbe (PW.pt (Xih (Xal Xcn (Xbx Xbi (pv 3) (pv 4) (fun _ _=>rfl)) Xay (Xaj _)) (Xfm (Xal Xhh (Xak Xbz (Xak Xcv (pv 1) Xag) Xag) Xag (Xaj _))))) (Xae (Xao (i:=8) Xdh.nd rfl (Or.inl rfl) (Xak Xsr (Xak Xbz (pv 1) Xag) (Xbx Xbi (Xby (Xaa (pv 7) (Xaa Xag Xac))) (Xdd Xvg (by rfl) T.n_int PyProof.Rows.boot_int (Xaa (pv 6) Xac)) (fun _ _=>rfl))))) Xan) (Xab (Xbe (Xal Xcn (Xak Xbz (Xak Xcv (pv 2) Xag) Xag) Xag (Xaj _)) (Xae (Xao (i:=8) Xdh.nd rfl (Or.inl rfl) (Xak Xdn (Xak Xdn Xag (Xak XCu Xag Xag)) (Xak Xbz (pv 1) Xag)))) Xan) (Xab (Xbe (PW.pt (Xih (Xal Xcn (Xak Xbz (Xak Xcv (pv 2) Xag) Xag) Xag (Xaj _)) (Xfm (Xcs (Xck (pv 6) (fun _=>rfl)))))) (Xae (Xao (i:=7) Xdh.nd rfl (Or.inl rfl) (Xak Xdn Xag (Xak XCu Xag Xag)))) Xan) (Xab (Xfl (Xah D_Z61 hr (by rfl) (Xaa (pv 5) (Xaa (pv 8) (Xaa (pv 7) (Xaa (pv 6) Xac))))) (Xhz rfl (Xaq (Xar (i:=9) Xdh.nd rfl (Or.inl rfl)) (Xaq (Xar (i:=10) Xdh.nd rfl (Or.inl rfl)) Xcq)))) (Xab (Xbe (Xal Xlu (pv 5) (pv 3) rfl) (Xae (Xai (Xej (Xbj Xtq (pv 9) Xge (Xaj _)) (Xfj (Xbj (Xjt hr.units) (pv 10) (Xak Xft (Xby (Xaa Xcz (Xaa Xcz (Xaa Xcz Xac)))) (Xak Xnk (Xby (Xaa Xcz Xac)) Xag)) (Xaj _)))))) Xan) (Xab (Xbe (Xck (pv 6) (fun _=>rfl)) (Xae (Xao (i:=7) Xdh.nd rfl (Or.inl rfl) Xag)) Xan) (Xab (Xbe (Xcs (Xfg (Xah D_Z18 hr (by rfl) (Xaa (pv 5) (Xaa (pv 8) (Xaa (pv 7) Xac)))))) (Xae (Xai (Xej (Xbj Xtq (pv 9) Xge (Xaj _)) (Xfj (Xbj (Xjt hr.units) (pv 10) (Xak Xft (Xby (Xaa Xcz (Xaa Xcz (Xaa Xcz Xac)))) (Xak Xnk (Xby (Xaa Xcz Xac)) Xag)) (Xaj _)))))) Xan) (Xab (Xao (i:=11) Xdh.nd rfl (Or.inl rfl) (Xak Xft (Xee ["_law_k"] ["_law_word","_law_words"] [5,3] rfl (Xlh (by rfl) T.n_range (Xaa Xag Xac)) (fun cl C s₀ H₀ ex=>(Xar (i:=0) (show ((["_law_k"]:List Str)++(["_law_word","_law_words"]:List Str)).Nodup by decide +kernel) rfl (Or.inl rfl))) (fun cl C s₀ H₀ ex=>Xgo) (fun cl C s₀ H₀ ex=>(Xbj Xcn (pv 0) (XOp (K:=K) rfl PySem.F.plainAttrs_list PySem.F.slot_list_index PySem.F.type_list_index Xnd (pv 2) (Xaa (pv 1) Xac)) (Xaj _))) (Xoz rfl rfl rfl rfl rfl rfl) (Xzo (n:="_law_word") (m:="_law_words") (by decide +kernel) rfl rfl) (fun y h=>Xbc (by decide +kernel) h)) (Xby (Xaa (Xbj Xis (Xwl PySem.F.plainAttrs_list PySem.F.slot_list_index PySem.F.type_list_index Xnd (pv 3) (Xaa (pv 5) Xac)) Xag (Xaj _)) (Xaa Xcz Xac))))) (Xae (Xai (Xej (Xbj (Xjt hr.units) (pv 10) (Xby Xac) (Xaj _)) (Xej (Xbj (Xjt hr.units) (Xah D_Z33 hr (by rfl) (Xaa (pv 9) Xac)) (pv 11) (Xaj _)) (Xfj (Xah D_Z48 hr (by rfl) (Xaa (pv 9) (Xaa (pv 5) (Xaa (pv 8) (Xaa (pv 7) Xac))))))))))))))))))))))))),?_⟩
 obtain⟨c0,c1,c2,rfl,q⟩:=h
 obtain⟨i,hi⟩:=ws_at (n:=c0%7) (by omega) (by omega)
 walk_at "go"
 intro p0 n0
 generalize eH:upd H p0 _=H0
 have s0:Same H H0:=by rw[←eH];exact Same.new n0
 have h0:H0 p0=some (.lst wsV):=by rw[←eH];exact upd_same
 clear eH
 walk_at "go"
 refine Xfx (SqL.of h0) hi ?_
 walk_at "go"
 refine⟨Xbh i,_,rfl,(XLv i).1,(XLv i).2,by omega,fun wd H1 s1=>?_⟩
 have h1:=s1 p0 _ h0
 have s01:=s0.trans s1
 walk_at "gs"
 obtain⟨sh,esh,sh1,sh2⟩:∃sh:Int,c2%30-4=sh∧-4≤sh∧sh≤25:=⟨_,rfl,by omega,by omega⟩
 rw[esh]
 generalize ebr:decide (c2/30%4=0)=br
 refine Xgs (M:=fun σ' H'=>∃n:Int,n≤400∧Same H0 H'∧σ'=[some (.int c0),some (.int c1),some (.int c2),some (.ref p0),some (.int (c0%7)),some (.str wd),some (.bl br),some (.int sh),some (.int n),none,none,none]) ?_ (fun nx hM=>?_)
 · rintro σ1 H2 ⟨n1,hn1,s2,rfl⟩
   have h2:=s2 p0 _ h0
   walk_at "gs"
   refine Xgs (M:=fun σ' H'=>∃n:Int,n≤400∧Same H0 H'∧σ'=[some (.int c0),some (.int c1),some (.int c2),some (.ref p0),some (.int (c0%7)),some (.str wd),some (.bl br),some (.int sh),some (.int n),none,none,none]) ?_ (fun nx hM=>?_)
   · rintro σ2 H3 ⟨n2,hn2,s3,rfl⟩
     walk_at "gs"
     refine Xgs (M:=fun σ' H'=>∃n:Int,n≤400∧Same H0 H'∧σ'=[some (.int c0),some (.int c1),some (.int c2),some (.ref p0),some (.int (c0%7)),some (.str wd),some (.bl br),some (.int sh),some (.int n),none,none,none]) ?_ (fun nx hM=>?_)
     · rintro σ3 H4 ⟨n3,hn3,s4,rfl⟩
       walk_at "gs"
       refine Xgs (M:=fun σ' H'=>∃z:Int,z≤25∧Same H0 H'∧σ'=[some (.int c0),some (.int c1),some (.int c2),some (.ref p0),some (.int (c0%7)),some (.str wd),some (.bl br),some (.int z),some (.int n3),none,none,none]) ?_ (fun nx hM=>?_)
       · rintro σ4 H5 ⟨z,hz,s5,rfl⟩
         have h5:=s5 p0 _ h0
         clear h1 h2 s1 s01 s2 s3 s4
         walk_at "go"
         rcases Classical.em (∃i,wd=Xbh i) with ⟨j,ej⟩ | hno
         · subst ej
           rcases Classical.em (gdF n3 (if br=true then 8 else z) j) with g | g
           · refine⟨Xbh j,n3,z,br,rfl,hn3,by omega,.inr ⟨j,rfl,g,fun x dx a q5 cs t l H6 nx s6 f5 S6 ht hl=>?_⟩⟩
             have h6:=s6 p0 _ h5
             walk_at "go"
             refine⟨p0,wsV,rfl,.inl (SqL.of h6),rfl,rfl,?_⟩
             rw[XUc j]
             walk_at "go"
             rw[if_neg (show ¬(if true=true then !true else true)=true from Bool.false_ne_true)]
             walk_at "gs"
             refine Xgs (M:=fun σ' H'=>H6=H'∧σ'=[some (.int c0),some (.int c1),some (.int c2),some (.ref p0),some (.int (c0%7)),some (.str (Xbh j)),some (.bl br),some (.int (if br=true then 8 else z)),some (.int n3),some (.ref x),some (.ref l),none]) ?_ (fun nx hM=>?_)
             · rintro σ7 H7 ⟨rfl,rfl⟩
               walk_at "go"
               refine⟨Xbh j,n3,_,rfl,?_⟩
               rw[XMw g]
               walk_at "go"
               refine⟨7,rfl,by decide,by decide,Xhl (fs:=[some (.str (Xbh j)),some (.ref p0)]) (DeW H6 j) (fun D hD=>⟨Same.new hD,upd_same,hD,rfl⟩) ?_ ?_⟩
               · rintro D2 k ys H7 hD hk ⟨s7,hD7,_,rfl⟩ τ hτ
                 rw[Int.zero_add]
                 match τ,hτ with
                 | [τ0],_ =>
                   have h7:=s7 p0 _ h6
                   walk_at "go"
                   refine⟨⟨[_],rfl,rfl⟩,?_⟩
                   walk_at "go"
                   refine Xsz j h7 ?_
                   walk_at "go"
                   refine⟨hD7,small4000 (by rw[List.length_map,List.length_range];omega),Xdu (by omega) ⟨s7.put hD,upd_same,hD,?_⟩⟩
                   rw[List.range_succ,List.map_append]
                   rfl
               rintro D5 ys H7 hD5 ⟨s7,hD7,_,rfl⟩
               have h7:=s7 p0 _ h6
               walk_at "go"
               refine Xsz j h7 ?_
               walk_at "go"
               intro p1 m1
               refine r_cat (look_put m1 hD7) upd_same (Nat.le_of_lt (small4000 (by rw[List.length_map,List.length_range];simp))) (fun p2 m2=>?_)
               rw[show (7:Int).toNat=7 from rfl,due_is j]
               generalize eH:upd (upd H7 p1 _) p2 _=H8
               have s8:Same H6 H8:=by rw[←eH];exact s7.trans ((Same.new m1).trans (Same.new m2))
               have h8:H8 p2=some (.lst (((List.range 9).map (clB j)).map V.bl)):=by rw[←eH];exact upd_same
               clear eH
               have hl8:=s8 l _ hl
               walk_at "go"
               intro p3 m3
               refine⟨l,p3,[],rfl,rfl,(Same.new m3) l _ hl8,upd_same,rfl,?_⟩
               have s9:=s8.trans (Same.new m3 (o:=.lst []))
               have h9:=(Same.new m3 (o:=.lst [])) p2 _ h8
               generalize upd H8 p3 (.lst [])=H9 at s9 h9 ⊢
               have hx9:=s9 x _ S6.hx
               rw[XOc f5] at hx9
               walk_at "go"
               refine⟨j,x,dx,_,rfl,hx9,fun p4 H10 s10 h10=>?_⟩
               have s11:=s9.trans s10
               walk_at "go"
               refine⟨p4,p2,_,rfl,rfl,h10,s10 p2 _ h9,Xmh _,?_⟩
               walk_at "go"
               refine⟨j,x,dx,a,q5,cs,n3,_,rfl,S6.same s11,f5,g,hn3,fun H11 k11=>?_⟩
               walk_at "go"
               have sA:=(s0.trans s5).trans (s6.trans s11)
               exact q _ (fun b o hb=>k11 b o (fun e=>by rw[e,(s0.trans s5).free nx] at hb;cases hb) (sA b o hb))
             · walk_at "go"
               refine Xfv (fun hb=>?_) (fun hb=>?_)
               · walk_at "go"
                 exact hM _ _ ⟨rfl,by rw[hb];rfl⟩
               · walk_at "go"
                 exact hM _ _ ⟨rfl,by rw[hb];rfl⟩
           · refine⟨Xbh j,n3,z,br,rfl,hn3,by omega,.inl ⟨.size,⟨j,rfl,g⟩,fun t l H6 s6 ht hl=>?_⟩⟩
             have h6:=s6 p0 _ h5
             walk_at "go"
             refine⟨p0,wsV,rfl,.inl (SqL.of h6),rfl,rfl,?_⟩
             rw[XUc j]
             walk_at "go"
             rw[if_neg (show ¬(if true=true then !true else true)=true from Bool.false_ne_true)]
             walk_at "gs"
             refine Xgs (M:=fun σ' H'=>H6=H'∧σ'=[some (.int c0),some (.int c1),some (.int c2),some (.ref p0),some (.int (c0%7)),some (.str (Xbh j)),some (.bl br),some (.int (if br=true then 8 else z)),some (.int n3),some .non,some (.ref l),none]) ?_ (fun nx hM=>?_)
             · rintro σ7 H7 ⟨rfl,rfl⟩
               walk_at "go"
               refine⟨Xbh j,n3,_,rfl,?_⟩
               rw[gd_no g]
               walk_at "go"
               intro p1 m1
               walk_at "go"
               intro p2 m2
               walk_at "go"
               refine⟨p2,11,[.bl false],rfl,rfl,upd_same,by decide,by decide,by decide,fun p3 m3=>?_⟩
               generalize eH:upd (upd (upd H6 p1 _) p2 _) p3 _=H9
               have s9:Same H6 H9:=by rw[←eH];exact(Same.new m1).trans ((Same.new m2).trans (Same.new m3))
               have h9:H9 p1=some (.lst [.bl false,.bl true,.bl true]):=by rw[←eH];exact look_put m3 (look_put m2 upd_same)
               have g9:H9 p3=some (.lst (List.replicate (11:Int).toNat [V.bl false]).flatten):=by rw[←eH];exact upd_same
               clear eH
               refine r_cat h9 g9 (by decide) (fun p4 m4=>?_)
               walk_at "go"
               refine⟨l,p4,_,rfl,rfl,(Same.new m4) l _ (s9 l _ hl),upd_same,Xmh _,?_⟩
               walk_at "go"
               exact q _ (((s0.trans s5).trans (s6.trans s9)).trans (Same.new m4))
             · walk_at "go"
               refine Xfv (fun hb=>?_) (fun hb=>?_)
               · walk_at "go"
                 exact hM _ _ ⟨rfl,by rw[hb];rfl⟩
               · walk_at "go"
                 exact hM _ _ ⟨rfl,by rw[hb];rfl⟩
         · refine⟨wd,n3,z,br,rfl,hn3,by omega,.inl ⟨.name,fun i e=>hno ⟨i,e⟩,fun t l H6 s6 ht hl=>?_⟩⟩
           have h6:=s6 p0 _ h5
           walk_at "go"
           refine⟨p0,wsV,rfl,.inl (SqL.of h6),rfl,rfl,?_⟩
           rw[ws_no (fun i e=>hno ⟨i,e⟩)]
           walk_at "go"
           rw[if_pos (show (if true=true then !false else false)=true from rfl)]
           walk_at "go"
           intro p1 m1
           walk_at "go"
           intro p2 m2
           walk_at "go"
           refine⟨p2,11,[.bl false],rfl,rfl,upd_same,by decide,by decide,by decide,fun p3 m3=>?_⟩
           generalize eH:upd (upd (upd H6 p1 _) p2 _) p3 _=H9
           have s9:Same H6 H9:=by rw[←eH];exact(Same.new m1).trans ((Same.new m2).trans (Same.new m3))
           have h9:H9 p1=some (.lst [.bl true,.bl false,.bl true]):=by rw[←eH];exact look_put m3 (look_put m2 upd_same)
           have g9:H9 p3=some (.lst (List.replicate (11:Int).toNat [V.bl false]).flatten):=by rw[←eH];exact upd_same
           clear eH
           refine r_cat h9 g9 (by decide) (fun p4 m4=>?_)
           walk_at "go"
           refine⟨l,p4,_,rfl,rfl,(Same.new m4) l _ (s9 l _ hl),upd_same,Xmh _,?_⟩
           walk_at "go"
           exact q _ (((s0.trans s5).trans (s6.trans s9)).trans (Same.new m4))
       · walk_at "go"
         refine Xbd (fun g1=>?_) (fun g1=>?_)
         · walk_at "go"
           refine Xfv (fun g2=>?_) (fun g2=>?_)
           · walk_at "go"
             exact hM _ _ ⟨_,sh2,s4,rfl⟩
           · walk_at "go"
             exact hM _ _ ⟨0-10^60,by decide,s4,rfl⟩
         · walk_at "go"
           exact hM _ _ ⟨_,sh2,s4,rfl⟩
     · walk_at "go"
       refine Xbd (fun g1=>?_) (fun g1=>?_)
       · walk_at "go"
         exact hM _ _ ⟨0-10^60-c1%412,by omega,s3,rfl⟩
       · walk_at "go"
         exact hM _ _ ⟨_,hn2,s3,rfl⟩
   · walk_at "go"
     refine Xfx (SqL.of h2) hi ?_
     walk_at "go"
     refine Xbd (fun g1=>?_) (fun g1=>?_)
     · walk_at "go"
       refine Xbd (fun g2=>?_) (fun g2=>?_)
       · walk_at "go"
         intro p np
         walk_at "go"
         obtain⟨y,ey,hy⟩:∃y:Int,atI [V.int sh,V.int 8] (if br=true then 1 else 0)=some (.int y)∧y≤25∧-4≤y:=by
           cases br
           · exact⟨sh,rfl,sh2,sh1⟩
           · exact⟨8,rfl,by decide,by decide⟩
         refine Xfx (SqL.of upd_same) ey ?_
         walk_at "go"
         exact hM _ _ ⟨_,Xtp (by omega) (by omega) hy.1,s2.trans (Same.new np),rfl⟩
       · walk_at "go"
         exact hM _ _ ⟨_,hn1,s2,rfl⟩
     · walk_at "go"
       exact hM _ _ ⟨_,hn1,s2,rfl⟩
 · walk_at "go"
   refine Xfx (SqL.of h1) hi ?_
   walk_at "go"
   refine Xbd (fun g1=>?_) (fun g1=>?_)
   · walk_at "go"
     refine Xbd (fun g2=>?_) (fun g2=>?_)
     · walk_at "go"
       exact hM _ _ ⟨_,XNs (by omega) (by omega),s1,rfl⟩
     · walk_at "go"
       exact hM _ _ ⟨c1%412-12,by omega,s1,rfl⟩
   · walk_at "go"
     exact hM _ _ ⟨c1%412-12,by omega,s1,rfl⟩
def LwW (K:PySem.W.Frag)(sc:Addr)(ns:List Int)(_:Nat)(σ:L2.St)(H:Hp):Prop:=SqL K H sc (ns.map V.int)∧∃x1 x2,σ=[some (.ref sc),x1,x2]
include T in
theorem XRw {f:Addr}{fd:FuncData}(F:Fun K "law" "law" Xms f fd)(D_Z31:Defx P w K mg base "_law_cell_at" 1 ["_law_script","_law_k"] (Xsy K))(D_Z69:Defx P w K mg base "_law_one" 11 ["_law_first","_law_second","_law_third"] (XQa)):FnOk P w K mg base (CXe P w) 12 f fd ["_law_script"] (Xwp K):=by
 refine Xbk F Xqs (fun vs H Q E h=>by revert h;walk_at "len") (fun cdv A outer s H vs Q E hr h=>?_)
 refine⟨_,PSs.nox (Xab (Xks PassesOwn.never rfl (Xlo (by rfl) T.n_range (Xaa Xag (Xaa (Xam (Xqy rfl) (by rfl) T.n_max PyProof.Rows.boot_max (Xaa Xag (Xaa (Xam (Xmc rfl) (by rfl) T.n_min PyProof.Rows.boot_min (Xaa (Xam Xbm (by rfl) T.n_len PySem.boot_len (Xaa (pv 0) Xac)) (Xaa Xag Xac))) Xac))) (Xaa Xag Xac)))) (Xar (i:=1) Xqs.nd rfl (Or.inl rfl)) (Xab (Xao (i:=2) Xqs.nd rfl (Or.inl rfl) (Xby (Xaa (Xah D_Z31 hr (by rfl) (Xaa (pv 0) (Xaa (pv 1) Xac))) (Xaa (Xah D_Z31 hr (by rfl) (Xaa (pv 0) (Xaa (Xak Xbq (pv 1) Xag) Xac))) (Xaa (Xah D_Z31 hr (by rfl) (Xaa (pv 0) (Xaa (Xak Xbq (pv 1) Xag) Xac))) Xac))))) (Xae (Xbe (Xcs (Xfg (Xah D_Z69 hr (by rfl) (Xaa (Xbx Xbi (pv 2) Xag (fun _ _=>rfl)) (Xaa (Xbx Xbi (pv 2) Xag (fun _ _=>rfl)) (Xaa (Xbx Xbi (pv 2) Xag (fun _ _=>rfl)) Xac)))))) (Xae (Xai Xcz)) Xan)))) (Xae (Xai Xcz))),?_⟩
 obtain⟨sc,ns,rfl,hS,hlen,kk⟩:=h
 walk_at "go"
 refine XQz ?_
 walk_at "go"
 obtain⟨j,ej,j0,j4⟩:∃j:Int,(if (if 48<(ns.length:Int) then 48 else (ns.length:Int))>1 then if 48<(ns.length:Int) then 48 else (ns.length:Int) else 1)=j∧0≤j∧j≤4000:=⟨_,rfl,by split <;> split <;> omega,by split <;> split <;> omega⟩
 rw[ej]
 refine⟨0,j,3,rfl,⟨by decide,by decide,j0,j4,by decide,by decide⟩,?_⟩
 generalize (Builtin.Range.rangeSize 0 j 3).toNat=N
 refine Xnl (LwW K sc ns) ⟨hS,none,none,rfl⟩ ?_ ?_
 · rintro i σ H1 hi ⟨hS1,x1,x2,rfl⟩
   walk_at "go"
   intro p np
   walk_at "go"
   refine Xfx (SqL.of upd_same) rfl ?_
   walk_at "go"
   refine Xfx (SqL.of upd_same) rfl ?_
   walk_at "go"
   refine Xfx (SqL.of upd_same) rfl ?_
   walk_at "go"
   refine⟨_,_,_,rfl,fun H2 s2=>?_⟩
   walk_at "go"
   exact⟨((Same.new np).trans s2).seq hS1,_,_,rfl⟩
 · rintro σ H1 ⟨_,x1,x2,rfl⟩
   walk_at "go"
   exact kk _
end
abbrev LkF (K:PySem.W.Frag)(x q:Str)(s:Stmt)(D:Value)(f:Addr)(oc:Value)(od:Option Addr)(kV dc pm:Value)(an:Option Addr)(cd ct:Value)(sl:Array (Option Value)):Prop:=K.lookup f=some ⟨oc,od,.func (PySem.W.fnOf x q (Xaz s) (Xav s) (Xad s) D kV dc pm an cd ct),sl⟩
set_option autoImplicit true in
set_option relaxedAutoImplicit true in
theorem all_mk {l:PySem.W.OpenLaw}{w:World}{K:PySem.W.Frag}{h:Heap}{mg:Str→Option Value}{fa:Addr}(X:K.In h)(G:h.Ns mainGlobals mg)(hfa:mg "law"=some (.ref fa))
   (a_Z67:nI K "_wall" f_Z67)
   (l_Z67:LkF K "_wall" "_wall" Xwt .none f_Z67 oc_Z67 od_Z67 kV_Z67 dc_Z67 pm_Z67 an_Z67 cd_Z67 ct_Z67 sl_Z67)
   (c_Z67:cI K cd_Z67 "_wall")
   (k_Z67:kI K f_Z67)
   (a_Z30:nI K "check_ask" f_Z30)
   (l_Z30:LkF K "check_ask" "check_ask" Xtc .none f_Z30 oc_Z30 od_Z30 kV_Z30 dc_Z30 pm_Z30 an_Z30 cd_Z30 ct_Z30 sl_Z30)
   (c_Z30:cI K cd_Z30 "check_ask")
   (k_Z30:kI K f_Z30)
   (a_Z3:nI K "check_plain_ask" f_Z3)
   (l_Z3:LkF K "check_plain_ask" "check_plain_ask" s_Z3 .none f_Z3 oc_Z3 od_Z3 kV_Z3 dc_Z3 pm_Z3 an_Z3 cd_Z3 ct_Z3 sl_Z3)
   (c_Z3:cI K cd_Z3 "check_plain_ask")
   (k_Z3:kI K f_Z3)
   (a_Z55:nI K "mark_of" f_Z55)
   (l_Z55:LkF K "mark_of" "mark_of" Xqd .none f_Z55 oc_Z55 od_Z55 kV_Z55 dc_Z55 pm_Z55 an_Z55 cd_Z55 ct_Z55 sl_Z55)
   (c_Z55:cI K cd_Z55 "mark_of")
   (k_Z55:kI K f_Z55)
   (a_Z52:nI K "long_of" f_Z52)
   (l_Z52:LkF K "long_of" "long_of" Xqa .none f_Z52 oc_Z52 od_Z52 kV_Z52 dc_Z52 pm_Z52 an_Z52 cd_Z52 ct_Z52 sl_Z52)
   (c_Z52:cI K cd_Z52 "long_of")
   (k_Z52:kI K f_Z52)
   (a_Z44:nI K "live_of" f_Z44)
   (l_Z44:LkF K "live_of" "live_of" Xti .none f_Z44 oc_Z44 od_Z44 kV_Z44 dc_Z44 pm_Z44 an_Z44 cd_Z44 ct_Z44 sl_Z44)
   (c_Z44:cI K cd_Z44 "live_of")
   (k_Z44:kI K f_Z44)
   (a_Z36:nI K "can_begin" f_Z36)
   (l_Z36:LkF K "can_begin" "can_begin" Xtb .none f_Z36 oc_Z36 od_Z36 kV_Z36 dc_Z36 pm_Z36 an_Z36 cd_Z36 ct_Z36 sl_Z36)
   (c_Z36:cI K cd_Z36 "can_begin")
   (k_Z36:kI K f_Z36)
   (a_Z7:nI K "bad_of_piece" f_Z7)
   (l_Z7:LkF K "bad_of_piece" "bad_of_piece" s_Z7 .none f_Z7 oc_Z7 od_Z7 kV_Z7 dc_Z7 pm_Z7 an_Z7 cd_Z7 ct_Z7 sl_Z7)
   (c_Z7:cI K cd_Z7 "bad_of_piece")
   (k_Z7:kI K f_Z7)
   (a_Z62:nI K "looked" f_Z62)
   (l_Z62:LkF K "looked" "looked" Xru .none f_Z62 oc_Z62 od_Z62 kV_Z62 dc_Z62 pm_Z62 an_Z62 cd_Z62 ct_Z62 sl_Z62)
   (c_Z62:cI K cd_Z62 "looked")
   (k_Z62:kI K f_Z62)
   (a_Z24:nI K "fresh_room" f_Z24)
   (l_Z24:LkF K "fresh_room" "fresh_room" Xtu .none f_Z24 oc_Z24 od_Z24 kV_Z24 dc_Z24 pm_Z24 an_Z24 cd_Z24 ct_Z24 sl_Z24)
   (c_Z24:cI K cd_Z24 "fresh_room")
   (k_Z24:kI K f_Z24)
   (a_Z72:nI K "laid" f_Z72)
   (l_Z72:LkF K "laid" "laid" Xqf .none f_Z72 oc_Z72 od_Z72 kV_Z72 dc_Z72 pm_Z72 an_Z72 cd_Z72 ct_Z72 sl_Z72)
   (c_Z72:cI K cd_Z72 "laid")
   (k_Z72:kI K f_Z72)
   (a_Z37:nI K "laid_free" f_Z37)
   (l_Z37:LkF K "laid_free" "laid_free" Xue .none f_Z37 oc_Z37 od_Z37 kV_Z37 dc_Z37 pm_Z37 an_Z37 cd_Z37 ct_Z37 sl_Z37)
   (c_Z37:cI K cd_Z37 "laid_free")
   (k_Z37:kI K f_Z37)
   (a_Z43:nI K "piece_at" f_Z43)
   (l_Z43:LkF K "piece_at" "piece_at" Xub .none f_Z43 oc_Z43 od_Z43 kV_Z43 dc_Z43 pm_Z43 an_Z43 cd_Z43 ct_Z43 sl_Z43)
   (c_Z43:cI K cd_Z43 "piece_at")
   (k_Z43:kI K f_Z43)
   (a_Z49:nI K "live_at" f_Z49)
   (l_Z49:LkF K "live_at" "live_at" XAs .none f_Z49 oc_Z49 od_Z49 kV_Z49 dc_Z49 pm_Z49 an_Z49 cd_Z49 ct_Z49 sl_Z49)
   (c_Z49:cI K cd_Z49 "live_at")
   (k_Z49:kI K f_Z49)
   (a_Z54:nI K "free_at" f_Z54)
   (l_Z54:LkF K "free_at" "free_at" Xux .none f_Z54 oc_Z54 od_Z54 kV_Z54 dc_Z54 pm_Z54 an_Z54 cd_Z54 ct_Z54 sl_Z54)
   (c_Z54:cI K cd_Z54 "free_at")
   (k_Z54:kI K f_Z54)
   (a_Z11:nI K "begin_around" f_Z11)
   (l_Z11:LkF K "begin_around" "begin_around" Xuh .none f_Z11 oc_Z11 od_Z11 kV_Z11 dc_Z11 pm_Z11 an_Z11 cd_Z11 ct_Z11 sl_Z11)
   (c_Z11:cI K cd_Z11 "begin_around")
   (k_Z11:kI K f_Z11)
   (a_Z58:nI K "cut_out" f_Z58)
   (l_Z58:LkF K "cut_out" "cut_out" Xuf .none f_Z58 oc_Z58 od_Z58 kV_Z58 dc_Z58 pm_Z58 an_Z58 cd_Z58 ct_Z58 sl_Z58)
   (c_Z58:cI K cd_Z58 "cut_out")
   (k_Z58:kI K f_Z58)
   (a_Z5:nI K "joined_pieces" f_Z5)
   (l_Z5:LkF K "joined_pieces" "joined_pieces" s_Z5 .none f_Z5 oc_Z5 od_Z5 kV_Z5 dc_Z5 pm_Z5 an_Z5 cd_Z5 ct_Z5 sl_Z5)
   (c_Z5:cI K cd_Z5 "joined_pieces")
   (k_Z5:kI K f_Z5)
   (a_Z60:nI K "joined" f_Z60)
   (l_Z60:LkF K "joined" "joined" XAj .none f_Z60 oc_Z60 od_Z60 kV_Z60 dc_Z60 pm_Z60 an_Z60 cd_Z60 ct_Z60 sl_Z60)
   (c_Z60:cI K cd_Z60 "joined")
   (k_Z60:kI K f_Z60)
   (a_Z39:nI K "is_power" f_Z39)
   (l_Z39:LkF K "is_power" "is_power" Xto .none f_Z39 oc_Z39 od_Z39 kV_Z39 dc_Z39 pm_Z39 an_Z39 cd_Z39 ct_Z39 sl_Z39)
   (c_Z39:cI K cd_Z39 "is_power")
   (k_Z39:kI K f_Z39)
   (a_Z29:nI K "block_for" f_Z29)
   (l_Z29:LkF K "block_for" "block_for" Xpy .none f_Z29 oc_Z29 od_Z29 kV_Z29 dc_Z29 pm_Z29 an_Z29 cd_Z29 ct_Z29 sl_Z29)
   (c_Z29:cI K cd_Z29 "block_for")
   (k_Z29:kI K f_Z29)
   (a_Z25:nI K "least_free" f_Z25)
   (l_Z25:LkF K "least_free" "least_free" Xty .none f_Z25 oc_Z25 od_Z25 kV_Z25 dc_Z25 pm_Z25 an_Z25 cd_Z25 ct_Z25 sl_Z25)
   (c_Z25:cI K cd_Z25 "least_free")
   (k_Z25:kI K f_Z25)
   (a_Z42:nI K "cut_down" f_Z42)
   (l_Z42:LkF K "cut_down" "cut_down" Xrp .none f_Z42 oc_Z42 od_Z42 kV_Z42 dc_Z42 pm_Z42 an_Z42 cd_Z42 ct_Z42 sl_Z42)
   (c_Z42:cI K cd_Z42 "cut_down")
   (k_Z42:kI K f_Z42)
   (a_Z34:nI K "all_whole" f_Z34)
   (l_Z34:LkF K "all_whole" "all_whole" Xrq .none f_Z34 oc_Z34 od_Z34 kV_Z34 dc_Z34 pm_Z34 an_Z34 cd_Z34 ct_Z34 sl_Z34)
   (c_Z34:cI K cd_Z34 "all_whole")
   (k_Z34:kI K f_Z34)
   (a_Z41:nI K "begin_of" f_Z41)
   (l_Z41:LkF K "begin_of" "begin_of" Xsp .none f_Z41 oc_Z41 od_Z41 kV_Z41 dc_Z41 pm_Z41 an_Z41 cd_Z41 ct_Z41 sl_Z41)
   (c_Z41:cI K cd_Z41 "begin_of")
   (k_Z41:kI K f_Z41)
   (a_Z22:nI K "whole_ones" f_Z22)
   (l_Z22:LkF K "whole_ones" "whole_ones" Xpz .none f_Z22 oc_Z22 od_Z22 kV_Z22 dc_Z22 pm_Z22 an_Z22 cd_Z22 ct_Z22 sl_Z22)
   (c_Z22:cI K cd_Z22 "whole_ones")
   (k_Z22:kI K f_Z22)
   (a_Z20:nI K "free_slots" f_Z20)
   (l_Z20:LkF K "free_slots" "free_slots" Xsq .none f_Z20 oc_Z20 od_Z20 kV_Z20 dc_Z20 pm_Z20 an_Z20 cd_Z20 ct_Z20 sl_Z20)
   (c_Z20:cI K cd_Z20 "free_slots")
   (k_Z20:kI K f_Z20)
   (a_Z45:nI K "cut_for" f_Z45)
   (l_Z45:LkF K "cut_for" "cut_for" Xvx .none f_Z45 oc_Z45 od_Z45 kV_Z45 dc_Z45 pm_Z45 an_Z45 cd_Z45 ct_Z45 sl_Z45)
   (c_Z45:cI K cd_Z45 "cut_for")
   (k_Z45:kI K f_Z45)
   (a_Z32:nI K "with_slot" f_Z32)
   (l_Z32:LkF K "with_slot" "with_slot" Xug .none f_Z32 oc_Z32 od_Z32 kV_Z32 dc_Z32 pm_Z32 an_Z32 cd_Z32 ct_Z32 sl_Z32)
   (c_Z32:cI K cd_Z32 "with_slot")
   (k_Z32:kI K f_Z32)
   (a_Z14:nI K "first_place" f_Z14)
   (l_Z14:LkF K "first_place" "first_place" Xui .none f_Z14 oc_Z14 od_Z14 kV_Z14 dc_Z14 pm_Z14 an_Z14 cd_Z14 ct_Z14 sl_Z14)
   (c_Z14:cI K cd_Z14 "first_place")
   (k_Z14:kI K f_Z14)
   (a_Z28:nI K "spots_for" f_Z28)
   (l_Z28:LkF K "spots_for" "spots_for" Xvv .none f_Z28 oc_Z28 od_Z28 kV_Z28 dc_Z28 pm_Z28 an_Z28 cd_Z28 ct_Z28 sl_Z28)
   (c_Z28:cI K cd_Z28 "spots_for")
   (k_Z28:kI K f_Z28)
   (a_Z16:nI K "least_place" f_Z16)
   (l_Z16:LkF K "least_place" "least_place" Xvw .none f_Z16 oc_Z16 od_Z16 kV_Z16 dc_Z16 pm_Z16 an_Z16 cd_Z16 ct_Z16 sl_Z16)
   (c_Z16:cI K cd_Z16 "least_place")
   (k_Z16:kI K f_Z16)
   (a_Z12:nI K "stretches_of" f_Z12)
   (l_Z12:LkF K "stretches_of" "stretches_of" Xpx .none f_Z12 oc_Z12 od_Z12 kV_Z12 dc_Z12 pm_Z12 an_Z12 cd_Z12 ct_Z12 sl_Z12)
   (c_Z12:cI K cd_Z12 "stretches_of")
   (k_Z12:kI K f_Z12)
   {dt_Z27:Addr} {dk_Z27:Tok} {dtc_Z27:Value} {dtd_Z27:Option Addr} {dtn_Z27:Nat} {dts_Z27:Array (Option Value)}
   (a_Z27:nI K "keeper_of" f_Z27)
   (l_Z27:LkF K "keeper_of" "keeper_of" Xit (.ref dt_Z27) f_Z27 oc_Z27 od_Z27 kV_Z27 dc_Z27 pm_Z27 an_Z27 cd_Z27 ct_Z27 sl_Z27)
   (ld_Z27:K.lookup dt_Z27=some ⟨dtc_Z27,dtd_Z27,.seq [.int 8 dk_Z27].toArray dtn_Z27,dts_Z27⟩)
   (c_Z27:cI K cd_Z27 "keeper_of")
   (k_Z27:kI K f_Z27)
   (a_Z31:nI K "_law_cell_at" f_Z31)
   (l_Z31:LkF K "_law_cell_at" "_law_cell_at" Xuk .none f_Z31 oc_Z31 od_Z31 kV_Z31 dc_Z31 pm_Z31 an_Z31 cd_Z31 ct_Z31 sl_Z31)
   (c_Z31:cI K cd_Z31 "_law_cell_at")
   (k_Z31:kI K f_Z31)
   (a_Z46:nI K "_law_whole" f_Z46)
   (l_Z46:LkF K "_law_whole" "_law_whole" Xtn .none f_Z46 oc_Z46 od_Z46 kV_Z46 dc_Z46 pm_Z46 an_Z46 cd_Z46 ct_Z46 sl_Z46)
   (c_Z46:cI K cd_Z46 "_law_whole")
   (k_Z46:kI K f_Z46)
   (a_Z47:nI K "_law_alike" f_Z47)
   (l_Z47:LkF K "_law_alike" "_law_alike" Xsc .none f_Z47 oc_Z47 od_Z47 kV_Z47 dc_Z47 pm_Z47 an_Z47 cd_Z47 ct_Z47 sl_Z47)
   (c_Z47:cI K cd_Z47 "_law_alike")
   (k_Z47:kI K f_Z47)
   (a_Z35:nI K "_law_word_by" f_Z35)
   (l_Z35:LkF K "_law_word_by" "_law_word_by" Xpq .none f_Z35 oc_Z35 od_Z35 kV_Z35 dc_Z35 pm_Z35 an_Z35 cd_Z35 ct_Z35 sl_Z35)
   (c_Z35:cI K cd_Z35 "_law_word_by")
   (k_Z35:kI K f_Z35)
   (a_Z61:nI K "_law_made" f_Z61)
   (l_Z61:LkF K "_law_made" "_law_made" Xrr .none f_Z61 oc_Z61 od_Z61 kV_Z61 dc_Z61 pm_Z61 an_Z61 cd_Z61 ct_Z61 sl_Z61)
   (c_Z61:cI K cd_Z61 "_law_made")
   (k_Z61:kI K f_Z61)
   (a_Z18:nI K "_law_size_good" f_Z18)
   (l_Z18:LkF K "_law_size_good" "_law_size_good" Xqt .none f_Z18 oc_Z18 od_Z18 kV_Z18 dc_Z18 pm_Z18 an_Z18 cd_Z18 ct_Z18 sl_Z18)
   (c_Z18:cI K cd_Z18 "_law_size_good")
   (k_Z18:kI K f_Z18)
   (a_Z33:nI K "_law_classes" f_Z33)
   (l_Z33:LkF K "_law_classes" "_law_classes" Xut .none f_Z33 oc_Z33 od_Z33 kV_Z33 dc_Z33 pm_Z33 an_Z33 cd_Z33 ct_Z33 sl_Z33)
   (c_Z33:cI K cd_Z33 "_law_classes")
   (k_Z33:kI K f_Z33)
   (a_Z57:nI K "_law_asked" f_Z57)
   (l_Z57:LkF K "_law_asked" "_law_asked" Xql .none f_Z57 oc_Z57 od_Z57 kV_Z57 dc_Z57 pm_Z57 an_Z57 cd_Z57 ct_Z57 sl_Z57)
   (c_Z57:cI K cd_Z57 "_law_asked")
   (k_Z57:kI K f_Z57)
   (a_Z48:nI K "_law_fresh" f_Z48)
   (l_Z48:LkF K "_law_fresh" "_law_fresh" Xuv .none f_Z48 oc_Z48 od_Z48 kV_Z48 dc_Z48 pm_Z48 an_Z48 cd_Z48 ct_Z48 sl_Z48)
   (c_Z48:cI K cd_Z48 "_law_fresh")
   (k_Z48:kI K f_Z48)
   (a_Z69:nI K "_law_one" f_Z69)
   (l_Z69:LkF K "_law_one" "_law_one" Xpr .none f_Z69 oc_Z69 od_Z69 kV_Z69 dc_Z69 pm_Z69 an_Z69 cd_Z69 ct_Z69 sl_Z69)
   (c_Z69:cI K cd_Z69 "_law_one")
   (k_Z69:kI K f_Z69)
   (a_law:nI K "law" f_law)
   (l_law:LkF K "law" "law" Xms .none f_law oc_law od_law kV_law dc_law pm_law an_law cd_law ct_law sl_law)
   (c_law:cI K cd_law "law")
   (k_law:kI K f_law)
   {W0_:Tok}
   {W1_:Tok}
   {Y0 Y13 Y15 Y7 Y11 Y2 Y5 Y10 Y19 Y4 Y14 Y3 Y12 Y16 Y9 Y8 Y22 Y6 Y1 Y17 Y20 Y21 Y18:Addr}
   (zcV:PySem.W.nsIn K mainGlobals "ValueError"=some none)
   (z_any:PySem.W.nsIn K mainGlobals "any"=some none)
   (z_bool:PySem.W.nsIn K mainGlobals "bool"=some none)
   (z_int:PySem.W.nsIn K mainGlobals "int"=some none)
   (z_isinstance:PySem.W.nsIn K mainGlobals "isinstance"=some none)
   (z_len:PySem.W.nsIn K mainGlobals "len"=some none)
   (z_list:PySem.W.nsIn K mainGlobals "list"=some none)
   (z_max:PySem.W.nsIn K mainGlobals "max"=some none)
   (z_min:PySem.W.nsIn K mainGlobals "min"=some none)
   (z_range:PySem.W.nsIn K mainGlobals "range"=some none)
   (z_tuple:PySem.W.nsIn K mainGlobals "tuple"=some none)
   (zbG:PySem.W.nsIn K mainGlobals "LEAST_LIVE"=some (some (.int 3 W0_)))
   (zcs:PySem.W.nsIn K mainGlobals "MARKS"=some (some (.int 2 W1_)))
   (zcW:nI K "StowError" Y0)
   (zdh:nI K "NoName" Y13)
   (zdi:nI K "NoSize" Y15)
   (zdj:nI K "Broken" Y7)
   (zef:nI K "NoGive" Y11)
   (zds:nI K "NoHandle" Y2)
   (zcI:nI K "NoPiece" Y5)
   (zeg:nI K "NoCell" Y10)
   (zdB:nI K "NoAsk" Y19)
   (zcJ:nI K "NoBound" Y4)
   (zdk:nI K "NoRoom" Y14)
   (zdC:nI K "BadLine" Y3)
   (zeh:nI K "NoLine" Y12)
   (zei:nI K "NoTurn" Y16)
   (zej:nI K "Keeper" Y9)
   (zek:nI K "Halves" Y8)
   (cc_Row:nI K "Row" Y22)
   (zdD:nI K "Shelves" Y6)
   (zcX:nI K "Stretches" Y1)
   (zfX:nI K "First" Y17)
   (zgH:nI K "Best" Y20)
   (zgI:nI K "Next" Y21)
   (zfY:nI K "Likes" Y18)
   (zel:PySem.W.findIn K (.ref Y7) "__setattr__"=some (some (.builtin "object.__setattr__")))
   {zcz:ClassData}
   (zem:PySem.W.clsIn K Y7=some zcz)
   (zen:Xhf zcz.mro=true)
   (zeo:zcz.hasDict=true)
   (zep:PySem.W.mroIn K Y7 (.type "object")=some true)
   (zeq:PySem.W.findIn K (.ref Y7) "cell"=some none)
   (zer:PySem.W.excIn K Y15 [.type "ValueError",.type "Exception",.type "BaseException",.type "object"] "ValueError.__new__"=true)
   (zes:PySem.W.excIn K Y13 [.type "ValueError",.type "Exception",.type "BaseException",.type "object"] "ValueError.__new__"=true)
   (zdE:PySem.W.excIn K Y5 [.type "ValueError",.type "Exception",.type "BaseException",.type "object"] "ValueError.__new__"=true)
   (zet:PySem.W.excIn K Y14 [.type "ValueError",.type "Exception",.type "BaseException",.type "object"] "ValueError.__new__"=true)
   (zfZ:PySem.W.excIn K Y19 [.type "ValueError",.type "Exception",.type "BaseException",.type "object"] "ValueError.__new__"=true)
   (zdF:PySem.W.excIn K Y4 [.type "ValueError",.type "Exception",.type "BaseException",.type "object"] "ValueError.__new__"=true)
   (zdG:PySem.W.plainGet K Y17 Str.empty=true)
   (zdH:PySem.W.hasDictIn K Y17=true)
   (zdI:PySem.W.plainOver K Y17=true)
   (zdJ:PySem.W.findIn K (.ref Y17) "__setattr__"=some (some (.builtin "object.__setattr__")))
   (zac:PySem.W.findIn K (.ref Y17) "room_cells"=some none)
   (zfA:PySem.W.plainGet K Y20 Str.empty=true)
   (zfB:PySem.W.hasDictIn K Y20=true)
   (zfC:PySem.W.plainOver K Y20=true)
   (zfD:PySem.W.findIn K (.ref Y20) "__setattr__"=some (some (.builtin "object.__setattr__")))
   (zae:PySem.W.findIn K (.ref Y20) "room_cells"=some none)
   (zfE:PySem.W.plainGet K Y21 Str.empty=true)
   (zfF:PySem.W.hasDictIn K Y21=true)
   (zfG:PySem.W.plainOver K Y21=true)
   (zfH:PySem.W.findIn K (.ref Y21) "__setattr__"=some (some (.builtin "object.__setattr__")))
   (zaa:PySem.W.findIn K (.ref Y21) "room_cells"=some none)
   (zaf:PySem.W.findIn K (.ref Y21) "room_rover"=some none)
   (zdK:PySem.W.plainGet K Y18 Str.empty=true)
   (zdL:PySem.W.hasDictIn K Y18=true)
   (zdM:PySem.W.plainOver K Y18=true)
   (zdN:PySem.W.findIn K (.ref Y18) "__setattr__"=some (some (.builtin "object.__setattr__")))
   (zad:PySem.W.findIn K (.ref Y18) "room_cells"=some none)
   (zdl:PySem.W.plainGet K Y8 Str.empty=true)
   (zdm:PySem.W.hasDictIn K Y8=true)
   (zdn:PySem.W.plainOver K Y8=true)
   (zdo:PySem.W.findIn K (.ref Y8) "__setattr__"=some (some (.builtin "object.__setattr__")))
   (zai:PySem.W.findIn K (.ref Y8) "room_cells"=some none)
   (zcK:PySem.W.plainGet K Y6 Str.empty=true)
   (zcL:PySem.W.hasDictIn K Y6=true)
   (zcM:PySem.W.plainOver K Y6=true)
   (zcN:PySem.W.findIn K (.ref Y6) "__setattr__"=some (some (.builtin "object.__setattr__")))
   (zab:PySem.W.findIn K (.ref Y6) "room_cells"=some none)
   (zam:PySem.W.findIn K (.ref Y6) "shelf"=some none)
   (pg_Row:PySem.W.plainGet K Y22 Str.empty=true)
   (hd_Row:PySem.W.hasDictIn K Y22=true)
   (po_Row:PySem.W.plainOver K Y22=true)
   (sa_Row:PySem.W.findIn K (.ref Y22) "__setattr__"=some (some (.builtin "object.__setattr__")))
   (zaj:PySem.W.findIn K (.ref Y22) "room_cells"=some none)
   (zeu:PySem.W.findIn K (.ref Y13) "__getattribute__"=some (some (.builtin "BaseException.__getattribute__")))
   (zev:PySem.W.findIn K (.ref Y13) "__getattr__"=some none)
   (zew:PySem.W.findIn K (.ref Y13) "__class__"=some (some (.builtin "object.__class__")))
   (zex:PySem.W.mroIn K Y13 (.type "object")=some true)
   (zey:PySem.W.mroIn K Y13 (.type "BaseException")=some true)
   (zez:PySem.W.findIn K (.ref Y15) "__getattribute__"=some (some (.builtin "BaseException.__getattribute__")))
   (zeA:PySem.W.findIn K (.ref Y15) "__getattr__"=some none)
   (zeB:PySem.W.findIn K (.ref Y15) "__class__"=some (some (.builtin "object.__class__")))
   (zeC:PySem.W.mroIn K Y15 (.type "object")=some true)
   (zeD:PySem.W.mroIn K Y15 (.type "BaseException")=some true)
   (zeE:PySem.W.findIn K (.ref Y14) "__getattribute__"=some (some (.builtin "BaseException.__getattribute__")))
   (zeF:PySem.W.findIn K (.ref Y14) "__getattr__"=some none)
   (zeG:PySem.W.findIn K (.ref Y14) "__class__"=some (some (.builtin "object.__class__")))
   (zeH:PySem.W.mroIn K Y14 (.type "object")=some true)
   (zeI:PySem.W.mroIn K Y14 (.type "BaseException")=some true)
   (zeJ:K.lookup Y13=some (excClassObj zgZ zha Y13 N_NoName zhb zeK zhc zhd zgJ zhe zgK zhf zhg zhh zhi zhj zhk zhl))
   (zcm:K.lookup Y0=some (excClassObj zga zgb Y0 N_StowError zgc zcY zgd zge zfI zgf zfJ zgg zgh zgi zgj zgk zgl zgm))
   (zcn:(Value.ref Y0::zcY).contains (.type "BaseException")=true)
   (zbT:(Value.ref Y13::zeK).contains (.ref Y0)=true)
   (zeL:K.lookup Y15=some (excClassObj zhm zhn Y15 N_NoSize zho zeM zhp zhq zgL zhr zgM zhs zht zhu zhv zhw zhx zhy))
   (zbU:(Value.ref Y15::zeM).contains (.ref Y0)=true)
   (zdp:K.lookup Y14=some (excClassObj zhz zhA Y14 N_NoRoom zhB zdq zhC zhD zgN zhE zgO zhF zhG zhH zhI zhJ zhK zhL))
   (zeN:(Value.ref Y14::zdq).contains (.type "BaseException")=true)
   (zco:(Value.ref Y14::zdq).contains (.ref Y14)=true)
   (zaI:tI K Y13 Y13 true)
   (zaJ:tI K Y13 Y15 false)
   (zan:PySem.W.kitOne K (.ref Y13) (.type "ValueError")=some true)
   (zbf:tI K Y13 Y19 false)
   (zax:tI K Y13 Y4 false)
   (zaK:tI K Y13 Y10 false)
   (zaL:tI K Y13 Y11 false)
   (zar:tI K Y13 Y2 false)
   (zay:tI K Y13 Y5 false)
   (zaM:tI K Y13 Y14 false)
   (zaN:tI K Y13 Y7 false)
   (zaz:tI K Y13 Y3 false)
   (zaO:tI K Y13 Y12 false)
   (zaP:tI K Y13 Y16 false)
   (zaQ:tI K Y15 Y13 false)
   (zaR:tI K Y15 Y15 true)
   (zao:PySem.W.kitOne K (.ref Y15) (.type "ValueError")=some true)
   (zbg:tI K Y15 Y19 false)
   (zaA:tI K Y15 Y4 false)
   (zaS:tI K Y15 Y10 false)
   (zaT:tI K Y15 Y11 false)
   (zas:tI K Y15 Y2 false)
   (zaB:tI K Y15 Y5 false)
   (zaU:tI K Y15 Y14 false)
   (zaV:tI K Y15 Y7 false)
   (zaC:tI K Y15 Y3 false)
   (zaW:tI K Y15 Y12 false)
   (zaX:tI K Y15 Y16 false)
   (zgn:PySem.W.findIn K (.ref Y17) "__class__"=some (some (.builtin "object.__class__")))
   (ig:PySem.W.specialIn K (.builtin "object.__class__") "__get__"=some (some (.builtin "getset_descriptor.__get__")))
   (it:PySem.W.takesIn K (.builtin "object.__class__")=some true)
   (zgo:PySem.W.mroIn K Y17 (.type "object")=some true)
   (zgP:PySem.W.findIn K (.ref Y20) "__class__"=some (some (.builtin "object.__class__")))
   (zgQ:PySem.W.mroIn K Y20 (.type "object")=some true)
   (zgR:PySem.W.findIn K (.ref Y21) "__class__"=some (some (.builtin "object.__class__")))
   (zgS:PySem.W.mroIn K Y21 (.type "object")=some true)
   (zgp:PySem.W.findIn K (.ref Y18) "__class__"=some (some (.builtin "object.__class__")))
   (zgq:PySem.W.mroIn K Y18 (.type "object")=some true)
   (zeO:PySem.W.findIn K (.ref Y8) "__class__"=some (some (.builtin "object.__class__")))
   (zeP:PySem.W.mroIn K Y8 (.type "object")=some true)
   (zdO:PySem.W.findIn K (.ref Y6) "__class__"=some (some (.builtin "object.__class__")))
   (zdP:PySem.W.mroIn K Y6 (.type "object")=some true)
   (ic_Row:PySem.W.findIn K (.ref Y22) "__class__"=some (some (.builtin "object.__class__")))
   (im_Row:PySem.W.mroIn K Y22 (.type "object")=some true)
   (zbs:tI K Y17 Y17 true)
   (zbH:tI K Y17 Y20 false)
   (zbI:tI K Y17 Y21 false)
   (zbt:tI K Y17 Y18 false)
   (zbh:tI K Y17 Y8 false)
   (zaY:tI K Y17 Y6 false)
   (zbX:tI K Y17 Y22 false)
   (zat:tI K Y17 Y1 true)
   (zbi:tI K Y17 Y9 true)
   (zbJ:tI K Y20 Y17 false)
   (zbY:tI K Y20 Y20 true)
   (zbZ:tI K Y20 Y21 false)
   (zbK:tI K Y20 Y18 false)
   (zbu:tI K Y20 Y8 false)
   (zbj:tI K Y20 Y6 false)
   (zci:tI K Y20 Y22 false)
   (zaD:tI K Y20 Y1 true)
   (zbv:tI K Y20 Y9 true)
   (zbL:tI K Y21 Y17 false)
   (zca:tI K Y21 Y20 false)
   (zcb:tI K Y21 Y21 true)
   (zbM:tI K Y21 Y18 false)
   (zbw:tI K Y21 Y8 false)
   (zbk:tI K Y21 Y6 false)
   (zcj:tI K Y21 Y22 false)
   (zaE:tI K Y21 Y1 true)
   (zbx:tI K Y21 Y9 true)
   (zby:tI K Y18 Y17 false)
   (zbN:tI K Y18 Y20 false)
   (zbO:tI K Y18 Y21 false)
   (zbz:tI K Y18 Y18 true)
   (zbl:tI K Y18 Y8 false)
   (zaZ:tI K Y18 Y6 false)
   (zcc:tI K Y18 Y22 false)
   (zau:tI K Y18 Y1 true)
   (zbm:tI K Y18 Y9 true)
   (zbn:tI K Y8 Y17 false)
   (zbA:tI K Y8 Y20 false)
   (zbB:tI K Y8 Y21 false)
   (zbo:tI K Y8 Y18 false)
   (zba:tI K Y8 Y8 true)
   (zaF:tI K Y8 Y6 false)
   (zbP:tI K Y8 Y22 false)
   (zaq:tI K Y8 Y1 false)
   (zbb:tI K Y8 Y9 true)
   (zbc:tI K Y6 Y17 false)
   (zbp:tI K Y6 Y20 false)
   (zbq:tI K Y6 Y21 false)
   (zbd:tI K Y6 Y18 false)
   (zaG:tI K Y6 Y8 false)
   (zav:tI K Y6 Y6 true)
   (zbC:tI K Y6 Y22 false)
   (zap:tI K Y6 Y1 false)
   (zaH:tI K Y6 Y9 true)
   (zcd:tI K Y22 Y17 false)
   (zck:tI K Y22 Y20 false)
   (zcl:tI K Y22 Y21 false)
   (zce:tI K Y22 Y18 false)
   (zbQ:tI K Y22 Y8 false)
   (zbD:tI K Y22 Y6 false)
   (zcy:tI K Y22 Y22 true)
   (zbe:tI K Y22 Y1 false)
   (zbR:tI K Y22 Y9 true)
   (zeQ:K.lookup Y7=some (excClassObj zhM zhN Y7 N_Broken zhO zeR zhP zhQ zgT zhR zgU zhS zhT zhU zhV zhW zhX zeS))
   (zcZ:PySem.W.excIn K Y0 [.type "ValueError",.type "Exception",.type "BaseException",.type "object"] "ValueError.__new__"=true)
   (zeT:kI K Y7)
   (e40_:fI K Y7 "__init__" zbE)
   (zcg:LkF K "__init__" "Broken.__init__" Xdc .none zbE zcA zeU zeV zeW zeX zeY zcB zeZ zfa)
   (zcO:cI K zcB "Broken.__init__")
   (zcP:kI K zbE)
   (zfb:zeR = .ref Y0::[.type "ValueError",.type "Exception",.type "BaseException",.type "object"])
   (zfc:zeS="ValueError.__new__")
   (zfd:zcA = .type "function")
   (e9_:PySem.W.findCls K (.ref Y9) (.type "type") "__init__"=some (.val (.ref zag)))
   (zak:LkF K "__init__" "Keeper.__init__" Xbf .none zag zfe zff zfg zfh zfi zfj zcC zfk zfl)
   (zal:cI K zcC "Keeper.__init__")
   (zah:kI K zag)
   (zfm:PySem.W.specialIn K (.ref Y9) "__getattribute__"=some (some (.builtin "type.__getattribute__")))
   (zfn:PySem.W.readsIn K Y9 (.type "type")=true)
   (e26_:fI K Y17 "__init__" zag)
   (zaw:iI K zag)
   (zgr:PySem.W.makesIn K Y17=true)
   (zgs:kI K Y17)
   (e31_:fI K Y20 "__init__" zag)
   (zgV:PySem.W.makesIn K Y20=true)
   (zgW:kI K Y20)
   (e29_:fI K Y18 "__init__" zag)
   (zgt:PySem.W.makesIn K Y18=true)
   (zgu:kI K Y18)
   (e35_:fI K Y22 "__init__" zag)
   (mk_Row:PySem.W.makesIn K Y22=true)
   (kp_Row:kI K Y22)
   (e5_:PySem.W.findCls K (.ref Y1) (.type "type") "__init__"=some (.val (.ref zag)))
   (zda:PySem.W.specialIn K (.ref Y1) "__getattribute__"=some (some (.builtin "type.__getattribute__")))
   (zdb:PySem.W.readsIn K Y1 (.type "type")=true)
   (e41_:fI K Y21 "__init__" zcf)
   (zdt:LkF K "__init__" "Next.__init__" Xeg .none zcf zgv zgw zgx zgy zgz zgA zdc zgB zgC)
   (zdu:cI K zdc "Next.__init__")
   (zdv:kI K zcf)
   (zdd:iI K zcf)
   (zgX:PySem.W.makesIn K Y21=true)
   (zgY:kI K Y21)
   (e4_:fI K Y8 "room_begin" f_Z2)
   (e3_:fI K Y6 "room_begin" f_Z2)
   (e7_:fI K Y22 "room_begin" f_Z2)
   (l_Z2:LkF K "room_begin" "Keeper.room_begin" s_Z2 .none f_Z2 oc_Z2 od_Z2 kV_Z2 dc_Z2 pm_Z2 an_Z2 cd_Z2 ct_Z2 sl_Z2)
   (c_Z2:cI K cd_Z2 "Keeper.room_begin")
   (k_Z2:kI K f_Z2)
   (if_Z2:iI K f_Z2)
   (e32_:fI K Y17 "lay" f_Z26)
   (e36_:fI K Y20 "lay" f_Z26)
   (e34_:fI K Y21 "lay" f_Z26)
   (e30_:fI K Y18 "lay" f_Z26)
   (e27_:fI K Y8 "lay" f_Z26)
   (e23_:fI K Y6 "lay" f_Z26)
   (e37_:fI K Y22 "lay" f_Z26)
   (l_Z26:LkF K "lay" "Keeper.lay" Xwc .none f_Z26 oc_Z26 od_Z26 kV_Z26 dc_Z26 pm_Z26 an_Z26 cd_Z26 ct_Z26 sl_Z26)
   (c_Z26:cI K cd_Z26 "Keeper.lay")
   (k_Z26:kI K f_Z26)
   (if_Z26:iI K f_Z26)
   (e15_:fI K Y17 "pieces" f_Z6)
   (e20_:fI K Y20 "pieces" f_Z6)
   (e19_:fI K Y21 "pieces" f_Z6)
   (e16_:fI K Y18 "pieces" f_Z6)
   (e10_:fI K Y8 "pieces" f_Z6)
   (e8_:fI K Y6 "pieces" f_Z6)
   (e24_:fI K Y22 "pieces" f_Z6)
   (l_Z6:LkF K "pieces" "Keeper.pieces" s_Z6 .none f_Z6 oc_Z6 od_Z6 kV_Z6 dc_Z6 pm_Z6 an_Z6 cd_Z6 ct_Z6 sl_Z6)
   (c_Z6:cI K cd_Z6 "Keeper.pieces")
   (k_Z6:kI K f_Z6)
   (if_Z6:iI K f_Z6)
   (e22_:fI K Y17 "cells" f_Z10)
   (e28_:fI K Y20 "cells" f_Z10)
   (e25_:fI K Y21 "cells" f_Z10)
   (e21_:fI K Y18 "cells" f_Z10)
   (e12_:fI K Y8 "cells" f_Z10)
   (e11_:fI K Y6 "cells" f_Z10)
   (e33_:fI K Y22 "cells" f_Z10)
   (l_Z10:LkF K "cells" "Keeper.cells" Xwn .none f_Z10 oc_Z10 od_Z10 kV_Z10 dc_Z10 pm_Z10 an_Z10 cd_Z10 ct_Z10 sl_Z10)
   (c_Z10:cI K cd_Z10 "Keeper.cells")
   (k_Z10:kI K f_Z10)
   (if_Z10:iI K f_Z10)
   (e39_:fI K Y8 "__init__" zbF)
   (zcQ:LkF K "__init__" "Halves.__init__" Xdb .none zbF zfo zfp zfq zfr zfs zft zcD zfu zfv)
   (zcR:cI K zcD "Halves.__init__")
   (zcS:kI K zbF)
   (zcE:iI K zbF)
   (zfw:PySem.W.makesIn K Y8=true)
   (zfx:kI K Y8)
   {dt_Z21:Addr} {dk_Z21:Tok} {dtc_Z21:Value} {dtd_Z21:Option Addr} {dtn_Z21:Nat} {dts_Z21:Array (Option Value)}
   (a_Z21:fI K Y8 "ask" f_Z21)
   (l_Z21:LkF K "ask" "Halves.ask" Xki (.ref dt_Z21) f_Z21 oc_Z21 od_Z21 kV_Z21 dc_Z21 pm_Z21 an_Z21 cd_Z21 ct_Z21 sl_Z21)
   (ld_Z21:K.lookup dt_Z21=some ⟨dtc_Z21,dtd_Z21,.seq [.int 1 dk_Z21].toArray dtn_Z21,dts_Z21⟩)
   (c_Z21:cI K cd_Z21 "Halves.ask")
   (k_Z21:kI K f_Z21)
   (if_Z21:iI K f_Z21)
   (e38_:fI K Y6 "__init__" zbr)
   (zcF:LkF K "__init__" "Shelves.__init__" Xcx .none zbr zdS zdT zdU zdV zdW zdX zcq zdY zdZ)
   (zcG:cI K zcq "Shelves.__init__")
   (zcH:kI K zbr)
   (zcr:iI K zbr)
   (zdQ:PySem.W.makesIn K Y6=true)
   (zdR:kI K Y6)
   {dt_Z15:Addr} {dk_Z15:Tok} {dtc_Z15:Value} {dtd_Z15:Option Addr} {dtn_Z15:Nat} {dts_Z15:Array (Option Value)}
   (a_Z15:fI K Y6 "ask" f_Z15)
   (l_Z15:LkF K "ask" "Shelves.ask" Xkj (.ref dt_Z15) f_Z15 oc_Z15 od_Z15 kV_Z15 dc_Z15 pm_Z15 an_Z15 cd_Z15 ct_Z15 sl_Z15)
   (ld_Z15:K.lookup dt_Z15=some ⟨dtc_Z15,dtd_Z15,.seq [.int 1 dk_Z15].toArray dtn_Z15,dts_Z15⟩)
   (c_Z15:cI K cd_Z15 "Shelves.ask")
   (k_Z15:kI K f_Z15)
   (if_Z15:iI K f_Z15)
   {dt_Z50:Addr} {dk_Z50:Tok} {dtc_Z50:Value} {dtd_Z50:Option Addr} {dtn_Z50:Nat} {dts_Z50:Array (Option Value)}
   (a_Z50:fI K Y22 "ask" f_Z50)
   (l_Z50:LkF K "ask" "Row.ask" Xji (.ref dt_Z50) f_Z50 oc_Z50 od_Z50 kV_Z50 dc_Z50 pm_Z50 an_Z50 cd_Z50 ct_Z50 sl_Z50)
   (ld_Z50:K.lookup dt_Z50=some ⟨dtc_Z50,dtd_Z50,.seq [.int 1 dk_Z50].toArray dtn_Z50,dts_Z50⟩)
   (c_Z50:cI K cd_Z50 "Row.ask")
   (k_Z50:kI K f_Z50)
   (if_Z50:iI K f_Z50)
   (a_Z9:fI K Y17 "chosen" f_Z9)
   (l_Z9:LkF K "chosen" "First.chosen" s_Z9 .none f_Z9 oc_Z9 od_Z9 kV_Z9 dc_Z9 pm_Z9 an_Z9 cd_Z9 ct_Z9 sl_Z9)
   (c_Z9:cI K cd_Z9 "First.chosen")
   (k_Z9:kI K f_Z9)
   (if_Z9:iI K f_Z9)
   (a_Z17:fI K Y20 "chosen" f_Z17)
   (l_Z17:LkF K "chosen" "Best.chosen" Xyp .none f_Z17 oc_Z17 od_Z17 kV_Z17 dc_Z17 pm_Z17 an_Z17 cd_Z17 ct_Z17 sl_Z17)
   (c_Z17:cI K cd_Z17 "Best.chosen")
   (k_Z17:kI K f_Z17)
   (if_Z17:iI K f_Z17)
   (a_Z13:fI K Y21 "chosen" f_Z13)
   (l_Z13:LkF K "chosen" "Next.chosen" Xxb .none f_Z13 oc_Z13 od_Z13 kV_Z13 dc_Z13 pm_Z13 an_Z13 cd_Z13 ct_Z13 sl_Z13)
   (c_Z13:cI K cd_Z13 "Next.chosen")
   (k_Z13:kI K f_Z13)
   (if_Z13:iI K f_Z13)
   (a_Z8:fI K Y18 "chosen" f_Z8)
   (l_Z8:LkF K "chosen" "Likes.chosen" s_Z8 .none f_Z8 oc_Z8 od_Z8 kV_Z8 dc_Z8 pm_Z8 an_Z8 cd_Z8 ct_Z8 sl_Z8)
   (c_Z8:cI K cd_Z8 "Likes.chosen")
   (k_Z8:kI K f_Z8)
   (if_Z8:iI K f_Z8)
   (e0_:fI K Y17 "room_granted" f_Z0)
   (e2_:fI K Y20 "room_granted" f_Z0)
   (e1_:fI K Y18 "room_granted" f_Z0)
   (l_Z0:LkF K "room_granted" "Stretches.room_granted" s_Z0 .none f_Z0 oc_Z0 od_Z0 kV_Z0 dc_Z0 pm_Z0 an_Z0 cd_Z0 ct_Z0 sl_Z0)
   (c_Z0:cI K cd_Z0 "Stretches.room_granted")
   (k_Z0:kI K f_Z0)
   (if_Z0:iI K f_Z0)
   (e6_:fI K Y21 "room_granted" f_Z1)
   (l_Z1:LkF K "room_granted" "Next.room_granted" s_Z1 .none f_Z1 oc_Z1 od_Z1 kV_Z1 dc_Z1 pm_Z1 an_Z1 cd_Z1 ct_Z1 sl_Z1)
   (c_Z1:cI K cd_Z1 "Next.room_granted")
   (k_Z1:kI K f_Z1)
   (if_Z1:iI K f_Z1)
   {dt_Z4:Addr} {dk_Z4:Tok} {dtc_Z4:Value} {dtd_Z4:Option Addr} {dtn_Z4:Nat} {dts_Z4:Array (Option Value)}
   (e14_:fI K Y17 "ask" f_Z4)
   (e17_:fI K Y20 "ask" f_Z4)
   (e18_:fI K Y21 "ask" f_Z4)
   (e13_:fI K Y18 "ask" f_Z4)
   (l_Z4:LkF K "ask" "Stretches.ask" s_Z4 (.ref dt_Z4) f_Z4 oc_Z4 od_Z4 kV_Z4 dc_Z4 pm_Z4 an_Z4 cd_Z4 ct_Z4 sl_Z4)
   (ld_Z4:K.lookup dt_Z4=some ⟨dtc_Z4,dtd_Z4,.seq [.int 1 dk_Z4].toArray dtn_Z4,dts_Z4⟩)
   (c_Z4:cI K cd_Z4 "Stretches.ask")
   (k_Z4:kI K f_Z4)
   (if_Z4:iI K f_Z4) :
   ∃fd:FuncData,(∀(s:Shared) (v:Value),BindsTo s fd ⟨[v],[]⟩ [("_law_script",v)])∧∀base:Heap,K.In base→base.Ns mainGlobals mg→FnOk l.prog w K mg base (CXe l.prog w) 12 fa fd ["_law_script"] (Xwp K):=by
 have e:=hfa.symm.trans (PySem.W.mg_of X G a_law)
 cases e
 have T:Txt K mg Y0 Y13 Y15 Y7 Y11 Y2 Y5 Y10 Y19 Y4 Y14 Y3 Y12 Y16 Y9 Y8 Y22 Y6 Y1 Y17 Y20 Y21 Y18 W0_ W1_:=⟨PySem.W.mg_none_of X G zcV,PySem.W.mg_none_of X G z_any,PySem.W.mg_none_of X G z_bool,PySem.W.mg_none_of X G z_int,PySem.W.mg_none_of X G z_isinstance,PySem.W.mg_none_of X G z_len,PySem.W.mg_none_of X G z_list,PySem.W.mg_none_of X G z_max,PySem.W.mg_none_of X G z_min,PySem.W.mg_none_of X G z_range,PySem.W.mg_none_of X G z_tuple,PySem.W.mg_of X G zbG,PySem.W.mg_of X G zcs,PySem.W.mg_of X G zcW,PySem.W.mg_of X G zdh,PySem.W.mg_of X G zdi,PySem.W.mg_of X G zdj,PySem.W.mg_of X G zef,PySem.W.mg_of X G zds,PySem.W.mg_of X G zcI,PySem.W.mg_of X G zeg,PySem.W.mg_of X G zdB,PySem.W.mg_of X G zcJ,PySem.W.mg_of X G zdk,PySem.W.mg_of X G zdC,PySem.W.mg_of X G zeh,PySem.W.mg_of X G zei,PySem.W.mg_of X G zej,PySem.W.mg_of X G zek,PySem.W.mg_of X G cc_Row,PySem.W.mg_of X G zdD,PySem.W.mg_of X G zcX,PySem.W.mg_of X G zfX,PySem.W.mg_of X G zgH,PySem.W.mg_of X G zgI,PySem.W.mg_of X G zfY,⟨zel,⟨_,zem,zen,zeo⟩,zep,zeq⟩,⟨PySem.W.mg_of X G zdi,_,_,_,_,zer,PySem.F.excBase_ValueError,PySem.F.excBase_ValueError.hasBase⟩,⟨PySem.W.mg_of X G zdh,_,_,_,_,zes,PySem.F.excBase_ValueError,PySem.F.excBase_ValueError.hasBase⟩,⟨PySem.W.mg_of X G zcI,_,_,_,_,zdE,PySem.F.excBase_ValueError,PySem.F.excBase_ValueError.hasBase⟩,⟨PySem.W.mg_of X G zdk,_,_,_,_,zet,PySem.F.excBase_ValueError,PySem.F.excBase_ValueError.hasBase⟩,⟨PySem.W.mg_of X G zdB,_,_,_,_,zfZ,PySem.F.excBase_ValueError,PySem.F.excBase_ValueError.hasBase⟩,⟨PySem.W.mg_of X G zcJ,_,_,_,_,zdF,PySem.F.excBase_ValueError,PySem.F.excBase_ValueError.hasBase⟩,⟨zdG,zdH,zdI,zdJ⟩,zac,⟨zfA,zfB,zfC,zfD⟩,zae,⟨zfE,zfF,zfG,zfH⟩,zaa,zaf,⟨zdK,zdL,zdM,zdN⟩,zad,⟨zdl,zdm,zdn,zdo⟩,zai,⟨zcK,zcL,zcM,zcN⟩,zab,zam,⟨pg_Row,hd_Row,po_Row,sa_Row⟩,zaj,⟨zeu,zev,zew,zex,zey⟩,⟨zez,zeA,zeB,zeC,zeD⟩,⟨zeE,zeF,zeG,zeH,zeI⟩,⟨_,_,⟨_,_,_,_,_,_,_,_,_,_,_,_,_,_,_,_,zeJ⟩,⟨_,_,_,_,_,_,_,_,_,_,_,_,_,_,_,_,zcm⟩,zcn,zbT⟩,⟨_,_,⟨_,_,_,_,_,_,_,_,_,_,_,_,_,_,_,_,zeL⟩,⟨_,_,_,_,_,_,_,_,_,_,_,_,_,_,_,_,zcm⟩,zcn,zbU⟩,⟨_,_,⟨_,_,_,_,_,_,_,_,_,_,_,_,_,_,_,_,zdp⟩,⟨_,_,_,_,_,_,_,_,_,_,_,_,_,_,_,_,zdp⟩,zeN,zco⟩,zaI,zaJ,zan,zbf,zax,zaK,zaL,zar,zay,zaM,zaN,zaz,zaO,zaP,zaQ,zaR,zao,zbg,zaA,zaS,zaT,zas,zaB,zaU,zaV,zaC,zaW,zaX,⟨⟨zdG,zdH,zdI,zdJ⟩,zgn,ig,it,zgo⟩,⟨⟨zfA,zfB,zfC,zfD⟩,zgP,ig,it,zgQ⟩,⟨⟨zfE,zfF,zfG,zfH⟩,zgR,ig,it,zgS⟩,⟨⟨zdK,zdL,zdM,zdN⟩,zgp,ig,it,zgq⟩,⟨⟨zdl,zdm,zdn,zdo⟩,zeO,ig,it,zeP⟩,⟨⟨zcK,zcL,zcM,zcN⟩,zdO,ig,it,zdP⟩,⟨⟨pg_Row,hd_Row,po_Row,sa_Row⟩,ic_Row,ig,it,im_Row⟩,zbs,zbH,zbI,zbt,zbh,zaY,zbX,zat,zbi,zbJ,zbY,zbZ,zbK,zbu,zbj,zci,zaD,zbv,zbL,zca,zcb,zbM,zbw,zbk,zcj,zaE,zbx,zby,zbN,zbO,zbz,zbl,zaZ,zcc,zau,zbm,zbn,zbA,zbB,zbo,zba,zaF,zbP,zaq,zbb,zbc,zbp,zbq,zbd,zaG,zav,zbC,zap,zaH,zcd,zck,zcl,zce,zbQ,zbD,zcy,zbe,zbR⟩
 have S_Z67:=Xax (st:=Xwt) X G a_Z67 l_Z67 c_Z67 k_Z67
 have S_Z30:=Xax (st:=Xtc) X G a_Z30 l_Z30 c_Z30 k_Z30
 have S_Z3:=Xax (st:=s_Z3) X G a_Z3 l_Z3 c_Z3 k_Z3
 have S_Z55:=Xax (st:=Xqd) X G a_Z55 l_Z55 c_Z55 k_Z55
 have S_Z52:=Xax (st:=Xqa) X G a_Z52 l_Z52 c_Z52 k_Z52
 have S_Z44:=Xax (st:=Xti) X G a_Z44 l_Z44 c_Z44 k_Z44
 have S_Z36:=Xax (st:=Xtb) X G a_Z36 l_Z36 c_Z36 k_Z36
 have S_Z7:=Xax (st:=s_Z7) X G a_Z7 l_Z7 c_Z7 k_Z7
 have S_Z62:=Xax (st:=Xru) X G a_Z62 l_Z62 c_Z62 k_Z62
 have S_Z24:=Xax (st:=Xtu) X G a_Z24 l_Z24 c_Z24 k_Z24
 have S_Z72:=Xax (st:=Xqf) X G a_Z72 l_Z72 c_Z72 k_Z72
 have S_Z37:=Xax (st:=Xue) X G a_Z37 l_Z37 c_Z37 k_Z37
 have S_Z43:=Xax (st:=Xub) X G a_Z43 l_Z43 c_Z43 k_Z43
 have S_Z49:=Xax (st:=XAs) X G a_Z49 l_Z49 c_Z49 k_Z49
 have S_Z54:=Xax (st:=Xux) X G a_Z54 l_Z54 c_Z54 k_Z54
 have S_Z11:=Xax (st:=Xuh) X G a_Z11 l_Z11 c_Z11 k_Z11
 have S_Z58:=Xax (st:=Xuf) X G a_Z58 l_Z58 c_Z58 k_Z58
 have S_Z5:=Xax (st:=s_Z5) X G a_Z5 l_Z5 c_Z5 k_Z5
 have S_Z60:=Xax (st:=XAj) X G a_Z60 l_Z60 c_Z60 k_Z60
 have S_Z39:=Xax (st:=Xto) X G a_Z39 l_Z39 c_Z39 k_Z39
 have S_Z29:=Xax (st:=Xpy) X G a_Z29 l_Z29 c_Z29 k_Z29
 have S_Z25:=Xax (st:=Xty) X G a_Z25 l_Z25 c_Z25 k_Z25
 have S_Z42:=Xax (st:=Xrp) X G a_Z42 l_Z42 c_Z42 k_Z42
 have S_Z34:=Xax (st:=Xrq) X G a_Z34 l_Z34 c_Z34 k_Z34
 have S_Z41:=Xax (st:=Xsp) X G a_Z41 l_Z41 c_Z41 k_Z41
 have S_Z22:=Xax (st:=Xpz) X G a_Z22 l_Z22 c_Z22 k_Z22
 have S_Z20:=Xax (st:=Xsq) X G a_Z20 l_Z20 c_Z20 k_Z20
 have S_Z45:=Xax (st:=Xvx) X G a_Z45 l_Z45 c_Z45 k_Z45
 have S_Z32:=Xax (st:=Xug) X G a_Z32 l_Z32 c_Z32 k_Z32
 have S_Z14:=Xax (st:=Xui) X G a_Z14 l_Z14 c_Z14 k_Z14
 have S_Z28:=Xax (st:=Xvv) X G a_Z28 l_Z28 c_Z28 k_Z28
 have S_Z16:=Xax (st:=Xvw) X G a_Z16 l_Z16 c_Z16 k_Z16
 have S_Z12:=Xax (st:=Xpx) X G a_Z12 l_Z12 c_Z12 k_Z12
 have S_Z27:=XDq (st:=Xit) X G a_Z27 l_Z27 c_Z27 k_Z27
 have S_Z31:=Xax (st:=Xuk) X G a_Z31 l_Z31 c_Z31 k_Z31
 have S_Z46:=Xax (st:=Xtn) X G a_Z46 l_Z46 c_Z46 k_Z46
 have S_Z47:=Xax (st:=Xsc) X G a_Z47 l_Z47 c_Z47 k_Z47
 have S_Z35:=Xax (st:=Xpq) X G a_Z35 l_Z35 c_Z35 k_Z35
 have S_Z61:=Xax (st:=Xrr) X G a_Z61 l_Z61 c_Z61 k_Z61
 have S_Z18:=Xax (st:=Xqt) X G a_Z18 l_Z18 c_Z18 k_Z18
 have S_Z33:=Xax (st:=Xut) X G a_Z33 l_Z33 c_Z33 k_Z33
 have S_Z57:=Xax (st:=Xql) X G a_Z57 l_Z57 c_Z57 k_Z57
 have S_Z48:=Xax (st:=Xuv) X G a_Z48 l_Z48 c_Z48 k_Z48
 have S_Z69:=Xax (st:=Xpr) X G a_Z69 l_Z69 c_Z69 k_Z69
 subst zfb zfc zfd
 have XI_Broken:XIni K mg "Broken" Y7 Y0 zbE:=⟨PySem.W.mg_of X G zdj,⟨_,_,_,_,_,_,_,_,_,_,_,_,_,_,_,zeQ⟩,zcZ,e40_,zeT,⟨_,_,_,_,zcg,rfl⟩⟩
 refine⟨PySem.W.fnOf "law" "law" (Xaz Xms) (Xav Xms) (Xad Xms) .none kV_law dc_law pm_law an_law cd_law ct_law,fun s v=>.of_eq rfl,fun base _ _=>?_⟩
 have D_Z55:=d_Z55 (T:=T) (P:=l.prog) (w:=w) (base:=base) S_Z55 
 have D_Z52:=d_Z52 (T:=T) (P:=l.prog) (w:=w) (base:=base) S_Z52 
 have D_Z44:=d_Z44 (T:=T) (P:=l.prog) (w:=w) (base:=base) S_Z44 
 have D_Z36:=d_Z36 (T:=T) (P:=l.prog) (w:=w) (base:=base) S_Z36 D_Z52 D_Z44
 have D_Z7:=d_Z7 (T:=T) (P:=l.prog) (w:=w) (base:=base) S_Z7 D_Z52 D_Z36
 have D_Broken:=XBy (P:=l.prog) (w:=w) (base:=base) (Xcj zcg zcO zcP) XI_Broken T.zfR
 have D_Z62:=d_Z62 (T:=T) (P:=l.prog) (w:=w) (base:=base) S_Z62 D_Z52 D_Z44 D_Z7 D_Broken
 have D_Z24:=d_Z24 (T:=T) (P:=l.prog) (w:=w) (base:=base) S_Z24 D_Z55
 have D_Z72:=d_Z72 (T:=T) (P:=l.prog) (w:=w) (base:=base) S_Z72 D_Z55
 have D_Z37:=d_Z37 (T:=T) (P:=l.prog) (w:=w) (base:=base) S_Z37 D_Z72
 have D_Z43:=d_Z43 (T:=T) (P:=l.prog) (w:=w) (base:=base) S_Z43 D_Z62
 have D_Z54:=d_Z54 (T:=T) (P:=l.prog) (w:=w) (base:=base) S_Z54 D_Z43
 have D_Z58:=d_Z58 (T:=T) (P:=l.prog) (w:=w) (base:=base) S_Z58 D_Z54 D_Z37 D_Z72
 have D_Z30:=d_Z30 (T:=T) (P:=l.prog) (w:=w) (base:=base) S_Z30 
 have D_Z3:=d_Z3 (T:=T) (P:=l.prog) (w:=w) (base:=base) S_Z3 D_Z30
 have D_Z56:=d_Z56 (T:=T) (P:=l.prog) (w:=w) (base:=base) (Xcj zak zal zah) ⟨zfm,zfn,e9_,zah⟩ D_Z24
 have D_First:=XHa (T:=T) (P:=l.prog) (w:=w) (base:=base) (Xcj zak zal zah) ⟨zgr,e26_,zaw,zgs⟩ D_Z24
 have D_Best:=XOo (T:=T) (P:=l.prog) (w:=w) (base:=base) (Xcj zak zal zah) ⟨zgV,e31_,zaw,zgW⟩ D_Z24
 have D_Likes:=XIt (T:=T) (P:=l.prog) (w:=w) (base:=base) (Xcj zak zal zah) ⟨zgt,e29_,zaw,zgu⟩ D_Z24
 have D_Row:=d_Row (T:=T) (P:=l.prog) (w:=w) (base:=base) (Xcj zak zal zah) ⟨mk_Row,e35_,zaw,kp_Row⟩ D_Z24
 have D_Z23:=d_Z23 (T:=T) (P:=l.prog) (w:=w) (base:=base) (Xcj zak zal zah) ⟨zda,zdb,e5_,zah⟩ D_Z24
 have D_Next:=d_Next (T:=T) (P:=l.prog) (w:=w) (base:=base) (Xcj zdt zdu zdv) ⟨zgX,e41_,zdd,zgY⟩ D_Z23
 have D_Z19:=d_Z19 (T:=T) (P:=l.prog) (w:=w) (base:=base) (Xcj l_Z2 c_Z2 k_Z2) (fun i hi=>by cases i <;> first | exact⟨e4_,if_Z2,k_Z2⟩ | exact⟨e3_,if_Z2,k_Z2⟩ | exact⟨e7_,if_Z2,k_Z2⟩ | exact absurd rfl hi | cases hi | exact hi.elim) 
 have D_lay:=d_lay (T:=T) (P:=l.prog) (w:=w) (base:=base) (Xcj l_Z26 c_Z26 k_Z26) (fun i hi=>by cases i <;> first | exact⟨e32_,if_Z26,k_Z26⟩ | exact⟨e36_,if_Z26,k_Z26⟩ | exact⟨e34_,if_Z26,k_Z26⟩ | exact⟨e30_,if_Z26,k_Z26⟩ | exact⟨e27_,if_Z26,k_Z26⟩ | exact⟨e23_,if_Z26,k_Z26⟩ | exact⟨e37_,if_Z26,k_Z26⟩ | exact absurd rfl hi | cases hi | exact hi.elim) D_Z62 D_Z19
 have D_Z59:=d_Z59 (T:=T) (P:=l.prog) (w:=w) (base:=base) (Xcj l_Z6 c_Z6 k_Z6) (Xtm (Q:=fun C=>Meth K C "pieces" f_Z6) ⟨e15_,if_Z6,k_Z6⟩ ⟨e20_,if_Z6,k_Z6⟩ ⟨e19_,if_Z6,k_Z6⟩ ⟨e16_,if_Z6,k_Z6⟩ ⟨e10_,if_Z6,k_Z6⟩ ⟨e8_,if_Z6,k_Z6⟩ ⟨e24_,if_Z6,k_Z6⟩) D_Z62
 have D_Z64:=d_Z64 (T:=T) (P:=l.prog) (w:=w) (base:=base) (Xcj l_Z10 c_Z10 k_Z10) (Xtm (Q:=fun C=>Meth K C "cells" f_Z10) ⟨e22_,if_Z10,k_Z10⟩ ⟨e28_,if_Z10,k_Z10⟩ ⟨e25_,if_Z10,k_Z10⟩ ⟨e21_,if_Z10,k_Z10⟩ ⟨e12_,if_Z10,k_Z10⟩ ⟨e11_,if_Z10,k_Z10⟩ ⟨e33_,if_Z10,k_Z10⟩) 
 have D_Z39:=d_Z39 (T:=T) (P:=l.prog) (w:=w) (base:=base) S_Z39 
 have D_Halves:=XBo (T:=T) (P:=l.prog) (w:=w) (base:=base) (Xcj zcQ zcR zcS) ⟨zfw,e39_,zcE,zfx⟩ D_Z39 D_Z56
 have D_Z29:=d_Z29 (T:=T) (P:=l.prog) (w:=w) (base:=base) S_Z29 
 have D_Z25:=d_Z25 (T:=T) (P:=l.prog) (w:=w) (base:=base) S_Z25 
 have D_Z42:=d_Z42 (T:=T) (P:=l.prog) (w:=w) (base:=base) S_Z42 D_Z72
 have D_Z66:=d_Z66 (T:=T) (P:=l.prog) (w:=w) (base:=base) (Xho l_Z21 c_Z21 k_Z21) ld_Z21 ⟨a_Z21,if_Z21,k_Z21⟩ D_Z3 D_Z29 D_Z59 D_Z25 D_Z64 D_Z42 D_lay
 have D_Z34:=d_Z34 (T:=T) (P:=l.prog) (w:=w) (base:=base) S_Z34 D_Z24
 have D_Z41:=d_Z41 (T:=T) (P:=l.prog) (w:=w) (base:=base) S_Z41 
 have D_Z22:=d_Z22 (T:=T) (P:=l.prog) (w:=w) (base:=base) S_Z22 D_Z62
 have D_Z20:=d_Z20 (T:=T) (P:=l.prog) (w:=w) (base:=base) S_Z20 D_Z62 D_Z41 D_Z52
 have D_Z45:=d_Z45 (T:=T) (P:=l.prog) (w:=w) (base:=base) S_Z45 D_Z72
 have D_Z32:=d_Z32 (T:=T) (P:=l.prog) (w:=w) (base:=base) S_Z32 D_Z20 D_Z22 D_Z45
 have D_Shelves:=Xrw (T:=T) (P:=l.prog) (w:=w) (base:=base) (Xcj zcF zcG zcH) ⟨zdQ,e38_,zcr,zdR⟩ D_Z34 D_Z56 D_lay
 have D_Z68:=d_Z68 (T:=T) (P:=l.prog) (w:=w) (base:=base) (Xho l_Z15 c_Z15 k_Z15) ld_Z15 ⟨a_Z15,if_Z15,k_Z15⟩ D_Z3 D_Z64 D_Z32 D_Z20 D_Z72 D_lay
 have D_Z65:=d_Z65 (T:=T) (P:=l.prog) (w:=w) (base:=base) (Xho l_Z50 c_Z50 k_Z50) ld_Z50 ⟨a_Z50,if_Z50,k_Z50⟩ D_Z3 D_Z59 D_Z64 D_Z58 D_lay
 have D_Z14:=d_Z14 (T:=T) (P:=l.prog) (w:=w) (base:=base) S_Z14 
 have D_Z28:=d_Z28 (T:=T) (P:=l.prog) (w:=w) (base:=base) S_Z28 D_Z14 D_Z62
 have D_Z16:=d_Z16 (T:=T) (P:=l.prog) (w:=w) (base:=base) S_Z16 
 have D_Z11:=d_Z11 (T:=T) (P:=l.prog) (w:=w) (base:=base) S_Z11 D_Z62
 have D_Z38:=d_Z38 (T:=T) (P:=l.prog) (w:=w) (base:=base) (Xcj l_Z9 c_Z9 k_Z9) ⟨a_Z9,if_Z9,k_Z9⟩ D_Z28 D_Z16
 have D_Z53:=d_Z53 (T:=T) (P:=l.prog) (w:=w) (base:=base) (Xcj l_Z17 c_Z17 k_Z17) ⟨a_Z17,if_Z17,k_Z17⟩ D_Z28 D_Z16 D_Z52
 have D_Z51:=d_Z51 (T:=T) (P:=l.prog) (w:=w) (base:=base) (Xcj l_Z13 c_Z13 k_Z13) ⟨a_Z13,if_Z13,k_Z13⟩ D_Z28 D_Z16
 have D_Z40:=d_Z40 (T:=T) (P:=l.prog) (w:=w) (base:=base) (Xcj l_Z8 c_Z8 k_Z8) ⟨a_Z8,if_Z8,k_Z8⟩ D_Z28 D_Z16 D_Z52
 have D_chosen:Xcy l.prog w K mg base (ok4) (cF Y17 Y20 Y21 Y18 Y8 Y6 Y22) "chosen" 6 ["self","long","bound"] [] (Xfb (cF Y17 Y20 Y21 Y18 Y8 Y6 Y22)):=fun i hi=>by cases i <;> first | exact D_Z38.up (by decide) | exact D_Z53.up (by decide) | exact D_Z51.up (by decide) | exact D_Z40.up (by decide) | exact hi.elim
 have D_Z71:=d_Z71 (T:=T) (P:=l.prog) (w:=w) (base:=base) (Xcj l_Z0 c_Z0 k_Z0) (fun i hi=>by cases i <;> first | exact⟨e0_,if_Z0,k_Z0⟩ | exact⟨e2_,if_Z0,k_Z0⟩ | exact⟨e1_,if_Z0,k_Z0⟩ | exact absurd rfl hi | cases hi | exact hi.elim) 
 have D_Z70:=d_Z70 (T:=T) (P:=l.prog) (w:=w) (base:=base) (Xcj l_Z1 c_Z1 k_Z1) (fun i hi=>by cases i <;> first | exact⟨e6_,if_Z1,k_Z1⟩ | exact absurd rfl hi | cases hi | exact hi.elim) 
 have D_room_granted:Xcy l.prog w K mg base (ok4) (cF Y17 Y20 Y21 Y18 Y8 Y6 Y22) "room_granted" 1 ["self","behind"] [] (Xjr (cF Y17 Y20 Y21 Y18 Y8 Y6 Y22)):=fun i hi=>by cases i <;> first | exact(D_Z71 _ (by first | exact True.intro | exact rfl)).up (by decide) | exact(D_Z70 _ (by first | exact True.intro | exact rfl)).up (by decide) | exact hi.elim
 have D_Z63:=d_Z63 (T:=T) (P:=l.prog) (w:=w) (base:=base) (Xho l_Z4 c_Z4 k_Z4) ld_Z4 (fun i hi=>by cases i <;> first | exact⟨e14_,if_Z4,k_Z4⟩ | exact⟨e17_,if_Z4,k_Z4⟩ | exact⟨e18_,if_Z4,k_Z4⟩ | exact⟨e13_,if_Z4,k_Z4⟩ | exact absurd rfl hi | cases hi | exact hi.elim) D_Z30 D_chosen D_Z58 D_Z11 D_room_granted
 have D_ask:MethFD l.prog w K mg base (cF Y17 Y20 Y21 Y18 Y8 Y6 Y22) "ask" 8 ["self","count","bound"] [.int 1] (Xjg (cF Y17 Y20 Y21 Y18 Y8 Y6 Y22) Y19 Y4 Y14):=⟨fun i=>by cases i <;> first | exact(D_Z63.all _ (by first | exact True.intro | exact rfl)).up (by decide) | exact D_Z66.all.up (by decide) | exact D_Z68.all.up (by decide) | exact D_Z65.all.up (by decide),fun i=>by cases i <;> first | exact(D_Z63.less _ (by first | exact True.intro | exact rfl)).up (by decide) | exact D_Z66.less.up (by decide) | exact D_Z68.less.up (by decide) | exact D_Z65.less.up (by decide)⟩
 have D_Z12:=d_Z12 (T:=T) (P:=l.prog) (w:=w) (base:=base) S_Z12 D_First D_Best D_Next D_Likes
 have D_Z27:=d_Z27 (T:=T) (P:=l.prog) (w:=w) (base:=base) S_Z27 ld_Z27 D_Halves D_Shelves D_Row D_Z12
 have D_Z31:=d_Z31 (T:=T) (P:=l.prog) (w:=w) (base:=base) S_Z31 
 have D_Z46:=d_Z46 (T:=T) (P:=l.prog) (w:=w) (base:=base) S_Z46 
 have D_Z47:=d_Z47 (T:=T) (P:=l.prog) (w:=w) (base:=base) S_Z47 D_Z46
 have D_Z18:=d_Z18 (T:=T) (P:=l.prog) (w:=w) (base:=base) S_Z18 
 have D_Z33:=d_Z33 (T:=T) (P:=l.prog) (w:=w) (base:=base) S_Z33 
 have D_Z57:=d_Z57 (T:=T) (P:=l.prog) (w:=w) (base:=base) S_Z57 D_ask
 have D_Z48:=d_Z48 (T:=T) (P:=l.prog) (w:=w) (base:=base) S_Z48 D_Z47 D_Z59 D_Z57 D_Z46
 have D_Z61:=d_Z61 (T:=T) (P:=l.prog) (w:=w) (base:=base) S_Z61 D_Z27
 have D_Z35:=d_Z35 (T:=T) (P:=l.prog) (w:=w) (base:=base) S_Z35 
 have D_Z69:=d_Z69 (T:=T) (P:=l.prog) (w:=w) (base:=base) S_Z69 D_Z35 D_Z61 D_Z18 D_Z33 D_Z48
 exact XRw (T:=T) (Xcj l_law c_law k_law) D_Z31 D_Z69
theorem walk {l:PySem.W.OpenLaw}{q:Program}{loose:List Str}{XP:(Str→Option Value)→Heap→Prop}{YP:World→Heap→Prop}{d:DefRec}{K:Params→PySem.W.Frag}(hn:l.most=some 63)(hdf:d.params.defaults=[])
   (hY:∀(w:World) (h:Heap),YP w h→(K w.params).In h)
   (F:∀(w:World) (mg:Str→Option Value) (fa:Addr) (h:Heap),(K w.params).In h→h.Ns mainGlobals mg→mg d.name=some (.ref fa) →
     ∃fd:FuncData,(∀(s:Shared) (u:Value),BindsTo s fd ⟨[u],[]⟩ [("_law_script",u)])∧∀base:Heap,(K w.params).In base→base.Ns mainGlobals mg→FnOk l.prog w (K w.params) mg base (CXe l.prog w) 12 fa fd ["_law_script"] (Xwp (K w.params))) :
   PySem.W.WalkO q loose XP YP l.row.toRowW d [] (fun f vs=>PySem.call f vs) :=
 L2.walk_of (n:=63) (k:=12) (x:="_law_script") (CX:=fun w=>(CXe l.prog w)) (sp:=fun w=>Xwp (K w.params)) hn (by decide) hdf ⟨rfl,by decide,by decide⟩ hY F (fun _ _ a ns hl _ hS=>⟨a,ns,rfl,hS,hl,fun _=>rfl⟩) (fun _ _ _ _ _ ⟨_,_,_,_,_,_,_,_,_,_,_,_,_,_,_,z⟩=>z)
end Stow
open PySem PySem.W PyProof.Rows
set_option maxRecDepth 100000 in
set_option maxHeartbeats 0 in
theorem PySem.Challenge.cw_stow_k37_kinds_holds : PySem.Challenge.rw_stow_k37_kinds.Holds := by
 w_on;o_law
 refine holds_open (XP:=fun _ _=>True) (YP:=InK Stow.heap0) Stow.left0 ?y (InK.keeps (K:=Stow.heap0)) (fun _ _=>trivial) (fun _ _ _ h _=>h) rfl rfl rfl (fun _ e=>recFacts_of e) rfl
   (by assumption) (by decide +kernel) ⟨rfl,rfl,rfl,rfl,rfl,by decide +kernel⟩ ?hw ?hc
 case y=>exact InK.of Stow.at0_eq
 case hw=>w_witness2
 k_fill
 refine Stow.walk (l:=PySem.Challenge.rw_stow_k37_kinds) rfl rfl (fun w h Y=>Y) ?F
 case F =>
   intro w mg fa h KX G hmg
   apply Stow.all_mk KX G hmg
   iterate 219 ((first|unfold Stow.LkF|unfold Stow.nI|unfold Stow.fI|unfold Stow.cI|unfold Stow.kI|unfold Stow.iI|skip);k_is)
   (decide +kernel)
   (rfl)
   iterate 2 ((first|unfold Stow.LkF|unfold Stow.nI|unfold Stow.fI|unfold Stow.cI|unfold Stow.kI|unfold Stow.iI|skip);k_is)
   iterate 6 (k_exc)
   iterate 54 ((first|unfold Stow.LkF|unfold Stow.nI|unfold Stow.fI|unfold Stow.cI|unfold Stow.kI|unfold Stow.iI|skip);k_is)
   iterate 2 (decide +kernel)
   ((first|unfold Stow.LkF|unfold Stow.nI|unfold Stow.fI|unfold Stow.cI|unfold Stow.kI|unfold Stow.iI|skip);k_is)
   (decide +kernel)
   ((first|unfold Stow.LkF|unfold Stow.nI|unfold Stow.fI|unfold Stow.cI|unfold Stow.kI|unfold Stow.iI|skip);k_is)
   iterate 2 (decide +kernel)
   iterate 28 ((first|unfold Stow.tI|skip);kit_is)
   iterate 16 ((first|unfold Stow.LkF|unfold Stow.nI|unfold Stow.fI|unfold Stow.cI|unfold Stow.kI|unfold Stow.iI|skip);k_is)
   iterate 63 ((first|unfold Stow.tI|skip);kit_is)
   ((first|unfold Stow.LkF|unfold Stow.nI|unfold Stow.fI|unfold Stow.cI|unfold Stow.kI|unfold Stow.iI|skip);k_is)
   (k_exc)
   iterate 5 ((first|unfold Stow.LkF|unfold Stow.nI|unfold Stow.fI|unfold Stow.cI|unfold Stow.kI|unfold Stow.iI|skip);k_is)
   iterate 3 (rfl)
   iterate 142 ((first|unfold Stow.LkF|unfold Stow.nI|unfold Stow.fI|unfold Stow.cI|unfold Stow.kI|unfold Stow.iI|skip);k_is)
