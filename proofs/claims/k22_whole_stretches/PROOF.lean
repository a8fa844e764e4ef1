import PyProof.Rows.All
import Wide.All
import OpenK.AllK
import Wide.FinOn
import Lean
import PyProof.EqAt
import PyProof.EqKinds
import PyProof.TupleCall
import PyProof.NeKinds
import PyProof.StationsW
import PyProof.RulesAs
import PyProof.ExcClass3
import PyProof.ExcInit
import PyProof.ExcArgsOwn
import PyProof.IsiH_set
import PyProof.NsDelKeeps
import PyProof.CompFree
import PySem.Challenge.RW_stow_k22_whole_stretches
set_option compiler.extract_closed false
set_option Elab.async false
set_option linter.all false
set_option maxRecDepth 100000
set_option maxHeartbeats 4000000
namespace L2
open PySem PySem.Spec PyProof.Rows
def Xag (s:Stmt)(j:Nat):Stmt:=match s with
 | .ClassDef _ _ _ body _ _ _ _ _ _ _=>body.getD j (.Pass ⟨0,0,0,0⟩)
 | _=>.Pass ⟨0,0,0,0⟩
def Xbr (s:Stmt):Arguments:=match s with
 | .FunctionDef _ a _ _ _ _ _ _ _ _=>a
 | _=>{ posonlyargs:=[],args:=[],vararg:=none,kwonlyargs:=[],kw_defaults:=[],kwarg:=none,defaults:=[] }
def Xbe (s:Stmt):List Stmt:=match s with
 | .FunctionDef _ _ b _ _ _ _ _ _ _=>b
 | _=>[]
def Xae (s:Stmt):Scope:=match s with
 | .FunctionDef _ _ _ _ _ _ sc _ _ _=>sc
 | _=>{ kind:=.function,names:=[],isGenerator:=false,isCoroutine:=false }
end L2
namespace Stow
open PySem L2 PyProof.Rows
def top (i:Nat):Stmt:=PySem.Challenge.pw_stow_k22_whole_stretches.main.body.getD i (.Pass ⟨0,0,0,0⟩)
def en (P:Params)(s:Str)(t:Tok)(v:Value):DictEntry:=⟨PyData.keyHash P s,.str s t,v⟩
def fo (nm qn:Str)(st:Stmt)(dV kV dc pm:Value)(an:Option Addr)(cd ct:Value)(od:Option Addr):Obj:=⟨.type "function",od,.func (PySem.W.fnOf nm qn (Xbr st) (Xbe st) (Xae st) dV kV dc pm an cd ct),#[]⟩
def fq (nm qn:Str)(st:Stmt):Obj:=⟨.none,none,.func { name:=nm,qualname:=qn,params:=Xbr st,body:=.stmts (Xbe st),scope:=Xae st,globals:=0,closure:=[],defaults:=.none,kwdefaults:=.none },#[]⟩
def tu (l:List Value):Obj:=⟨(.type "tuple"),none,.seq l.toArray 0,#[]⟩
def fl (l:List Value):Obj:=⟨.none,none,.fields l.toArray,#[]⟩
def co (l:List Value):Obj:=⟨(.type "code"),none,.fields l.toArray,#[]⟩
abbrev vI (n:Int):Value:=.int n 0
abbrev vR (n:Addr):Value:=.ref n
abbrev cp (a b:Str)(t:Tok)(l:List Value):Obj:=co ((.str a t)::(.str b (t+1))::(.str "/claim/cut.py" (t+2))::l)
def ho0:Obj:=⟨(.type "tuple"),none,.seq #[] 0,#[]⟩
def ho1:Obj:=⟨.none,none,.fields #[],#[]⟩
def ho2:Obj:=cp "<module>" "<module>" 182 (vI 1::vI 0::vI 0::vI 0::vI 0::vR 11::(.bool false)::vI 181::vR 12::.none::.none::.none::.none::vI 185::vI 1::(.str "/claim/cut.py" 186)::[])
def ho3:Obj:=⟨(.type "frame"),none,.plain,((some (.ref 13))::(some (.ref 3))::(some (.ref 3))::none::(some (.str "__main__" 164))::none::(some (.ref 0))::[]).toArray⟩
def ho4 (P:Params):Obj:=⟨(.type "dict"),none,.dict (en P "__name__" 165 (.str "stow.errors" 194)::en P "__doc__" 166 .none::en P "__package__" 167 .none::en P "__loader__" 168 (.builtin "__main__.__loader__#opaque")::en P "__spec__" 169 .none::en P "__annotations__" 170 (.ref 6)::en P "__builtins__" 171 (.ref 4)::en P "__file__" 173 (.str "/claim/cut.py" 172)::en P "__cached__" 174 .none::en P "_wall" 193 (.ref 21)::en P "StowError" 213 (.ref 31)::en P "NoName" 229 (.ref 44)::en P "NoSize" 245 (.ref 56)::en P "Broken" 270 (.ref 75)::en P "NoPiece" 286 (.ref 87)::en P "NoCell" 302 (.ref 99)::en P "NoAsk" 318 (.ref 111)::en P "NoBound" 334 (.ref 123)::[]).toArray 18,#[]⟩
def ho5:Obj:=fl (vI 1::vI 0::vR 20::vI 5::vI 0::vR 27::vI 7::vI 0::vR 40::vI 9::vI 0::vR 52::vI 11::vI 0::vR 64::vI 15::vI 0::vR 83::vI 17::vI 0::vR 95::vI 19::vI 0::vR 107::vI 21::vI 0::vR 119::[])
def ho8:Obj:=tu ((.str "k" 190)::[])
def ho10:Obj:=fq "_wall" "_wall" (top 0)
def ho11:Obj:=cp "_wall" "_wall" 187 (vI 1::vI 1::vI 0::vI 0::vI 3::vR 15::(.bool true)::vI 181::vR 16::.none::vR 17::vR 18::vR 19::vI 191::vI 1::(.str "/claim/cut.py" 192)::[])
def ho12:Obj:=fo "_wall" "_wall" (top 0) .none .none .none (.str "__main__" 164) none (.ref 20) .none none
def ho13:Obj:=tu ((.type "ValueError")::[])
def ho14:Obj:=⟨(.type "builtin_function_or_method"),none,.fields ((.builtin "type.__prepare__")::(.type "type")::[]).toArray,#[]⟩
def ho15 (P:Params):Obj:=⟨(.type "dict"),none,.dict (en P "__module__" 203 (.str "stow.errors" 194)::en P "__qualname__" 205 (.str "StowError" 204)::en P "__firstlineno__" 207 (.int 5 206)::en P "__static_attributes__" 208 (.ref 29)::[]).toArray 4,#[]⟩
def ho18:Obj:=cp "StowError" "StowError" 198 (vI 5::vI 0::vI 0::vI 0::vI 0::vR 25::(.bool false)::vI 181::vR 26::.none::.none::.none::.none::vI 201::vI 5::(.str "/claim/cut.py" 202)::[])
def ho19:Obj:=⟨(.type "frame"),none,.plain,((some (.ref 27))::(some (.ref 3))::(some (.ref 24))::none::(some (.str "stow.errors" 194))::none::(some (.ref 0))::[]).toArray⟩
def ho21 (P:Params):Obj:=⟨(.type "dict"),none,.dict (en P "__module__" 203 (.str "stow.errors" 194)::en P "__firstlineno__" 207 (.int 5 206)::en P "__static_attributes__" 208 (.ref 29)::en P "__weakref__" 210 (.ref 32)::en P "__doc__" 211 .none::[]).toArray 3,#[]⟩
def ho22:Obj:=⟨(.type "type"),none,.cls ⟨"StowError",[(.type "ValueError")],[(.ref 31),(.type "ValueError"),(.type "Exception"),(.type "BaseException"),(.type "object")],30,"StowError",true,[],[(.ref 44),(.ref 56),(.ref 75),(.ref 87),(.ref 99),(.ref 111),(.ref 123)],false,none,false⟩,((some (.ref 22))::none::(some (.str "StowError" 196))::(some (.str "StowError" 204))::(some (.builtin "ValueError.__new__"))::(some (.bool true))::[]).toArray⟩
def ho23:Obj:=⟨(.type "getset_descriptor"),none,.fields ((.str "__weakref__" 209)::(.ref 31)::(.builtin "ExceptionGroup.__weakref__")::.none::[]).toArray,#[]⟩
def ho24:Obj:=⟨(.type "super"),none,.fields ((.ref 31)::(.ref 31)::(.ref 31)::[]).toArray,#[]⟩
def ho25:Obj:=⟨(.type "builtin_function_or_method"),none,.fields ((.builtin "object.__init_subclass__")::(.ref 31)::[]).toArray,#[]⟩
def ho26:Obj:=tu (vR 31::[])
def ho28 (P:Params):Obj:=⟨(.type "dict"),none,.dict (en P "__module__" 221 (.str "stow.errors" 194)::en P "__qualname__" 223 (.str "NoName" 222)::en P "__firstlineno__" 225 (.int 7 224)::en P "__static_attributes__" 226 (.ref 42)::[]).toArray 4,#[]⟩
def ho31:Obj:=cp "NoName" "NoName" 216 (vI 7::vI 0::vI 0::vI 0::vI 0::vR 38::(.bool false)::vI 181::vR 39::.none::.none::.none::.none::vI 219::vI 7::(.str "/claim/cut.py" 220)::[])
def ho32:Obj:=⟨(.type "frame"),none,.plain,((some (.ref 40))::(some (.ref 3))::(some (.ref 37))::none::(some (.str "stow.errors" 194))::none::(some (.ref 0))::[]).toArray⟩
def ho34 (P:Params):Obj:=⟨(.type "dict"),none,.dict (en P "__module__" 221 (.str "stow.errors" 194)::en P "__firstlineno__" 225 (.int 7 224)::en P "__static_attributes__" 226 (.ref 42)::en P "__doc__" 227 .none::[]).toArray 2,#[]⟩
def ho35:Obj:=⟨(.type "type"),none,.cls ⟨"NoName",[(.ref 31)],[(.ref 44),(.ref 31),(.type "ValueError"),(.type "Exception"),(.type "BaseException"),(.type "object")],43,"NoName",true,[],[],false,none,false⟩,((some (.ref 35))::none::(some (.str "NoName" 214))::(some (.str "NoName" 222))::(some (.builtin "ValueError.__new__"))::(some (.bool true))::[]).toArray⟩
def ho36:Obj:=⟨(.type "super"),none,.fields ((.ref 44)::(.ref 44)::(.ref 44)::[]).toArray,#[]⟩
def ho37:Obj:=⟨(.type "builtin_function_or_method"),none,.fields ((.builtin "object.__init_subclass__")::(.ref 44)::[]).toArray,#[]⟩
def ho40 (P:Params):Obj:=⟨(.type "dict"),none,.dict (en P "__module__" 237 (.str "stow.errors" 194)::en P "__qualname__" 239 (.str "NoSize" 238)::en P "__firstlineno__" 241 (.int 9 240)::en P "__static_attributes__" 242 (.ref 54)::[]).toArray 4,#[]⟩
def ho43:Obj:=cp "NoSize" "NoSize" 232 (vI 9::vI 0::vI 0::vI 0::vI 0::vR 50::(.bool false)::vI 181::vR 51::.none::.none::.none::.none::vI 235::vI 9::(.str "/claim/cut.py" 236)::[])
def ho44:Obj:=⟨(.type "frame"),none,.plain,((some (.ref 52))::(some (.ref 3))::(some (.ref 49))::none::(some (.str "stow.errors" 194))::none::(some (.ref 0))::[]).toArray⟩
def ho46 (P:Params):Obj:=⟨(.type "dict"),none,.dict (en P "__module__" 237 (.str "stow.errors" 194)::en P "__firstlineno__" 241 (.int 9 240)::en P "__static_attributes__" 242 (.ref 54)::en P "__doc__" 243 .none::[]).toArray 2,#[]⟩
def ho47:Obj:=⟨(.type "type"),none,.cls ⟨"NoSize",[(.ref 31)],[(.ref 56),(.ref 31),(.type "ValueError"),(.type "Exception"),(.type "BaseException"),(.type "object")],55,"NoSize",true,[],[],false,none,false⟩,((some (.ref 47))::none::(some (.str "NoSize" 230))::(some (.str "NoSize" 238))::(some (.builtin "ValueError.__new__"))::(some (.bool true))::[]).toArray⟩
def ho48:Obj:=⟨(.type "super"),none,.fields ((.ref 56)::(.ref 56)::(.ref 56)::[]).toArray,#[]⟩
def ho49:Obj:=⟨(.type "builtin_function_or_method"),none,.fields ((.builtin "object.__init_subclass__")::(.ref 56)::[]).toArray,#[]⟩
def ho52 (P:Params):Obj:=⟨(.type "dict"),none,.dict (en P "__module__" 253 (.str "stow.errors" 194)::en P "__qualname__" 255 (.str "Broken" 254)::en P "__firstlineno__" 257 (.int 11 256)::en P "__init__" 265 (.ref 72)::en P "__static_attributes__" 267 (.ref 73)::[]).toArray 5,#[]⟩
def ho54:Obj:=fl (vI 13::vI 4::vR 71::[])
def ho55:Obj:=cp "Broken" "Broken" 248 (vI 11::vI 0::vI 0::vI 0::vI 0::vR 62::(.bool false)::vI 181::vR 63::.none::.none::.none::.none::vI 251::vI 11::(.str "/claim/cut.py" 252)::[])
def ho56:Obj:=⟨(.type "frame"),none,.plain,((some (.ref 64))::(some (.ref 3))::(some (.ref 61))::none::(some (.str "stow.errors" 194))::none::(some (.ref 0))::[]).toArray⟩
def ho59:Obj:=tu ((.str "self" 261)::(.str "cell" 262)::[])
def ho61:Obj:=fq "__init__" "Broken.__init__" (Xag (top 5) 0)
def ho62:Obj:=cp "__init__" "Broken.__init__" 258 (vI 13::vI 2::vI 0::vI 0::vI 3::vR 66::(.bool true)::vI 181::vR 67::.none::vR 68::vR 69::vR 70::vI 263::vI 13::(.str "/claim/cut.py" 264)::[])
def ho63:Obj:=fo "__init__" "Broken.__init__" (Xag (top 5) 0) .none .none .none (.str "stow.errors" 194) none (.ref 71) .none none
def ho64:Obj:=tu ((.str "cell" 266)::[])
def ho65 (P:Params):Obj:=⟨(.type "dict"),none,.dict (en P "__module__" 253 (.str "stow.errors" 194)::en P "__firstlineno__" 257 (.int 11 256)::en P "__init__" 265 (.ref 72)::en P "__static_attributes__" 267 (.ref 73)::en P "__doc__" 268 .none::[]).toArray 2,#[]⟩
def ho66:Obj:=⟨(.type "type"),none,.cls ⟨"Broken",[(.ref 31)],[(.ref 75),(.ref 31),(.type "ValueError"),(.type "Exception"),(.type "BaseException"),(.type "object")],74,"Broken",true,[],[],false,none,false⟩,((some (.ref 59))::none::(some (.str "Broken" 246))::(some (.str "Broken" 254))::(some (.builtin "ValueError.__new__"))::(some (.bool true))::[]).toArray⟩
def ho67:Obj:=⟨(.type "super"),none,.fields ((.ref 75)::(.ref 75)::(.ref 75)::[]).toArray,#[]⟩
def ho68:Obj:=⟨(.type "builtin_function_or_method"),none,.fields ((.builtin "object.__init_subclass__")::(.ref 75)::[]).toArray,#[]⟩
def ho71 (P:Params):Obj:=⟨(.type "dict"),none,.dict (en P "__module__" 278 (.str "stow.errors" 194)::en P "__qualname__" 280 (.str "NoPiece" 279)::en P "__firstlineno__" 282 (.int 15 281)::en P "__static_attributes__" 283 (.ref 85)::[]).toArray 4,#[]⟩
def ho74:Obj:=cp "NoPiece" "NoPiece" 273 (vI 15::vI 0::vI 0::vI 0::vI 0::vR 81::(.bool false)::vI 181::vR 82::.none::.none::.none::.none::vI 276::vI 15::(.str "/claim/cut.py" 277)::[])
def ho75:Obj:=⟨(.type "frame"),none,.plain,((some (.ref 83))::(some (.ref 3))::(some (.ref 80))::none::(some (.str "stow.errors" 194))::none::(some (.ref 0))::[]).toArray⟩
def ho77 (P:Params):Obj:=⟨(.type "dict"),none,.dict (en P "__module__" 278 (.str "stow.errors" 194)::en P "__firstlineno__" 282 (.int 15 281)::en P "__static_attributes__" 283 (.ref 85)::en P "__doc__" 284 .none::[]).toArray 2,#[]⟩
def ho78:Obj:=⟨(.type "type"),none,.cls ⟨"NoPiece",[(.ref 31)],[(.ref 87),(.ref 31),(.type "ValueError"),(.type "Exception"),(.type "BaseException"),(.type "object")],86,"NoPiece",true,[],[],false,none,false⟩,((some (.ref 78))::none::(some (.str "NoPiece" 271))::(some (.str "NoPiece" 279))::(some (.builtin "ValueError.__new__"))::(some (.bool true))::[]).toArray⟩
def ho79:Obj:=⟨(.type "super"),none,.fields ((.ref 87)::(.ref 87)::(.ref 87)::[]).toArray,#[]⟩
def ho80:Obj:=⟨(.type "builtin_function_or_method"),none,.fields ((.builtin "object.__init_subclass__")::(.ref 87)::[]).toArray,#[]⟩
def ho83 (P:Params):Obj:=⟨(.type "dict"),none,.dict (en P "__module__" 294 (.str "stow.errors" 194)::en P "__qualname__" 296 (.str "NoCell" 295)::en P "__firstlineno__" 298 (.int 17 297)::en P "__static_attributes__" 299 (.ref 97)::[]).toArray 4,#[]⟩
def ho86:Obj:=cp "NoCell" "NoCell" 289 (vI 17::vI 0::vI 0::vI 0::vI 0::vR 93::(.bool false)::vI 181::vR 94::.none::.none::.none::.none::vI 292::vI 17::(.str "/claim/cut.py" 293)::[])
def ho87:Obj:=⟨(.type "frame"),none,.plain,((some (.ref 95))::(some (.ref 3))::(some (.ref 92))::none::(some (.str "stow.errors" 194))::none::(some (.ref 0))::[]).toArray⟩
def ho89 (P:Params):Obj:=⟨(.type "dict"),none,.dict (en P "__module__" 294 (.str "stow.errors" 194)::en P "__firstlineno__" 298 (.int 17 297)::en P "__static_attributes__" 299 (.ref 97)::en P "__doc__" 300 .none::[]).toArray 2,#[]⟩
def ho90:Obj:=⟨(.type "type"),none,.cls ⟨"NoCell",[(.ref 31)],[(.ref 99),(.ref 31),(.type "ValueError"),(.type "Exception"),(.type "BaseException"),(.type "object")],98,"NoCell",true,[],[],false,none,false⟩,((some (.ref 90))::none::(some (.str "NoCell" 287))::(some (.str "NoCell" 295))::(some (.builtin "ValueError.__new__"))::(some (.bool true))::[]).toArray⟩
def ho91:Obj:=⟨(.type "super"),none,.fields ((.ref 99)::(.ref 99)::(.ref 99)::[]).toArray,#[]⟩
def ho92:Obj:=⟨(.type "builtin_function_or_method"),none,.fields ((.builtin "object.__init_subclass__")::(.ref 99)::[]).toArray,#[]⟩
def ho95 (P:Params):Obj:=⟨(.type "dict"),none,.dict (en P "__module__" 310 (.str "stow.errors" 194)::en P "__qualname__" 312 (.str "NoAsk" 311)::en P "__firstlineno__" 314 (.int 19 313)::en P "__static_attributes__" 315 (.ref 109)::[]).toArray 4,#[]⟩
def ho98:Obj:=cp "NoAsk" "NoAsk" 305 (vI 19::vI 0::vI 0::vI 0::vI 0::vR 105::(.bool false)::vI 181::vR 106::.none::.none::.none::.none::vI 308::vI 19::(.str "/claim/cut.py" 309)::[])
def ho99:Obj:=⟨(.type "frame"),none,.plain,((some (.ref 107))::(some (.ref 3))::(some (.ref 104))::none::(some (.str "stow.errors" 194))::none::(some (.ref 0))::[]).toArray⟩
def Xug (P:Params):Obj:=⟨(.type "dict"),none,.dict (en P "__module__" 310 (.str "stow.errors" 194)::en P "__firstlineno__" 314 (.int 19 313)::en P "__static_attributes__" 315 (.ref 109)::en P "__doc__" 316 .none::[]).toArray 2,#[]⟩
def Xrl:Obj:=⟨(.type "type"),none,.cls ⟨"NoAsk",[(.ref 31)],[(.ref 111),(.ref 31),(.type "ValueError"),(.type "Exception"),(.type "BaseException"),(.type "object")],110,"NoAsk",true,[],[],false,none,false⟩,((some (.ref 102))::none::(some (.str "NoAsk" 303))::(some (.str "NoAsk" 311))::(some (.builtin "ValueError.__new__"))::(some (.bool true))::[]).toArray⟩
def Xwg:Obj:=⟨(.type "super"),none,.fields ((.ref 111)::(.ref 111)::(.ref 111)::[]).toArray,#[]⟩
def Xvo:Obj:=⟨(.type "builtin_function_or_method"),none,.fields ((.builtin "object.__init_subclass__")::(.ref 111)::[]).toArray,#[]⟩
def Xql (P:Params):Obj:=⟨(.type "dict"),none,.dict (en P "__module__" 326 (.str "stow.errors" 194)::en P "__qualname__" 328 (.str "NoBound" 327)::en P "__firstlineno__" 330 (.int 21 329)::en P "__static_attributes__" 331 (.ref 121)::[]).toArray 4,#[]⟩
def Xwi:Obj:=cp "NoBound" "NoBound" 321 (vI 21::vI 0::vI 0::vI 0::vI 0::vR 117::(.bool false)::vI 181::vR 118::.none::.none::.none::.none::vI 324::vI 21::(.str "/claim/cut.py" 325)::[])
def Xxn:Obj:=⟨(.type "frame"),none,.plain,((some (.ref 119))::(some (.ref 3))::(some (.ref 116))::none::(some (.str "stow.errors" 194))::none::(some (.ref 0))::[]).toArray⟩
def Xqk (P:Params):Obj:=⟨(.type "dict"),none,.dict (en P "__module__" 326 (.str "stow.errors" 194)::en P "__firstlineno__" 330 (.int 21 329)::en P "__static_attributes__" 331 (.ref 121)::en P "__doc__" 332 .none::[]).toArray 2,#[]⟩
def Xqd:Obj:=⟨(.type "type"),none,.cls ⟨"NoBound",[(.ref 31)],[(.ref 123),(.ref 31),(.type "ValueError"),(.type "Exception"),(.type "BaseException"),(.type "object")],122,"NoBound",true,[],[],false,none,false⟩,((some (.ref 114))::none::(some (.str "NoBound" 319))::(some (.str "NoBound" 327))::(some (.builtin "ValueError.__new__"))::(some (.bool true))::[]).toArray⟩
def Xyh:Obj:=⟨(.type "super"),none,.fields ((.ref 123)::(.ref 123)::(.ref 123)::[]).toArray,#[]⟩
def Xyd:Obj:=⟨(.type "builtin_function_or_method"),none,.fields ((.builtin "object.__init_subclass__")::(.ref 123)::[]).toArray,#[]⟩
def XSd (P:Params):Obj:=⟨(.type "dict"),none,.dict (en P "__name__" 165 (.str "stow.stretches" 746)::en P "__doc__" 166 .none::en P "__package__" 167 .none::en P "__loader__" 168 (.builtin "__main__.__loader__#opaque")::en P "__spec__" 169 .none::en P "__annotations__" 170 (.ref 6)::en P "__builtins__" 171 (.ref 4)::en P "__file__" 173 (.str "/claim/cut.py" 172)::en P "__cached__" 174 .none::en P "_wall" 193 (.ref 21)::en P "StowError" 213 (.ref 31)::en P "NoName" 229 (.ref 44)::en P "NoSize" 245 (.ref 56)::en P "Broken" 270 (.ref 75)::en P "NoPiece" 286 (.ref 87)::en P "NoCell" 302 (.ref 99)::en P "NoAsk" 318 (.ref 111)::en P "NoBound" 334 (.ref 123)::en P "NoRoom" 350 (.ref 135)::en P "MARKS" 354 (.int 2 353)::en P "check_ask" 362 (.ref 144)::en P "check_plain_ask" 370 (.ref 151)::en P "mark_of" 380 (.ref 158)::en P "long_of" 387 (.ref 165)::en P "live_of" 394 (.ref 172)::en P "LEAST_LIVE" 398 (.int 3 397)::en P "can_begin" 407 (.ref 179)::en P "bad_of_piece" 416 (.ref 186)::en P "looked" 427 (.ref 193)::en P "fresh_room" 435 (.ref 200)::en P "laid" 448 (.ref 207)::en P "laid_free" 457 (.ref 214)::en P "piece_at" 466 (.ref 221)::en P "live_at" 475 (.ref 228)::en P "free_at" 484 (.ref 235)::en P "begin_around" 490 (.ref 240)::en P "free_begin" 498 (.ref 247)::en P "free_end" 506 (.ref 254)::en P "cut_out" 521 (.ref 261)::en P "freed" 532 (.ref 268)::en P "joined_pieces" 543 (.ref 275)::en P "joined" 554 (.ref 282)::en P "carried" 565 (.ref 289)::en P "Keeper" 718 (.ref 399)::en P "first_place" 733 (.ref 410)::en P "spots_for" 745 (.ref 417)::[]).toArray 46,#[]⟩
def ho118:Obj:=fl (vI 1::vI 0::vR 20::vI 5::vI 0::vR 27::vI 7::vI 0::vR 40::vI 9::vI 0::vR 52::vI 11::vI 0::vR 64::vI 15::vI 0::vR 83::vI 17::vI 0::vR 95::vI 19::vI 0::vR 107::vI 21::vI 0::vR 119::vI 23::vI 0::vR 131::vI 27::vI 0::vR 143::vI 30::vI 0::vR 150::vI 35::vI 0::vR 157::vI 39::vI 0::vR 164::vI 41::vI 0::vR 171::vI 45::vI 0::vR 178::vI 50::vI 0::vR 185::vI 57::vI 0::vR 192::vI 68::vI 0::vR 199::vI 76::vI 0::vR 206::vI 81::vI 0::vR 213::vI 85::vI 0::vR 220::vI 90::vI 0::vR 227::vI 95::vI 0::vR 234::vI 100::vI 0::vR 239::vI 103::vI 0::vR 246::vI 107::vI 0::vR 253::vI 111::vI 0::vR 260::vI 119::vI 0::vR 267::vI 122::vI 0::vR 274::vI 130::vI 0::vR 281::vI 135::vI 0::vR 288::vI 139::vI 0::vR 295::vI 200::vI 0::vR 409::vI 206::vI 0::vR 416::[])
def Xzx:Obj:=⟨(.type "type"),none,.cls ⟨"StowError",[(.type "ValueError")],[(.ref 31),(.type "ValueError"),(.type "Exception"),(.type "BaseException"),(.type "object")],30,"StowError",true,[],[(.ref 44),(.ref 56),(.ref 75),(.ref 87),(.ref 99),(.ref 111),(.ref 123),(.ref 135)],false,none,false⟩,((some (.ref 22))::none::(some (.str "StowError" 196))::(some (.str "StowError" 204))::(some (.builtin "ValueError.__new__"))::(some (.bool true))::[]).toArray⟩
def Xyp (P:Params):Obj:=⟨(.type "dict"),none,.dict (en P "__module__" 342 (.str "stow.errors" 194)::en P "__qualname__" 344 (.str "NoRoom" 343)::en P "__firstlineno__" 346 (.int 23 345)::en P "__static_attributes__" 347 (.ref 133)::[]).toArray 4,#[]⟩
def XIe:Obj:=cp "NoRoom" "NoRoom" 337 (vI 23::vI 0::vI 0::vI 0::vI 0::vR 129::(.bool false)::vI 181::vR 130::.none::.none::.none::.none::vI 340::vI 23::(.str "/claim/cut.py" 341)::[])
def XHs:Obj:=⟨(.type "frame"),none,.plain,((some (.ref 131))::(some (.ref 3))::(some (.ref 128))::none::(some (.str "stow.errors" 194))::none::(some (.ref 0))::[]).toArray⟩
def Xxh (P:Params):Obj:=⟨(.type "dict"),none,.dict (en P "__module__" 342 (.str "stow.errors" 194)::en P "__firstlineno__" 346 (.int 23 345)::en P "__static_attributes__" 347 (.ref 133)::en P "__doc__" 348 .none::[]).toArray 2,#[]⟩
def Xwb:Obj:=⟨(.type "type"),none,.cls ⟨"NoRoom",[(.ref 31)],[(.ref 135),(.ref 31),(.type "ValueError"),(.type "Exception"),(.type "BaseException"),(.type "object")],134,"NoRoom",true,[],[],false,none,false⟩,((some (.ref 126))::none::(some (.str "NoRoom" 335))::(some (.str "NoRoom" 343))::(some (.builtin "ValueError.__new__"))::(some (.bool true))::[]).toArray⟩
def XDm:Obj:=⟨(.type "super"),none,.fields ((.ref 135)::(.ref 135)::(.ref 135)::[]).toArray,#[]⟩
def XIo:Obj:=⟨(.type "builtin_function_or_method"),none,.fields ((.builtin "object.__init_subclass__")::(.ref 135)::[]).toArray,#[]⟩
def XFl:Obj:=tu ((.str "count" 358)::(.str "bound" 359)::[])
def XGy:Obj:=fq "check_ask" "check_ask" (top 13)
def Xwf:Obj:=cp "check_ask" "check_ask" 355 (vI 27::vI 2::vI 0::vI 0::vI 3::vR 138::(.bool true)::vI 181::vR 139::.none::vR 140::vR 141::vR 142::vI 360::vI 27::(.str "/claim/cut.py" 361)::[])
def Xwr:Obj:=fo "check_ask" "check_ask" (top 13) .none .none .none (.str "stow.asks" 351) none (.ref 143) .none none
def XGj:Obj:=tu ((.str "count" 366)::(.str "bound" 367)::[])
def XIr:Obj:=fq "check_plain_ask" "check_plain_ask" (top 14)
def Xve:Obj:=cp "check_plain_ask" "check_plain_ask" 363 (vI 30::vI 2::vI 0::vI 0::vI 3::vR 145::(.bool true)::vI 181::vR 146::.none::vR 147::vR 148::vR 149::vI 368::vI 30::(.str "/claim/cut.py" 369)::[])
def Xvs:Obj:=fo "check_plain_ask" "check_plain_ask" (top 14) .none .none .none (.str "stow.asks" 351) none (.ref 150) .none none
def XBz:Obj:=tu ((.str "long" 376)::(.str "live" 377)::[])
def XIi:Obj:=fq "mark_of" "mark_of" (top 16)
def Xvq:Obj:=cp "mark_of" "mark_of" 373 (vI 35::vI 2::vI 0::vI 0::vI 3::vR 152::(.bool true)::vI 181::vR 153::.none::vR 154::vR 155::vR 156::vI 378::vI 35::(.str "/claim/cut.py" 379)::[])
def Xxj:Obj:=fo "mark_of" "mark_of" (top 16) .none .none .none (.str "stow.marks" 371) none (.ref 157) .none none
def XFo:Obj:=tu ((.str "number" 384)::[])
def XDz:Obj:=fq "long_of" "long_of" (top 17)
def Xxq:Obj:=cp "long_of" "long_of" 381 (vI 39::vI 1::vI 0::vI 0::vI 3::vR 159::(.bool true)::vI 181::vR 160::.none::vR 161::vR 162::vR 163::vI 385::vI 39::(.str "/claim/cut.py" 386)::[])
def Xvx:Obj:=fo "long_of" "long_of" (top 17) .none .none .none (.str "stow.marks" 371) none (.ref 164) .none none
def XHj:Obj:=tu ((.str "number" 391)::[])
def XIp:Obj:=fq "live_of" "live_of" (top 18)
def Xzj:Obj:=cp "live_of" "live_of" 388 (vI 41::vI 1::vI 0::vI 0::vI 3::vR 166::(.bool true)::vI 181::vR 167::.none::vR 168::vR 169::vR 170::vI 392::vI 41::(.str "/claim/cut.py" 393)::[])
def Xze:Obj:=fo "live_of" "live_of" (top 18) .none .none .none (.str "stow.marks" 371) none (.ref 171) .none none
def XGt:Obj:=tu ((.str "cells" 402)::(.str "at" 403)::(.str "long" 404)::[])
def XCr:Obj:=fq "can_begin" "can_begin" (top 21)
def Xym:Obj:=cp "can_begin" "can_begin" 399 (vI 45::vI 2::vI 0::vI 0::vI 3::vR 173::(.bool true)::vI 181::vR 174::.none::vR 175::vR 176::vR 177::vI 405::vI 45::(.str "/claim/cut.py" 406)::[])
def Xyl:Obj:=fo "can_begin" "can_begin" (top 21) .none .none .none (.str "stow.looks" 395) none (.ref 178) .none none
def XDa:Obj:=tu ((.str "cells" 411)::(.str "at" 412)::(.str "last" 413)::[])
def XGb:Obj:=fq "bad_of_piece" "bad_of_piece" (top 22)
def Xvf:Obj:=cp "bad_of_piece" "bad_of_piece" 408 (vI 50::vI 2::vI 0::vI 0::vI 3::vR 180::(.bool true)::vI 181::vR 181::.none::vR 182::vR 183::vR 184::vI 414::vI 50::(.str "/claim/cut.py" 415)::[])
def Xxr:Obj:=fo "bad_of_piece" "bad_of_piece" (top 22) .none .none .none (.str "stow.looks" 395) none (.ref 185) .none none
def XFq:Obj:=tu ((.str "cells" 420)::(.str "pieces" 421)::(.str "at" 422)::(.str "bad" 423)::(.str "long" 424)::[])
def XEu:Obj:=fq "looked" "looked" (top 23)
def Xvr:Obj:=cp "looked" "looked" 417 (vI 57::vI 1::vI 0::vI 0::vI 3::vR 187::(.bool true)::vI 181::vR 188::.none::vR 189::vR 190::vR 191::vI 425::vI 57::(.str "/claim/cut.py" 426)::[])
def Xux:Obj:=fo "looked" "looked" (top 23) .none .none .none (.str "stow.looks" 395) none (.ref 192) .none none
def XCo:Obj:=tu ((.str "count" 431)::(.str "cells" 432)::[])
def XHw:Obj:=fq "fresh_room" "fresh_room" (top 24)
def Xzg:Obj:=cp "fresh_room" "fresh_room" 428 (vI 68::vI 1::vI 0::vI 0::vI 3::vR 194::(.bool true)::vI 181::vR 195::.none::vR 196::vR 197::vR 198::vI 433::vI 68::(.str "/claim/cut.py" 434)::[])
def Xxp:Obj:=fo "fresh_room" "fresh_room" (top 24) .none .none .none (.str "stow.looks" 395) none (.ref 199) .none none
def XDk:Obj:=tu ((.str "cells" 441)::(.str "at" 442)::(.str "long" 443)::(.str "live" 444)::(.str "row" 445)::[])
def XIk:Obj:=fq "laid" "laid" (top 26)
def Xwx:Obj:=cp "laid" "laid" 438 (vI 76::vI 4::vI 0::vI 0::vI 3::vR 201::(.bool true)::vI 181::vR 202::.none::vR 203::vR 204::vR 205::vI 446::vI 76::(.str "/claim/cut.py" 447)::[])
def Xwo:Obj:=fo "laid" "laid" (top 26) .none .none .none (.str "stow.pieces" 436) none (.ref 206) .none none
def XFv:Obj:=tu ((.str "cells" 452)::(.str "begin" 453)::(.str "end" 454)::[])
def XGf:Obj:=fq "laid_free" "laid_free" (top 27)
def Xvc:Obj:=cp "laid_free" "laid_free" 449 (vI 81::vI 3::vI 0::vI 0::vI 3::vR 208::(.bool true)::vI 181::vR 209::.none::vR 210::vR 211::vR 212::vI 455::vI 81::(.str "/claim/cut.py" 456)::[])
def Xvy:Obj:=fo "laid_free" "laid_free" (top 27) .none .none .none (.str "stow.pieces" 436) none (.ref 213) .none none
def XFj:Obj:=tu ((.str "cells" 461)::(.str "at" 462)::(.str "piece" 463)::[])
def XBq:Obj:=fq "piece_at" "piece_at" (top 28)
def Xyz:Obj:=cp "piece_at" "piece_at" 458 (vI 85::vI 2::vI 0::vI 0::vI 3::vR 215::(.bool true)::vI 181::vR 216::.none::vR 217::vR 218::vR 219::vI 464::vI 85::(.str "/claim/cut.py" 465)::[])
def Xur:Obj:=fo "piece_at" "piece_at" (top 28) .none .none .none (.str "stow.pieces" 436) none (.ref 220) .none none
def XFu:Obj:=tu ((.str "cells" 470)::(.str "at" 471)::(.str "piece" 472)::[])
def XBv:Obj:=fq "live_at" "live_at" (top 29)
def Xyj:Obj:=cp "live_at" "live_at" 467 (vI 90::vI 2::vI 0::vI 0::vI 3::vR 222::(.bool true)::vI 181::vR 223::.none::vR 224::vR 225::vR 226::vI 473::vI 90::(.str "/claim/cut.py" 474)::[])
def Xzz:Obj:=fo "live_at" "live_at" (top 29) .none .none .none (.str "stow.pieces" 436) none (.ref 227) .none none
def XEf:Obj:=tu ((.str "cells" 479)::(.str "at" 480)::(.str "piece" 481)::[])
def XCd:Obj:=fq "free_at" "free_at" (top 30)
def Xyf:Obj:=cp "free_at" "free_at" 476 (vI 95::vI 2::vI 0::vI 0::vI 3::vR 229::(.bool true)::vI 181::vR 230::.none::vR 231::vR 232::vR 233::vI 482::vI 95::(.str "/claim/cut.py" 483)::[])
def Xzt:Obj:=fo "free_at" "free_at" (top 30) .none .none .none (.str "stow.pieces" 436) none (.ref 234) .none none
def XCt:Obj:=fq "begin_around" "begin_around" (top 31)
def Xyv:Obj:=cp "begin_around" "begin_around" 485 (vI 100::vI 2::vI 0::vI 0::vI 3::vR 236::(.bool true)::vI 181::vR 237::.none::.none::.none::vR 238::vI 488::vI 100::(.str "/claim/cut.py" 489)::[])
def Xxs:Obj:=fo "begin_around" "begin_around" (top 31) .none .none .none (.str "stow.pieces" 436) none (.ref 239) .none none
def XGv:Obj:=tu ((.str "cells" 494)::(.str "at" 495)::[])
def XBo:Obj:=fq "free_begin" "free_begin" (top 32)
def Xwu:Obj:=cp "free_begin" "free_begin" 491 (vI 103::vI 2::vI 0::vI 0::vI 3::vR 241::(.bool true)::vI 181::vR 242::.none::vR 243::vR 244::vR 245::vI 496::vI 103::(.str "/claim/cut.py" 497)::[])
def Xyi:Obj:=fo "free_begin" "free_begin" (top 32) .none .none .none (.str "stow.pieces" 436) none (.ref 246) .none none
def XEc:Obj:=tu ((.str "cells" 502)::(.str "end" 503)::[])
def XHy:Obj:=fq "free_end" "free_end" (top 33)
def Xzn:Obj:=cp "free_end" "free_end" 499 (vI 107::vI 2::vI 0::vI 0::vI 3::vR 248::(.bool true)::vI 181::vR 249::.none::vR 250::vR 251::vR 252::vI 504::vI 107::(.str "/claim/cut.py" 505)::[])
def Xxf:Obj:=fo "free_end" "free_end" (top 33) .none .none .none (.str "stow.pieces" 436) none (.ref 253) .none none
def XIv:Obj:=tu ((.str "cells" 510)::(.str "at" 511)::(.str "place" 512)::(.str "long" 513)::(.str "begin" 514)::(.str "free_long" 515)::(.str "live" 516)::(.str "end" 517)::(.str "row" 518)::[])
def XDt:Obj:=fq "cut_out" "cut_out" (top 34)
def Xyo:Obj:=cp "cut_out" "cut_out" 507 (vI 111::vI 4::vI 0::vI 0::vI 3::vR 255::(.bool true)::vI 181::vR 256::.none::vR 257::vR 258::vR 259::vI 519::vI 111::(.str "/claim/cut.py" 520)::[])
def Xzu:Obj:=fo "cut_out" "cut_out" (top 34) .none .none .none (.str "stow.pieces" 436) none (.ref 260) .none none
def XGr:Obj:=tu ((.str "cells" 525)::(.str "at" 526)::(.str "begin" 527)::(.str "long" 528)::(.str "live" 529)::[])
def XIl:Obj:=fq "freed" "freed" (top 35)
def Xvw:Obj:=cp "freed" "freed" 522 (vI 119::vI 2::vI 0::vI 0::vI 3::vR 262::(.bool true)::vI 181::vR 263::.none::vR 264::vR 265::vR 266::vI 530::vI 119::(.str "/claim/cut.py" 531)::[])
def Xxt:Obj:=fo "freed" "freed" (top 35) .none .none .none (.str "stow.pieces" 436) none (.ref 267) .none none
def XFt:Obj:=tu ((.str "pieces" 536)::(.str "row" 537)::(.str "at" 538)::(.str "long" 539)::(.str "live" 540)::[])
def XFr:Obj:=fq "joined_pieces" "joined_pieces" (top 36)
def Xzy:Obj:=cp "joined_pieces" "joined_pieces" 533 (vI 122::vI 1::vI 0::vI 0::vI 3::vR 269::(.bool true)::vI 181::vR 270::.none::vR 271::vR 272::vR 273::vI 541::vI 122::(.str "/claim/cut.py" 542)::[])
def Xwa:Obj:=fo "joined_pieces" "joined_pieces" (top 36) .none .none .none (.str "stow.pieces" 436) none (.ref 274) .none none
def XCx:Obj:=tu ((.str "cells" 547)::(.str "row" 548)::(.str "at" 549)::(.str "long" 550)::(.str "live" 551)::[])
def XIa:Obj:=fq "joined" "joined" (top 37)
def Xyk:Obj:=cp "joined" "joined" 544 (vI 130::vI 1::vI 0::vI 0::vI 3::vR 276::(.bool true)::vI 181::vR 277::.none::vR 278::vR 279::vR 280::vI 552::vI 130::(.str "/claim/cut.py" 553)::[])
def Xuu:Obj:=fo "joined" "joined" (top 37) .none .none .none (.str "stow.pieces" 436) none (.ref 281) .none none
def XHu:Obj:=tu ((.str "cells" 558)::(.str "source" 559)::(.str "goal" 560)::(.str "count" 561)::(.str "row" 562)::[])
def XEg:Obj:=fq "carried" "carried" (top 38)
def Xyn:Obj:=cp "carried" "carried" 555 (vI 135::vI 4::vI 0::vI 0::vI 3::vR 283::(.bool true)::vI 181::vR 284::.none::vR 285::vR 286::vR 287::vI 563::vI 135::(.str "/claim/cut.py" 564)::[])
def Xuv:Obj:=fo "carried" "carried" (top 38) .none .none .none (.str "stow.pieces" 436) none (.ref 288) .none none
def Xva (P:Params):Obj:=⟨(.type "dict"),none,.dict (en P "__module__" 575 (.str "stow.keepers" 566)::en P "__qualname__" 577 (.str "Keeper" 576)::en P "__firstlineno__" 579 (.int 139 578)::en P "__init__" 587 (.ref 303)::en P "cells" 594 (.ref 310)::en P "pieces" 601 (.ref 317)::en P "lay" 609 (.ref 324)::en P "clear" 616 (.ref 331)::en P "many" 627 (.ref 338)::en P "get" 636 (.ref 345)::en P "put" 647 (.ref 352)::en P "ask" 657 (.ref 360)::en P "give" 668 (.ref 367)::en P "grow" 680 (.ref 375)::en P "room_begin" 688 (.ref 382)::en P "room_cell_of" 698 (.ref 389)::en P "room_moved" 709 (.ref 396)::en P "__static_attributes__" 711 (.ref 397)::[]).toArray 18,#[]⟩
def XHd:Obj:=fl (vI 141::vI 4::vR 302::vI 144::vI 4::vR 309::vI 147::vI 4::vR 316::vI 150::vI 4::vR 323::vI 156::vI 4::vR 330::vI 159::vI 4::vR 337::vI 163::vI 4::vR 344::vI 166::vI 4::vR 351::vI 170::vI 4::vR 359::vI 174::vI 4::vR 366::vI 178::vI 4::vR 374::vI 185::vI 4::vR 381::vI 188::vI 4::vR 388::vI 194::vI 4::vR 395::[])
def XBk:Obj:=cp "Keeper" "Keeper" 570 (vI 139::vI 0::vI 0::vI 0::vI 0::vR 293::(.bool false)::vI 181::vR 294::.none::.none::.none::.none::vI 573::vI 139::(.str "/claim/cut.py" 574)::[])
def XBy:Obj:=⟨(.type "frame"),none,.plain,((some (.ref 295))::(some (.ref 3))::(some (.ref 292))::none::(some (.str "stow.keepers" 566))::none::(some (.ref 0))::[]).toArray⟩
def XFc:Obj:=tu ((.str "self" 583)::(.str "size" 584)::[])
def XFy:Obj:=fq "__init__" "Keeper.__init__" (Xag (top 40) 0)
def Xwt:Obj:=cp "__init__" "Keeper.__init__" 580 (vI 141::vI 2::vI 0::vI 0::vI 3::vR 297::(.bool true)::vI 181::vR 298::.none::vR 299::vR 300::vR 301::vI 585::vI 141::(.str "/claim/cut.py" 586)::[])
def Xzi:Obj:=fo "__init__" "Keeper.__init__" (Xag (top 40) 0) .none .none .none (.str "stow.keepers" 566) none (.ref 302) .none none
def XDj:Obj:=tu ((.str "self" 591)::[])
def XEw:Obj:=fq "cells" "Keeper.cells" (Xag (top 40) 1)
def Xvt:Obj:=cp "cells" "Keeper.cells" 588 (vI 144::vI 1::vI 0::vI 0::vI 3::vR 304::(.bool true)::vI 181::vR 305::.none::vR 306::vR 307::vR 308::vI 592::vI 144::(.str "/claim/cut.py" 593)::[])
def Xye:Obj:=fo "cells" "Keeper.cells" (Xag (top 40) 1) .none .none .none (.str "stow.keepers" 566) none (.ref 309) .none none
def XCu:Obj:=tu ((.str "self" 598)::[])
def XGz:Obj:=fq "pieces" "Keeper.pieces" (Xag (top 40) 2)
def Xxv:Obj:=cp "pieces" "Keeper.pieces" 595 (vI 147::vI 1::vI 0::vI 0::vI 3::vR 311::(.bool true)::vI 181::vR 312::.none::vR 313::vR 314::vR 315::vI 599::vI 147::(.str "/claim/cut.py" 600)::[])
def Xyg:Obj:=fo "pieces" "Keeper.pieces" (Xag (top 40) 2) .none .none .none (.str "stow.keepers" 566) none (.ref 316) .none none
def XDs:Obj:=tu ((.str "self" 605)::(.str "cells" 606)::[])
def XDw:Obj:=fq "lay" "Keeper.lay" (Xag (top 40) 3)
def Xys:Obj:=cp "lay" "Keeper.lay" 602 (vI 150::vI 2::vI 0::vI 0::vI 3::vR 318::(.bool true)::vI 181::vR 319::.none::vR 320::vR 321::vR 322::vI 607::vI 150::(.str "/claim/cut.py" 608)::[])
def Xwd:Obj:=fo "lay" "Keeper.lay" (Xag (top 40) 3) .none .none .none (.str "stow.keepers" 566) none (.ref 323) .none none
def XFz:Obj:=tu ((.str "self" 613)::[])
def XDx:Obj:=fq "clear" "Keeper.clear" (Xag (top 40) 4)
def Xyy:Obj:=cp "clear" "Keeper.clear" 610 (vI 156::vI 1::vI 0::vI 0::vI 3::vR 325::(.bool true)::vI 181::vR 326::.none::vR 327::vR 328::vR 329::vI 614::vI 156::(.str "/claim/cut.py" 615)::[])
def Xxg:Obj:=fo "clear" "Keeper.clear" (Xag (top 40) 4) .none .none .none (.str "stow.keepers" 566) none (.ref 330) .none none
def XHn:Obj:=tu ((.str "self" 620)::(.str "place" 621)::(.str "at" 622)::(.str "long" 623)::(.str "live" 624)::[])
def XCm:Obj:=fq "many" "Keeper.many" (Xag (top 40) 5)
def Xzp:Obj:=cp "many" "Keeper.many" 617 (vI 159::vI 2::vI 0::vI 0::vI 3::vR 332::(.bool true)::vI 181::vR 333::.none::vR 334::vR 335::vR 336::vI 625::vI 159::(.str "/claim/cut.py" 626)::[])
def Xxu:Obj:=fo "many" "Keeper.many" (Xag (top 40) 5) .none .none .none (.str "stow.keepers" 566) none (.ref 337) .none none
def XEj:Obj:=tu ((.str "self" 631)::(.str "place" 632)::(.str "k" 633)::[])
def XHm:Obj:=fq "get" "Keeper.get" (Xag (top 40) 6)
def Xvz:Obj:=cp "get" "Keeper.get" 628 (vI 163::vI 3::vI 0::vI 0::vI 3::vR 339::(.bool true)::vI 181::vR 340::.none::vR 341::vR 342::vR 343::vI 634::vI 163::(.str "/claim/cut.py" 635)::[])
def Xww:Obj:=fo "get" "Keeper.get" (Xag (top 40) 6) .none .none .none (.str "stow.keepers" 566) none (.ref 344) .none none
def XHk:Obj:=tu ((.str "self" 640)::(.str "place" 641)::(.str "k" 642)::(.str "number" 643)::(.str "cell" 644)::[])
def XEr:Obj:=fq "put" "Keeper.put" (Xag (top 40) 7)
def Xxi:Obj:=cp "put" "Keeper.put" 637 (vI 166::vI 4::vI 0::vI 0::vI 3::vR 346::(.bool true)::vI 181::vR 347::.none::vR 348::vR 349::vR 350::vI 645::vI 166::(.str "/claim/cut.py" 646)::[])
def Xxd:Obj:=fo "put" "Keeper.put" (Xag (top 40) 7) .none .none .none (.str "stow.keepers" 566) none (.ref 351) .none none
def XCc:Obj:=tu ((.int 1 648)::[])
def XEk:Obj:=tu ((.str "self" 652)::(.str "count" 653)::(.str "bound" 654)::[])
def XBn:Obj:=fq "ask" "Keeper.ask" (Xag (top 40) 8)
def XBu:Obj:=cp "ask" "Keeper.ask" 649 (vI 170::vI 3::vI 0::vI 0::vI 3::vR 354::(.bool true)::vI 181::vR 355::.none::vR 356::vR 357::vR 358::vI 655::vI 170::(.str "/claim/cut.py" 656)::[])
def XFn:Obj:=fo "ask" "Keeper.ask" (Xag (top 40) 8) (.ref 353) .none .none (.str "stow.keepers" 566) none (.ref 359) .none none
def XEp:Obj:=tu ((.str "self" 661)::(.str "place" 662)::(.str "at" 663)::(.str "long" 664)::(.str "live" 665)::[])
def XGm:Obj:=fq "give" "Keeper.give" (Xag (top 40) 9)
def XDq:Obj:=cp "give" "Keeper.give" 658 (vI 174::vI 2::vI 0::vI 0::vI 3::vR 361::(.bool true)::vI 181::vR 362::.none::vR 363::vR 364::vR 365::vI 666::vI 174::(.str "/claim/cut.py" 667)::[])
def XDu:Obj:=fo "give" "Keeper.give" (Xag (top 40) 9) .none .none .none (.str "stow.keepers" 566) none (.ref 366) .none none
def XEi:Obj:=tu ((.int 1 669)::[])
def XId:Obj:=tu ((.str "self" 673)::(.str "place" 674)::(.str "count" 675)::(.str "bound" 676)::(.str "had" 677)::[])
def XEh:Obj:=fq "grow" "Keeper.grow" (Xag (top 40) 10)
def XCa:Obj:=cp "grow" "Keeper.grow" 670 (vI 178::vI 4::vI 0::vI 0::vI 3::vR 369::(.bool true)::vI 181::vR 370::.none::vR 371::vR 372::vR 373::vI 678::vI 178::(.str "/claim/cut.py" 679)::[])
def XIs:Obj:=fo "grow" "Keeper.grow" (Xag (top 40) 10) (.ref 368) .none .none (.str "stow.keepers" 566) none (.ref 374) .none none
def XFx:Obj:=tu ((.str "self" 684)::(.str "cells" 685)::[])
def XFm:Obj:=fq "room_begin" "Keeper.room_begin" (Xag (top 40) 11)
def XGq:Obj:=cp "room_begin" "Keeper.room_begin" 681 (vI 185::vI 2::vI 0::vI 0::vI 3::vR 376::(.bool true)::vI 181::vR 377::.none::vR 378::vR 379::vR 380::vI 686::vI 185::(.str "/claim/cut.py" 687)::[])
def XIg:Obj:=fo "room_begin" "Keeper.room_begin" (Xag (top 40) 11) .none .none .none (.str "stow.keepers" 566) none (.ref 381) .none none
def XJf:Obj:=tu ((.str "self" 692)::(.str "place" 693)::(.str "k" 694)::(.str "many" 695)::[])
def XFh:Obj:=fq "room_cell_of" "Keeper.room_cell_of" (Xag (top 40) 12)
def Xxm:Obj:=cp "room_cell_of" "Keeper.room_cell_of" 689 (vI 188::vI 3::vI 0::vI 0::vI 3::vR 383::(.bool true)::vI 181::vR 384::.none::vR 385::vR 386::vR 387::vI 696::vI 188::(.str "/claim/cut.py" 697)::[])
def Xvg:Obj:=fo "room_cell_of" "Keeper.room_cell_of" (Xag (top 40) 12) .none .none .none (.str "stow.keepers" 566) none (.ref 388) .none none
def XEo:Obj:=tu ((.str "self" 702)::(.str "place" 703)::(.str "count" 704)::(.str "bound" 705)::(.str "goal" 706)::[])
def XEb:Obj:=fq "room_moved" "Keeper.room_moved" (Xag (top 40) 13)
def Xwm:Obj:=cp "room_moved" "Keeper.room_moved" 699 (vI 194::vI 4::vI 0::vI 0::vI 3::vR 390::(.bool true)::vI 181::vR 391::.none::vR 392::vR 393::vR 394::vI 707::vI 194::(.str "/claim/cut.py" 708)::[])
def Xyb:Obj:=fo "room_moved" "Keeper.room_moved" (Xag (top 40) 13) .none .none .none (.str "stow.keepers" 566) none (.ref 395) .none none
def XBp:Obj:=tu ((.str "room_cells" 710)::[])
def Xvi (P:Params):Obj:=⟨(.type "dict"),none,.dict (en P "__module__" 575 (.str "stow.keepers" 566)::en P "__firstlineno__" 579 (.int 139 578)::en P "__init__" 587 (.ref 303)::en P "cells" 594 (.ref 310)::en P "pieces" 601 (.ref 317)::en P "lay" 609 (.ref 324)::en P "clear" 616 (.ref 331)::en P "many" 627 (.ref 338)::en P "get" 636 (.ref 345)::en P "put" 647 (.ref 352)::en P "ask" 657 (.ref 360)::en P "give" 668 (.ref 367)::en P "grow" 680 (.ref 375)::en P "room_begin" 688 (.ref 382)::en P "room_cell_of" 698 (.ref 389)::en P "room_moved" 709 (.ref 396)::en P "__static_attributes__" 711 (.ref 397)::en P "__dict__" 713 (.ref 400)::en P "__weakref__" 715 (.ref 401)::en P "__doc__" 716 .none::[]).toArray 4,#[]⟩
def XTb:Obj:=⟨(.type "type"),none,.cls ⟨"Keeper",[(.type "object")],[(.ref 399),(.type "object")],398,"Keeper",true,[],[],false,none,false⟩,(none::none::(some (.str "Keeper" 568))::(some (.str "Keeper" 576))::(some (.builtin "object.__new__"))::(some (.bool true))::[]).toArray⟩
def XFi:Obj:=⟨(.type "getset_descriptor"),none,.fields ((.str "__dict__" 712)::(.ref 399)::(.builtin "function.__dict__")::(.builtin "function.__dict__#set")::[]).toArray,#[]⟩
def XHl:Obj:=⟨(.type "getset_descriptor"),none,.fields ((.str "__weakref__" 714)::(.ref 399)::(.builtin "ExceptionGroup.__weakref__")::.none::[]).toArray,#[]⟩
def XEd:Obj:=⟨(.type "super"),none,.fields ((.ref 399)::(.ref 399)::(.ref 399)::[]).toArray,#[]⟩
def XCv:Obj:=⟨(.type "builtin_function_or_method"),none,.fields ((.builtin "object.__init_subclass__")::(.ref 399)::[]).toArray,#[]⟩
def XIj:Obj:=tu ((.str "piece" 724)::(.str "long" 725)::(.str "bound" 726)::(.str "at" 727)::(.str "piece_long" 728)::(.str "live" 729)::(.str "place" 730)::[])
def XEm:Obj:=fq "first_place" "first_place" (top 42)
def Xwl:Obj:=cp "first_place" "first_place" 721 (vI 200::vI 3::vI 0::vI 0::vI 3::vR 404::(.bool true)::vI 181::vR 405::.none::vR 406::vR 407::vR 408::vI 731::vI 200::(.str "/claim/cut.py" 732)::[])
def Xvj:Obj:=fo "first_place" "first_place" (top 42) .none .none .none (.str "stow.places" 719) none (.ref 409) .none none
def XDo:Obj:=tu ((.str "cells" 737)::(.str "long" 738)::(.str "bound" 739)::(.str "spots" 740)::(.str "piece" 741)::(.str "place" 742)::[])
def XJa:Obj:=fq "spots_for" "spots_for" (top 43)
def Xut:Obj:=cp "spots_for" "spots_for" 734 (vI 206::vI 3::vI 0::vI 0::vI 3::vR 411::(.bool true)::vI 181::vR 412::.none::vR 413::vR 414::vR 415::vI 743::vI 206::(.str "/claim/cut.py" 744)::[])
def Xxc:Obj:=fo "spots_for" "spots_for" (top 43) .none .none .none (.str "stow.places" 719) none (.ref 416) .none none
def XRe (P:Params):Obj:=⟨(.type "dict"),none,.dict (en P "__name__" 165 (.str "law_stow_k22_whole_stretches" 962)::en P "__doc__" 166 .none::en P "__package__" 167 .none::en P "__loader__" 168 (.builtin "__main__.__loader__#opaque")::en P "__spec__" 169 .none::en P "__annotations__" 170 (.ref 6)::en P "__builtins__" 171 (.ref 4)::en P "__file__" 173 (.str "/claim/cut.py" 172)::en P "__cached__" 174 .none::en P "_wall" 193 (.ref 21)::en P "StowError" 213 (.ref 31)::en P "NoName" 229 (.ref 44)::en P "NoSize" 245 (.ref 56)::en P "Broken" 270 (.ref 75)::en P "NoPiece" 286 (.ref 87)::en P "NoCell" 302 (.ref 99)::en P "NoAsk" 318 (.ref 111)::en P "NoBound" 334 (.ref 123)::en P "NoRoom" 350 (.ref 135)::en P "MARKS" 354 (.int 2 353)::en P "check_ask" 362 (.ref 144)::en P "check_plain_ask" 370 (.ref 151)::en P "mark_of" 380 (.ref 158)::en P "long_of" 387 (.ref 165)::en P "live_of" 394 (.ref 172)::en P "LEAST_LIVE" 398 (.int 3 397)::en P "can_begin" 407 (.ref 179)::en P "bad_of_piece" 416 (.ref 186)::en P "looked" 427 (.ref 193)::en P "fresh_room" 435 (.ref 200)::en P "laid" 448 (.ref 207)::en P "laid_free" 457 (.ref 214)::en P "piece_at" 466 (.ref 221)::en P "live_at" 475 (.ref 228)::en P "free_at" 484 (.ref 235)::en P "begin_around" 490 (.ref 240)::en P "free_begin" 498 (.ref 247)::en P "free_end" 506 (.ref 254)::en P "cut_out" 521 (.ref 261)::en P "freed" 532 (.ref 268)::en P "joined_pieces" 543 (.ref 275)::en P "joined" 554 (.ref 282)::en P "carried" 565 (.ref 289)::en P "Keeper" 718 (.ref 399)::en P "first_place" 733 (.ref 410)::en P "spots_for" 745 (.ref 417)::en P "least_place" 754 (.ref 424)::en P "Stretches" 832 (.ref 478)::en P "First" 854 (.ref 495)::en P "Best" 876 (.ref 512)::en P "Next" 931 (.ref 557)::en P "Likes" 953 (.ref 574)::en P "stretches_of" 961 (.ref 583)::en P "_law_cell_at" 971 (.ref 590)::en P "_law_whole" 978 (.ref 597)::en P "_law_walk" 990 (.ref 604)::[]).toArray 56,#[]⟩
def XRi:Obj:=fl (vI 1::vI 0::vR 20::vI 5::vI 0::vR 27::vI 7::vI 0::vR 40::vI 9::vI 0::vR 52::vI 11::vI 0::vR 64::vI 15::vI 0::vR 83::vI 17::vI 0::vR 95::vI 19::vI 0::vR 107::vI 21::vI 0::vR 119::vI 23::vI 0::vR 131::vI 27::vI 0::vR 143::vI 30::vI 0::vR 150::vI 35::vI 0::vR 157::vI 39::vI 0::vR 164::vI 41::vI 0::vR 171::vI 45::vI 0::vR 178::vI 50::vI 0::vR 185::vI 57::vI 0::vR 192::vI 68::vI 0::vR 199::vI 76::vI 0::vR 206::vI 81::vI 0::vR 213::vI 85::vI 0::vR 220::vI 90::vI 0::vR 227::vI 95::vI 0::vR 234::vI 100::vI 0::vR 239::vI 103::vI 0::vR 246::vI 107::vI 0::vR 253::vI 111::vI 0::vR 260::vI 119::vI 0::vR 267::vI 122::vI 0::vR 274::vI 130::vI 0::vR 281::vI 135::vI 0::vR 288::vI 139::vI 0::vR 295::vI 200::vI 0::vR 409::vI 206::vI 0::vR 416::vI 214::vI 0::vR 423::vI 218::vI 0::vR 430::vI 251::vI 0::vR 486::vI 256::vI 0::vR 503::vI 262::vI 0::vR 520::vI 281::vI 0::vR 565::vI 287::vI 0::vR 582::vI 298::vI 0::vR 589::vI 302::vI 0::vR 596::vI 304::vI 0::vR 603::[])
def XGl:Obj:=⟨(.type "type"),none,.cls ⟨"Keeper",[(.type "object")],[(.ref 399),(.type "object")],398,"Keeper",true,[],[(.ref 478)],false,none,false⟩,(none::none::(some (.str "Keeper" 568))::(some (.str "Keeper" 576))::(some (.builtin "object.__new__"))::(some (.bool true))::[]).toArray⟩
def XQk:Obj:=tu ((.str "ranked" 751)::[])
def XOu:Obj:=fq "least_place" "least_place" (top 45)
def XEa:Obj:=cp "least_place" "least_place" 748 (vI 214::vI 1::vI 0::vI 0::vI 3::vR 418::(.bool true)::vI 181::vR 419::.none::vR 420::vR 421::vR 422::vI 752::vI 214::(.str "/claim/cut.py" 753)::[])
def XEv:Obj:=fo "least_place" "least_place" (top 45) .none .none .none (.str "stow.stretches" 746) none (.ref 423) .none none
def XOl:Obj:=tu (vR 399::[])
def XGu (P:Params):Obj:=⟨(.type "dict"),none,.dict (en P "__module__" 762 (.str "stow.stretches" 746)::en P "__qualname__" 764 (.str "Stretches" 763)::en P "__firstlineno__" 766 (.int 218 765)::en P "chosen" 775 (.ref 438)::en P "ask" 787 (.ref 446)::en P "give" 795 (.ref 453)::en P "grow" 811 (.ref 461)::en P "room_begin" 819 (.ref 468)::en P "room_granted" 827 (.ref 475)::en P "__static_attributes__" 829 (.ref 476)::[]).toArray 10,#[]⟩
def XQi:Obj:=fl (vI 220::vI 4::vR 437::vI 223::vI 4::vR 445::vI 233::vI 4::vR 452::vI 236::vI 4::vR 460::vI 246::vI 4::vR 467::vI 249::vI 4::vR 474::[])
def XNu:Obj:=cp "Stretches" "Stretches" 757 (vI 218::vI 0::vI 0::vI 0::vI 0::vR 428::(.bool false)::vI 181::vR 429::.none::.none::.none::.none::vI 760::vI 218::(.str "/claim/cut.py" 761)::[])
def XMb:Obj:=⟨(.type "frame"),none,.plain,((some (.ref 430))::(some (.ref 3))::(some (.ref 427))::none::(some (.str "stow.stretches" 746))::none::(some (.ref 0))::[]).toArray⟩
def XLu:Obj:=tu ((.str "self" 770)::(.str "long" 771)::(.str "bound" 772)::[])
def XKb:Obj:=fq "chosen" "Stretches.chosen" (Xag (top 46) 0)
def XPg:Obj:=cp "chosen" "Stretches.chosen" 767 (vI 220::vI 3::vI 0::vI 0::vI 3::vR 432::(.bool true)::vI 181::vR 433::.none::vR 434::vR 435::vR 436::vI 773::vI 220::(.str "/claim/cut.py" 774)::[])
def XOz:Obj:=fo "chosen" "Stretches.chosen" (Xag (top 46) 0) .none .none .none (.str "stow.stretches" 746) none (.ref 437) .none none
def XCz:Obj:=tu ((.int 1 776)::[])
def XJs:Obj:=tu ((.str "self" 780)::(.str "count" 781)::(.str "bound" 782)::(.str "long" 783)::(.str "at" 784)::[])
def XKq:Obj:=fq "ask" "Stretches.ask" (Xag (top 46) 1)
def XBi:Obj:=cp "ask" "Stretches.ask" 777 (vI 223::vI 3::vI 0::vI 0::vI 3::vR 440::(.bool true)::vI 181::vR 441::.none::vR 442::vR 443::vR 444::vI 785::vI 223::(.str "/claim/cut.py" 786)::[])
def XFd:Obj:=fo "ask" "Stretches.ask" (Xag (top 46) 1) (.ref 439) .none .none (.str "stow.stretches" 746) none (.ref 445) .none none
def XKg:Obj:=tu ((.str "self" 791)::(.str "place" 792)::[])
def XOy:Obj:=fq "give" "Stretches.give" (Xag (top 46) 2)
def XHr:Obj:=cp "give" "Stretches.give" 788 (vI 233::vI 2::vI 0::vI 0::vI 3::vR 447::(.bool true)::vI 181::vR 448::.none::vR 449::vR 450::vR 451::vI 793::vI 233::(.str "/claim/cut.py" 794)::[])
def XHf:Obj:=fo "give" "Stretches.give" (Xag (top 46) 2) .none .none .none (.str "stow.stretches" 746) none (.ref 452) .none none
def XEl:Obj:=tu ((.int 1 796)::[])
def XKm:Obj:=tu ((.str "self" 800)::(.str "place" 801)::(.str "count" 802)::(.str "bound" 803)::(.str "at" 804)::(.str "had" 805)::(.str "live" 806)::(.str "long" 807)::(.str "end" 808)::[])
def XQg:Obj:=fq "grow" "Stretches.grow" (Xag (top 46) 3)
def XJc:Obj:=cp "grow" "Stretches.grow" 797 (vI 236::vI 4::vI 0::vI 0::vI 3::vR 455::(.bool true)::vI 181::vR 456::.none::vR 457::vR 458::vR 459::vI 809::vI 236::(.str "/claim/cut.py" 810)::[])
def XBw:Obj:=fo "grow" "Stretches.grow" (Xag (top 46) 3) (.ref 454) .none .none (.str "stow.stretches" 746) none (.ref 460) .none none
def XNt:Obj:=tu ((.str "self" 815)::(.str "cells" 816)::[])
def XKk:Obj:=fq "room_begin" "Stretches.room_begin" (Xag (top 46) 4)
def XFw:Obj:=cp "room_begin" "Stretches.room_begin" 812 (vI 246::vI 2::vI 0::vI 0::vI 3::vR 462::(.bool true)::vI 181::vR 463::.none::vR 464::vR 465::vR 466::vI 817::vI 246::(.str "/claim/cut.py" 818)::[])
def XIx:Obj:=fo "room_begin" "Stretches.room_begin" (Xag (top 46) 4) .none .none .none (.str "stow.stretches" 746) none (.ref 467) .none none
def XLd:Obj:=tu ((.str "self" 823)::(.str "behind" 824)::[])
def XKz:Obj:=fq "room_granted" "Stretches.room_granted" (Xag (top 46) 5)
def XCe:Obj:=cp "room_granted" "Stretches.room_granted" 820 (vI 249::vI 2::vI 0::vI 0::vI 3::vR 469::(.bool true)::vI 181::vR 470::.none::vR 471::vR 472::vR 473::vI 825::vI 249::(.str "/claim/cut.py" 826)::[])
def XIw:Obj:=fo "room_granted" "Stretches.room_granted" (Xag (top 46) 5) .none .none .none (.str "stow.stretches" 746) none (.ref 474) .none none
def XKn:Obj:=tu ((.str "room_cells" 828)::[])
def XGd (P:Params):Obj:=⟨(.type "dict"),none,.dict (en P "__module__" 762 (.str "stow.stretches" 746)::en P "__firstlineno__" 766 (.int 218 765)::en P "chosen" 775 (.ref 438)::en P "ask" 787 (.ref 446)::en P "give" 795 (.ref 453)::en P "grow" 811 (.ref 461)::en P "room_begin" 819 (.ref 468)::en P "room_granted" 827 (.ref 475)::en P "__static_attributes__" 829 (.ref 476)::en P "__doc__" 830 .none::[]).toArray 2,#[]⟩
def XFf:Obj:=⟨(.type "type"),none,.cls ⟨"Stretches",[(.ref 399)],[(.ref 478),(.ref 399),(.type "object")],477,"Stretches",true,[],[(.ref 495),(.ref 512),(.ref 557),(.ref 574)],false,none,false⟩,((some (.ref 425))::none::(some (.str "Stretches" 755))::(some (.str "Stretches" 763))::(some (.builtin "object.__new__"))::(some (.bool true))::[]).toArray⟩
def XLe:Obj:=⟨(.type "super"),none,.fields ((.ref 478)::(.ref 478)::(.ref 478)::[]).toArray,#[]⟩
def XNg:Obj:=⟨(.type "builtin_function_or_method"),none,.fields ((.builtin "object.__init_subclass__")::(.ref 478)::[]).toArray,#[]⟩
def Xlw:Obj:=tu (vR 478::[])
def XGp (P:Params):Obj:=⟨(.type "dict"),none,.dict (en P "__module__" 840 (.str "stow.stretches" 746)::en P "__qualname__" 842 (.str "First" 841)::en P "__firstlineno__" 844 (.int 251 843)::en P "chosen" 850 (.ref 492)::en P "__static_attributes__" 851 (.ref 493)::[]).toArray 5,#[]⟩
def XQx:Obj:=fl (vI 253::vI 4::vR 491::[])
def XOc:Obj:=cp "First" "First" 835 (vI 251::vI 0::vI 0::vI 0::vI 0::vR 484::(.bool false)::vI 181::vR 485::.none::.none::.none::.none::vI 838::vI 251::(.str "/claim/cut.py" 839)::[])
def XQz:Obj:=⟨(.type "frame"),none,.plain,((some (.ref 486))::(some (.ref 3))::(some (.ref 483))::none::(some (.str "stow.stretches" 746))::none::(some (.ref 0))::[]).toArray⟩
def XLj:Obj:=fq "chosen" "First.chosen" (Xag (top 47) 0)
def XHe:Obj:=cp "chosen" "First.chosen" 845 (vI 253::vI 3::vI 0::vI 0::vI 3::vR 488::(.bool true)::vI 181::vR 489::.none::.none::.none::vR 490::vI 848::vI 253::(.str "/claim/cut.py" 849)::[])
def XIh:Obj:=fo "chosen" "First.chosen" (Xag (top 47) 0) .none .none .none (.str "stow.stretches" 746) none (.ref 491) .none none
def XIc (P:Params):Obj:=⟨(.type "dict"),none,.dict (en P "__module__" 840 (.str "stow.stretches" 746)::en P "__firstlineno__" 844 (.int 251 843)::en P "chosen" 850 (.ref 492)::en P "__static_attributes__" 851 (.ref 493)::en P "__doc__" 852 .none::[]).toArray 2,#[]⟩
def XHi:Obj:=⟨(.type "type"),none,.cls ⟨"First",[(.ref 478)],[(.ref 495),(.ref 478),(.ref 399),(.type "object")],494,"First",true,[],[],false,none,false⟩,((some (.ref 481))::none::(some (.str "First" 833))::(some (.str "First" 841))::(some (.builtin "object.__new__"))::(some (.bool true))::[]).toArray⟩
def XQl:Obj:=⟨(.type "super"),none,.fields ((.ref 495)::(.ref 495)::(.ref 495)::[]).toArray,#[]⟩
def XQd:Obj:=⟨(.type "builtin_function_or_method"),none,.fields ((.builtin "object.__init_subclass__")::(.ref 495)::[]).toArray,#[]⟩
def XEx (P:Params):Obj:=⟨(.type "dict"),none,.dict (en P "__module__" 862 (.str "stow.stretches" 746)::en P "__qualname__" 864 (.str "Best" 863)::en P "__firstlineno__" 866 (.int 256 865)::en P "chosen" 872 (.ref 509)::en P "__static_attributes__" 873 (.ref 510)::[]).toArray 5,#[]⟩
def XMo:Obj:=fl (vI 258::vI 4::vR 508::[])
def XOq:Obj:=cp "Best" "Best" 857 (vI 256::vI 0::vI 0::vI 0::vI 0::vR 501::(.bool false)::vI 181::vR 502::.none::.none::.none::.none::vI 860::vI 256::(.str "/claim/cut.py" 861)::[])
def XNi:Obj:=⟨(.type "frame"),none,.plain,((some (.ref 503))::(some (.ref 3))::(some (.ref 500))::none::(some (.str "stow.stretches" 746))::none::(some (.ref 0))::[]).toArray⟩
def XPh:Obj:=fq "chosen" "Best.chosen" (Xag (top 48) 0)
def XCp:Obj:=cp "chosen" "Best.chosen" 867 (vI 258::vI 3::vI 0::vI 0::vI 3::vR 505::(.bool true)::vI 181::vR 506::.none::.none::.none::vR 507::vI 870::vI 258::(.str "/claim/cut.py" 871)::[])
def XGh:Obj:=fo "chosen" "Best.chosen" (Xag (top 48) 0) .none .none .none (.str "stow.stretches" 746) none (.ref 508) .none none
def XDv (P:Params):Obj:=⟨(.type "dict"),none,.dict (en P "__module__" 862 (.str "stow.stretches" 746)::en P "__firstlineno__" 866 (.int 256 865)::en P "chosen" 872 (.ref 509)::en P "__static_attributes__" 873 (.ref 510)::en P "__doc__" 874 .none::[]).toArray 2,#[]⟩
def XCk:Obj:=⟨(.type "type"),none,.cls ⟨"Best",[(.ref 478)],[(.ref 512),(.ref 478),(.ref 399),(.type "object")],511,"Best",true,[],[],false,none,false⟩,((some (.ref 498))::none::(some (.str "Best" 855))::(some (.str "Best" 863))::(some (.builtin "object.__new__"))::(some (.bool true))::[]).toArray⟩
def XQq:Obj:=⟨(.type "super"),none,.fields ((.ref 512)::(.ref 512)::(.ref 512)::[]).toArray,#[]⟩
def XOv:Obj:=⟨(.type "builtin_function_or_method"),none,.fields ((.builtin "object.__init_subclass__")::(.ref 512)::[]).toArray,#[]⟩
def XGe (P:Params):Obj:=⟨(.type "dict"),none,.dict (en P "__module__" 884 (.str "stow.stretches" 746)::en P "__qualname__" 886 (.str "Next" 885)::en P "__firstlineno__" 888 (.int 262 887)::en P "__init__" 896 (.ref 528)::en P "rover" 903 (.ref 535)::en P "chosen" 909 (.ref 540)::en P "room_begin" 917 (.ref 547)::en P "room_granted" 925 (.ref 554)::en P "__static_attributes__" 928 (.ref 555)::[]).toArray 9,#[]⟩
def XPx:Obj:=fl (vI 264::vI 4::vR 527::vI 268::vI 4::vR 534::vI 271::vI 4::vR 539::vI 275::vI 4::vR 546::vI 279::vI 4::vR 553::[])
def XKh:Obj:=cp "Next" "Next" 879 (vI 262::vI 0::vI 0::vI 0::vI 0::vR 518::(.bool false)::vI 181::vR 519::.none::.none::.none::.none::vI 882::vI 262::(.str "/claim/cut.py" 883)::[])
def XOt:Obj:=⟨(.type "frame"),none,.plain,((some (.ref 520))::(some (.ref 3))::(some (.ref 517))::none::(some (.str "stow.stretches" 746))::none::(some (.ref 0))::[]).toArray⟩
def XKe:Obj:=tu ((.str "self" 892)::(.str "size" 893)::[])
def XOn:Obj:=fq "__init__" "Next.__init__" (Xag (top 49) 0)
def XBs:Obj:=cp "__init__" "Next.__init__" 889 (vI 264::vI 2::vI 0::vI 0::vI 3::vR 522::(.bool true)::vI 181::vR 523::.none::vR 524::vR 525::vR 526::vI 894::vI 264::(.str "/claim/cut.py" 895)::[])
def XDb:Obj:=fo "__init__" "Next.__init__" (Xag (top 49) 0) .none .none .none (.str "stow.stretches" 746) none (.ref 527) .none none
def XKy:Obj:=tu ((.str "self" 900)::[])
def XJk:Obj:=fq "rover" "Next.rover" (Xag (top 49) 1)
def XJv:Obj:=cp "rover" "Next.rover" 897 (vI 268::vI 1::vI 0::vI 0::vI 3::vR 529::(.bool true)::vI 181::vR 530::.none::vR 531::vR 532::vR 533::vI 901::vI 268::(.str "/claim/cut.py" 902)::[])
def XJw:Obj:=fo "rover" "Next.rover" (Xag (top 49) 1) .none .none .none (.str "stow.stretches" 746) none (.ref 534) .none none
def XQm:Obj:=fq "chosen" "Next.chosen" (Xag (top 49) 2)
def XGg:Obj:=cp "chosen" "Next.chosen" 904 (vI 271::vI 3::vI 0::vI 0::vI 3::vR 536::(.bool true)::vI 181::vR 537::.none::.none::.none::vR 538::vI 907::vI 271::(.str "/claim/cut.py" 908)::[])
def XHt:Obj:=fo "chosen" "Next.chosen" (Xag (top 49) 2) .none .none .none (.str "stow.stretches" 746) none (.ref 539) .none none
def XMw:Obj:=tu ((.str "self" 913)::(.str "cells" 914)::[])
def XNx:Obj:=fq "room_begin" "Next.room_begin" (Xag (top 49) 3)
def XDg:Obj:=cp "room_begin" "Next.room_begin" 910 (vI 275::vI 2::vI 0::vI 0::vI 3::vR 541::(.bool true)::vI 181::vR 542::.none::vR 543::vR 544::vR 545::vI 915::vI 275::(.str "/claim/cut.py" 916)::[])
def XHo:Obj:=fo "room_begin" "Next.room_begin" (Xag (top 49) 3) .none .none .none (.str "stow.stretches" 746) none (.ref 546) .none none
def XNd:Obj:=tu ((.str "self" 921)::(.str "behind" 922)::[])
def XKi:Obj:=fq "room_granted" "Next.room_granted" (Xag (top 49) 4)
def XEn:Obj:=cp "room_granted" "Next.room_granted" 918 (vI 279::vI 2::vI 0::vI 0::vI 3::vR 548::(.bool true)::vI 181::vR 549::.none::vR 550::vR 551::vR 552::vI 923::vI 279::(.str "/claim/cut.py" 924)::[])
def XBl:Obj:=fo "room_granted" "Next.room_granted" (Xag (top 49) 4) .none .none .none (.str "stow.stretches" 746) none (.ref 553) .none none
def XJt:Obj:=tu ((.str "room_cells" 926)::(.str "room_rover" 927)::[])
def XIu (P:Params):Obj:=⟨(.type "dict"),none,.dict (en P "__module__" 884 (.str "stow.stretches" 746)::en P "__firstlineno__" 888 (.int 262 887)::en P "__init__" 896 (.ref 528)::en P "rover" 903 (.ref 535)::en P "chosen" 909 (.ref 540)::en P "room_begin" 917 (.ref 547)::en P "room_granted" 925 (.ref 554)::en P "__static_attributes__" 928 (.ref 555)::en P "__doc__" 929 .none::[]).toArray 2,#[]⟩
def XEt:Obj:=⟨(.type "type"),none,.cls ⟨"Next",[(.ref 478)],[(.ref 557),(.ref 478),(.ref 399),(.type "object")],556,"Next",true,[],[],false,none,false⟩,((some (.ref 515))::none::(some (.str "Next" 877))::(some (.str "Next" 885))::(some (.builtin "object.__new__"))::(some (.bool true))::[]).toArray⟩
def XOh:Obj:=⟨(.type "super"),none,.fields ((.ref 557)::(.ref 557)::(.ref 557)::[]).toArray,#[]⟩
def XOg:Obj:=⟨(.type "builtin_function_or_method"),none,.fields ((.builtin "object.__init_subclass__")::(.ref 557)::[]).toArray,#[]⟩
def XIm (P:Params):Obj:=⟨(.type "dict"),none,.dict (en P "__module__" 939 (.str "stow.stretches" 746)::en P "__qualname__" 941 (.str "Likes" 940)::en P "__firstlineno__" 943 (.int 281 942)::en P "chosen" 949 (.ref 571)::en P "__static_attributes__" 950 (.ref 572)::[]).toArray 5,#[]⟩
def XMe:Obj:=fl (vI 283::vI 4::vR 570::[])
def XKo:Obj:=cp "Likes" "Likes" 934 (vI 281::vI 0::vI 0::vI 0::vI 0::vR 563::(.bool false)::vI 181::vR 564::.none::.none::.none::.none::vI 937::vI 281::(.str "/claim/cut.py" 938)::[])
def XMg:Obj:=⟨(.type "frame"),none,.plain,((some (.ref 565))::(some (.ref 3))::(some (.ref 562))::none::(some (.str "stow.stretches" 746))::none::(some (.ref 0))::[]).toArray⟩
def XKa:Obj:=fq "chosen" "Likes.chosen" (Xag (top 50) 0)
def XDc:Obj:=cp "chosen" "Likes.chosen" 944 (vI 283::vI 3::vI 0::vI 0::vI 3::vR 567::(.bool true)::vI 181::vR 568::.none::.none::.none::vR 569::vI 947::vI 283::(.str "/claim/cut.py" 948)::[])
def XCy:Obj:=fo "chosen" "Likes.chosen" (Xag (top 50) 0) .none .none .none (.str "stow.stretches" 746) none (.ref 570) .none none
def XCq (P:Params):Obj:=⟨(.type "dict"),none,.dict (en P "__module__" 939 (.str "stow.stretches" 746)::en P "__firstlineno__" 943 (.int 281 942)::en P "chosen" 949 (.ref 571)::en P "__static_attributes__" 950 (.ref 572)::en P "__doc__" 951 .none::[]).toArray 2,#[]⟩
def XHc:Obj:=⟨(.type "type"),none,.cls ⟨"Likes",[(.ref 478)],[(.ref 574),(.ref 478),(.ref 399),(.type "object")],573,"Likes",true,[],[],false,none,false⟩,((some (.ref 560))::none::(some (.str "Likes" 932))::(some (.str "Likes" 940))::(some (.builtin "object.__new__"))::(some (.bool true))::[]).toArray⟩
def XOa:Obj:=⟨(.type "super"),none,.fields ((.ref 574)::(.ref 574)::(.ref 574)::[]).toArray,#[]⟩
def XLo:Obj:=⟨(.type "builtin_function_or_method"),none,.fields ((.builtin "object.__init_subclass__")::(.ref 574)::[]).toArray,#[]⟩
def XLg:Obj:=tu ((.str "word" 957)::(.str "size" 958)::[])
def XOi:Obj:=fq "stretches_of" "stretches_of" (top 51)
def XEy:Obj:=cp "stretches_of" "stretches_of" 954 (vI 287::vI 2::vI 0::vI 0::vI 3::vR 577::(.bool true)::vI 181::vR 578::.none::vR 579::vR 580::vR 581::vI 959::vI 287::(.str "/claim/cut.py" 960)::[])
def XCb:Obj:=fo "stretches_of" "stretches_of" (top 51) .none .none .none (.str "stow.stretches" 746) none (.ref 582) .none none
def XLr:Obj:=tu ((.str "_law_script" 967)::(.str "_law_k" 968)::[])
def XJm:Obj:=fq "_law_cell_at" "_law_cell_at" (top 53)
def XHq:Obj:=cp "_law_cell_at" "_law_cell_at" 964 (vI 298::vI 2::vI 0::vI 0::vI 3::vR 584::(.bool true)::vI 181::vR 585::.none::vR 586::vR 587::vR 588::vI 969::vI 298::(.str "/claim/cut.py" 970)::[])
def XIz:Obj:=fo "_law_cell_at" "_law_cell_at" (top 53) .none .none .none (.str "law_stow_k22_whole_stretches" 962) none (.ref 589) .none none
def XKx:Obj:=tu ((.str "_law_found" 975)::[])
def XQp:Obj:=fq "_law_whole" "_law_whole" (top 54)
def XFe:Obj:=cp "_law_whole" "_law_whole" 972 (vI 302::vI 1::vI 0::vI 0::vI 3::vR 591::(.bool true)::vI 181::vR 592::.none::vR 593::vR 594::vR 595::vI 976::vI 302::(.str "/claim/cut.py" 977)::[])
def XFg:Obj:=fo "_law_whole" "_law_whole" (top 54) .none .none .none (.str "law_stow_k22_whole_stretches" 962) none (.ref 596) .none none
def XQu:Obj:=tu ((.str "_law_cells" 982)::(.str "_law_size" 983)::(.str "_law_pieces" 984)::(.str "_law_at" 985)::(.str "_law_long" 986)::(.str "_law_live" 987)::[])
def XKc:Obj:=fq "_law_walk" "_law_walk" (top 55)
def XGw:Obj:=cp "_law_walk" "_law_walk" 979 (vI 304::vI 2::vI 0::vI 0::vI 3::vR 598::(.bool true)::vI 181::vR 599::.none::vR 600::vR 601::vR 602::vI 988::vI 304::(.str "/claim/cut.py" 989)::[])
def XDh:Obj:=fo "_law_walk" "_law_walk" (top 55) .none .none .none (.str "law_stow_k22_whole_stretches" 962) none (.ref 603) .none none
def XLc (P:Params):Obj:=⟨(.type "dict"),none,.dict (en P "__name__" 165 (.str "law_stow_k22_whole_stretches" 962)::en P "__doc__" 166 .none::en P "__package__" 167 .none::en P "__loader__" 168 (.builtin "__main__.__loader__#opaque")::en P "__spec__" 169 .none::en P "__annotations__" 170 (.ref 6)::en P "__builtins__" 171 (.ref 4)::en P "__file__" 173 (.str "/claim/cut.py" 172)::en P "__cached__" 174 .none::en P "_wall" 193 (.ref 21)::en P "StowError" 213 (.ref 31)::en P "NoName" 229 (.ref 44)::en P "NoSize" 245 (.ref 56)::en P "Broken" 270 (.ref 75)::en P "NoPiece" 286 (.ref 87)::en P "NoCell" 302 (.ref 99)::en P "NoAsk" 318 (.ref 111)::en P "NoBound" 334 (.ref 123)::en P "NoRoom" 350 (.ref 135)::en P "MARKS" 354 (.int 2 353)::en P "check_ask" 362 (.ref 144)::en P "check_plain_ask" 370 (.ref 151)::en P "mark_of" 380 (.ref 158)::en P "long_of" 387 (.ref 165)::en P "live_of" 394 (.ref 172)::en P "LEAST_LIVE" 398 (.int 3 397)::en P "can_begin" 407 (.ref 179)::en P "bad_of_piece" 416 (.ref 186)::en P "looked" 427 (.ref 193)::en P "fresh_room" 435 (.ref 200)::en P "laid" 448 (.ref 207)::en P "laid_free" 457 (.ref 214)::en P "piece_at" 466 (.ref 221)::en P "live_at" 475 (.ref 228)::en P "free_at" 484 (.ref 235)::en P "begin_around" 490 (.ref 240)::en P "free_begin" 498 (.ref 247)::en P "free_end" 506 (.ref 254)::en P "cut_out" 521 (.ref 261)::en P "freed" 532 (.ref 268)::en P "joined_pieces" 543 (.ref 275)::en P "joined" 554 (.ref 282)::en P "carried" 565 (.ref 289)::en P "Keeper" 718 (.ref 399)::en P "first_place" 733 (.ref 410)::en P "spots_for" 745 (.ref 417)::en P "least_place" 754 (.ref 424)::en P "Stretches" 832 (.ref 478)::en P "First" 854 (.ref 495)::en P "Best" 876 (.ref 512)::en P "Next" 931 (.ref 557)::en P "Likes" 953 (.ref 574)::en P "stretches_of" 961 (.ref 583)::en P "_law_cell_at" 971 (.ref 590)::en P "_law_whole" 978 (.ref 597)::en P "_law_walk" 990 (.ref 604)::en P "_law_told" 1002 (.ref 611)::en P "_law_narrow" 1013 (.ref 618)::en P "_law_new" 1030 (.ref 625)::en P "_law_right" 1036 (.ref 630)::en P "_law_step" 1051 (.ref 637)::en P "law" 1069 (.ref 644)::[]).toArray 62,#[]⟩
def XSk:Obj:=fl (vI 1::vI 0::vR 20::vI 5::vI 0::vR 27::vI 7::vI 0::vR 40::vI 9::vI 0::vR 52::vI 11::vI 0::vR 64::vI 15::vI 0::vR 83::vI 17::vI 0::vR 95::vI 19::vI 0::vR 107::vI 21::vI 0::vR 119::vI 23::vI 0::vR 131::vI 27::vI 0::vR 143::vI 30::vI 0::vR 150::vI 35::vI 0::vR 157::vI 39::vI 0::vR 164::vI 41::vI 0::vR 171::vI 45::vI 0::vR 178::vI 50::vI 0::vR 185::vI 57::vI 0::vR 192::vI 68::vI 0::vR 199::vI 76::vI 0::vR 206::vI 81::vI 0::vR 213::vI 85::vI 0::vR 220::vI 90::vI 0::vR 227::vI 95::vI 0::vR 234::vI 100::vI 0::vR 239::vI 103::vI 0::vR 246::vI 107::vI 0::vR 253::vI 111::vI 0::vR 260::vI 119::vI 0::vR 267::vI 122::vI 0::vR 274::vI 130::vI 0::vR 281::vI 135::vI 0::vR 288::vI 139::vI 0::vR 295::vI 200::vI 0::vR 409::vI 206::vI 0::vR 416::vI 214::vI 0::vR 423::vI 218::vI 0::vR 430::vI 251::vI 0::vR 486::vI 256::vI 0::vR 503::vI 262::vI 0::vR 520::vI 281::vI 0::vR 565::vI 287::vI 0::vR 582::vI 298::vI 0::vR 589::vI 302::vI 0::vR 596::vI 304::vI 0::vR 603::vI 321::vI 0::vR 610::vI 331::vI 0::vR 617::vI 337::vI 0::vR 624::vI 352::vI 0::vR 629::vI 368::vI 0::vR 636::vI 392::vI 0::vR 643::[])
def XSn:Obj:=tu ((.str "_law_keeper" 994)::(.str "_law_way" 995)::(.str "_law_place" 996)::(.str "_law_count" 997)::(.str "_law_bound" 998)::(.str "_law_told_here" 999)::[])
def XSw:Obj:=fq "_law_told" "_law_told" (top 56)
def XNk:Obj:=cp "_law_told" "_law_told" 991 (vI 321::vI 5::vI 0::vI 0::vI 3::vR 605::(.bool true)::vI 181::vR 606::.none::vR 607::vR 608::vR 609::vI 1000::vI 321::(.str "/claim/cut.py" 1001)::[])
def XPe:Obj:=fo "_law_told" "_law_told" (top 56) .none .none .none (.str "law_stow_k22_whole_stretches" 962) none (.ref 610) .none none
def ho613:Obj:=tu ((.str "_law_pieces" 1006)::(.str "_law_long" 1007)::(.str "_law_bound" 1008)::(.str "_law_piece" 1009)::(.str "_law_spot" 1010)::[])
def XSr:Obj:=fq "_law_narrow" "_law_narrow" (top 57)
def XMd:Obj:=cp "_law_narrow" "_law_narrow" 1003 (vI 331::vI 3::vI 0::vI 0::vI 3::vR 612::(.bool true)::vI 181::vR 613::.none::vR 614::vR 615::vR 616::vI 1011::vI 331::(.str "/claim/cut.py" 1012)::[])
def XPc:Obj:=fo "_law_narrow" "_law_narrow" (top 57) .none .none .none (.str "law_stow_k22_whole_stretches" 962) none (.ref 617) .none none
def XTt:Obj:=tu ((.str "_law_keeper" 1017)::(.str "_law_held" 1018)::(.str "_law_way" 1019)::(.str "_law_place" 1020)::(.str "_law_c" 1021)::(.str "_law_count" 1022)::(.str "_law_bound" 1023)::(.str "_law_before" 1024)::(.str "_law_found" 1025)::(.str "_law_pieces" 1026)::(.str "_law_row" 1027)::[])
def XRb:Obj:=fq "_law_new" "_law_new" (top 58)
def XJz:Obj:=cp "_law_new" "_law_new" 1014 (vI 337::vI 5::vI 0::vI 0::vI 3::vR 619::(.bool true)::vI 181::vR 620::.none::vR 621::vR 622::vR 623::vI 1028::vI 337::(.str "/claim/cut.py" 1029)::[])
def XLq:Obj:=fo "_law_new" "_law_new" (top 58) .none .none .none (.str "law_stow_k22_whole_stretches" 962) none (.ref 624) .none none
def XSq:Obj:=fq "_law_right" "_law_right" (top 59)
def XKt:Obj:=cp "_law_right" "_law_right" 1031 (vI 352::vI 3::vI 0::vI 0::vI 3::vR 626::(.bool true)::vI 181::vR 627::.none::.none::.none::vR 628::vI 1034::vI 352::(.str "/claim/cut.py" 1035)::[])
def XPr:Obj:=fo "_law_right" "_law_right" (top 59) .none .none .none (.str "law_stow_k22_whole_stretches" 962) none (.ref 629) .none none
def XSv:Obj:=tu ((.str "_law_keeper" 1040)::(.str "_law_other" 1041)::(.str "_law_held" 1042)::(.str "_law_c" 1043)::(.str "_law_kept" 1044)::(.str "_law_way" 1045)::(.str "_law_place" 1046)::(.str "_law_row" 1047)::(.str "_law_k" 1048)::[])
def XTd:Obj:=fq "_law_step" "_law_step" (top 60)
def XKl:Obj:=cp "_law_step" "_law_step" 1037 (vI 368::vI 5::vI 0::vI 0::vI 3::vR 631::(.bool true)::vI 181::vR 632::.none::vR 633::vR 634::vR 635::vI 1049::vI 368::(.str "/claim/cut.py" 1050)::[])
def XKj:Obj:=fo "_law_step" "_law_step" (top 60) .none .none .none (.str "law_stow_k22_whole_stretches" 962) none (.ref 636) .none none
def XTs:Obj:=tu ((.str "_law_script" 1055)::(.str "_law_size" 1056)::(.str "_law_words" 1057)::(.str "_law_left" 1058)::(.str "_law_right_here" 1059)::(.str "_law_mine" 1060)::(.str "_law_yours" 1061)::(.str "_law_kept" 1062)::(.str "_law_c" 1063)::(.str "_law_stood" 1064)::(.str "_law_place" 1065)::(.str "_law_pair" 1066)::[])
def ho641:Obj:=fq "law" "law" (top 61)
def XOf:Obj:=cp "law" "law" 1052 (vI 392::vI 1::vI 0::vI 0::vI 3::vR 638::(.bool true)::vI 181::vR 639::.none::vR 640::vR 641::vR 642::vI 1067::vI 392::(.str "/claim/cut.py" 1068)::[])
def XLt:Obj:=fo "law" "law" (top 61) .none .none .none (.str "law_stow_k22_whole_stretches" 962) none (.ref 643) .none none
noncomputable def XQs:Params→Heap:=fun P=>⟨Array.mk (PySem.W.boot_o_0 P::PySem.W.boot_o_1 P::PySem.W.boot_o_2 P::PySem.W.boot_o_3 P::PySem.W.boot_o_4 P::PySem.W.boot_o_5 P::PySem.W.boot_o_6 P::PySem.W.boot_o_7 P::PySem.W.boot_o_8 P::PySem.W.boot_o_9 P::PySem.W.boot_o_10 P::ho0::ho1::ho2::ho3::[]),⟨[],[],[],0,[],[],false,#[],[],0,false,false,false,0,[2000,10,10],false,0,true,[],[],0,false⟩⟩
def Xxo:List Stmt:=PySem.W.behindTheImports PySem.Challenge.pw_stow_k22_whole_stretches
def sts0:List Stmt:=(Xxo.drop 0).take 10
def sts1:List Stmt:=(Xxo.drop 10).take 35
def sts2:List Stmt:=(Xxo.drop 45).take 11
def sts3:List Stmt:=(Xxo.drop 56).take 6
def all0:List Stmt:=sts0++(sts1++(sts2++(sts3++[])))
def env0:Env:={ scope:=(PySem.Challenge.pw_stow_k22_whole_stretches).main.scope,locals:=mainNs,globals:=mainNs,cells:=[],code:=(.ref 13),frame:=some 14 }
def Xgx:Code:=.body all0 env0
theorem pre0 (w:World)(os:OsState):PySem.W.topGo treeTable PySem.Challenge.pw_stow_k22_whole_stretches w 11 (some (.ref 6)) 12 ⟨PySem.W.boot_heap w.params,Array.mk [],PySem.W.boot_drawn,PySem.W.boot_toks,os⟩ (PySem.W.topStub PySem.Challenge.pw_stow_k22_whole_stretches)=some (⟨XQs w.params,#[],⟨0,0,0,0⟩,187,os⟩,⟨denote treeTable (.body all0 env0),Xgx,⟨0,0,0,0⟩,[PySem.W.topFrame ⟨0,0,0,0⟩]⟩):=by kernel_rfl
noncomputable def XPf:Params→PySem.W.BT:=fun P=>(.node (PySem.W.boot_o_0 P) (.node (PySem.W.boot_o_1 P) (.node (PySem.W.boot_o_3 P) (.node (PySem.W.boot_o_7 P) .nil .nil) (.node ho0 .nil .nil)) (.node (PySem.W.boot_o_5 P) (.node (PySem.W.boot_o_9 P) .nil .nil) (.node ho2 .nil .nil))) (.node (PySem.W.boot_o_2 P) (.node (PySem.W.boot_o_4 P) (.node (PySem.W.boot_o_8 P) .nil .nil) (.node ho1 .nil .nil)) (.node (PySem.W.boot_o_6 P) (.node (PySem.W.boot_o_10 P) .nil .nil) (.node ho3 .nil .nil))))
theorem blk0 (w:World)(os:OsState):PySem.W.segRun treeTable PySem.Challenge.pw_stow_k22_whole_stretches w 11 (some (.ref 6)) 1 1 ⟨XQs w.params,#[],⟨0,0,0,0⟩,187,os⟩ (PySem.W.blockOf all0 env0 Xgx ⟨0,0,0,0⟩ [PySem.W.topFrame ⟨0,0,0,0⟩])=some (.next,(PySem.W.SharedT.mk (XPf w.params) 15 ⟨[],[],[],0,[],[],false,#[],[],0,false,false,false,0,[2000,10,10],false,0,true,[],[],0,false⟩ #[] ⟨0,0,0,0⟩ 187 os).abs,Xgx,⟨0,0,0,0⟩):=by kernel_rfl
noncomputable def Xqj:Params→PySem.W.BT:=fun P=>(.node (PySem.W.boot_o_0 P) (.node (PySem.W.boot_o_1 P) (.node (ho4 P) (.node (PySem.W.boot_o_7 P) (.node ho0 (.node ho22 (.node ho54 .nil .nil) (.node ho86 .nil .nil)) (.node ho26 (.node ho14 .nil .nil) (.node Xrl .nil .nil))) (.node ho14 (.node ho1 (.node ho62 .nil .nil) (.node ho14 .nil .nil)) (.node (ho46 P) (.node ho78 .nil .nil) (.node Xwi .nil .nil)))) (.node ho0 (.node ho10 (.node ho26 (.node ho1 .nil .nil) (.node ho90 .nil .nil)) (.node ho1 (.node ho74 .nil .nil) (.node ho14 .nil .nil))) (.node ho18 (.node (ho34 P) (.node ho66 .nil .nil) (.node ho98 .nil .nil)) (.node ho26 (.node ho14 .nil .nil) (.node Xqd .nil .nil))))) (.node (PySem.W.boot_o_5 P) (.node (PySem.W.boot_o_9 P) (.node ho8 (.node ho24 (.node ho56 .nil .nil) (.node ho0 .nil .nil)) (.node (ho40 P) (.node ho0 .nil .nil) (.node Xvo .nil .nil))) (.node ho0 (.node ho32 (.node ho64 .nil .nil) (.node ho0 .nil .nil)) (.node ho48 (.node ho80 .nil .nil) (.node ho0 .nil .nil)))) (.node ho2 (.node ho12 (.node (ho28 P) (.node ho0 .nil .nil) (.node ho92 .nil .nil)) (.node ho44 (.node ho0 .nil .nil) (.node ho0 .nil .nil))) (.node ho0 (.node ho36 (.node ho68 .nil .nil) (.node ho0 .nil .nil)) (.node (ho52 P) (.node ho0 .nil .nil) (.node Xyd .nil .nil)))))) (.node (PySem.W.boot_o_2 P) (.node (PySem.W.boot_o_4 P) (.node (PySem.W.boot_o_8 P) (.node ho1 (.node ho23 (.node ho55 .nil .nil) (.node ho87 .nil .nil)) (.node ho14 (.node (ho71 P) .nil .nil) (.node Xwg .nil .nil))) (.node (ho15 P) (.node ho31 (.node ho63 .nil .nil) (.node (ho95 P) .nil .nil)) (.node ho47 (.node ho79 .nil .nil) (.node Xxn .nil .nil)))) (.node ho5 (.node ho11 (.node ho14 (.node ho59 .nil .nil) (.node ho91 .nil .nil)) (.node ho43 (.node ho75 .nil .nil) (.node (Xql P) .nil .nil))) (.node ho19 (.node ho35 (.node ho67 .nil .nil) (.node ho99 .nil .nil)) (.node ho14 (.node (ho83 P) .nil .nil) (.node Xyh .nil .nil))))) (.node (PySem.W.boot_o_6 P) (.node (PySem.W.boot_o_10 P) (.node ho0 (.node ho25 (.node ho0 .nil .nil) (.node (ho89 P) .nil .nil)) (.node ho0 (.node ho1 .nil .nil) (.node ho26 .nil .nil))) (.node ho1 (.node ho0 (.node (ho65 P) .nil .nil) (.node ho1 .nil .nil)) (.node ho49 (.node ho26 .nil .nil) (.node (Xqk P) .nil .nil)))) (.node ho3 (.node ho13 (.node ho0 (.node ho61 .nil .nil) (.node ho26 .nil .nil)) (.node ho0 (.node (ho77 P) .nil .nil) (.node ho1 .nil .nil))) (.node (ho21 P) (.node ho37 (.node ho26 .nil .nil) (.node (Xug P) .nil .nil)) (.node ho0 (.node ho1 .nil .nil) .nil))))))
theorem grp0 (w:World)(os:OsState):PySem.W.segRunT treeTable PySem.Challenge.pw_stow_k22_whole_stretches w 11 (some (.ref 6)) 1 1748 (PySem.W.SharedT.mk (XPf w.params) 15 ⟨[],[],[],0,[],[],false,#[],[],0,false,false,false,0,[2000,10,10],false,0,true,[],[],0,false⟩ #[] ⟨0,0,0,0⟩ 187 os) (PySem.W.piecesOf sts0 env0 Xgx ⟨0,0,0,0⟩ [PySem.W.topFrame ⟨0,0,0,0⟩])=some (.next,(PySem.W.SharedT.mk (Xqj w.params) 126 ⟨[],[],[],0,[],[],false,#[],[],0,false,false,false,0,[2000,10,10],false,0,true,[],[],0,false⟩ #[] ⟨0,0,0,0⟩ 335 os),Xgx,⟨21,0,22,8⟩):=by kernel_rfl
noncomputable def Xta:Params→PySem.W.BT:=fun P=>(.node (PySem.W.boot_o_0 P) (.node (PySem.W.boot_o_1 P) (.node (XSd P) (.node (PySem.W.boot_o_7 P) (.node ho0 (.node Xzx (.node ho54 (.node ho14 (.node ho0 .nil .nil) (.node ho0 .nil .nil)) (.node XEu (.node ho1 .nil .nil) .nil)) (.node ho86 (.node ho0 (.node XEg .nil .nil) (.node XJa .nil .nil)) (.node ho1 (.node Xxi .nil .nil) .nil))) (.node ho26 (.node ho14 (.node Xwf (.node XFt .nil .nil) (.node XTb .nil .nil)) (.node Xwo (.node ho0 .nil .nil) .nil)) (.node Xrl (.node XGt (.node Xzi .nil .nil) .nil) (.node Xyv (.node XDu .nil .nil) .nil)))) (.node ho14 (.node ho1 (.node ho62 (.node Xwb (.node ho1 .nil .nil) (.node ho1 .nil .nil)) (.node Xzg (.node XFz .nil .nil) .nil)) (.node ho14 (.node ho1 (.node XBk .nil .nil) .nil) (.node XEf (.node XBu .nil .nil) .nil))) (.node (ho46 P) (.node ho78 (.node Xvs (.node ho0 .nil .nil) (.node ho0 .nil .nil)) (.node ho0 (.node XHm .nil .nil) .nil)) (.node Xwi (.node ho0 (.node ho0 .nil .nil) .nil) (.node Xyi (.node XIs .nil .nil) .nil))))) (.node ho0 (.node ho10 (.node ho26 (.node ho1 (.node XIe (.node XDt .nil .nil) (.node XFh .nil .nil)) (.node ho1 (.node Xys .nil .nil) .nil)) (.node ho90 (.node XDz (.node ho14 .nil .nil) .nil) (.node Xyj (.node ho1 .nil .nil) .nil))) (.node ho1 (.node ho74 (.node XGj (.node Xwa .nil .nil) (.node XCv .nil .nil)) (.node ho0 (.node ho0 .nil .nil) .nil)) (.node ho14 (.node Xyl (.node ho0 .nil .nil) .nil) (.node XGv (.node XId .nil .nil) .nil)))) (.node ho18 (.node (ho34 P) (.node ho66 (.node ho1 (.node Xvw .nil .nil) (.node Xwm .nil .nil)) (.node XDk (.node Xxg .nil .nil) .nil)) (.node ho98 (.node Xzj (.node XFc .nil .nil) .nil) (.node Xzt (.node XEp .nil .nil) .nil))) (.node ho26 (.node ho14 (.node ho0 (.node ho0 .nil .nil) (.node ho0 .nil .nil)) (.node XBq (.node ho1 .nil .nil) .nil)) (.node Xqd (.node ho0 (.node XGz .nil .nil) .nil) (.node ho0 (.node ho0 .nil .nil) .nil)))))) (.node (PySem.W.boot_o_5 P) (.node (PySem.W.boot_o_9 P) (.node ho8 (.node ho24 (.node ho56 (.node ho0 (.node XIv .nil .nil) (.node XJf .nil .nil)) (.node Xux (.node ho0 .nil .nil) .nil)) (.node ho0 (.node XFo (.node Xuv .nil .nil) (.node Xxc .nil .nil)) (.node ho0 (.node XCc .nil .nil) .nil))) (.node (ho40 P) (.node ho0 (.node ho0 (.node XFr .nil .nil) (.node XHl .nil .nil)) (.node ho1 (.node Xzp .nil .nil) .nil)) (.node Xvo (.node XCr (.node ho1 .nil .nil) .nil) (.node ho0 (.node ho0 .nil .nil) .nil)))) (.node ho0 (.node ho32 (.node ho64 (.node XIo (.node ho0 .nil .nil) (.node ho0 .nil .nil)) (.node ho0 (.node XDx .nil .nil) .nil)) (.node ho0 (.node ho0 (.node ho0 .nil .nil) .nil) (.node XCd (.node ho0 .nil .nil) .nil))) (.node ho48 (.node ho80 (.node ho1 (.node Xyk .nil .nil) (.node Xwl .nil .nil)) (.node XFj (.node Xww .nil .nil) .nil)) (.node ho0 (.node Xvf (.node XCu .nil .nil) .nil) (.node ho1 (.node ho1 .nil .nil) .nil))))) (.node ho2 (.node ho12 (.node (ho28 P) (.node ho0 (.node ho0 (.node Xzu .nil .nil) (.node Xvg .nil .nil)) (.node ho0 (.node ho0 .nil .nil) .nil)) (.node ho92 (.node Xvx (.node ho0 .nil .nil) .nil) (.node ho0 (.node ho0 .nil .nil) .nil))) (.node ho44 (.node ho0 (.node XIr (.node ho1 .nil .nil) (.node ho1 .nil .nil)) (.node Xvc (.node XEj .nil .nil) .nil)) (.node ho0 (.node ho1 (.node Xvt .nil .nil) .nil) (.node XBo (.node XEh .nil .nil) .nil)))) (.node ho0 (.node ho36 (.node ho68 (.node ho0 (.node ho0 .nil .nil) (.node XBp .nil .nil)) (.node XIk (.node ho1 .nil .nil) .nil)) (.node ho0 (.node ho0 (.node XFy .nil .nil) .nil) (.node ho1 (.node XGm .nil .nil) .nil))) (.node (ho52 P) (.node ho0 (.node Xvq (.node XHu .nil .nil) (.node XDo .nil .nil)) (.node Xur (.node ho0 .nil .nil) .nil)) (.node Xyd (.node XFq (.node Xyg .nil .nil) .nil) (.node Xzn (.node XGq .nil .nil) .nil))))))) (.node (PySem.W.boot_o_2 P) (.node (PySem.W.boot_o_4 P) (.node (PySem.W.boot_o_8 P) (.node ho1 (.node ho23 (.node ho55 (.node (Xyp P) (.node ho1 .nil .nil) (.node ho1 .nil .nil)) (.node Xvr (.node XDs .nil .nil) .nil)) (.node ho87 (.node ho1 (.node Xyn .nil .nil) (.node Xut .nil .nil)) (.node XFu (.node Xxd .nil .nil) .nil))) (.node ho14 (.node (ho71 P) (.node Xwr (.node ho0 .nil .nil) (.node XFi .nil .nil)) (.node ho0 (.node XCm .nil .nil) .nil)) (.node Xwg (.node ho0 (.node ho0 .nil .nil) .nil) (.node Xxs (.node XEi .nil .nil) .nil)))) (.node (ho15 P) (.node ho31 (.node ho63 (.node XDm (.node XGr .nil .nil) (.node XEo .nil .nil)) (.node Xxp (.node ho0 .nil .nil) .nil)) (.node (ho95 P) (.node XHj (.node XBy .nil .nil) .nil) (.node ho0 (.node XFn .nil .nil) .nil))) (.node ho47 (.node ho79 (.node ho0 (.node XIa .nil .nil) (.node XEm .nil .nil)) (.node ho1 (.node Xvz .nil .nil) .nil)) (.node Xxn (.node XGb (.node ho1 .nil .nil) .nil) (.node ho0 (.node ho0 .nil .nil) .nil))))) (.node ho118 (.node ho11 (.node ho14 (.node ho59 (.node XHs (.node Xyo .nil .nil) (.node Xxm .nil .nil)) (.node XCo (.node Xwd .nil .nil) .nil)) (.node ho91 (.node Xxq (.node (Xva P) .nil .nil) .nil) (.node Xzz (.node XEk .nil .nil) .nil))) (.node ho43 (.node ho75 (.node ho0 (.node ho0 .nil .nil) (.node ho0 .nil .nil)) (.node XGf (.node ho1 .nil .nil) .nil)) (.node (Xql P) (.node ho0 (.node XEw .nil .nil) .nil) (.node ho0 (.node ho0 .nil .nil) .nil)))) (.node ho19 (.node ho35 (.node ho67 (.node XFl (.node Xxt .nil .nil) (.node Xyb .nil .nil)) (.node ho0 (.node ho0 .nil .nil) .nil)) (.node ho99 (.node Xze (.node ho0 .nil .nil) .nil) (.node ho0 (.node ho0 .nil .nil) .nil))) (.node ho14 (.node (ho83 P) (.node XIi (.node ho1 .nil .nil) (.node ho1 .nil .nil)) (.node Xyz (.node XHk .nil .nil) .nil)) (.node Xyh (.node ho1 (.node Xxv .nil .nil) .nil) (.node XHy (.node XFm .nil .nil) .nil)))))) (.node (PySem.W.boot_o_6 P) (.node (PySem.W.boot_o_10 P) (.node ho0 (.node ho25 (.node ho0 (.node ho1 (.node ho0 .nil .nil) (.node ho0 .nil .nil)) (.node ho0 (.node XDw .nil .nil) .nil)) (.node (ho89 P) (.node ho0 (.node ho0 .nil .nil) .nil) (.node XBv (.node ho0 .nil .nil) .nil))) (.node ho0 (.node ho1 (.node ho1 (.node Xzy .nil .nil) (.node XEd .nil .nil)) (.node XFv (.node Xxu .nil .nil) .nil)) (.node ho26 (.node Xym (.node XDj .nil .nil) .nil) (.node ho1 (.node ho1 .nil .nil) .nil)))) (.node ho1 (.node ho0 (.node (ho65 P) (.node ho0 (.node XIl .nil .nil) (.node XEb .nil .nil)) (.node ho1 (.node Xyy .nil .nil) .nil)) (.node ho1 (.node XIp (.node ho1 .nil .nil) .nil) (.node Xyf (.node ho1 .nil .nil) .nil))) (.node ho49 (.node ho26 (.node XBz (.node Xuu .nil .nil) (.node Xvj .nil .nil)) (.node ho0 (.node ho0 .nil .nil) .nil)) (.node (Xqk P) (.node Xxr (.node ho0 .nil .nil) .nil) (.node XEc (.node XFx .nil .nil) .nil))))) (.node ho3 (.node ho13 (.node ho0 (.node ho61 (.node (Xxh P) (.node ho0 .nil .nil) (.node ho0 .nil .nil)) (.node XHw (.node ho1 .nil .nil) .nil)) (.node ho26 (.node ho0 (.node XHd .nil .nil) .nil) (.node ho1 (.node XBn .nil .nil) .nil))) (.node ho0 (.node (ho77 P) (.node Xve (.node XCx .nil .nil) (.node XIj .nil .nil)) (.node Xvy (.node ho0 .nil .nil) .nil)) (.node ho1 (.node XDa (.node Xye .nil .nil) .nil) (.node Xwu (.node XCa .nil .nil) .nil)))) (.node (ho21 P) (.node ho37 (.node ho26 (.node XGy (.node ho1 .nil .nil) (.node (Xvi P) .nil .nil)) (.node Xwx (.node XHn .nil .nil) .nil)) (.node (Xug P) (.node ho1 (.node Xwt .nil .nil) .nil) (.node XCt (.node XDq .nil .nil) .nil))) (.node ho0 (.node ho1 (.node Xxj (.node ho0 .nil .nil) (.node ho0 .nil .nil)) (.node ho0 (.node XEr .nil .nil) .nil)) (.node ho26 (.node ho0 (.node ho0 .nil .nil) .nil) (.node Xxf (.node XIg .nil .nil) .nil))))))))
theorem grp1 (w:World)(os:OsState):PySem.W.segRunT treeTable PySem.Challenge.pw_stow_k22_whole_stretches w 11 (some (.ref 6)) 1 1707 (PySem.W.SharedT.mk (Xqj w.params) 126 ⟨[],[],[],0,[],[],false,#[],[],0,false,false,false,0,[2000,10,10],false,0,true,[],[],0,false⟩ #[] ⟨0,0,0,0⟩ 335 os) (PySem.W.piecesOf sts1 env0 Xgx ⟨21,0,22,8⟩ [PySem.W.topFrame ⟨0,0,0,0⟩])=some (.next,(PySem.W.SharedT.mk (Xta w.params) 418 ⟨[],[],[],0,[],[],false,#[],[],0,false,false,false,0,[2000,10,10],false,0,true,[],[],0,false⟩ #[] ⟨0,0,0,0⟩ 748 os),Xgx,⟨213,0,213,8⟩):=by kernel_rfl
noncomputable def Xsz:Params→PySem.W.BT:=fun P=>(.node (PySem.W.boot_o_0 P) (.node (PySem.W.boot_o_1 P) (.node (XRe P) (.node (PySem.W.boot_o_7 P) (.node ho0 (.node Xzx (.node ho54 (.node ho14 (.node ho0 (.node (XDv P) .nil .nil) .nil) (.node ho0 .nil .nil)) (.node XEu (.node ho1 (.node XOa .nil .nil) .nil) (.node ho0 .nil .nil))) (.node ho86 (.node ho0 (.node XEg (.node XMw .nil .nil) .nil) (.node XJa .nil .nil)) (.node ho1 (.node Xxi .nil .nil) (.node XLe .nil .nil)))) (.node ho26 (.node ho14 (.node Xwf (.node XFt (.node XBs .nil .nil) .nil) (.node XGl .nil .nil)) (.node Xwo (.node ho0 (.node ho0 .nil .nil) .nil) (.node ho1 .nil .nil))) (.node Xrl (.node XGt (.node Xzi (.node XOg .nil .nil) .nil) (.node XMb .nil .nil)) (.node Xyv (.node XDu .nil .nil) (.node XHi .nil .nil))))) (.node ho14 (.node ho1 (.node ho62 (.node Xwb (.node ho1 (.node XPx .nil .nil) .nil) (.node ho1 .nil .nil)) (.node Xzg (.node XFz (.node XCb .nil .nil) .nil) (.node ho0 .nil .nil))) (.node ho14 (.node ho1 (.node XBk (.node ho0 .nil .nil) .nil) (.node XEa .nil .nil)) (.node XEf (.node XBu .nil .nil) (.node XQz .nil .nil)))) (.node (ho46 P) (.node ho78 (.node Xvs (.node ho0 (.node XJw .nil .nil) .nil) (.node ho0 .nil .nil)) (.node ho0 (.node XHm (.node ho1 .nil .nil) .nil) (.node XLd .nil .nil))) (.node Xwi (.node ho0 (.node ho0 (.node ho0 .nil .nil) .nil) (.node XCz .nil .nil)) (.node Xyi (.node XIs .nil .nil) (.node XOq .nil .nil)))))) (.node ho0 (.node ho10 (.node ho26 (.node ho1 (.node XIe (.node XDt (.node Xlw .nil .nil) .nil) (.node XFh .nil .nil)) (.node ho1 (.node Xys (.node XLg .nil .nil) .nil) (.node XOy .nil .nil))) (.node ho90 (.node XDz (.node ho14 (.node XHo .nil .nil) .nil) (.node ho1 .nil .nil)) (.node Xyj (.node ho1 .nil .nil) (.node (XGp P) .nil .nil)))) (.node ho1 (.node ho74 (.node XGj (.node Xwa (.node XKy .nil .nil) .nil) (.node XCv .nil .nil)) (.node ho0 (.node ho0 (.node XQp .nil .nil) .nil) (.node XFw .nil .nil))) (.node ho14 (.node Xyl (.node ho0 (.node ho0 .nil .nil) .nil) (.node ho0 .nil .nil)) (.node XGv (.node XId .nil .nil) (.node ho14 .nil .nil))))) (.node ho18 (.node (ho34 P) (.node ho66 (.node ho1 (.node Xvw (.node ho1 .nil .nil) .nil) (.node Xwm .nil .nil)) (.node XDk (.node Xxg (.node ho0 .nil .nil) .nil) (.node XQg .nil .nil))) (.node ho98 (.node Xzj (.node XFc (.node XJt .nil .nil) .nil) (.node (XGu P) .nil .nil)) (.node Xzt (.node XEp .nil .nil) (.node XHe .nil .nil)))) (.node ho26 (.node ho14 (.node ho0 (.node ho0 (.node XGg .nil .nil) .nil) (.node ho0 .nil .nil)) (.node XBq (.node ho1 (.node XGw .nil .nil) .nil) (.node XIw .nil .nil))) (.node Xqd (.node ho0 (.node XGz (.node XCy .nil .nil) .nil) (.node ho0 .nil .nil)) (.node ho0 (.node ho0 .nil .nil) (.node XPh .nil .nil))))))) (.node (PySem.W.boot_o_5 P) (.node (PySem.W.boot_o_9 P) (.node ho8 (.node ho24 (.node ho56 (.node ho0 (.node XIv (.node XQq .nil .nil) .nil) (.node XJf .nil .nil)) (.node Xux (.node ho0 (.node ho0 .nil .nil) .nil) (.node XKg .nil .nil))) (.node ho0 (.node XFo (.node Xuv (.node XNx .nil .nil) .nil) (.node Xxc .nil .nil)) (.node ho0 (.node XCc .nil .nil) (.node Xlw .nil .nil)))) (.node (ho40 P) (.node ho0 (.node ho0 (.node XFr (.node ho0 .nil .nil) .nil) (.node XHl .nil .nil)) (.node ho1 (.node Xzp (.node XKx .nil .nil) .nil) (.node ho0 .nil .nil))) (.node Xvo (.node XCr (.node ho1 (.node ho14 .nil .nil) .nil) (.node ho1 .nil .nil)) (.node ho0 (.node ho0 .nil .nil) (.node XQd .nil .nil))))) (.node ho0 (.node ho32 (.node ho64 (.node XIo (.node ho0 (.node XOt .nil .nil) .nil) (.node ho0 .nil .nil)) (.node ho0 (.node XDx (.node ho1 .nil .nil) .nil) (.node XKm .nil .nil))) (.node ho0 (.node ho0 (.node ho0 (.node XEn .nil .nil) .nil) (.node XOl .nil .nil)) (.node XCd (.node ho0 .nil .nil) (.node ho1 .nil .nil)))) (.node ho48 (.node ho80 (.node ho1 (.node Xyk (.node ho1 .nil .nil) .nil) (.node Xwl .nil .nil)) (.node XFj (.node Xww (.node ho0 .nil .nil) .nil) (.node XKz .nil .nil))) (.node ho0 (.node Xvf (.node XCu (.node XKa .nil .nil) .nil) (.node ho1 .nil .nil)) (.node ho1 (.node ho1 .nil .nil) (.node ho0 .nil .nil)))))) (.node ho2 (.node ho12 (.node (ho28 P) (.node ho0 (.node ho0 (.node Xzu (.node (XGe P) .nil .nil) .nil) (.node Xvg .nil .nil)) (.node ho0 (.node ho0 (.node XOi .nil .nil) .nil) (.node XHf .nil .nil))) (.node ho92 (.node Xvx (.node ho0 (.node ho1 .nil .nil) .nil) (.node ho0 .nil .nil)) (.node ho0 (.node ho0 .nil .nil) (.node XQx .nil .nil)))) (.node ho44 (.node ho0 (.node XIr (.node ho1 (.node XJk .nil .nil) .nil) (.node ho1 .nil .nil)) (.node Xvc (.node XEj (.node XFg .nil .nil) .nil) (.node ho0 .nil .nil))) (.node ho0 (.node ho1 (.node Xvt (.node XKo .nil .nil) .nil) (.node XPg .nil .nil)) (.node XBo (.node XEh .nil .nil) (.node ho0 .nil .nil))))) (.node ho0 (.node ho36 (.node ho68 (.node ho0 (.node ho0 (.node ho0 .nil .nil) .nil) (.node XBp .nil .nil)) (.node XIk (.node ho1 (.node XHq .nil .nil) .nil) (.node XBw .nil .nil))) (.node ho0 (.node ho0 (.node XFy (.node XEt .nil .nil) .nil) (.node XQi .nil .nil)) (.node ho1 (.node XGm .nil .nil) (.node ho0 .nil .nil)))) (.node (ho52 P) (.node ho0 (.node Xvq (.node XHu (.node ho0 .nil .nil) .nil) (.node XDo .nil .nil)) (.node Xur (.node ho0 .nil .nil) (.node (XGd P) .nil .nil))) (.node Xyd (.node XFq (.node Xyg (.node (XCq P) .nil .nil) .nil) (.node XBi .nil .nil)) (.node Xzn (.node XGq .nil .nil) (.node XGh .nil .nil)))))))) (.node (PySem.W.boot_o_2 P) (.node (PySem.W.boot_o_4 P) (.node (PySem.W.boot_o_8 P) (.node ho1 (.node ho23 (.node ho55 (.node (Xyp P) (.node ho1 (.node XCk .nil .nil) .nil) (.node ho1 .nil .nil)) (.node Xvr (.node XDs (.node XLo .nil .nil) .nil) (.node ho1 .nil .nil))) (.node ho87 (.node ho1 (.node Xyn (.node ho0 .nil .nil) .nil) (.node Xut .nil .nil)) (.node XFu (.node Xxd .nil .nil) (.node XNg .nil .nil)))) (.node ho14 (.node (ho71 P) (.node Xwr (.node ho0 (.node XDb .nil .nil) .nil) (.node XFi .nil .nil)) (.node ho0 (.node XCm (.node ho1 .nil .nil) .nil) (.node XNt .nil .nil))) (.node Xwg (.node ho0 (.node ho0 (.node Xlw .nil .nil) .nil) (.node ho0 .nil .nil)) (.node Xxs (.node XEi .nil .nil) (.node XQl .nil .nil))))) (.node (ho15 P) (.node ho31 (.node ho63 (.node XDm (.node XGr (.node XKh .nil .nil) .nil) (.node XEo .nil .nil)) (.node Xxp (.node ho0 (.node ho0 .nil .nil) .nil) (.node ho1 .nil .nil))) (.node (ho95 P) (.node XHj (.node XBy (.node XKi .nil .nil) .nil) (.node XEv .nil .nil)) (.node ho0 (.node XFn .nil .nil) (.node ho0 .nil .nil)))) (.node ho47 (.node ho79 (.node ho0 (.node XIa (.node ho0 .nil .nil) .nil) (.node XEm .nil .nil)) (.node ho1 (.node Xvz (.node XQu .nil .nil) .nil) (.node ho0 .nil .nil))) (.node Xxn (.node XGb (.node ho1 (.node ho1 .nil .nil) .nil) (.node ho0 .nil .nil)) (.node ho0 (.node ho0 .nil .nil) (.node XNi .nil .nil)))))) (.node XRi (.node ho11 (.node ho14 (.node ho59 (.node XHs (.node Xyo (.node ho14 .nil .nil) .nil) (.node Xxm .nil .nil)) (.node XCo (.node Xwd (.node ho0 .nil .nil) .nil) (.node XHr .nil .nil))) (.node ho91 (.node Xxq (.node (Xva P) (.node ho0 .nil .nil) .nil) (.node XQk .nil .nil)) (.node Xzz (.node XEk .nil .nil) (.node ho0 .nil .nil)))) (.node ho43 (.node ho75 (.node ho0 (.node ho0 (.node ho0 .nil .nil) .nil) (.node ho0 .nil .nil)) (.node XGf (.node ho1 (.node XFe .nil .nil) .nil) (.node XIx .nil .nil))) (.node (Xql P) (.node ho0 (.node XEw (.node XMe .nil .nil) .nil) (.node XKb .nil .nil)) (.node ho0 (.node ho0 .nil .nil) (.node (XEx P) .nil .nil))))) (.node ho19 (.node ho35 (.node ho67 (.node XFl (.node Xxt (.node XKe .nil .nil) .nil) (.node Xyb .nil .nil)) (.node ho0 (.node ho0 (.node XJm .nil .nil) .nil) (.node XJc .nil .nil))) (.node ho99 (.node Xze (.node ho0 (.node (XIu P) .nil .nil) .nil) (.node ho0 .nil .nil)) (.node ho0 (.node ho0 .nil .nil) (.node XIh .nil .nil)))) (.node ho14 (.node (ho83 P) (.node XIi (.node ho1 (.node XHt .nil .nil) .nil) (.node ho1 .nil .nil)) (.node Xyz (.node XHk (.node XDh .nil .nil) .nil) (.node XKn .nil .nil))) (.node Xyh (.node ho1 (.node Xxv (.node ho0 .nil .nil) .nil) (.node XKq .nil .nil)) (.node XHy (.node XFm .nil .nil) (.node XCp .nil .nil))))))) (.node (PySem.W.boot_o_6 P) (.node (PySem.W.boot_o_10 P) (.node ho0 (.node ho25 (.node ho0 (.node ho1 (.node ho0 (.node XOv .nil .nil) .nil) (.node ho0 .nil .nil)) (.node ho0 (.node XDw (.node ho1 .nil .nil) .nil) (.node ho0 .nil .nil))) (.node (ho89 P) (.node ho0 (.node ho0 (.node XDg .nil .nil) .nil) (.node ho0 .nil .nil)) (.node XBv (.node ho0 .nil .nil) (.node ho14 .nil .nil)))) (.node ho0 (.node ho1 (.node ho1 (.node Xzy (.node ho1 .nil .nil) .nil) (.node XEd .nil .nil)) (.node XFv (.node Xxu (.node ho0 .nil .nil) .nil) (.node XKk .nil .nil))) (.node ho26 (.node Xym (.node XDj (.node (XIm P) .nil .nil) .nil) (.node XLu .nil .nil)) (.node ho1 (.node ho1 .nil .nil) (.node Xlw .nil .nil))))) (.node ho1 (.node ho0 (.node (ho65 P) (.node ho0 (.node XIl (.node ho0 .nil .nil) .nil) (.node XEb .nil .nil)) (.node ho1 (.node Xyy (.node XLr .nil .nil) .nil) (.node ho0 .nil .nil))) (.node ho1 (.node XIp (.node ho1 (.node XBl .nil .nil) .nil) (.node ho14 .nil .nil)) (.node Xyf (.node ho1 .nil .nil) (.node XLj .nil .nil)))) (.node ho49 (.node ho26 (.node XBz (.node Xuu (.node XQm .nil .nil) .nil) (.node Xvj .nil .nil)) (.node ho0 (.node ho0 (.node XKc .nil .nil) .nil) (.node XCe .nil .nil))) (.node (Xqk P) (.node Xxr (.node ho0 (.node XDc .nil .nil) .nil) (.node XJs .nil .nil)) (.node XEc (.node XFx .nil .nil) (.node ho1 .nil .nil)))))) (.node ho3 (.node ho13 (.node ho0 (.node ho61 (.node (Xxh P) (.node ho0 (.node ho0 .nil .nil) .nil) (.node ho0 .nil .nil)) (.node XHw (.node ho1 (.node XEy .nil .nil) .nil) (.node XEl .nil .nil))) (.node ho26 (.node ho0 (.node XHd (.node XNd .nil .nil) .nil) (.node XOu .nil .nil)) (.node ho1 (.node XBn .nil .nil) (.node XOc .nil .nil)))) (.node ho0 (.node (ho77 P) (.node Xve (.node XCx (.node XJv .nil .nil) .nil) (.node XIj .nil .nil)) (.node Xvy (.node ho0 (.node ho0 .nil .nil) .nil) (.node ho1 .nil .nil))) (.node ho1 (.node XDa (.node Xye (.node XMg .nil .nil) .nil) (.node XOz .nil .nil)) (.node Xwu (.node XCa .nil .nil) (.node XMo .nil .nil))))) (.node (ho21 P) (.node ho37 (.node ho26 (.node XGy (.node ho1 (.node XOn .nil .nil) .nil) (.node (Xvi P) .nil .nil)) (.node Xwx (.node XHn (.node XIz .nil .nil) .nil) (.node ho0 .nil .nil))) (.node (Xug P) (.node ho1 (.node Xwt (.node XOh .nil .nil) .nil) (.node XNu .nil .nil)) (.node XCt (.node XDq .nil .nil) (.node (XIc P) .nil .nil)))) (.node ho0 (.node ho1 (.node Xxj (.node ho0 (.node ho1 .nil .nil) .nil) (.node ho0 .nil .nil)) (.node ho0 (.node XEr .nil .nil) (.node XFf .nil .nil))) (.node ho26 (.node ho0 (.node ho0 (.node XHc .nil .nil) .nil) (.node XFd .nil .nil)) (.node Xxf (.node XIg .nil .nil) (.node ho0 .nil .nil)))))))))
theorem grp2 (w:World)(os:OsState):PySem.W.segRunT treeTable PySem.Challenge.pw_stow_k22_whole_stretches w 11 (some (.ref 6)) 1 1727 (PySem.W.SharedT.mk (Xta w.params) 418 ⟨[],[],[],0,[],[],false,#[],[],0,false,false,false,0,[2000,10,10],false,0,true,[],[],0,false⟩ #[] ⟨0,0,0,0⟩ 748 os) (PySem.W.piecesOf sts2 env0 Xgx ⟨213,0,213,8⟩ [PySem.W.topFrame ⟨0,0,0,0⟩])=some (.next,(PySem.W.SharedT.mk (Xsz w.params) 605 ⟨[],[],[],0,[],[],false,#[],[],0,false,false,false,0,[2000,10,10],false,0,true,[],[],0,false⟩ #[] ⟨0,0,0,0⟩ 991 os),Xgx,⟨304,0,320,22⟩):=by kernel_rfl
noncomputable def Xhj:Params→PySem.W.BT:=fun P=>(.node (PySem.W.boot_o_0 P) (.node (PySem.W.boot_o_1 P) (.node (XLc P) (.node (PySem.W.boot_o_7 P) (.node ho0 (.node Xzx (.node ho54 (.node ho14 (.node ho0 (.node (XDv P) .nil .nil) .nil) (.node ho0 (.node ho1 .nil .nil) .nil)) (.node XEu (.node ho1 (.node XOa .nil .nil) .nil) (.node ho0 .nil .nil))) (.node ho86 (.node ho0 (.node XEg (.node XMw .nil .nil) .nil) (.node XJa .nil .nil)) (.node ho1 (.node Xxi (.node XSn .nil .nil) .nil) (.node XLe .nil .nil)))) (.node ho26 (.node ho14 (.node Xwf (.node XFt (.node XBs .nil .nil) .nil) (.node XGl .nil .nil)) (.node Xwo (.node ho0 (.node ho0 .nil .nil) .nil) (.node ho1 .nil .nil))) (.node Xrl (.node XGt (.node Xzi (.node XOg .nil .nil) .nil) (.node XMb .nil .nil)) (.node Xyv (.node XDu (.node XRb .nil .nil) .nil) (.node XHi .nil .nil))))) (.node ho14 (.node ho1 (.node ho62 (.node Xwb (.node ho1 (.node XPx .nil .nil) .nil) (.node ho1 .nil .nil)) (.node Xzg (.node XFz (.node XCb .nil .nil) .nil) (.node ho0 .nil .nil))) (.node ho14 (.node ho1 (.node XBk (.node ho0 .nil .nil) .nil) (.node XEa .nil .nil)) (.node XEf (.node XBu (.node ho0 .nil .nil) .nil) (.node XQz .nil .nil)))) (.node (ho46 P) (.node ho78 (.node Xvs (.node ho0 (.node XJw .nil .nil) .nil) (.node ho0 .nil .nil)) (.node ho0 (.node XHm (.node ho1 .nil .nil) .nil) (.node XLd .nil .nil))) (.node Xwi (.node ho0 (.node ho0 (.node ho0 .nil .nil) .nil) (.node XCz .nil .nil)) (.node Xyi (.node XIs (.node ho0 .nil .nil) .nil) (.node XOq .nil .nil)))))) (.node ho0 (.node ho10 (.node ho26 (.node ho1 (.node XIe (.node XDt (.node Xlw .nil .nil) .nil) (.node XFh (.node XOf .nil .nil) .nil)) (.node ho1 (.node Xys (.node XLg .nil .nil) .nil) (.node XOy .nil .nil))) (.node ho90 (.node XDz (.node ho14 (.node XHo .nil .nil) .nil) (.node ho1 .nil .nil)) (.node Xyj (.node ho1 (.node XPe .nil .nil) .nil) (.node (XGp P) .nil .nil)))) (.node ho1 (.node ho74 (.node XGj (.node Xwa (.node XKy .nil .nil) .nil) (.node XCv .nil .nil)) (.node ho0 (.node ho0 (.node XQp .nil .nil) .nil) (.node XFw .nil .nil))) (.node ho14 (.node Xyl (.node ho0 (.node ho0 .nil .nil) .nil) (.node ho0 .nil .nil)) (.node XGv (.node XId (.node ho1 .nil .nil) .nil) (.node ho14 .nil .nil))))) (.node ho18 (.node (ho34 P) (.node ho66 (.node ho1 (.node Xvw (.node ho1 .nil .nil) .nil) (.node Xwm .nil .nil)) (.node XDk (.node Xxg (.node ho0 .nil .nil) .nil) (.node XQg .nil .nil))) (.node ho98 (.node Xzj (.node XFc (.node XJt .nil .nil) .nil) (.node (XGu P) .nil .nil)) (.node Xzt (.node XEp (.node ho0 .nil .nil) .nil) (.node XHe .nil .nil)))) (.node ho26 (.node ho14 (.node ho0 (.node ho0 (.node XGg .nil .nil) .nil) (.node ho0 .nil .nil)) (.node XBq (.node ho1 (.node XGw .nil .nil) .nil) (.node XIw .nil .nil))) (.node Xqd (.node ho0 (.node XGz (.node XCy .nil .nil) .nil) (.node ho0 .nil .nil)) (.node ho0 (.node ho0 (.node XTd .nil .nil) .nil) (.node XPh .nil .nil))))))) (.node (PySem.W.boot_o_5 P) (.node (PySem.W.boot_o_9 P) (.node ho8 (.node ho24 (.node ho56 (.node ho0 (.node XIv (.node XQq .nil .nil) .nil) (.node XJf (.node ho0 .nil .nil) .nil)) (.node Xux (.node ho0 (.node ho0 .nil .nil) .nil) (.node XKg .nil .nil))) (.node ho0 (.node XFo (.node Xuv (.node XNx .nil .nil) .nil) (.node Xxc .nil .nil)) (.node ho0 (.node XCc (.node XSw .nil .nil) .nil) (.node Xlw .nil .nil)))) (.node (ho40 P) (.node ho0 (.node ho0 (.node XFr (.node ho0 .nil .nil) .nil) (.node XHl .nil .nil)) (.node ho1 (.node Xzp (.node XKx .nil .nil) .nil) (.node ho0 .nil .nil))) (.node Xvo (.node XCr (.node ho1 (.node ho14 .nil .nil) .nil) (.node ho1 .nil .nil)) (.node ho0 (.node ho0 (.node XLq .nil .nil) .nil) (.node XQd .nil .nil))))) (.node ho0 (.node ho32 (.node ho64 (.node XIo (.node ho0 (.node XOt .nil .nil) .nil) (.node ho0 .nil .nil)) (.node ho0 (.node XDx (.node ho1 .nil .nil) .nil) (.node XKm .nil .nil))) (.node ho0 (.node ho0 (.node ho0 (.node XEn .nil .nil) .nil) (.node XOl .nil .nil)) (.node XCd (.node ho0 (.node XMd .nil .nil) .nil) (.node ho1 .nil .nil)))) (.node ho48 (.node ho80 (.node ho1 (.node Xyk (.node ho1 .nil .nil) .nil) (.node Xwl .nil .nil)) (.node XFj (.node Xww (.node ho0 .nil .nil) .nil) (.node XKz .nil .nil))) (.node ho0 (.node Xvf (.node XCu (.node XKa .nil .nil) .nil) (.node ho1 .nil .nil)) (.node ho1 (.node ho1 (.node XSv .nil .nil) .nil) (.node ho0 .nil .nil)))))) (.node ho2 (.node ho12 (.node (ho28 P) (.node ho0 (.node ho0 (.node Xzu (.node (XGe P) .nil .nil) .nil) (.node Xvg .nil .nil)) (.node ho0 (.node ho0 (.node XOi .nil .nil) .nil) (.node XHf .nil .nil))) (.node ho92 (.node Xvx (.node ho0 (.node ho1 .nil .nil) .nil) (.node ho0 .nil .nil)) (.node ho0 (.node ho0 (.node ho1 .nil .nil) .nil) (.node XQx .nil .nil)))) (.node ho44 (.node ho0 (.node XIr (.node ho1 (.node XJk .nil .nil) .nil) (.node ho1 .nil .nil)) (.node Xvc (.node XEj (.node XFg .nil .nil) .nil) (.node ho0 .nil .nil))) (.node ho0 (.node ho1 (.node Xvt (.node XKo .nil .nil) .nil) (.node XPg .nil .nil)) (.node XBo (.node XEh (.node XKt .nil .nil) .nil) (.node ho0 .nil .nil))))) (.node ho0 (.node ho36 (.node ho68 (.node ho0 (.node ho0 (.node ho0 .nil .nil) .nil) (.node XBp .nil .nil)) (.node XIk (.node ho1 (.node XHq .nil .nil) .nil) (.node XBw .nil .nil))) (.node ho0 (.node ho0 (.node XFy (.node XEt .nil .nil) .nil) (.node XQi .nil .nil)) (.node ho1 (.node XGm (.node XTt .nil .nil) .nil) (.node ho0 .nil .nil)))) (.node (ho52 P) (.node ho0 (.node Xvq (.node XHu (.node ho0 .nil .nil) .nil) (.node XDo .nil .nil)) (.node Xur (.node ho0 (.node ho0 .nil .nil) .nil) (.node (XGd P) .nil .nil))) (.node Xyd (.node XFq (.node Xyg (.node (XCq P) .nil .nil) .nil) (.node XBi .nil .nil)) (.node Xzn (.node XGq (.node XKj .nil .nil) .nil) (.node XGh .nil .nil)))))))) (.node (PySem.W.boot_o_2 P) (.node (PySem.W.boot_o_4 P) (.node (PySem.W.boot_o_8 P) (.node ho1 (.node ho23 (.node ho55 (.node (Xyp P) (.node ho1 (.node XCk .nil .nil) .nil) (.node ho1 (.node XTs .nil .nil) .nil)) (.node Xvr (.node XDs (.node XLo .nil .nil) .nil) (.node ho1 .nil .nil))) (.node ho87 (.node ho1 (.node Xyn (.node ho0 .nil .nil) .nil) (.node Xut .nil .nil)) (.node XFu (.node Xxd (.node ho0 .nil .nil) .nil) (.node XNg .nil .nil)))) (.node ho14 (.node (ho71 P) (.node Xwr (.node ho0 (.node XDb .nil .nil) .nil) (.node XFi .nil .nil)) (.node ho0 (.node XCm (.node ho1 .nil .nil) .nil) (.node XNt .nil .nil))) (.node Xwg (.node ho0 (.node ho0 (.node Xlw .nil .nil) .nil) (.node ho0 .nil .nil)) (.node Xxs (.node XEi (.node XJz .nil .nil) .nil) (.node XQl .nil .nil))))) (.node (ho15 P) (.node ho31 (.node ho63 (.node XDm (.node XGr (.node XKh .nil .nil) .nil) (.node XEo .nil .nil)) (.node Xxp (.node ho0 (.node ho0 .nil .nil) .nil) (.node ho1 .nil .nil))) (.node (ho95 P) (.node XHj (.node XBy (.node XKi .nil .nil) .nil) (.node XEv .nil .nil)) (.node ho0 (.node XFn (.node XSr .nil .nil) .nil) (.node ho0 .nil .nil)))) (.node ho47 (.node ho79 (.node ho0 (.node XIa (.node ho0 .nil .nil) .nil) (.node XEm .nil .nil)) (.node ho1 (.node Xvz (.node XQu .nil .nil) .nil) (.node ho0 .nil .nil))) (.node Xxn (.node XGb (.node ho1 (.node ho1 .nil .nil) .nil) (.node ho0 .nil .nil)) (.node ho0 (.node ho0 (.node ho1 .nil .nil) .nil) (.node XNi .nil .nil)))))) (.node XSk (.node ho11 (.node ho14 (.node ho59 (.node XHs (.node Xyo (.node ho14 .nil .nil) .nil) (.node Xxm (.node XLt .nil .nil) .nil)) (.node XCo (.node Xwd (.node ho0 .nil .nil) .nil) (.node XHr .nil .nil))) (.node ho91 (.node Xxq (.node (Xva P) (.node ho0 .nil .nil) .nil) (.node XQk .nil .nil)) (.node Xzz (.node XEk (.node ho0 .nil .nil) .nil) (.node ho0 .nil .nil)))) (.node ho43 (.node ho75 (.node ho0 (.node ho0 (.node ho0 .nil .nil) .nil) (.node ho0 .nil .nil)) (.node XGf (.node ho1 (.node XFe .nil .nil) .nil) (.node XIx .nil .nil))) (.node (Xql P) (.node ho0 (.node XEw (.node XMe .nil .nil) .nil) (.node XKb .nil .nil)) (.node ho0 (.node ho0 (.node XSq .nil .nil) .nil) (.node (XEx P) .nil .nil))))) (.node ho19 (.node ho35 (.node ho67 (.node XFl (.node Xxt (.node XKe .nil .nil) .nil) (.node Xyb .nil .nil)) (.node ho0 (.node ho0 (.node XJm .nil .nil) .nil) (.node XJc .nil .nil))) (.node ho99 (.node Xze (.node ho0 (.node (XIu P) .nil .nil) .nil) (.node ho0 .nil .nil)) (.node ho0 (.node ho0 (.node ho1 .nil .nil) .nil) (.node XIh .nil .nil)))) (.node ho14 (.node (ho83 P) (.node XIi (.node ho1 (.node XHt .nil .nil) .nil) (.node ho1 .nil .nil)) (.node Xyz (.node XHk (.node XDh .nil .nil) .nil) (.node XKn .nil .nil))) (.node Xyh (.node ho1 (.node Xxv (.node ho0 .nil .nil) .nil) (.node XKq .nil .nil)) (.node XHy (.node XFm (.node XKl .nil .nil) .nil) (.node XCp .nil .nil))))))) (.node (PySem.W.boot_o_6 P) (.node (PySem.W.boot_o_10 P) (.node ho0 (.node ho25 (.node ho0 (.node ho1 (.node ho0 (.node XOv .nil .nil) .nil) (.node ho0 (.node ho641 .nil .nil) .nil)) (.node ho0 (.node XDw (.node ho1 .nil .nil) .nil) (.node ho0 .nil .nil))) (.node (ho89 P) (.node ho0 (.node ho0 (.node XDg .nil .nil) .nil) (.node ho0 .nil .nil)) (.node XBv (.node ho0 (.node XNk .nil .nil) .nil) (.node ho14 .nil .nil)))) (.node ho0 (.node ho1 (.node ho1 (.node Xzy (.node ho1 .nil .nil) .nil) (.node XEd .nil .nil)) (.node XFv (.node Xxu (.node ho0 .nil .nil) .nil) (.node XKk .nil .nil))) (.node ho26 (.node Xym (.node XDj (.node (XIm P) .nil .nil) .nil) (.node XLu .nil .nil)) (.node ho1 (.node ho1 (.node ho0 .nil .nil) .nil) (.node Xlw .nil .nil))))) (.node ho1 (.node ho0 (.node (ho65 P) (.node ho0 (.node XIl (.node ho0 .nil .nil) .nil) (.node XEb .nil .nil)) (.node ho1 (.node Xyy (.node XLr .nil .nil) .nil) (.node ho0 .nil .nil))) (.node ho1 (.node XIp (.node ho1 (.node XBl .nil .nil) .nil) (.node ho14 .nil .nil)) (.node Xyf (.node ho1 (.node XPc .nil .nil) .nil) (.node XLj .nil .nil)))) (.node ho49 (.node ho26 (.node XBz (.node Xuu (.node XQm .nil .nil) .nil) (.node Xvj .nil .nil)) (.node ho0 (.node ho0 (.node XKc .nil .nil) .nil) (.node XCe .nil .nil))) (.node (Xqk P) (.node Xxr (.node ho0 (.node XDc .nil .nil) .nil) (.node XJs .nil .nil)) (.node XEc (.node XFx (.node ho0 .nil .nil) .nil) (.node ho1 .nil .nil)))))) (.node ho3 (.node ho13 (.node ho0 (.node ho61 (.node (Xxh P) (.node ho0 (.node ho0 .nil .nil) .nil) (.node ho0 .nil .nil)) (.node XHw (.node ho1 (.node XEy .nil .nil) .nil) (.node XEl .nil .nil))) (.node ho26 (.node ho0 (.node XHd (.node XNd .nil .nil) .nil) (.node XOu .nil .nil)) (.node ho1 (.node XBn (.node ho613 .nil .nil) .nil) (.node XOc .nil .nil)))) (.node ho0 (.node (ho77 P) (.node Xve (.node XCx (.node XJv .nil .nil) .nil) (.node XIj .nil .nil)) (.node Xvy (.node ho0 (.node ho0 .nil .nil) .nil) (.node ho1 .nil .nil))) (.node ho1 (.node XDa (.node Xye (.node XMg .nil .nil) .nil) (.node XOz .nil .nil)) (.node Xwu (.node XCa (.node XPr .nil .nil) .nil) (.node XMo .nil .nil))))) (.node (ho21 P) (.node ho37 (.node ho26 (.node XGy (.node ho1 (.node XOn .nil .nil) .nil) (.node (Xvi P) .nil .nil)) (.node Xwx (.node XHn (.node XIz .nil .nil) .nil) (.node ho0 .nil .nil))) (.node (Xug P) (.node ho1 (.node Xwt (.node XOh .nil .nil) .nil) (.node XNu .nil .nil)) (.node XCt (.node XDq (.node ho0 .nil .nil) .nil) (.node (XIc P) .nil .nil)))) (.node ho0 (.node ho1 (.node Xxj (.node ho0 (.node ho1 .nil .nil) .nil) (.node ho0 .nil .nil)) (.node ho0 (.node XEr (.node ho1 .nil .nil) .nil) (.node XFf .nil .nil))) (.node ho26 (.node ho0 (.node ho0 (.node XHc .nil .nil) .nil) (.node XFd .nil .nil)) (.node Xxf (.node XIg (.node ho0 .nil .nil) .nil) (.node ho0 .nil .nil)))))))))
theorem grp3 (w:World)(os:OsState):PySem.W.segRunT treeTable PySem.Challenge.pw_stow_k22_whole_stretches w 11 (some (.ref 6)) 1 210 (PySem.W.SharedT.mk (Xsz w.params) 605 ⟨[],[],[],0,[],[],false,#[],[],0,false,false,false,0,[2000,10,10],false,0,true,[],[],0,false⟩ #[] ⟨0,0,0,0⟩ 991 os) (PySem.W.piecesOf sts3 env0 Xgx ⟨304,0,320,22⟩ [PySem.W.topFrame ⟨0,0,0,0⟩])=some (.next,(PySem.W.SharedT.mk (Xhj w.params) 645 ⟨[],[],[],0,[],[],false,#[],[],0,false,false,false,0,[2000,10,10],false,0,true,[],[],0,false⟩ #[] ⟨0,0,0,0⟩ 1070 os),Xgx,⟨392,0,418,54⟩):=by kernel_rfl
theorem fin0 (w:World)(os:OsState):PySem.W.topRun treeTable PySem.Challenge.pw_stow_k22_whole_stretches w 11 (some (.ref 6)) 2 ⟨PySem.W.absHeap (Xhj w.params) 645 ⟨[],[],[],0,[],[],false,#[],[],0,false,false,false,0,[2000,10,10],false,0,true,[],[],0,false⟩,#[],⟨0,0,0,0⟩,1070,os⟩ (PySem.W.restOf [] env0 Xgx ⟨392,0,418,54⟩ [PySem.W.topFrame ⟨0,0,0,0⟩])=some ⟨PySem.W.absHeap (Xhj w.params) 645 ⟨[],[],[],0,[],[],false,#[],[],0,false,false,false,0,[2000,10,10],false,0,true,[],[],0,false⟩,#[],⟨0,0,0,0⟩,1070,os⟩:=by kernel_rfl
theorem run0 (w:World)(os:OsState):PySem.W.topRun treeTable PySem.Challenge.pw_stow_k22_whole_stretches w 11 (some (.ref 6)) (12+(1+(1748+(1707+(1727+(210+2)))))) ⟨PySem.W.boot_heap w.params,Array.mk [],PySem.W.boot_drawn,PySem.W.boot_toks,os⟩ (PySem.W.topStub PySem.Challenge.pw_stow_k22_whole_stretches)=some ⟨PySem.W.absHeap (Xhj w.params) 645 ⟨[],[],[],0,[],[],false,#[],[],0,false,false,false,0,[2000,10,10],false,0,true,[],[],0,false⟩,#[],⟨0,0,0,0⟩,1070,os⟩:=PySem.W.go_top (pre0 w os) (PySem.W.piece_block (blk0 w os) (PySem.W.piece_app (PySem.W.segRun_of (grp0 w os)) (PySem.W.piece_app (PySem.W.segRun_of (grp1 w os)) (PySem.W.piece_app (PySem.W.segRun_of (grp2 w os)) (PySem.W.piece_app (PySem.W.segRun_of (grp3 w os)) (fin0 w os))))))
theorem XSy (w:World):(PySem.W.fencedOpening treeTable PySem.Challenge.pw_stow_k22_whole_stretches w 6107).map (fun s=>(s.heap,s.gens,s.drawn,s.toks))=some (PySem.W.boot_heap w.params,Array.mk [],PySem.W.boot_drawn,PySem.W.boot_toks):=PySem.W.boot_open (by kernel_rfl) rfl (fun s=>by kernel_rfl) w
noncomputable def heap0:Params→PySem.W.Frag:=fun P =>
 (nat_lit 2,PySem.W.boot_o_2 P) ::
 (nat_lit 3,XLc P) ::
 (nat_lit 20,ho11) ::
 (nat_lit 21,ho12) ::
 (nat_lit 24,ho15 P) ::
 (nat_lit 30,ho21 P) ::
 (nat_lit 31,Xzx) ::
 (nat_lit 37,ho28 P) ::
 (nat_lit 43,ho34 P) ::
 (nat_lit 44,ho35) ::
 (nat_lit 49,ho40 P) ::
 (nat_lit 55,ho46 P) ::
 (nat_lit 56,ho47) ::
 (nat_lit 61,ho52 P) ::
 (nat_lit 71,ho62) ::
 (nat_lit 72,ho63) ::
 (nat_lit 74,ho65 P) ::
 (nat_lit 75,ho66) ::
 (nat_lit 80,ho71 P) ::
 (nat_lit 86,ho77 P) ::
 (nat_lit 87,ho78) ::
 (nat_lit 92,ho83 P) ::
 (nat_lit 98,ho89 P) ::
 (nat_lit 99,ho90) ::
 (nat_lit 104,ho95 P) ::
 (nat_lit 110,Xug P) ::
 (nat_lit 111,Xrl) ::
 (nat_lit 116,Xql P) ::
 (nat_lit 122,Xqk P) ::
 (nat_lit 123,Xqd) ::
 (nat_lit 128,Xyp P) ::
 (nat_lit 134,Xxh P) ::
 (nat_lit 135,Xwb) ::
 (nat_lit 143,Xwf) ::
 (nat_lit 144,Xwr) ::
 (nat_lit 150,Xve) ::
 (nat_lit 151,Xvs) ::
 (nat_lit 157,Xvq) ::
 (nat_lit 158,Xxj) ::
 (nat_lit 164,Xxq) ::
 (nat_lit 165,Xvx) ::
 (nat_lit 171,Xzj) ::
 (nat_lit 172,Xze) ::
 (nat_lit 178,Xym) ::
 (nat_lit 179,Xyl) ::
 (nat_lit 185,Xvf) ::
 (nat_lit 186,Xxr) ::
 (nat_lit 192,Xvr) ::
 (nat_lit 193,Xux) ::
 (nat_lit 199,Xzg) ::
 (nat_lit 200,Xxp) ::
 (nat_lit 206,Xwx) ::
 (nat_lit 207,Xwo) ::
 (nat_lit 213,Xvc) ::
 (nat_lit 214,Xvy) ::
 (nat_lit 220,Xyz) ::
 (nat_lit 221,Xur) ::
 (nat_lit 227,Xyj) ::
 (nat_lit 228,Xzz) ::
 (nat_lit 234,Xyf) ::
 (nat_lit 235,Xzt) ::
 (nat_lit 239,Xyv) ::
 (nat_lit 240,Xxs) ::
 (nat_lit 246,Xwu) ::
 (nat_lit 247,Xyi) ::
 (nat_lit 253,Xzn) ::
 (nat_lit 254,Xxf) ::
 (nat_lit 260,Xyo) ::
 (nat_lit 261,Xzu) ::
 (nat_lit 267,Xvw) ::
 (nat_lit 268,Xxt) ::
 (nat_lit 274,Xzy) ::
 (nat_lit 275,Xwa) ::
 (nat_lit 281,Xyk) ::
 (nat_lit 282,Xuu) ::
 (nat_lit 288,Xyn) ::
 (nat_lit 289,Xuv) ::
 (nat_lit 292,Xva P) ::
 (nat_lit 302,Xwt) ::
 (nat_lit 303,Xzi) ::
 (nat_lit 309,Xvt) ::
 (nat_lit 310,Xye) ::
 (nat_lit 316,Xxv) ::
 (nat_lit 317,Xyg) ::
 (nat_lit 323,Xys) ::
 (nat_lit 324,Xwd) ::
 (nat_lit 330,Xyy) ::
 (nat_lit 331,Xxg) ::
 (nat_lit 337,Xzp) ::
 (nat_lit 338,Xxu) ::
 (nat_lit 344,Xvz) ::
 (nat_lit 345,Xww) ::
 (nat_lit 351,Xxi) ::
 (nat_lit 352,Xxd) ::
 (nat_lit 388,Xxm) ::
 (nat_lit 389,Xvg) ::
 (nat_lit 395,Xwm) ::
 (nat_lit 396,Xyb) ::
 (nat_lit 398,Xvi P) ::
 (nat_lit 399,XGl) ::
 (nat_lit 409,Xwl) ::
 (nat_lit 410,Xvj) ::
 (nat_lit 416,Xut) ::
 (nat_lit 417,Xxc) ::
 (nat_lit 423,XEa) ::
 (nat_lit 424,XEv) ::
 (nat_lit 427,XGu P) ::
 (nat_lit 439,XCz) ::
 (nat_lit 445,XBi) ::
 (nat_lit 446,XFd) ::
 (nat_lit 452,XHr) ::
 (nat_lit 453,XHf) ::
 (nat_lit 454,XEl) ::
 (nat_lit 460,XJc) ::
 (nat_lit 461,XBw) ::
 (nat_lit 467,XFw) ::
 (nat_lit 468,XIx) ::
 (nat_lit 474,XCe) ::
 (nat_lit 475,XIw) ::
 (nat_lit 477,XGd P) ::
 (nat_lit 478,XFf) ::
 (nat_lit 483,XGp P) ::
 (nat_lit 491,XHe) ::
 (nat_lit 492,XIh) ::
 (nat_lit 494,XIc P) ::
 (nat_lit 495,XHi) ::
 (nat_lit 500,XEx P) ::
 (nat_lit 508,XCp) ::
 (nat_lit 509,XGh) ::
 (nat_lit 511,XDv P) ::
 (nat_lit 512,XCk) ::
 (nat_lit 517,XGe P) ::
 (nat_lit 527,XBs) ::
 (nat_lit 528,XDb) ::
 (nat_lit 539,XGg) ::
 (nat_lit 540,XHt) ::
 (nat_lit 546,XDg) ::
 (nat_lit 547,XHo) ::
 (nat_lit 553,XEn) ::
 (nat_lit 554,XBl) ::
 (nat_lit 556,XIu P) ::
 (nat_lit 557,XEt) ::
 (nat_lit 562,XIm P) ::
 (nat_lit 570,XDc) ::
 (nat_lit 571,XCy) ::
 (nat_lit 573,XCq P) ::
 (nat_lit 574,XHc) ::
 (nat_lit 582,XEy) ::
 (nat_lit 583,XCb) ::
 (nat_lit 589,XHq) ::
 (nat_lit 590,XIz) ::
 (nat_lit 596,XFe) ::
 (nat_lit 597,XFg) ::
 (nat_lit 603,XGw) ::
 (nat_lit 604,XDh) ::
 (nat_lit 610,XNk) ::
 (nat_lit 611,XPe) ::
 (nat_lit 617,XMd) ::
 (nat_lit 618,XPc) ::
 (nat_lit 624,XJz) ::
 (nat_lit 625,XLq) ::
 (nat_lit 629,XKt) ::
 (nat_lit 630,XPr) ::
 (nat_lit 636,XKl) ::
 (nat_lit 637,XKj) ::
 (nat_lit 643,XOf) ::
 (nat_lit 644,XLt) ::
 []
def at0:List Addr:=2::3::20::21::24::30::31::37::43::44::49::55::56::61::71::72::74::75::80::86::87::92::98::99::104::110::111::116::122::123::128::134::135::143::144::150::151::157::158::164::165::171::172::178::179::185::186::192::193::199::200::206::207::213::214::220::221::227::228::234::235::239::240::246::247::253::254::260::261::267::268::274::275::281::282::288::289::292::302::303::309::310::316::317::323::324::330::331::337::338::344::345::351::352::388::389::395::396::398::399::409::410::416::417::423::424::427::439::445::446::452::453::454::460::461::467::468::474::475::477::478::483::491::492::494::495::500::508::509::511::512::517::527::528::539::540::546::547::553::554::556::557::562::570::571::573::574::582::583::589::590::596::597::603::604::610::611::617::618::624::625::629::630::636::637::643::644::[]
def XPv:List Str:="_wall"::"StowError"::"NoName"::"NoSize"::"Broken"::"NoPiece"::"NoCell"::"NoAsk"::"NoBound"::"NoRoom"::"MARKS"::"check_ask"::"check_plain_ask"::"mark_of"::"long_of"::"live_of"::"LEAST_LIVE"::"can_begin"::"bad_of_piece"::"looked"::"fresh_room"::"laid"::"laid_free"::"piece_at"::"live_at"::"free_at"::"begin_around"::"free_begin"::"free_end"::"cut_out"::"freed"::"joined_pieces"::"joined"::"carried"::"Keeper"::"first_place"::"spots_for"::"least_place"::"Stretches"::"First"::"Best"::"Next"::"Likes"::"stretches_of"::"_law_cell_at"::"_law_whole"::"_law_walk"::"_law_told"::"_law_narrow"::"_law_new"::"_law_right"::"_law_step"::[]
theorem at0_eq (P:Params):at0=(heap0 P).map (·.1):=by kernel_rfl
abbrev XTf (s:Shared):Bool:=PySem.W.recOk (PySem.W.RowW.records (PySem.W.OpenRow.toRowW (PySem.Challenge.rw_stow_k22_whole_stretches).row)) s
theorem left0:PySem.W.LeftO PySem.Challenge.pw_stow_k22_whole_stretches (PySem.W.view PySem.Challenge.pw_stow_k22_whole_stretches [61]) XPv XTf (fun s=>at0.map s.heap.get?) (fun w=>(heap0 w.params).map fun p=>some p.2) 6107 :=
 PySem.W.LeftO.of_pieces (H₁:=fun P=>PySem.W.absHeap (Xhj P) 645 ⟨[],[],[],0,[],[],false,#[],[],0,false,false,false,0,[2000,10,10],false,0,true,[],[],0,false⟩) (gs₁:=#[]) (d₁:=⟨0,0,0,0⟩) (k₁:=1070) (m₀:=11) (ann:=(some (.ref 6))) XSy (fun w=>by kernel_rfl) run0 rfl (fun w=>funext fun os=>by kernel_rfl)
end Stow
set_option Elab.async false
set_option linter.all false
set_option maxRecDepth 100000
namespace L2
open PySem PySem.Spec PyProof.Rows
abbrev Key:=Sum Int Str
def Xmy:Key→Value→Bool
 | .inl k,v=>Value.isInt k v
 | .inr x,v=>Value.isStrOf x v
def keyH (w:World):Key→Int
 | .inl k=>hashInt k
 | .inr x=>hashStr w x
theorem Xbt:∀{k:Key} {v:Value},Xmy k v=true→(∃i t,k=Sum.inl i∧v=Value.int i t)∨(∃x t,k=Sum.inr x∧v=Value.str x t)
 | .inl i,v,h=>by
   obtain⟨t,e⟩:=Value.isInt_shape (k:=i) (v:=v) h
   exact .inl ⟨i,t,rfl,e⟩
 | .inr x,v,h=>by
   obtain⟨t,e⟩:=Value.isStrOf_shape (x:=x) (v:=v) h
   exact .inr ⟨x,t,rfl,e⟩
theorem Xsh (i:Int)(t:Tok):Xmy (.inl i) (.int i t)=true:=by simp [Xmy,Value.isInt]
theorem Xup (x:Str)(t:Tok):Xmy (.inr x) (.str x t)=true:=by simp [Xmy,Value.isStrOf]
theorem XOd (a b:Int):decide ((Sum.inl a:Key)=Sum.inl b)=(a==b):=by
 by_cases e:a=b
 · subst e;simp
 · have h:¬(Sum.inl a:Key)=Sum.inl b:=fun q=>e (Sum.inl.inj q)
   rw[decide_eq_false h]
   exact(beq_eq_false_iff_ne.mpr e).symm
theorem XQe (a b:Str):decide ((Sum.inr a:Key)=Sum.inr b)=decide (a=b):=by
 by_cases e:a=b
 · subst e;simp
 · have h:¬(Sum.inr a:Key)=Sum.inr b:=fun q=>e (Sum.inr.inj q)
   rw[decide_eq_false h,decide_eq_false e]
theorem XPs (a:Int)(b:Str):decide ((Sum.inl a:Key)=Sum.inr b)=false:=decide_eq_false (fun q=>nomatch q)
theorem XQj (a:Str)(b:Int):decide ((Sum.inr a:Key)=Sum.inl b)=false:=decide_eq_false (fun q=>nomatch q)
def Xbo (prog:Program)(w:World):PySem.KeyKind prog w Key where
 is:=Xmy
 hash:=keyH w
 inj:=fun v a b ha hb=>by
   rcases Xbt ha with ⟨i,t,rfl,rfl⟩ | ⟨x,t,rfl,rfl⟩
   · rcases Xbt hb with ⟨j,u,rfl,e⟩ | ⟨y,u,rfl,e⟩
     · injection e with e1 _;rw[e1]
     · exact nomatch e
   · rcases Xbt hb with ⟨j,u,rfl,e⟩ | ⟨y,u,rfl,e⟩
     · exact nomatch e
     · injection e with e1 _;rw[e1]
 byValue:=fun k v h=>by
   rcases Xbt h with ⟨i,t,rfl,rfl⟩ | ⟨x,t,rfl,rfl⟩ <;> rfl
 pyHash:=fun hv h=>by
   rcases Xbt hv with ⟨i,t,rfl,rfl⟩ | ⟨x,t,rfl,rfl⟩
   · exact wpAny_pyHash_int h
   · exact wpAny_pyHash_str h
 eqBool:=fun hu hv h=>by
   rcases Xbt hu with ⟨i,t,rfl,rfl⟩ | ⟨x,t,rfl,rfl⟩
   · rcases Xbt hv with ⟨j,u,rfl,rfl⟩ | ⟨y,u,rfl,rfl⟩
     · rw[XOd] at h;exact wpAny_eqBool_int h
     · rw[XPs] at h;exact SeqAt.EqAt.int_str i t y u _ _ _ _ h
   · rcases Xbt hv with ⟨j,u,rfl,rfl⟩ | ⟨y,u,rfl,rfl⟩
     · rw[XQj] at h;exact SeqAt.EqAt.str_int x t j u _ _ _ _ h
     · rw[XQe] at h;exact wpAny_eqBool_str h
 «strs»:=fun k x t v h=>by
   rcases Xbt h with ⟨i,u,rfl,e⟩ | ⟨y,u,rfl,e⟩
   · exact nomatch e
   · injection e with e1 _
     subst e1
     cases v <;> rfl
theorem Xmt (prog:Program)(w:World)(i:Int)(t:Tok):(Xbo prog w).is (.inl i) (.int i t)=true:=Xsh i t
theorem Xmm (prog:Program)(w:World)(x:Str)(t:Tok):(Xbo prog w).is (.inr x) (.str x t)=true:=Xup x t
end L2
namespace L2
open PySem PySem.Spec PyProof.Rows
inductive V where
 | non | bl (b:Bool) | int (i:Int) | str (x:Str) | byt (b:Array UInt8) | flt (b:UInt64) | ref (a:Addr) | ty (n:String)
 deriving DecidableEq
def RelV:V→Value→Prop
 | .non,u=>u=Value.none
 | .bl b,u=>u=Value.bool b
 | .int i,u=>∃t,u=Value.int i t
 | .str x,u=>∃t,u=Value.str x t
 | .byt b,u=>∃t,u=Value.bytes b t
 | .flt b,u=>∃t,u=Value.float b t
 | .ref a,u=>u=Value.ref a
 | .ty n,u=>u=Value.type n
abbrev Vals:List V→List Value→Prop:=Paired RelV
theorem Vals.length {xs:List V}{us:List Value}(r:Vals xs us):xs.length=us.length:=Paired.length r
theorem Vals.get:∀{xs:List V} {us:List Value} {i:Nat} {x:V},Vals xs us→xs[i]?=some x→∃u,us[i]?=some u∧RelV x u
 | _,_,_,_,.nil,e=>by simp at e
 | _,_,0,_,.cons r _,e=>by simp at e;subst e;exact⟨_,rfl,r⟩
 | _,_,i+1,x,.cons _ t,e=>by
   obtain⟨u,h1,h2⟩:=Vals.get (i:=i) (x:=x) t (by simpa using e)
   exact⟨u,by simpa using h1,h2⟩
theorem Vals.set {x:V}{u:Value}(r:RelV x u):∀{xs:List V} {us:List Value} (i:Nat),Vals xs us→Vals (xs.set i x) (us.set i u)
 | _,_,_,.nil=>.nil
 | _,_,0,.cons _ t=>.cons r t
 | _,_,i+1,.cons q t=>.cons q (Vals.set r i t)
theorem Vals.append:∀{xs ys:List V} {us ws:List Value},Vals xs us→Vals ys ws→Vals (xs++ys) (us++ws)
 | _,_,_,_,.nil,s=>s
 | _,_,_,_,.cons r t,s=>.cons r (Vals.append t s)
theorem Vals.take:∀{xs:List V} {us:List Value} (n:Nat),Vals xs us→Vals (xs.take n) (us.take n)
 | _,_,0,_=>.nil
 | _,_,_+1,.nil=>.nil
 | _,_,n+1,.cons r t=>.cons r (Vals.take n t)
theorem Vals.drop:∀{xs:List V} {us:List Value} (n:Nat),Vals xs us→Vals (xs.drop n) (us.drop n)
 | _,_,0,r=>r
 | _,_,_+1,.nil=>.nil
 | _,_,n+1,.cons _ t=>Vals.drop n t
theorem Vals.none_of:∀{xs:List V} {us:List Value} {i:Nat},Vals xs us→xs[i]?=none→us[i]?=none:=fun {xs us i} r e=>by
 have h1:=r.length
 have h2:xs.length≤i:=List.getElem?_eq_none_iff.mp e
 exact List.getElem?_eq_none_iff.mpr (by omega)
def RelO:Option V→Option Value→Prop
 | some v,some u=>RelV v u
 | none,none=>True
 | _,_=>False
def KV {κ:Type}:List (κ×V)→List (κ×Value)→Prop:=Paired fun (p:κ×V) (q:κ×Value)=>p.1=q.1∧RelV p.2 q.2
def kV:Key→V
 | .inl i=>.int i
 | .inr x=>.str x
inductive HO where
 /-- a list -/
 | lst (xs:List V)
 /-- a tuple (never changes) -/
 | tup (xs:List V)
 /-- a dict whose keys are ints and texts;one whose keys are tuples of ints and texts (the empty one is both) -/
 | dK (kvs:List (Key×V)) | dT (kvs:List (List Key×V))
 /-- a set of ints: its members,its size -/
 | set (S:Int→Bool) (n:Nat)
 /-- an instance of the class at C,its dict at dx,its attributes -/
 | ins (C dx:Addr) (fs:List (Str×V))
 /-- the dict of the instance at x -/
 | own (x:Addr)
 /-- the dict of an exception -/
 | xd (fs:List (Str×V))
 /-- a bound method,f of x -/
 | met (f x:Addr)
 /-- a range object lo,lo+1,.. below hi -/
 | rng (lo hi:Int)
 /-- a thing that is known to the object (the script;a dict while a loop walks it): read,never written while it is so -/
 | frz (o:Obj) (u:HO)
 /-- a code object's table -/
 | tbl (ps:Array Value)
 /-- any other thing,by what is true of its one object (a def of one's own: SetO a S n:=HO.ext fun h=>..) -/
 | ext (φ:Heap→Prop)
abbrev Hp:=Addr→Option HO
def upd (H:Hp)(a:Addr)(o:HO):Hp:=fun b=>if b=a then some o else H b
theorem upd_same {H:Hp}{a:Addr}{o:HO}:upd H a o a=some o:=by unfold upd;rw[if_pos rfl]
theorem Xam {H:Hp}{a b:Addr}{o:HO}(h:b≠a):upd H a o b=H b:=by unfold upd;rw[if_neg h]
theorem ne_of {H:Hp}{a b:Addr}{o u:HO}(h:H a=some o)(h':H b=some u)(d:o≠u):a≠b:=by
 intro e;subst e;rw[h] at h';exact d (Option.some.inj h')
theorem Xaq {H:Hp}{a b:Addr}{o:HO}(h:H a=some o)(h':H b=none):a≠b:=by
 intro e;subst e;rw[h] at h';cases h'
section
variable (P:Program)(w:World)
def Xcj (H:Hp)(h:Heap)(a:Addr):HO→Prop
 | .lst xs=>xs.length≤sizeLine∧∃(its:List Value) (n:Nat),Vals xs its∧h.get? a=some { cls:=.type "list",data:=.seq its.toArray n }
 | .tup xs=>xs.length≤sizeLine∧∃its:List Value,Vals xs its∧IsTup h a its.toArray
 | .dK kvs=>kvs.length≤sizeLine∧(a==sysModules)=false∧∃vs,KV kvs vs∧h.DictOf (Xbo P w) a vs
 | .dT kvs=>kvs.length≤sizeLine∧(a==sysModules)=false∧∃xs:List (List Key×Addr×Value),
     Paired (fun (p:List Key×V) (q:List Key×Addr×Value)=>p.1=q.1∧H q.2.1=some (.tup (p.1.map kV))∧RelV p.2 q.2.2) kvs xs ∧
     ∃o es ep,h.get? a=some o∧o.ExactDict∧o.data = .dict es ep∧es.toList=xs.map (entryOfKey (tupleKind (Xbo P w)))∧(xs.map (·.1)).Nodup
 | .set S n=>h.SetOf (intKind P w) a S n
 | .ins C dx fs=>H dx=some (.own a)∧fs.length≤1000∧dx≠a∧h.get? a=some (PySem.W.instObj C dx) ∧
     ∃mA,h.Ns1 dx mA∧(∀f,RelO (fs.lookup f) (mA f))∧PySem.Within mA (fs.map (·.1))
 | .own _=>∃o,h.get? a=some o
 | .xd fs=>∃mA,h.Ns1 a mA∧∀f,RelO (fs.lookup f) (mA f)
 | .rng lo hi=>∃t u v,h.get? a=some { cls:=.type "range",data:=.fields #[.int lo t,.int hi u,.int 1 v] }
 | .frz o u=>h.get? a=some o∧Xcj H h a u
 | .tbl ps=>h.get? a=some { cls:=.none,data:=.fields ps }
 | .met f x=>h.get? a=some (PySem.W.methodObj (.ref f) (.ref x))
 | .ext φ=>φ h∧(∃o,h.get? a=some o)∧∀h1 h2:Heap,φ h1→(∀o,h1.get? a=some o→h2.get? a=some o)→φ h2
def HOk (H:Hp)(h:Heap):Prop:=∀a o,H a=some o→Xcj P w H h a o
end
section
variable {P:Program}{w:World}{H H':Hp}{h h':Heap}{a:Addr}{o:HO}
theorem Xcj.lt (x:Xcj P w H h a o):a<h.objs.size:=by
 cases o with
 | lst xs=>obtain⟨_,_,_,_,e⟩:=x;exact Heap.lt_size e
 | tup xs=>obtain⟨_,_,_,p⟩:=x;exact p.lt
 | dK kvs=>obtain⟨_,_,_,_,o,_,_,e,_⟩:=x;exact Heap.lt_size e
 | dT kvs=>obtain⟨_,_,_,_,o,_,_,e,_⟩:=x;exact Heap.lt_size e
 | set S n=>obtain⟨o,_,_,_,e,_⟩:=x;exact Heap.lt_size e
 | ins C dx fs=>obtain⟨_,_,_,e,_⟩:=x;exact Heap.lt_size e
 | own y=>obtain⟨_,e⟩:=x;exact Heap.lt_size e
 | xd fs=>obtain⟨_,⟨_,_,_,e,_⟩,_⟩:=x;exact Heap.lt_size e
 | rng lo hi=>obtain⟨_,_,_,e⟩:=x;exact Heap.lt_size e
 | frz ob u=>obtain⟨e,_⟩:=x;exact Heap.lt_size e
 | tbl ps=>exact Heap.lt_size (show h.get? a=some _ from x)
 | met f y=>exact Heap.lt_size (show h.get? a=some _ from x)
 | ext φ=>obtain⟨_,⟨_,e⟩,_⟩:=x;exact Heap.lt_size e
theorem Paired.mapP {α β:Type}{F G:α→β→Prop}:∀{l₁:List α} {l₂:List β},Paired F l₁ l₂→(∀a b,F a b→G a b)→Paired G l₁ l₂
 | _,_,.nil,_=>.nil
 | _,_,.cons r t,f=>.cons (f _ _ r) (Paired.mapP t f)
theorem Xcj.stay (x:Xcj P w H h a o)(k:∀b u,(b=a∨H b=some (.own a))→h.get? b=some u→h'.get? b=some u)
   (ho:∀b,H b=some (.own a)→H' b=some (.own a)) (ht:∀b xs,H b=some (.tup xs)→H' b=some (.tup xs)):Xcj P w H' h' a o:=by
 induction o with
 | lst xs=>obtain⟨z,its,n,r,e⟩:=x;exact⟨z,its,n,r,k _ _ (.inl rfl) e⟩
 | tup xs=>obtain⟨z,its,r,ob,e,c⟩:=x;exact⟨z,its,r,ob,k _ _ (.inl rfl) e,c⟩
 | dK kvs=>obtain⟨z,y,vs,r,ob,es,ep,e,c⟩:=x;exact⟨z,y,vs,r,ob,es,ep,k _ _ (.inl rfl) e,c⟩
 | dT kvs =>
   obtain⟨z,y,xs,r,ob,es,ep,e,c⟩:=x
   exact⟨z,y,xs,Paired.mapP r fun p q z=>⟨z.1,ht _ _ z.2.1,z.2.2⟩,ob,es,ep,k _ _ (.inl rfl) e,c⟩
 | set S n=>obtain⟨ob,es,ep,t,e,c⟩:=x;exact⟨ob,es,ep,t,k _ _ (.inl rfl) e,c⟩
 | ins C dx fs =>
   obtain⟨d,z,ne,e,mA,⟨od,es,ep,e2,c⟩,r⟩:=x
   exact⟨ho _ d,z,ne,k _ _ (.inl rfl) e,mA,⟨od,es,ep,k _ _ (.inr d) e2,c⟩,r⟩
 | own y=>obtain⟨ob,e⟩:=x;exact⟨ob,k _ _ (.inl rfl) e⟩
 | xd fs=>obtain⟨mA,⟨od,es,ep,e,c⟩,r⟩:=x;exact⟨mA,⟨od,es,ep,k _ _ (.inl rfl) e,c⟩,r⟩
 | rng lo hi=>obtain⟨t,u,v,e⟩:=x;exact⟨t,u,v,k _ _ (.inl rfl) e⟩
 | frz ob u ih=>obtain⟨e,q⟩:=x;exact⟨k _ _ (.inl rfl) e,ih q⟩
 | tbl ps =>
   have e:h.get? a=some { cls:=.none,data:=.fields ps }:=x
   show h'.get? a=some { cls:=.none,data:=.fields ps }
   exact k a _ (.inl rfl) e
 | met f y =>
   have e:h.get? a=some (PySem.W.methodObj (.ref f) (.ref y)):=x
   show h'.get? a=some (PySem.W.methodObj (.ref f) (.ref y))
   exact k a _ (.inl rfl) e
 | ext φ=>obtain⟨p,⟨o,e⟩,st⟩:=x;exact⟨st _ _ p fun o q=>k _ _ (.inl rfl) q,⟨o,k _ _ (.inl rfl) e⟩,st⟩
theorem HOk.lt (x:HOk P w H h)(e:H a=some o):a<h.objs.size:=(x a o e).lt
theorem HOk.fresh (x:HOk P w H h)(e:h.objs.size≤a):H a=none:=by
 cases q:H a with
 | none=>rfl
 | some u=>exact absurd (Nat.lt_of_lt_of_le (x.lt q) e) (Nat.lt_irrefl _)
theorem HOk.kept (x:HOk P w H h)(k:∀b u,h.get? b=some u→h'.get? b=some u):HOk P w H h':=fun a o e =>
 (x a o e).stay (fun b u _ q=>k b u q) (fun _ q=>q) fun _ _ q=>q
theorem HOk.laid (x:HOk P w H h)(k:∀b u,h.get? b=some u→h'.get? b=some u)(hp:h.objs.size≤a)(new:Xcj P w (upd H a o) h' a o):HOk P w (upd H a o) h':=fun b u e=>by
 have hn:=x.fresh hp
 by_cases hb:b=a
 · subst hb;rw[upd_same] at e;cases e;exact new
 · rw[Xam hb] at e
   exact(x b u e).stay (fun c v _ q=>k c v q) (fun c q=>by rw[Xam (Xaq q hn)];exact q) fun c xs q=>by rw[Xam (Xaq q hn)];exact q
end
def Rd (H:Hp)(a:Addr)(u:HO):Prop:=H a=some u∨∃o,H a=some (.frz o u)
theorem Rd.of {H:Hp}{a:Addr}{u:HO}(h:H a=some u):Rd H a u:=.inl h
theorem Rd.ok {P:Program}{w:World}{H:Hp}{h:Heap}{a:Addr}{u:HO}(r:Rd H a u)(x:HOk P w H h):Xcj P w H h a u:=by
 rcases r with r | ⟨o,r⟩
 · exact x a u r
 · obtain⟨_,q⟩:=x a _ r
   exact q
def Mut:Option HO→Prop
 | some (.lst _)=>True
 | some (.dK _)=>True
 | some (.dT _)=>True
 | some (.set _ _)=>True
 | some (.ins _ _ _)=>True
 | some (.ext _)=>True
 | _=>False
section
variable {P:Program}{w:World}{H:Hp}{h h':Heap}{x e:Addr}{o':HO}
theorem HOk.write (ok:HOk P w H h)(mu:Mut (H x))(he:e=x∨H e=some (.own x))(k:∀b u,b≠e→h.get? b=some u→h'.get? b=some u)(heo:∃u,h'.get? e=some u)
   (new:Xcj P w (upd H x o') h' x o'):HOk P w (upd H x o') h':=fun b u q=>by
 have nown:∀c y,H c=some (.own y)→c≠x:=fun c y r z=>by subst z;rw[r] at mu;exact mu
 have ntup:∀c xs,H c=some (.tup xs)→c≠x:=fun c xs r z=>by subst z;rw[r] at mu;exact mu
 by_cases hb:b=x
 · subst hb;rw[upd_same] at q;cases q;exact new
 · rw[Xam hb] at q
   by_cases hbe:b=e
   · have q':H b=some (.own x):=by
       rcases he with z | z
       · exact absurd (hbe.trans z) hb
       · rw[hbe];exact z
     rw[q] at q';cases q'
     obtain⟨v,hv⟩:=heo
     exact⟨v,by rw[hbe];exact hv⟩
   · refine(ok b u q).stay (fun c v hc r=>k c v ?_ r) (fun c r=>by rw[Xam (nown c b r)];exact r) fun c xs r=>by rw[Xam (ntup c xs r)];exact r
     rcases hc with rfl | hc
     · exact hbe
     · rintro rfl
       rcases he with z | z
       · exact nown c b hc z
       · rw[hc] at z;cases z;exact hb rfl
end
structure Un (fs ex:List Addr)(H H':Hp)(h h':Heap):Prop where
 keep:∀b o,h.get? b=some o→H b=none→b ∉ fs→b ∉ ex→h'.get? b=some o
 slot:∀b o,h.get? b=some o→H b=none→b∈fs→b ∉ ex→∃sl,h'.get? b=some { o with slots:=sl }
 free:∀b o,h.get? b=some o→H b=none→b ∉ ex→H' b=none
 there:∀b o,h.get? b=some o→b ∉ ex→∃o',h'.get? b=some o'
 tups:∀b xs,H b=some (.tup xs)→H' b=some (.tup xs)
 frzs:∀b o u,H b=some (.frz o u)→H' b=some (.frz o u)
 tbls:∀b ps,H b=some (.tbl ps)→∃more,H' b=some (.tbl (ps++more))
section
variable {fs fs' ex ex':List Addr}{H H1 H2:Hp}{h h1 h2 h':Heap}{a x e:Addr}{o:HO}
theorem Un.any (u:Un fs ex H H1 h h1){b:Addr}{ob:Obj}(q:h.get? b=some ob)(n:H b=none)(hx:b ∉ ex):∃sl,h1.get? b=some { ob with slots:=sl }:=by
 by_cases hb:b∈fs
 · exact u.slot b ob q n hb hx
 · exact⟨ob.slots,u.keep b ob q n hb hx⟩
theorem Un.trans (a:Un fs ex H H1 h h1)(b:Un fs ex H1 H2 h1 h2):Un fs ex H H2 h h2 where
 keep:=fun c ob q n hc hx=>b.keep c ob (a.keep c ob q n hc hx) (a.free c ob q n hx) hc hx
 slot:=fun c ob q n hc hx=>by
   obtain⟨sl,e1⟩:=a.slot c ob q n hc hx
   obtain⟨sl',e2⟩:=b.slot c _ e1 (a.free c ob q n hx) hc hx
   exact⟨sl',e2⟩
 free:=fun c ob q n hx=>by
   obtain⟨o',e1⟩:=a.there c ob q hx
   exact b.free c o' e1 (a.free c ob q n hx) hx
 there:=fun c ob q hx=>by
   obtain⟨o',e1⟩:=a.there c ob q hx
   exact b.there c o' e1 hx
 tups:=fun c xs q=>b.tups c xs (a.tups c xs q)
 frzs:=fun c ob xs q=>b.frzs c ob xs (a.frzs c ob xs q)
 tbls:=fun c ps q=>by
   obtain⟨m1,e1⟩:=a.tbls c ps q
   obtain⟨m2,e2⟩:=b.tbls c _ e1
   exact⟨m1++m2,by rw[e2,Array.append_assoc]⟩
theorem Un.kept (k:∀b u,h.get? b=some u→h'.get? b=some u):Un fs ex H H h h' :=
 ⟨fun b ob q _ _ _=>k b ob q,fun b ob q _ _ _=>⟨ob.slots,k b ob q⟩,fun _ _ _ n _=>n,fun b ob q _=>⟨ob,k b ob q⟩,fun _ _ q=>q,fun _ _ _ q=>q,fun _ ps q=>⟨#[],by rw[q];simp⟩⟩
theorem Un.refl:Un fs ex H H h h:=Un.kept fun _ _ q=>q
theorem Un.laid (k:∀b u,h.get? b=some u→h'.get? b=some u)(hp:h.objs.size≤a)(hn:H a=none):Un fs ex H (upd H a o) h h' where
 keep:=fun b u q _ _ _=>k b u q
 slot:=fun b u q _ _ _=>⟨u.slots,k b u q⟩
 free:=fun b u q n _=>by rw[Xam (Nat.ne_of_lt (Nat.lt_of_lt_of_le (Heap.lt_size q) hp))];exact n
 there:=fun b u q _=>⟨u,k b u q⟩
 tups:=fun b xs q=>by rw[Xam (Xaq q hn)];exact q
 frzs:=fun b u xs q=>by rw[Xam (Xaq q hn)];exact q
 tbls:=fun b ps q=>⟨#[],by rw[Xam (Xaq q hn),q];simp⟩
theorem Un.write (mu:Mut (H x))(he:e=x∨H e=some (.own x))(k:∀b u,b≠e→h.get? b=some u→h'.get? b=some u)(heo:∃u,h'.get? e=some u):Un fs ex H (upd H x o) h h':=by
 have hx:∀b,H b=none→b≠x:=fun b n z=>by subst z;rw[n] at mu;exact mu
 have hb:∀b,H b=none→b≠e:=fun b n z=>by
   subst z
   rcases he with r | r
   · exact hx b n r
   · rw[n] at r;cases r
 have hm:∀b u,H b=some u→¬Mut (some u)→b≠x:=fun b u q nm z=>by subst z;rw[q] at mu;exact nm mu
 refine⟨fun b u q n _ _=>k b u (hb b n) q,fun b u q n _ _=>⟨u.slots,k b u (hb b n) q⟩,fun b u q n _=>by rw[Xam (hx b n)];exact n,fun b u q _=>?_,
   fun b xs q=>by rw[Xam (hm b _ q fun z=>z)];exact q,fun b u xs q=>by rw[Xam (hm b _ q fun z=>z)];exact q,fun b ps q=>⟨#[],by rw[Xam (hm b _ q fun z=>z),q];simp⟩⟩
 by_cases hbe:b=e
 · subst hbe;exact heo
 · exact⟨u,k b u hbe q⟩
theorem Un.mono (u:Un fs ex H H1 h h1)(hs:∀b∈fs,b∈fs')(hx:∀b∈ex,b∈ex'):Un fs' ex' H H1 h h1 :=
 ⟨fun b ob q n hb he=>u.keep b ob q n (fun z=>hb (hs b z)) fun z=>he (hx b z),fun _ _ q n _ he=>u.any q n fun z=>he (hx _ z),fun b ob q n he=>u.free b ob q n fun z=>he (hx b z),fun b ob q he=>u.there b ob q fun z=>he (hx b z),u.tups,u.frzs,u.tbls⟩
end
def trk (h:Heap)(H:Hp):List Addr:=(List.range h.objs.size).filter fun a=>(H a).isSome
def hidT (h:Heap)(H:Hp):Heap:=PySem.W.hideAll h (trk h H)
theorem Xpy (h:Heap)(H:Hp):(hidT h H).objs.size=h.objs.size:=PySem.W.hideAll_size _ _
theorem Xwn {h:Heap}{H:Hp}{b:Addr}{o:Obj}(e:h.get? b=some o)(n:H b=none):(hidT h H).get? b=some o :=
 PySem.W.hideAll_get _ e fun hm=>by
   have q:(H b).isSome=true:=(List.mem_filter.mp hm).2
   rw[n] at q;simp at q
theorem XIq {h:Heap}{H:Hp}{b:Addr}{o:Obj}(e:(hidT h H).get? b=some o):h.get? b=some o∧H b=none:=by
 have e':h.get? b=some o:=PySem.W.of_hideAll (trk h H) e
 refine⟨e',?_⟩
 cases q:H b with
 | none=>rfl
 | some x =>
   have hm:b∈trk h H:=List.mem_filter.mpr ⟨List.mem_range.mpr (Heap.lt_size e'),by simp [q]⟩
   have z:(hidT h H).get? b=none:=PySem.W.hideAll_none (trk h H) hm
   rw[z] at e;cases e
def XBm (g h:Heap)(L:Addr):List (Addr×Obj):=(List.range h.objs.size).filterMap fun a=>if a=L∨(g.get? a).isSome=true then none else (h.get? a).map fun o=>(a,o)
def rest (g h:Heap)(L d:Addr):List (Addr×Obj):=(XBm g h L).filter fun p=>decide (p.1≠d)
end L2
namespace L2
open PySem PySem.Spec PyProof.Rows
structure Mod (K:PySem.W.Frag)(mg:Str→Option Value)(base:Heap):Prop where
 kin:K.In base
 glob:base.Ns mainGlobals mg
 blt:∃mb,base.Ns builtinsNs mb∧∀x:Str,x≠"__name__"→mb x=bootBuiltins x
 nolimit:base.NoLimit
structure Cx where
 prog:Program
 w:World
 K:PySem.W.Frag
 mg:Str→Option Value
 base:Heap
 A:Around
 N:List Str
 s₀:Shared
 H₀:Hp
 env:Env
 outer:List Env
 stack:List Env
 ex:List Addr
 fn:Str→Bool
 calm:Bool
 pn:List (Addr×Obj)
 xe:Value→Shared→Prop
def frs (l:List Env):List Addr:=l.filterMap (·.frame)
abbrev Cx.fs (X:Cx):List Addr:=frs X.outer
def Vis (sc:Scope)(x:Str):Prop:=sc.names.lookup x=some .local∨sc.names.lookup x=some .cell∨sc.names.lookup x=some .free
def Loc (sc:Scope)(x:Str):Prop:=sc.names.lookup x=some .local∨sc.names.lookup x=some .cell
def Look (env:Env)(h:Heap)(m:Str→Option Value)(x:Str)(u:Value):Prop :=
 (env.kindOf x=some .local∧m x=some u)∨((env.kindOf x=some .cell∨env.kindOf x=some .free)∧∃c,env.cells.lookup x=some c∧h.IsCell c (some u))
structure Cx.Ok (X:Cx):Prop where
 mod:Mod X.K X.mg X.base
 kind:X.env.scope.kind = .function
 glob:X.env.globals=mainGlobals
 blt:X.env.builtins=builtinsNs
 above:X.s₀.heap.objs.size≤X.env.locals
 inj:∀x y c,X.env.cells.lookup x=some c→X.env.cells.lookup y=some c→x=y
 has:∀x,(X.env.kindOf x=some .cell∨X.env.kindOf x=some .free)→∃c,X.env.cells.lookup x=some c
 cab:∀x c,X.fn x=true→X.env.cells.lookup x=some c→X.s₀.heap.objs.size≤c
 hd:X.calm=true→X.A.handled=none
 frames:X.A.frames=some X.stack
 stk:X.stack=X.outer∨(X.stack=X.env::X.outer∧X.env.frame=some X.env.locals)
 exf:∀b∈X.ex,b≠X.env.locals∧∀x c,X.env.cells.lookup x=some c→c≠b
 bs:∀b o,X.base.get? b=some o→X.s₀.heap.get? b=some o∧X.H₀ b=none
 bsz:X.base.objs.size≤X.s₀.heap.objs.size
 noex:∀b o,X.base.get? b=some o→b ∉ X.ex
 exfs:∀b∈X.ex,b ∉ X.fs
 funs:X.s₀.heap.FunFrames X.base X.outer
 frf:∀b∈X.fs,X.H₀ b=none
structure Inv (X:Cx)(pins:List (Addr×Obj))(σ:List (Option V))(H:Hp)(s:Shared):Prop where
 ok:X.Ok
 os:s.os=X.s₀.os
 bare:AllBare s.gens
 base:Un X.fs X.ex X.H₀ H X.s₀.heap s.heap
 loc:∃m,s.heap.Ns X.env.locals m∧∀(i:Nat) (x:Str) (v:V),X.N[i]?=some x→σ[i]?=some (some v)→Vis X.env.scope x→∃u,RelV v u∧Look X.env s.heap m x u
 cell:∀x c,X.env.cells.lookup x=some c→∃v,s.heap.IsCell c v
 free:H X.env.locals=none
 freeC:∀x c,X.env.cells.lookup x=some c→H c=none
 pin:∀p∈X.pn++pins,s.heap.get? p.1=some p.2∧H p.1=none∧p.1≠X.env.locals∧p.1 ∉ X.fs∧∀v,p.2.data≠.cell v
 hok:HOk X.prog X.w H s.heap
 len:σ.length=X.N.length
section
variable {X:Cx}{pins:List (Addr×Obj)}{σ:List (Option V)}{H H':Hp}{s:Shared}{h':Heap}
theorem Cx.Ok.nofr (ok:X.Ok){b:Addr}{o:Obj}(e:X.base.get? b=some o):b ∉ X.fs:=fun hb=>by
 have:=(ok.funs.mem hb).1
 rw[e] at this;cases this
theorem Inv.bs (I:Inv X pins σ H s):∀b o,X.base.get? b=some o→s.heap.get? b=some o∧H b=none:=fun b o e =>
 ⟨I.base.keep b o (I.ok.bs b o e).1 (I.ok.bs b o e).2 (I.ok.nofr e) (I.ok.noex b o e),I.base.free b o (I.ok.bs b o e).1 (I.ok.bs b o e).2 (I.ok.noex b o e)⟩
theorem Inv.bk (I:Inv X pins σ H s):∀b o,X.base.get? b=some o→s.heap.get? b=some o:=fun b o e=>(I.bs b o e).1
theorem Inv.mod (I:Inv X pins σ H s):Mod X.K X.mg X.base:=I.ok.mod
theorem Inv.kIn (I:Inv X pins σ H s):X.K.In s.heap:=I.ok.mod.kin.keeps I.bk
theorem Inv.nolimit (I:Inv X pins σ H s):s.heap.NoLimit:=I.ok.mod.nolimit.keeps I.bk
theorem Inv.fr (I:Inv X pins σ H s):∃m,Fr X.base X.env.locals s.heap m :=
 let ⟨m,hn,_⟩:=I.loc
 ⟨m,hn,I.bk,Nat.le_trans I.ok.bsz I.ok.above⟩
theorem Inv.lt (I:Inv X pins σ H s):X.env.locals<s.heap.objs.size:=let ⟨_,hn,_⟩:=I.loc;hn.lt
theorem Inv.sz (I:Inv X pins σ H s):X.s₀.heap.objs.size≤s.heap.objs.size:=Nat.le_trans I.ok.above (Nat.le_of_lt I.lt)
theorem Inv.nofs (I:Inv X pins σ H s){a:Addr}(h:s.heap.objs.size≤a):a ∉ X.fs:=fun hb=>by
 obtain⟨_,o,ho,_⟩:=I.ok.funs.mem hb
 exact absurd (Nat.lt_of_lt_of_le (Heap.lt_size ho) (Nat.le_trans I.sz h)) (Nat.lt_irrefl _)
theorem Inv.cne (I:Inv X pins σ H s):∀x c,X.env.cells.lookup x=some c→c≠X.env.locals:=fun x c e z=>by
 obtain⟨v,o,ho,hd⟩:=I.cell x c e
 obtain⟨m,⟨o',es,ep,ho',hd',_⟩,_⟩:=I.loc
 rw[z,ho'] at ho;cases ho;rw[hd'] at hd;cases hd
theorem Inv.funs (I:Inv X pins σ H s):s.heap.FunFrames X.base X.outer:=by
 have all:∀(l:List Env),(∀b∈frs l,b∈X.fs)→X.s₀.heap.FunFrames X.base l→s.heap.FunFrames X.base l:=by
   intro l
   induction l with
   | nil=>intro _ _;trivial
   | cons env r ih =>
     intro hs hl
     obtain⟨hk,⟨L,o,hf,hn,ho,hd⟩,hr⟩:=hl
     have hL:L∈X.fs:=hs L (by unfold frs;rw[List.filterMap_cons,hf];exact List.mem_cons_self)
     obtain⟨sl,e⟩:=I.base.slot L o ho (I.ok.frf L hL) hL fun z=>I.ok.exfs L z hL
     exact⟨hk,⟨L,_,hf,hn,e,hd⟩,ih (fun b hb=>hs b (by unfold frs;rw[List.filterMap_cons,hf];exact List.mem_cons_of_mem _ hb)) hr⟩
 exact all X.outer (fun _ hb=>hb) I.ok.funs
theorem Inv.stack (I:Inv X pins σ H s):s.heap.FunFrames X.base X.stack:=by
 rcases I.ok.stk with e | ⟨e,hf⟩
 · rw[e];exact I.funs
 · rw[e]
   obtain⟨m,hn,_⟩:=I.loc
   refine .cons (by rw[I.ok.kind];decide) hf hn ?_ I.funs
   exact Heap.get?_none_of_le (Nat.le_trans I.ok.bsz I.ok.above)
theorem Inv.stkSub (I:Inv X pins σ H s):∀b∈frs X.stack,b∈X.env.locals::X.fs:=fun b hb=>by
 rcases I.ok.stk with e | ⟨e,hf⟩
 · rw[e] at hb;exact List.mem_cons_of_mem _ hb
 · rw[e] at hb
   unfold frs at hb
   rw[List.filterMap_cons,hf] at hb
   exact hb
theorem Inv.stkFree (I:Inv X pins σ H s):∀b∈frs X.stack,H b=none:=fun b hb=>by
 rcases List.mem_cons.mp (I.stkSub b hb) with e | hb
 · rw[e];exact I.free
 · obtain⟨_,o,ho,_⟩:=I.ok.funs.mem hb
   exact I.base.free b o ho (I.ok.frf b hb) fun z=>I.ok.exfs b z hb
theorem Inv.step {g':Array GenState}{t':Nat}{d':Drawn}{ch:List Addr}(I:Inv X pins σ H s)
   (hch:∀b∈ch,(b∈X.ex∨X.s₀.heap.objs.size≤b)∧b≠X.env.locals∧(∀x c,X.env.cells.lookup x=some c→c≠b)∧∀p∈X.pn++pins,p.1≠b)
   (keep:∀b o,b≠X.env.locals→b ∉ X.fs→b ∉ ch→s.heap.get? b=some o→H b=none→h'.get? b=some o)
   (slot:∀b o,b≠X.env.locals→b∈X.fs→b ∉ ch→s.heap.get? b=some o→H b=none→∃sl,h'.get? b=some { o with slots:=sl }) (free:∀b o,b ∉ ch→s.heap.get? b=some o→H b=none→H' b=none)
   (there:∀b o,b ∉ ch→s.heap.get? b=some o→∃o',h'.get? b=some o')
   (tups:∀b xs,H b=some (.tup xs)→H' b=some (.tup xs)) (frzs:∀b o u,H b=some (.frz o u)→H' b=some (.frz o u)) (tbls:∀b ps,H b=some (.tbl ps)→∃more,H' b=some (.tbl (ps++more)))
   (ns:∀m,s.heap.Ns X.env.locals m→h'.Ns X.env.locals m) (hok:HOk X.prog X.w H' h') (hg:AllBare g') :
   Inv X pins σ H' { s with heap:=h',gens:=g',drawn:=d',toks:=t' }:=by
 have neL:∀b o,X.s₀.heap.get? b=some o→b≠X.env.locals:=fun b o e=>Nat.ne_of_lt (Nat.lt_of_lt_of_le (Heap.lt_size e) I.ok.above)
 have neC:∀b o,X.s₀.heap.get? b=some o→b ∉ X.ex→b ∉ ch:=fun b o e hx hb=>by
   rcases(hch b hb).1 with z | z
   · exact hx z
   · exact absurd (Nat.lt_of_lt_of_le (Heap.lt_size e) z) (Nat.lt_irrefl _)
 have cellK:∀x c,X.env.cells.lookup x=some c→∀v,s.heap.IsCell c v→h'.IsCell c v:=fun x c e v ⟨o,ho,hd⟩=>by
   have nch:c ∉ ch:=fun z=>(hch c z).2.2.1 x c e rfl
   by_cases hc:c∈X.fs
   · obtain⟨sl,q⟩:=slot c o (I.cne x c e) hc nch ho (I.freeC x c e)
     exact⟨_,q,hd⟩
   · exact⟨o,keep c o (I.cne x c e) hc nch ho (I.freeC x c e),hd⟩
 refine⟨I.ok,I.os,hg,⟨fun b o e n hb hx=>?_,fun b o e n hb hx=>?_,fun b o e n hx=>?_,fun b o e hx=>?_,fun b xs e=>tups b xs (I.base.tups b xs e),fun b o xs e=>frzs b o xs (I.base.frzs b o xs e),fun b ps e=>?_⟩,?_,fun x c e=>?_,?_,fun x c e=>?_,fun p hp=>?_,hok,I.len⟩
 · exact keep b o (neL b o e) hb (neC b o e hx) (I.base.keep b o e n hb hx) (I.base.free b o e n hx)
 · obtain⟨sl,e1⟩:=I.base.slot b o e n hb hx
   obtain⟨sl',e2⟩:=slot b _ (neL b o e) hb (neC b o e hx) e1 (I.base.free b o e n hx)
   exact⟨sl',e2⟩
 · obtain⟨o',e1⟩:=I.base.there b o e hx
   exact free b o' (neC b o e hx) e1 (I.base.free b o e n hx)
 · obtain⟨o',e1⟩:=I.base.there b o e hx
   exact there b o' (neC b o e hx) e1
 · obtain⟨m1,e1⟩:=I.base.tbls b ps e
   obtain⟨m2,e2⟩:=tbls b _ e1
   exact⟨m1++m2,by rw[e2,Array.append_assoc]⟩
 · obtain⟨m,hn,hl⟩:=I.loc
   refine⟨m,ns m hn,fun i x v e1 e2 e3=>?_⟩
   obtain⟨u,r,l⟩:=hl i x v e1 e2 e3
   refine⟨u,r,?_⟩
   rcases l with l | ⟨k,c,e,z⟩
   · exact .inl l
   · exact .inr ⟨k,c,e,cellK x c e _ z⟩
 · obtain⟨v,z⟩:=I.cell x c e
   exact⟨v,cellK x c e v z⟩
 · obtain⟨m,⟨o,_,_,ho,_⟩,_⟩:=I.loc
   exact free _ o (fun z=>(hch _ z).2.1 rfl) ho I.free
 · obtain⟨v,o,ho,hd⟩:=I.cell x c e
   exact free c o (fun z=>(hch c z).2.2.1 x c e rfl) ho (I.freeC x c e)
 · obtain⟨e,n,ne,nf,d⟩:=I.pin p hp
   have nch:p.1 ∉ ch:=fun z=>(hch p.1 z).2.2.2 p hp rfl
   exact⟨keep p.1 p.2 ne nf nch e n,free p.1 p.2 nch e n,ne,nf,d⟩
theorem Inv.un {t':Nat}(I:Inv X pins σ H s)(u:Un X.fs [] H H' s.heap h')(hok:HOk X.prog X.w H' h'):Inv X pins σ H' { s with heap:=h',toks:=t' }:=by
 obtain⟨m,⟨o,es,ep,ho,r⟩,_⟩:=id I.loc
 obtain⟨sl,hL⟩:=u.any ho I.free (by simp)
 exact I.step (g':=s.gens) (d':=s.drawn) (ch:=[]) (fun _ z=>nomatch z) (fun b o _ hb _ e n=>u.keep b o e n hb (by simp)) (fun b o _ hb _ e n=>u.slot b o e n hb (by simp)) (fun b o _ e n=>u.free b o e n (by simp)) (fun b o _ e=>u.there b o e (by simp)) u.tups u.frzs u.tbls (fun m' hm=>by
   obtain⟨o',es',ep',ho',r'⟩:=hm
   rw[ho] at ho';cases ho'
   exact⟨_,es',ep',hL,r'⟩) hok I.bare
theorem Inv.call {g':Array GenState}{t':Nat}{d':Drawn}{ch:List Addr}(I:Inv X pins σ H s)(u:Un (frs X.stack) ch H H' s.heap h')(hok:HOk X.prog X.w H' h')(hg:AllBare g')
   (hch:∀b∈ch,(b∈X.ex∨X.s₀.heap.objs.size≤b)∧b≠X.env.locals∧(∀x c,X.env.cells.lookup x=some c→c≠b)∧∀p∈X.pn++pins,p.1≠b) :
   Inv X pins σ H' { s with heap:=h',gens:=g',drawn:=d',toks:=t' }:=by
 obtain⟨m,⟨o,es,ep,ho,r⟩,_⟩:=id I.loc
 obtain⟨sl,hL⟩:=u.any ho I.free fun z=>(hch _ z).2.1 rfl
 exact I.step (ch:=ch) hch (fun b o hL hb hc e n=>u.keep b o e n (fun z=>(List.mem_cons.mp (I.stkSub b z)).elim hL hb) hc) (fun b o _ _ hc e n=>u.any e n hc) (fun b o hc e n=>u.free b o e n hc) (fun b o hc e=>u.there b o e hc) u.tups u.frzs u.tbls (fun m' hm=>by
   obtain⟨o',es',ep',ho',r'⟩:=hm
   rw[ho] at ho';cases ho'
   exact⟨_,es',ep',hL,r'⟩) hok hg
theorem Inv.turned {t':Nat}{it:Addr}(I:Inv X pins σ H s)(k:∀b o,b≠it→s.heap.get? b=some o→h'.get? b=some o)(hn:H it=none)(hL:it≠X.env.locals)
   (h1:it∈X.ex∨X.s₀.heap.objs.size≤it) (h2:∀x c,X.env.cells.lookup x=some c→c≠it) (h3:∀p∈X.pn++pins,p.1≠it):Inv X pins σ H { s with heap:=h',toks:=t' }:=by
 have nit:∀b u,H b=some u→b≠it:=fun b u e z=>by rw[z,hn] at e;cases e
 refine I.step (g':=s.gens) (d':=s.drawn) (ch:=[it]) (fun b hb=>?_) (fun b o _ _ hc e _=>k b o (fun z=>hc (by simp [z])) e) (fun b o _ _ hc e _=>⟨o.slots,k b o (fun z=>hc (by simp [z])) e⟩) (fun _ _ _ _ n=>n)
   (fun b o hc e=>⟨o,k b o (fun z=>hc (by simp [z])) e⟩) (fun _ _ e=>e) (fun _ _ _ e=>e) (fun b ps e=>⟨#[],by rw[e];simp⟩) (fun m hm=>?_) (fun b u e=>?_) I.bare
 · have e:b=it:=by simpa using hb
   subst e
   exact⟨h1,hL,h2,h3⟩
 · obtain⟨o,es,ep,ho,r⟩:=hm
   exact⟨o,es,ep,k _ o (Ne.symm hL) ho,r⟩
 · refine(I.hok b u e).stay (fun c v hc q=>k c v ?_ q) (fun _ q=>q) fun _ _ q=>q
   rcases hc with z | z
   · rw[z];exact nit b u e
   · exact nit c _ z
theorem Inv.tok (I:Inv X pins σ H s)(t:Nat):Inv X pins σ H { s with toks:=t }:=I.un (h':=s.heap) (t':=t) Un.refl I.hok
theorem Inv.kept {t':Nat}(I:Inv X pins σ H s)(k:∀b u,s.heap.get? b=some u→h'.get? b=some u):Inv X pins σ H { s with heap:=h',toks:=t' }:=I.un (Un.kept k) (I.hok.kept k)
theorem Inv.laid {a:Addr}{o:HO}{t':Nat}(I:Inv X pins σ H s)(k:∀b u,s.heap.get? b=some u→h'.get? b=some u)(hp:s.heap.objs.size≤a)(new:Xcj X.prog X.w (upd H a o) h' a o) :
   Inv X pins σ (upd H a o) { s with heap:=h',toks:=t' }:=I.un (Un.laid k hp (I.hok.fresh hp)) (I.hok.laid k hp new)
theorem Inv.write {x e:Addr}{o:HO}{t':Nat}(I:Inv X pins σ H s)(mu:Mut (H x))(he:e=x∨H e=some (.own x))(k:∀b u,b≠e→s.heap.get? b=some u→h'.get? b=some u)(heo:∃u,h'.get? e=some u)
   (new:Xcj X.prog X.w (upd H x o) h' x o):Inv X pins σ (upd H x o) { s with heap:=h',toks:=t' }:=I.un (Un.write mu he k heo) (I.hok.write mu he k heo new)
theorem Inv.pins_of {pins':List (Addr×Obj)}(I:Inv X pins σ H s)(h:∀p∈pins',s.heap.get? p.1=some p.2∧H p.1=none∧p.1≠X.env.locals∧p.1 ∉ X.fs∧∀v,p.2.data≠.cell v):Inv X pins' σ H s :=
 ⟨I.ok,I.os,I.bare,I.base,I.loc,I.cell,I.free,I.freeC,fun p hp=>(List.mem_append.mp hp).elim (fun z=>I.pin p (List.mem_append_left _ z)) (h p),I.hok,I.len⟩
theorem Xop {N:List Str}(hN:N.Nodup){i j:Nat}{x:Str}(a:N[i]?=some x)(b:N[j]?=some x):i=j:=by
 obtain⟨h1,e1⟩:=List.getElem?_eq_some_iff.mp a
 obtain⟨h2,e2⟩:=List.getElem?_eq_some_iff.mp b
 exact(List.getElem_inj hN).mp (e1.trans e2.symm)
theorem Xln {M:Model}{A:Around}{E:Value→Shared→Prop}{i:Nat}{x:Str}{v:V}{u:Value}{Q:Unit→Shared→Prop}(I:Inv X pins σ H s)(hN:X.N.Nodup)(hi:X.N[i]?=some x)(hx:Loc X.env.scope x)(r:RelV v u)
   (h:∀s',Inv X pins (σ.set i (some v)) H s'→(∃a,Heap.SameBut a s.heap s'.heap∧(a=X.env.locals∨X.env.cells.lookup x=some a))→Q () s') (hf:X.fn x=true∨X.env.scope.names.lookup x=some .local:=by first | exact .inl rfl | exact .inr rfl | assumption):wpAny M A (storeName X.env x u) Q E s:=by
 obtain⟨m,hn,hl⟩:=id I.loc
 have hcls:(X.env.scope.kind==.class||(X.env.scope.kind==.module&&X.env.locals != X.env.globals))=false:=by rw[I.ok.kind];rfl
 have hiσ:i<σ.length:=by rw[I.len];exact(List.getElem?_eq_some_iff.mp hi).1
 have cne:=I.cne
 have tracked:∀{a:Addr} {h':Heap},(∃o,s.heap.get? a=some o∧H a=none)→Heap.SameBut a s.heap h'→HOk X.prog X.w H h':=fun {a h'} ha hs b ob e=>by
   obtain⟨_,_,hfree⟩:=ha
   refine(I.hok b ob e).stay (fun c w' hc q=>(hs.2 c ?_).trans q) (fun _ q=>q) fun _ _ q=>q
   rintro rfl
   rcases hc with rfl | hc
   · rw[hfree] at e;cases e
   · rw[hfree] at hc;cases hc
 rcases hx with hk | hk
 · refine wpAny_storeName_local hk hn (fun h' hn' hs=>?_) hcls
   obtain⟨oL,_,_,hoL,_⟩:=id hn
   refine h _ ⟨I.ok,I.os,I.bare,⟨fun b o e n hb hx=>?_,fun b o e n hb hx=>?_,I.base.free,fun b o e hx=>?_,I.base.tups,I.base.frzs,I.base.tbls⟩,⟨_,hn',fun j y v' e1 e2 e3=>?_⟩,fun y c e=>?_,I.free,I.freeC,fun p hp=>?_,tracked ⟨oL,hoL,I.free⟩ hs,by simpa using I.len⟩ ⟨_,hs,.inl rfl⟩
   · exact(hs.2 b (Nat.ne_of_lt (Nat.lt_of_lt_of_le (Heap.lt_size e) I.ok.above))).trans (I.base.keep b o e n hb hx)
   · obtain⟨sl,e1⟩:=I.base.slot b o e n hb hx
     exact⟨sl,(hs.2 b (Nat.ne_of_lt (Nat.lt_of_lt_of_le (Heap.lt_size e) I.ok.above))).trans e1⟩
   · obtain⟨o',e1⟩:=I.base.there b o e hx
     exact⟨o',(hs.2 b (Nat.ne_of_lt (Nat.lt_of_lt_of_le (Heap.lt_size e) I.ok.above))).trans e1⟩
   · by_cases hj:j=i
     · subst hj
       rw[hi] at e1;cases e1
       rw[List.getElem?_set_self hiσ] at e2
       cases e2
       exact⟨u,r,.inl ⟨hk,by simp⟩⟩
     · rw[List.getElem?_set_ne (Ne.symm hj)] at e2
       obtain⟨u',r',q⟩:=hl j y v' e1 e2 e3
       refine⟨u',r',?_⟩
       rcases q with ⟨k,e⟩ | ⟨k,c,e,z⟩
       · refine .inl ⟨k,?_⟩
         have:y≠x:=fun e=>hj (Xop hN e1 (e▸hi))
         simp [this,e]
       · exact .inr ⟨k,c,e,z.sameBut hs (cne y c e)⟩
   · obtain⟨w',z⟩:=I.cell y c e
     exact⟨w',z.sameBut hs (cne y c e)⟩
   · obtain⟨e,n,ne,nf,d⟩:=I.pin p hp
     exact⟨(hs.2 p.1 ne).trans e,n,ne,nf,d⟩
 · have hfn:X.fn x=true:=by
     rcases hf with z | z
     · exact z
     · rw[z] at hk;cases hk
   obtain⟨c,hc⟩:=I.ok.has x (.inl hk)
   obtain⟨w',z⟩:=I.cell x c hc
   refine wpAny_storeName_cell I.ok.kind hk hc z (fun h' hc' hs=>?_)
   obtain⟨oc,hoc,hocd⟩:=id z
   refine h { s with heap:=h' } ⟨I.ok,I.os,I.bare,⟨fun b o e n hb hx=>?_,fun b o e n hb hx=>?_,I.base.free,fun b o e hx=>?_,I.base.tups,I.base.frzs,I.base.tbls⟩,⟨m,hn.sameBut hs (Ne.symm (cne x c hc)),fun j y v' e1 e2 e3=>?_⟩,fun y c' e=>?_,I.free,I.freeC,fun p hp=>?_,tracked ⟨oc,hoc,I.freeC x c hc⟩ hs,by simpa using I.len⟩ ⟨c,hs,.inr hc⟩
   · exact(hs.2 b (Nat.ne_of_lt (Nat.lt_of_lt_of_le (Heap.lt_size e) (I.ok.cab x c hfn hc)))).trans (I.base.keep b o e n hb hx)
   · obtain⟨sl,e1⟩:=I.base.slot b o e n hb hx
     exact⟨sl,(hs.2 b (Nat.ne_of_lt (Nat.lt_of_lt_of_le (Heap.lt_size e) (I.ok.cab x c hfn hc)))).trans e1⟩
   · obtain⟨o',e1⟩:=I.base.there b o e hx
     exact⟨o',(hs.2 b (Nat.ne_of_lt (Nat.lt_of_lt_of_le (Heap.lt_size e) (I.ok.cab x c hfn hc)))).trans e1⟩
   · by_cases hj:j=i
     · subst hj
       rw[hi] at e1;cases e1
       rw[List.getElem?_set_self hiσ] at e2
       cases e2
       exact⟨u,r,.inr ⟨.inl hk,c,hc,hc'⟩⟩
     · rw[List.getElem?_set_ne (Ne.symm hj)] at e2
       obtain⟨u',r',q⟩:=hl j y v' e1 e2 e3
       refine⟨u',r',?_⟩
       rcases q with q | ⟨k,c',e,z'⟩
       · exact .inl q
       · refine .inr ⟨k,c',e,z'.sameBut hs ?_⟩
         rintro rfl
         exact hj (Xop hN e1 (I.ok.inj _ _ _ e hc▸hi))
   · by_cases hcc:c'=c
     · subst hcc;exact⟨_,hc'⟩
     · obtain⟨w2,z2⟩:=I.cell y c' e
       exact⟨w2,z2.sameBut hs hcc⟩
   · obtain⟨e,n,ne,nf,d⟩:=I.pin p hp
     refine⟨(hs.2 p.1 ?_).trans e,n,ne,nf,d⟩
     intro q
     rw[q,hoc] at e
     have q':oc=p.2:=Option.some.inj e
     exact d w' (by rw[←q'];exact hocd)
theorem Xjt {M:Model}{A:Around}{E:Value→Shared→Prop}{i:Nat}{x:Str}{v:V}{u:Value}{Q:Unit→Shared→Prop}(I:Inv X pins σ H s)(hN:X.N.Nodup)(hi:X.N[i]?=some x)(hx:Loc X.env.scope x)(r:RelV v u)
   (h:∀s',Inv X pins (σ.set i (some v)) H s'→Q () s') (hf:X.fn x=true∨X.env.scope.names.lookup x=some .local:=by first | exact .inl rfl | exact .inr rfl | assumption):wpAny M A (storeName X.env x u) Q E s :=
 Xln I hN hi hx r (fun s' I' _=>h s' I') hf
theorem Inv.call' {s':Shared}{ch:List Addr}(I:Inv X pins σ H s)(ho:s'.os=s.os)(u:Un (frs X.stack) ch H H' s.heap s'.heap)(hok:HOk X.prog X.w H' s'.heap)(hg:AllBare s'.gens)
   (hch:∀b∈ch,(b∈X.ex∨X.s₀.heap.objs.size≤b)∧b≠X.env.locals∧(∀x c,X.env.cells.lookup x=some c→c≠b)∧∀p∈X.pn++pins,p.1≠b):Inv X pins σ H' s':=by
 obtain⟨h',g',d',t',o'⟩:=s'
 have e:o'=s.os:=ho
 subst e
 exact I.call (g':=g') (t':=t') (d':=d') u hok hg hch
end
abbrev XK:=Value→Option Addr→Hp→Prop
abbrev St:=List (Option V)
abbrev VK:=V→Hp→Prop
abbrev TE:=St→Hp→VK→Prop
abbrev TT:=St→Hp→(Bool→Hp→Prop)→Prop
abbrev TA:=St→Hp→(List V→Hp→Prop)→Prop
structure Ends where
 nx:St→Hp→Prop
 rt:VK
 bk:St→Hp→Prop:=fun _ _=>False
 ct:St→Hp→Prop:=fun _ _=>False
abbrev TS:=Ends→St→Hp→Prop
def EP (X:Cx)(pins:List (Addr×Obj))(σ:St)(Q:VK)(u:Value)(s':Shared):Prop:=∃v H',Inv X pins σ H' s'∧RelV v u∧Q v H'
def TP (X:Cx)(pins:List (Addr×Obj))(σ:St)(Q:Bool→Hp→Prop)(b:Bool)(s':Shared):Prop:=∃H',Inv X pins σ H' s'∧Q b H'
def AP (X:Cx)(pins:List (Addr×Obj))(σ:St)(Q:List V→Hp→Prop)(us:List Value)(s':Shared):Prop:=∃vs H',Inv X pins σ H' s'∧Vals vs us∧Q vs H'
def SP (X:Cx)(pins:List (Addr×Obj))(D:Ends)(f:Flow)(s':Shared):Prop :=
 match f with
 | .next=>∃σ' H',Inv X pins σ' H' s'∧D.nx σ' H'
 | .brk=>∃σ' H',Inv X pins σ' H' s'∧D.bk σ' H'
 | .cont=>∃σ' H',Inv X pins σ' H' s'∧D.ct σ' H'
 | .ret u=>∃v σ' H',Inv X pins σ' H' s'∧RelV v u∧D.rt v H'
def PE (X:Cx)(e:Expr)(t:TE):Prop :=
 ∀(pins:List (Addr×Obj)) (s:Shared) (σ:St) (H:Hp) (Q:VK),Inv X pins σ H s→t σ H Q→wpAny (model X.prog X.w) X.A (eval e X.env) (EP X pins σ Q) X.xe s
def PT (X:Cx)(e:Expr)(t:TT):Prop :=
 ∀(pins:List (Addr×Obj)) (s:Shared) (σ:St) (H:Hp) (Q:Bool→Hp→Prop),Inv X pins σ H s→t σ H Q→wpAny (model X.prog X.w) X.A (isTrue e X.env (eval e X.env)) (TP X pins σ Q) X.xe s
def PW (X:Cx)(e:Expr)(t:TT):Prop :=
 ∀(whole:Sem Value) (pins:List (Addr×Obj)) (s:Shared) (σ:St) (H:Hp) (Q:Bool→Hp→Prop),Inv X pins σ H s→t σ H Q→wpAny (model X.prog X.w) X.A (isTrue e X.env whole) (TP X pins σ Q) X.xe s
theorem PW.pt {X:Cx}{e:Expr}{t:TT}(h:PW X e t):PT X e t:=h _
def PA (X:Cx)(es:List Expr)(t:TA):Prop :=
 ∀(pos:Pos) (pins:List (Addr×Obj)) (s:Shared) (σ:St) (H:Hp) (Q:List V→Hp→Prop),Inv X pins σ H s→t σ H Q→wpAny (model X.prog X.w) X.A (spliced (backTo pos (starEach es X.env))) (AP X pins σ Q) X.xe s
def PS (X:Cx)(st:Stmt)(t:TS):Prop :=
 ∀(pins:List (Addr×Obj)) (s:Shared) (σ:St) (H:Hp) (D:Ends),Inv X pins σ H s→t D σ H→wpAny (model X.prog X.w) X.A (exec st X.env) (SP X pins D) X.xe s
def PSs (X:Cx)(st:List Stmt)(t:TS):Prop :=
 ∀(pins:List (Addr×Obj)) (s:Shared) (σ:St) (H:Hp) (D:Ends),Inv X pins σ H s→t D σ H→wpAny (model X.prog X.w) X.A (execs st X.env) (SP X pins D) X.xe s
theorem thn {α:Type}{t:Sem α}{Q Q':α→Shared→Prop}{M:Model}{A:Around}{E:Value→Shared→Prop}{s:Shared}(h:wpAny M A t Q E s)(hQ:∀a s,Q a s→Q' a s):wpAny M A t Q' E s:=wpAny_mono h hQ fun _ _ x=>x
end L2
namespace L2
open PySem PySem.Spec PyProof.Rows
section
variable {X:Cx}
theorem bin {a b:Expr}{ta tb:TE}(ha:PE X a ta)(hb:PE X b tb){pins:List (Addr×Obj)}{s:Shared}{σ:St}{H:Hp}{R:V→V→Hp→Prop}(I:Inv X pins σ H s)(h:ta σ H fun x H1=>tb σ H1 fun y H2=>R x y H2)
   {α:Type} {Q:α→Shared→Prop} {f:Value→Value→Sem α}
   (hf:∀v u s2 x y H2,Inv X pins σ H2 s2→RelV x v→RelV y u→R x y H2→wpAny (model X.prog X.w) X.A (f v u) Q X.xe s2) :
   wpAny (model X.prog X.w) X.A (eval a X.env) (fun v s₁=>wpAny (model X.prog X.w) X.A (eval b X.env) (fun u s₂=>wpAny (model X.prog X.w) X.A (f v u) Q X.xe s₂) X.xe s₁) X.xe s:=by
 refine thn (ha pins s σ H _ I h) fun v s1 ⟨x,H1,I1,r1,q1⟩=>?_
 refine thn (hb pins s1 σ H1 _ I1 q1) fun u s2 ⟨y,H2,I2,r2,q2⟩=>?_
 exact hf v u s2 x y H2 I2 r1 r2 q2
def tVar (i:Nat):TE:=fun σ H Q=>∃v,σ[i]?=some (some v)∧Q v H
def tC (v:V):TE:=fun _ H Q=>Q v H
theorem XMh {i:Nat}{x:Str}{pos:Pos}(hN:X.N[i]?=some x)(hv:Vis X.env.scope x)(hd:(x==("__debug__":Str))=false:=by decide)(hcd:(x==("__classdict__":Str))=false:=by decide):PE X (.Name x pos) (tVar i):=by
 intro pins s σ H Q I h
 obtain⟨v,e,h⟩:=h
 obtain⟨m,hn,hl⟩:=I.loc
 obtain⟨u,r,l⟩:=hl i x v hN e hv
 have fin:EP X pins σ Q u s:=⟨v,H,I,r,h⟩
 rcases l with ⟨hk,hm⟩ | ⟨hk,c,hc,hcell⟩
 · exact wpAny_Name (wpAny_loadName_local I.ok.kind hk hn hm fin) hd
 · rcases hk with hk | hk
   · exact wpAny_Name (wpAny_loadName_cell I.ok.kind hk hc hcell fin) hd
   · exact wpAny_Name (wpAny_loadName_free I.ok.kind hk hc hcell fin hcd) hd
theorem Xaf {i j pos}:PE X (.Constant (.int i) j pos) (tC (.int i)):=fun _ _ _ H _ I h=>wpAny_Constant_int ⟨.int i,H,I.tok _,⟨_,rfl⟩,h⟩
theorem Xdh {b j pos}:PE X (.Constant (.bool b) j pos) (tC (.bl b)):=fun _ _ _ H _ I h=>Constant_bool ⟨.bl b,H,I,rfl,h⟩
theorem Xcs {j pos}:PE X (.Constant .none j pos) (tC .non):=fun _ _ _ H _ I h=>Constant_none ⟨.non,H,I,rfl,h⟩
theorem Xdi {x j pos}:PE X (.Constant (.str x) j pos) (tC (.str x)):=fun _ _ _ H _ I h=>Calls.Constant_str ⟨.str x,H,I.tok _,⟨_,rfl⟩,h⟩
def Gl (X:Cx)(x:Str):Prop:=X.env.kindOf x=some .globalImplicit
theorem Xeq {E:Value→Shared→Prop}{pins:List (Addr×Obj)}{s:Shared}{σ:St}{H:Hp}{x:Str}{u:Value}{pos:Pos}{Q:Value→Shared→Prop}(I:Inv X pins σ H s)(hg:Gl X x)(hm:X.mg x=some u)(h:Q u s)
   (hd:(x==("__debug__":Str))=false:=by decide):wpAny (model X.prog X.w) X.A (eval (.Name x pos) X.env) Q E s :=
 Calls.Name_function_global I.ok.kind hg (Calls.loadGlobal_global (by rw[I.ok.glob];exact I.mod.glob.keeps I.bk) hm h) hd
theorem Xol {E:Value→Shared→Prop}{pins:List (Addr×Obj)}{s:Shared}{σ:St}{H:Hp}{x:Str}{u:Value}{pos:Pos}{Q:Value→Shared→Prop}(I:Inv X pins σ H s)(hg:Gl X x)(hm:X.mg x=none)(hv:bootBuiltins x=some u)(h:Q u s)
   (hn:x≠"__name__":=by decide) (hd:(x==("__debug__":Str))=false:=by decide):wpAny (model X.prog X.w) X.A (eval (.Name x pos) X.env) Q E s:=by
 obtain⟨mb,h1,h2⟩:=I.mod.blt
 exact Calls.Name_function_global I.ok.kind hg (Calls.loadGlobal_builtin (by rw[I.ok.glob];exact I.mod.glob.keeps I.bk) hm (by rw[I.ok.blt];exact h1.keeps I.bk) ((h2 x hn).trans hv) h) hd
theorem Xgh {x:Str}{v:V}{u:Value}{pos:Pos}(hg:Gl X x)(hm:X.mg x=some u)(r:RelV v u)(hd:(x==("__debug__":Str))=false:=by decide):PE X (.Name x pos) (tC v) :=
 fun _ _ _ H _ I h=>Xeq I hg hm ⟨v,H,I,r,h⟩ hd
theorem Xms {x:Str}{v:V}{u:Value}{pos:Pos}(hg:Gl X x)(hm:X.mg x=none)(hv:bootBuiltins x=some u)(r:RelV v u)(hn:x≠"__name__":=by decide)(hd:(x==("__debug__":Str))=false:=by decide):PE X (.Name x pos) (tC v) :=
 fun _ _ _ H _ I h=>Xol I hg hm hv ⟨v,H,I,r,h⟩ hn hd
variable {a b:Expr}{ta tb:TE}{pos:Pos}
def PC (X:Cx)(op:CmpOp)(a b:Expr)(t:TE):Prop :=
 ∀(pins:List (Addr×Obj)) (s:Shared) (σ:St) (H:Hp) (Q:VK),Inv X pins σ H s→t σ H Q →
   wpAny (model X.prog X.w) X.A (eval a X.env) (fun v s₁=>wpAny (model X.prog X.w) X.A (eval b X.env) (fun u s₂=>wpAny (model X.prog X.w) X.A (compareOp op v u) (EP X pins σ Q) X.xe s₂) X.xe s₁) X.xe s
theorem Xxk (b:Expr){op:CmpOp}(h:op≠.In)(h2:op≠.NotIn):behindInMarks op b=false:=by
 have e1:(op==CmpOp.In)=false:=by cases op <;> first | rfl | exact absurd rfl h
 have e2:(op==CmpOp.NotIn)=false:=by cases op <;> first | rfl | exact absurd rfl h2
 cases b <;> simp [behindInMarks,e1,e2]
def tB (t:TE):TT:=fun σ H Q=>t σ H fun x H1=>∃c,x = .bl c∧Q c H1
theorem XLi {op:CmpOp}{t:TE}(h:PC X op a b t)(h1:behindInMarks op b=false:=by first | exact Xxk _ (by decide) (by decide) | rfl):PT X (.Compare a [op] [b] pos) (tB t):=by
 intro pins s σ H Q I hw
 refine wpAny_isTrue_Compare1 (thn (h pins s σ H _ I hw) fun v s1 h1=>thn h1 fun u s2 h2=>thn h2 fun c s3 ⟨x,H1,I1,r1,q1⟩=>?_) h1
 obtain⟨d,rfl,q⟩:=q1
 cases r1
 exact wpAny_truthy_bool ⟨H1,I1,q⟩
theorem Xeg {e:Expr}{t:TE}(h:PE X e t)(he:∀whole,isTrue e X.env whole=(do let v ←whole;standAt e.pos;holding [v] (truthy v)):=by intro _;rfl):PT X e (tB t):=by
 intro pins s σ H Q I hw
 refine isTrue_plain (thn (h pins s σ H _ I hw) fun v s1 ⟨x,H1,I1,r1,q1⟩=>?_) (he _)
 obtain⟨d,rfl,q⟩:=q1
 cases r1
 exact wpAny_truthy_bool ⟨H1,I1,q⟩
variable {tA tB':TT}{rest:List Expr}
def tAnd (t u:TT):TT:=fun σ H Q=>t σ H fun c H1=>if c=true then u σ H1 Q else Q false H1
def tOr (t u:TT):TT:=fun σ H Q=>t σ H fun c H1=>if c=true then Q true H1 else u σ H1 Q
def tNot (t:TT):TT:=fun σ H Q=>t σ H fun c H1=>Q (!c) H1
theorem Xem (ha:PT X a tA):PW X (.BoolOp .And [a] pos) tA:=by
 intro wh pins s σ H Q I h
 refine isTrue_and (thn (ha pins s σ H Q I h) fun c s1 e=>?_)
 cases c with
 | true=>exact isTrue_and_nil e
 | false=>exact e
theorem Xdk (ha:PT X a tA):PW X (.BoolOp .Or [a] pos) tA:=by
 intro wh pins s σ H Q I h
 refine isTrue_or (thn (ha pins s σ H Q I h) fun c s1 e=>?_)
 cases c with
 | false=>exact isTrue_or_nil e
 | true=>exact e
theorem Xep (ha:PT X a tA)(hb:PW X (.BoolOp .And (b::rest) pos) tB'):PW X (.BoolOp .And (a::b::rest) pos) (tAnd tA tB'):=by
 intro wh pins s σ H Q I h
 refine isTrue_and (thn (ha pins s σ H _ I h) fun c s1 ⟨H1,I1,q1⟩=>?_)
 cases c with
 | true=>exact hb wh pins s1 σ H1 Q I1 q1
 | false=>exact⟨H1,I1,q1⟩
theorem Xek (ha:PT X a tA)(hb:PW X (.BoolOp .Or (b::rest) pos) tB'):PW X (.BoolOp .Or (a::b::rest) pos) (tOr tA tB'):=by
 intro wh pins s σ H Q I h
 refine isTrue_or (thn (ha pins s σ H _ I h) fun c s1 ⟨H1,I1,q1⟩=>?_)
 cases c with
 | true=>exact⟨H1,I1,q1⟩
 | false=>exact hb wh pins s1 σ H1 Q I1 q1
theorem Xco (ha:PT X a tA):PT X (.UnaryOp .Not a pos) (tNot tA):=by
 intro pins s σ H Q I h
 exact isTrue_not (ha pins s σ H (fun c H1=>Q (!c) H1) I h)
def Xxx (ta tb:TE):TE:=fun σ H Q=>ta σ H fun x H1=>∃c,x = .bl c∧if c=true then tb σ H1 Q else Q (.bl false) H1
def tOrV (ta tb:TE):TE:=fun σ H Q=>ta σ H fun x H1=>∃c,x = .bl c∧if c=true then Q (.bl true) H1 else tb σ H1 Q
def XKf (ta:TE):TE:=fun σ H Q=>ta σ H fun x H1=>∃c,x = .bl c∧Q (.bl (!c)) H1
theorem Xsj {op}{t:TE}(h:PE X a t):PE X (.BoolOp op [a] pos) t:=fun pins s σ H Q I hw=>BoolOp_one (h pins s σ H Q I hw)
theorem Xqa (ha:PE X a ta)(hb:PE X (.BoolOp .And (b::rest) pos) tb):PE X (.BoolOp .And (a::b::rest) pos) (Xxx ta tb):=by
 intro pins s σ H Q I h
 refine BoolOp_and (thn (ha pins s σ H _ I h) fun v s1 ⟨x,H1,I1,r1,q1⟩=>?_)
 obtain⟨c,rfl,q1⟩:=q1
 cases r1
 refine wpAny_truthy_bool ?_
 cases c with
 | true=>exact hb pins s1 σ H1 Q I1 q1
 | false=>exact⟨.bl false,H1,I1,rfl,q1⟩
theorem XTn (ha:PE X a ta)(hb:PE X (.BoolOp .Or (b::rest) pos) tb):PE X (.BoolOp .Or (a::b::rest) pos) (tOrV ta tb):=by
 intro pins s σ H Q I h
 refine BoolOp_or (thn (ha pins s σ H _ I h) fun v s1 ⟨x,H1,I1,r1,q1⟩=>?_)
 obtain⟨c,rfl,q1⟩:=q1
 cases r1
 refine wpAny_truthy_bool ?_
 cases c with
 | false=>exact hb pins s1 σ H1 Q I1 q1
 | true=>exact⟨.bl true,H1,I1,rfl,q1⟩
theorem XBh (ha:PE X a ta):PE X (.UnaryOp .Not a pos) (XKf ta):=by
 intro pins s σ H Q I h
 refine UnaryOp_ (thn (ha pins s σ H _ I h) fun v s1 ⟨x,H1,I1,r1,q1⟩=>?_)
 obtain⟨c,rfl,q1⟩:=q1
 cases r1
 exact not_of (wpAny_truthy_bool ⟨.bl (!c),H1,I1,rfl,q1⟩)
def tIf (t:TT)(ta tb:TE):TE:=fun σ H Q=>t σ H fun c H1=>if c=true then ta σ H1 Q else tb σ H1 Q
theorem Xzh {c:Expr}(hc:PT X c tA)(ha:PE X a ta)(hb:PE X b tb):PE X (.IfExp c a b pos) (tIf tA ta tb):=by
 intro pins s σ H Q I h
 refine wpAny_IfExp (thn (hc pins s σ H _ I h) fun d s1 ⟨H1,I1,q1⟩=>?_)
 cases d with
 | true=>exact ha pins s1 σ H1 Q I1 q1
 | false=>exact hb pins s1 σ H1 Q I1 q1
end
end L2
namespace L2
open PySem PySem.Spec PyProof.Rows
def SqL (K:PySem.W.Frag)(H:Hp)(a:Addr)(xs:List V):Prop :=
 Rd H a (.lst xs) ∨
   ∃(o:Obj) (its:Array Value) (n:Nat),K.lookup a=some o∧o.cls = .type "list"∧o.dict=none∧o.data = .seq its n∧its.size≤sizeLine∧Vals xs its.toList
def SqT (K:PySem.W.Frag)(H:Hp)(a:Addr)(xs:List V):Prop :=
 Rd H a (.tup xs) ∨
   ∃(o:Obj) (its:Array Value) (n:Nat),K.lookup a=some o∧o.cls = .type "tuple"∧o.data = .seq its n∧its.size≤sizeLine∧Vals xs its.toList
def absV:Value→Option V
 | .none=>some .non
 | .bool b=>some (.bl b)
 | .int i _=>some (.int i)
 | .str x _=>some (.str x)
 | .bytes b _=>some (.byt b)
 | .float b _=>some (.flt b)
 | .ref a=>some (.ref a)
 | .type n=>some (.ty n)
 | _=>none
theorem RelV.abs {x:V}{u:Value}(r:RelV x u):absV u=some x:=by
 cases x with
 | non=>cases r;rfl
 | bl _=>cases r;rfl
 | int _=>obtain⟨t,rfl⟩:=r;rfl
 | str _=>obtain⟨t,rfl⟩:=r;rfl
 | byt _=>obtain⟨t,rfl⟩:=r;rfl
 | flt _=>obtain⟨t,rfl⟩:=r;rfl
 | ref _=>cases r;rfl
 | ty _=>cases r;rfl
theorem RelV.inj {x y:V}{u:Value}(r:RelV x u)(q:RelV y u):x=y:=Option.some.inj (r.abs.symm.trans q.abs)
theorem Vals.inj:∀{xs ys:List V} {us:List Value},Vals xs us→Vals ys us→xs=ys
 | _,_,_,.nil,.nil=>rfl
 | _,_,_,.cons r t,.cons r' t'=>by rw[r.inj r',Vals.inj t t']
section
variable {X:Cx}{pins:List (Addr×Obj)}{σ:St}{H:Hp}{s:Shared}{a:Addr}{xs ys:List V}
theorem SqL.of {K:PySem.W.Frag}(h:H a=some (.lst xs)):SqL K H a xs:=.inl (.inl h)
theorem SqT.of {K:PySem.W.Frag}(h:H a=some (.tup xs)):SqT K H a xs:=.inl (.inl h)
theorem Inv.list (I:Inv X pins σ H s)(h:SqL X.K H a xs):∃its:List Value,Vals xs its∧PlainL s.heap a its.toArray∧xs.length≤sizeLine:=by
 rcases h with h | ⟨o,its,n,hk,hc,hd,hs,hz,r⟩
 · obtain⟨z,its,n,r,e⟩:=h.ok I.hok
   exact⟨its,r,⟨_,n,e,rfl,rfl,rfl⟩,z⟩
 · refine⟨its.toList,r,⟨o,n,I.kIn a o hk,hc,hd,by simpa using hs⟩,?_⟩
   have e:=r.length
   simp only [Array.length_toList] at e
   omega
theorem Inv.tuple (I:Inv X pins σ H s)(h:SqT X.K H a xs):∃its:List Value,Vals xs its∧IsTup s.heap a its.toArray∧xs.length≤sizeLine:=by
 rcases h with h | ⟨o,its,n,hk,hc,hs,hz,r⟩
 · obtain⟨z,its,r,p⟩:=h.ok I.hok
   exact⟨its,r,p,z⟩
 · refine⟨its.toList,r,⟨o,I.kIn a o hk,hc,n,by simpa using hs⟩,?_⟩
   have e:=r.length
   simp only [Array.length_toList] at e
   omega
theorem Inv.list_inj (I:Inv X pins σ H s)(h:SqL X.K H a xs)(h':SqL X.K H a ys):xs=ys:=by
 obtain⟨its,r,⟨o,n,e,_,_,d⟩,_⟩:=I.list h
 obtain⟨its',r',⟨o',n',e',_,_,d'⟩,_⟩:=I.list h'
 rw[e] at e';cases e'
 rw[d] at d'
 injection d' with d1 _
 have:its=its':=by simpa using congrArg Array.toList d1
 subst this
 exact r.inj r'
end
abbrev Cx.wish (X:Cx)(E:Value→Shared→Prop):Cx:={ X with xe:=E }
abbrev Cx.nox (X:Cx):Cx:=X.wish fun _ _=>False
theorem Cx.Ok.wish {X:Cx}(ok:X.Ok)(E:Value→Shared→Prop):(X.wish E).Ok :=
 ⟨ok.mod,ok.kind,ok.glob,ok.blt,ok.above,ok.inj,ok.has,ok.cab,ok.hd,ok.frames,ok.stk,ok.exf,ok.bs,ok.bsz,ok.noex,ok.exfs,ok.funs,ok.frf⟩
theorem Cx.Ok.unwish {X:Cx}{E:Value→Shared→Prop}(ok:(X.wish E).Ok):X.Ok :=
 ⟨ok.mod,ok.kind,ok.glob,ok.blt,ok.above,ok.inj,ok.has,ok.cab,ok.hd,ok.frames,ok.stk,ok.exf,ok.bs,ok.bsz,ok.noex,ok.exfs,ok.funs,ok.frf⟩
section
variable {X:Cx}{pins:List (Addr×Obj)}{σ:St}{H:Hp}{s:Shared}{E:Value→Shared→Prop}
theorem Inv.wish (I:Inv X pins σ H s)(E:Value→Shared→Prop):Inv (X.wish E) pins σ H s:=⟨I.ok.wish E,I.os,I.bare,I.base,I.loc,I.cell,I.free,I.freeC,I.pin,I.hok,I.len⟩
theorem Inv.unwish (I:Inv (X.wish E) pins σ H s):Inv X pins σ H s:=⟨I.ok.unwish,I.os,I.bare,I.base,I.loc,I.cell,I.free,I.freeC,I.pin,I.hok,I.len⟩
theorem SP.unwish {D:Ends}{f:Flow}{s':Shared}(h:SP (X.wish E) pins D f s'):SP X pins D f s':=by
 cases f with
 | next=>obtain⟨σ',H',I,q⟩:=h;exact⟨σ',H',I.unwish,q⟩
 | brk=>obtain⟨σ',H',I,q⟩:=h;exact⟨σ',H',I.unwish,q⟩
 | cont=>obtain⟨σ',H',I,q⟩:=h;exact⟨σ',H',I.unwish,q⟩
 | ret u=>obtain⟨v,σ',H',I,r,q⟩:=h;exact⟨v,σ',H',I.unwish,r,q⟩
theorem PE.nox {e:Expr}{t:TE}(h:PE X.nox e t):PE X e t:=fun pins s σ H Q I hw =>
 wpAny_mono (h pins s σ H Q (I.wish _) hw) (fun _ _ ⟨v,H',I',r,q⟩=>⟨v,H',I'.unwish,r,q⟩) fun _ _ z=>False.elim z
theorem PT.nox {e:Expr}{t:TT}(h:PT X.nox e t):PT X e t:=fun pins s σ H Q I hw =>
 wpAny_mono (h pins s σ H Q (I.wish _) hw) (fun _ _ ⟨H',I',q⟩=>⟨H',I'.unwish,q⟩) fun _ _ z=>False.elim z
theorem PSs.nox {st:List Stmt}{t:TS}(h:PSs X.nox st t):PSs X st t:=fun pins s σ H D I hw =>
 wpAny_mono (h pins s σ H D (I.wish _) hw) (fun _ _ q=>q.unwish) fun _ _ z=>False.elim z
end
section
variable {X:Cx}{st:Stmt}{rest:List Stmt}{t u:TS}{e:Expr}{te:TE}{pos:Pos}
def XEs:TS:=fun D σ H=>D.nx σ H
def tSeq (t u:TS):TS:=fun D σ H=>t { D with nx:=u D } σ H
theorem Xap:PSs X [] XEs:=fun _ _ σ H _ I h=>wpAny_execs_nil ⟨σ,H,I,h⟩
theorem Xab (h1:PS X st t)(h2:PSs X rest u):PSs X (st::rest) (tSeq t u):=by
 intro pins s σ H D I h
 refine wpAny_execs_cons (thn (h1 pins s σ H { D with nx:=u D } I h) fun f s1 q=>?_)
 cases f with
 | next =>
   obtain⟨σ',H',I',q⟩:=q
   exact h2 pins s1 σ' H' D I' q
 | ret v=>exact q
 | brk=>exact q
 | cont=>exact q
theorem Xac (h1:PS X st t):PSs X [st] t:=by
 intro pins s σ H D I h
 refine wpAny_execs_cons (thn (h1 pins s σ H D I h) fun f s1 q=>?_)
 cases f with
 | next=>exact wpAny_execs_nil q
 | ret v=>exact q
 | brk=>exact q
 | cont=>exact q
theorem XGa:PS X (.Pass pos) XEs:=fun _ _ σ H _ I h=>wpAny_Pass ⟨σ,H,I,h⟩
theorem Inv.quiet {pins:List (Addr×Obj)}{σ:St}{H:Hp}{s:Shared}(I:Inv X pins σ H s):interactive X.env=false:=by simp [interactive,I.ok.kind]
def XNo (te:TE):TS:=fun D σ H=>te σ H fun _ H1=>D.nx σ H1
theorem Xca (he:PE X e te)(hs:swapsWith e none pos.line X.env=pure false:=by rfl):PS X (.Expr e pos) (XNo te):=by
 intro pins s σ H D I h
 exact wpAny_Expr_any (thn (he pins s σ H _ I h) fun v s1 ⟨x,H1,I1,r1,q1⟩=>⟨σ,H1,I1,q1⟩) I.quiet hs
def tRet (te:TE):TS:=fun D σ H=>te σ H D.rt
theorem Xak (he:PE X e te):PS X (.Return (some e) pos) (tRet te):=by
 intro pins s σ H D I h
 exact wpAny_Return_some (thn (he pins s σ H _ I h) fun v s1 ⟨x,H1,I1,r1,q1⟩=>⟨x,σ,H1,I1,r1,q1⟩)
def tIfS (c:TT)(t u:TS):TS:=fun D σ H=>c σ H fun b H1=>if b=true then t D σ H1 else u D σ H1
theorem Xbi {c:Expr}{a b:List Stmt}{tc:TT}(hc:PT X c tc)(ha:PSs X a t)(hb:PSs X b u):PS X (.If c a b pos) (tIfS tc t u):=by
 intro pins s σ H D I h
 refine wpAny_If (thn (hc pins s σ H _ I h) fun d s1 ⟨H1,I1,q1⟩=>?_)
 cases d with
 | true=>exact ha pins s1 σ H1 D I1 q1
 | false=>exact hb pins s1 σ H1 D I1 q1
def XLv:TS:=fun _ _ _=>False
theorem Xks:PS X st XLv:=fun _ _ _ _ _ _ h=>h.elim
end
abbrev TG:=V→St→Hp→(St→Hp→Prop)→Prop
abbrev TGs:=List V→St→Hp→(St→Hp→Prop)→Prop
def PG (X:Cx)(target:Expr)(t:TG):Prop :=
 ∀(pins:List (Addr×Obj)) (s:Shared) (σ:St) (H:Hp) (v:V) (u:Value) (Q:St→Hp→Prop),Inv X pins σ H s→RelV v u→t v σ H Q →
   wpAny (model X.prog X.w) X.A (assign target X.env u) (fun _ s'=>∃σ' H',Inv X pins σ' H' s'∧Q σ' H') X.xe s
def PGs (X:Cx)(ts:List Expr)(t:TGs):Prop :=
 ∀(pins:List (Addr×Obj)) (s:Shared) (σ:St) (H:Hp) (vs:List V) (us:List Value) (Q:St→Hp→Prop),Inv X pins σ H s→Vals vs us→t vs σ H Q →
   wpAny (model X.prog X.w) X.A (assignInOrder ((assignEach ts X.env).map (·.2)) us) (fun _ s'=>∃σ' H',Inv X pins σ' H' s'∧Q σ' H') X.xe s
abbrev TSet:=V→V→V→Hp→(Hp→Prop)→Prop
def PSet (X:Cx)(t:TSet):Prop :=
 ∀(pins:List (Addr×Obj)) (s:Shared) (σ:St) (H:Hp) (o i v:V) (ov iv u:Value) (Q:Hp→Prop),Inv X pins σ H s→RelV o ov→RelV i iv→RelV v u→t o i v H Q →
   wpAny (model X.prog X.w) X.A (setItem ov iv u) (fun _ s'=>∃H',Inv X pins σ H' s'∧Q H') X.xe s
section
variable {X:Cx}{pos:Pos}
def Xmh (i:Nat):TG:=fun v σ H Q=>Q (σ.set i (some v)) H
theorem Xar {i:Nat}{x:Str}(hN:X.N.Nodup)(hi:X.N[i]?=some x)(hx:Loc X.env.scope x)(hf:X.fn x=true∨X.env.scope.names.lookup x=some .local:=by first | exact .inl rfl | exact .inr rfl | assumption):PG X (.Name x pos) (Xmh i):=by
 intro pins s σ H v u Q I r h
 exact wpAny_assign_Name (Xjt I hN hi hx r (fun s' I'=>⟨_,H,I',h⟩) hf)
def gNil:TGs:=fun vs σ H Q=>vs=[]∧Q σ H
def XPk (t:TG)(u:TGs):TGs:=fun vs σ H Q=>∃v r,vs=v::r∧t v σ H fun σ' H'=>u r σ' H' Q
theorem Xdb:PGs X [] gNil:=by
 intro pins s σ H vs us Q I r h
 obtain⟨e,h⟩:=h
 subst e
 cases r
 exact assignInOrder_nil ⟨σ,H,I,h⟩
theorem Xas {e:Expr}{es:List Expr}{t:TG}{u:TGs}(h1:PG X e t)(h2:PGs X es u)
   (hs:(assignEach (e::es) X.env).map (·.2)=assign e X.env::(assignEach es X.env).map (·.2):=by rfl):PGs X (e::es) (XPk t u):=by
 intro pins s σ H vs us Q I r h
 obtain⟨v,vr,e1,h⟩:=h
 subst e1
 cases r with
 | cons r rr =>
   rw[hs]
   refine assignInOrder_cons (thn (h1 pins s σ H _ _ _ I r h) fun _ s1 ⟨σ1,H1,I1,q1⟩=>?_)
   exact h2 pins s1 σ1 H1 _ _ Q I1 rr q1
def gTup (K:PySem.W.Frag)(n:Nat)(t:TGs):TG:=fun v σ H Q=>∃a xs,v = .ref a∧SqT K H a xs∧xs.length=n∧t xs σ H Q
theorem Xgv {es:List Expr}{k:Nat}{t:TGs}{n:Nat}(hc:X.calm=true)(h:PGs X es t)
   (hn:(assignEach es X.env).length=n:=by rfl) (hst:(assignEach es X.env).findIdx? (·.1)=none:=by rfl):PG X (.Tuple es k pos) (gTup X.K n t):=by
 intro pins s σ H v u Q I r hw
 obtain⟨a,xs,e1,hq,hl,hw⟩:=hw
 subst e1
 cases r
 obtain⟨its,rv,ht,hz⟩:=I.tuple hq
 refine assign_Tuple_tuple (I.ok.hd hc) ht (by simp [hn,←hl,rv.length]) hst fun h' hx=>?_
 have I1:Inv X pins σ H { s with heap:=h' }:=I.kept (t':=s.toks) fun b o e=>hx b o (Nat.ne_of_lt (Heap.lt_size e)) e
 exact h pins _ σ H xs _ Q I1 (by simpa using rv) hw
def gSub (to ti:TE)(t:TSet):TG:=fun v σ H Q=>to σ H fun o H1=>ti σ H1 fun i H2=>t o i v H2 fun H3=>Q σ H3
theorem Xhv {o i:Expr}{to ti:TE}{t:TSet}(ho:PE X o to)(hi:PE X i ti)(hs:PSet X t)
   (ha:∀v,assign (.Subscript o i pos) X.env v=(do
     let ov ←holding [v] (eval o X.env)
     let iv ←holding [v,ov] (eval i X.env)
     standAt pos
     holding [v,ov,iv] (setItem ov iv v)
     release [v,ov,iv] []):=by intro _;rfl):PG X (.Subscript o i pos) (gSub to ti t):=by
 intro pins s σ H v u Q I r h
 rw[ha]
 refine wpAny_bind (wpAny_holding (thn (ho pins s σ H _ I h) fun ov s1 ⟨x,H1,I1,r1,q1⟩=>?_))
 refine wpAny_bind (wpAny_holding (thn (hi pins s1 σ H1 _ I1 q1) fun iv s2 ⟨y,H2,I2,r2,q2⟩=>?_))
 refine wpAny_bind (wpAny_standAt (wpAny_bind (wpAny_holding (thn (hs pins s2 σ H2 x y v ov iv u _ I2 r1 r2 r q2) fun _ s3 ⟨H3,I3,q3⟩=>?_))))
 exact wpAny_release ⟨σ,H3,I3,q3⟩
def tAsg (te:TE)(g:TG):TS:=fun D σ H=>te σ H fun x H1=>g x σ H1 D.nx
theorem Xei {tg e:Expr}{te:TE}{g:TG}(he:PE X e te)(hg:PG X tg g)(hs:swapsWithSole [tg] e pos.line X.env=pure false:=by rfl)(hw:swappedStores [tg] e X.env=pure none:=by rfl)
   (h1:(assignEach [tg] X.env).map (·.2)=[assign tg X.env]:=by rfl):PS X (.Assign [tg] e pos) (tAsg te g):=by
 intro pins s σ H D I h
 refine wpAny_Assign_stores (thn (he pins s σ H _ I h) fun v s1 ⟨x,H1,I1,r1,q1⟩=>?_) hs hw
 rw[h1]
 exact thn (hg pins s1 σ H1 x v _ I1 r1 q1) fun _ s2 q=>q
theorem Xan {i:Nat}{x:Str}{e:Expr}{te:TE}{pos':Pos}(hN:X.N.Nodup)(hi:X.N[i]?=some x)(hx:Loc X.env.scope x)(he:PE X e te)(hs:swapsWith e (some (.Name x pos')) pos.line X.env=pure false:=by rfl)(hf:X.fn x=true∨X.env.scope.names.lookup x=some .local:=by first | exact .inl rfl | exact .inr rfl | assumption) :
   PS X (.Assign [.Name x pos'] e pos) (tAsg te (Xmh i)):=by
 intro pins s σ H D I h
 refine wpAny_Assign_Name (thn (he pins s σ H _ I h) fun v s1 ⟨y,H1,I1,r1,q1⟩=>?_) hs
 exact Xjt I1 hN hi hx r1 (fun s2 I2=>⟨_,H1,I2,q1⟩) hf
end
section
variable {X:Cx}{pos:Pos}
def XQn (c:TT)(tb:TS):TS:=fun D σ H=>∃W:Nat→St→Hp→Prop,(∃m,W m σ H)∧∀m σ H,W m σ H →
 c σ H fun b H1=>if b=true then ∃N:St→Hp→Prop,(∀σ' H',N σ' H'→∃m',m'<m∧W m' σ' H')∧tb { D with nx:=N,ct:=N,bk:=D.nx } σ H1 else D.nx σ H1
theorem Xoa {c:Expr}{body:List Stmt}{tc:TT}{tb:TS}(hp:PassesOwn (model X.prog X.w) X.A X.env X.xe)(hc:PT X c tc)(hb:PSs X body tb):PS X (.While c body [] pos) (XQn tc tb):=by
 intro pins s σ H D I h
 obtain⟨W,⟨m0,w0⟩,turn⟩:=h
 refine wpAny_While (codeAny_whileLoop (fun n s'=>∃σ' H',Inv X pins σ' H' s'∧W n σ' H') ?_ m0 ⟨σ,H,I,w0⟩)
 rintro n s1 ⟨σ1,H1,I1,w1⟩
 refine wpAny_passesOwn hp (thn (hc pins s1 σ1 H1 _ I1 (turn n σ1 H1 w1)) fun b s2 ⟨H2,I2,q2⟩=>?_)
 cases b with
 | true =>
   obtain⟨N,hN,q2⟩:=q2
   rw[if_pos rfl]
   refine wpAny_passesOwn hp (thn (hb pins s2 σ1 H2 _ I2 q2) fun f s3 q3=>?_)
   cases f with
   | next =>
     obtain⟨σ3,H3,I3,n3⟩:=q3
     obtain⟨m',hm,w3⟩:=hN σ3 H3 n3
     exact⟨m',hm,σ3,H3,I3,w3⟩
   | cont =>
     obtain⟨σ3,H3,I3,n3⟩:=q3
     obtain⟨m',hm,w3⟩:=hN σ3 H3 n3
     exact⟨m',hm,σ3,H3,I3,w3⟩
   | brk=>exact q3
   | ret v=>exact q3
 | false =>
   rw[if_neg Bool.false_ne_true]
   exact wpAny_execs_nil ⟨σ1,H2,I2,q2⟩
end
structure It where
 go:Nat→Hp→Prop
 yld:Nat→Hp→V→Hp→Prop
 stop:Nat→Hp→Prop
def FpOk (X:Cx)(pins:List (Addr×Obj))(H:Hp)(b:Addr):Prop :=
 H b=none∧b≠X.env.locals∧b ∉ X.fs∧(b∈X.ex∨X.s₀.heap.objs.size≤b)∧(∀x c,X.env.cells.lookup x=some c→c≠b)∧∀p∈X.pn++pins,p.1≠b
theorem Inv.fpOk {X:Cx}{pins:List (Addr×Obj)}{σ:St}{H H':Hp}{s:Shared}{b:Addr}(I:Inv X pins σ H s)(hb:s.heap.objs.size≤b)(hn:H' b=none):FpOk X pins H' b:=by
 refine⟨hn,Nat.ne_of_gt (Nat.lt_of_lt_of_le I.lt hb),I.nofs hb,.inr (Nat.le_trans I.sz hb),fun x c e z=>?_,fun p hp z=>?_⟩
 · obtain⟨v,q⟩:=I.cell x c e
   exact absurd (Nat.lt_of_lt_of_le q.lt (by rw[z];exact hb)) (Nat.lt_irrefl _)
 · exact absurd (Nat.lt_of_lt_of_le (Heap.lt_size (I.pin p hp).1) (by rw[z];exact hb)) (Nat.lt_irrefl _)
structure Turn (P:Program)(w:World)(K:PySem.W.Frag)(tg:Expr)(J:It)(fp:List Addr)(it:Addr)(tn:Nat→Heap→Prop):Prop where
 mem:it∈fp
 obj:∀i h,tn i h→∀b∈fp,∃o,h.get? b=some o∧∀v,o.data≠.cell v
 keep:∀i h h',tn i h→(∀b∈fp,∀o,h.get? b=some o→h'.get? b=some o)→tn i h'
 item:∀(X:Cx),X.prog=P→X.w=w→X.K=K→X.calm=true→∀(i:Nat) (pins:List (Addr×Obj)) (s:Shared) (σ:St) (H:Hp) (E:Value→Shared→Prop),Inv X pins σ H s→(∀b∈fp,FpOk X pins H b)→tn i s.heap→J.go i H →
   wpAny (model P w) X.A (pyNext (.ref it)) (fun r s1=>∃u,r=some u ∧
     wpAny (model P w) X.A (letOwnedTupleGo tg (.ref it) u) (fun _ s2=>∃x H',Inv X pins σ H' s2∧RelV x u∧J.yld i H x H'∧tn (i+1) s2.heap∧∀b∈fp,H' b=none) E s1) E s
 done:∀(X:Cx),X.prog=P→X.w=w→X.K=K→X.calm=true→∀(i:Nat) (pins:List (Addr×Obj)) (s:Shared) (σ:St) (H:Hp) (E:Value→Shared→Prop),Inv X pins σ H s→(∀b∈fp,FpOk X pins H b)→tn i s.heap→J.stop i H →
   wpAny (model P w) X.A (pyNext (.ref it)) (fun r s1=>r=none∧Inv X pins σ H s1) E s
 self:∀(A:Around) (i:Nat) (s:Shared) (Q:Value→Shared→Prop) (E:Value→Shared→Prop),tn i s.heap→Q (.ref it) s→wpAny (model P w) A (pyIter (.ref it)) Q E s
abbrev TI:=St→Hp→(It→Hp→Prop)→Prop
def PIE (X:Cx)(pins:List (Addr×Obj))(σ:St)(tg:Expr)(R:It→Hp→Prop)(itv:Value)(s2:Shared):Prop :=
 ∃(it:Addr) (fp:List Addr) (tn:Nat→Heap→Prop) (J:It) (H':Hp),itv = .ref it∧Inv X pins σ H' s2∧Turn X.prog X.w X.K tg J fp it tn∧tn 0 s2.heap∧(∀b∈fp,FpOk X pins H' b)∧R J H'
def PI (X:Cx)(tg iter:Expr)(wi:TI):Prop :=
 ∀(pins:List (Addr×Obj)) (s:Shared) (σ:St) (H:Hp) (R:It→Hp→Prop),Inv X pins σ H s→wi σ H R →
   wpAny (model X.prog X.w) X.A (eval iter X.env) (fun v s1=>wpAny (model X.prog X.w) X.A (pyIter v) (PIE X pins σ tg R) X.xe s1) X.xe s
theorem XIt {M:Model}{A:Around}{E:Value→Shared→Prop}{s:Shared}{tg:Expr}{it:Addr}{u:Value}{o:Obj}{n:String}{vs:Array Value}{Q:Unit→Shared→Prop}(ho:s.heap.get? it=some o)(hc:o.cls = .type n)(hd:o.data = .fields vs)
   (hn:["enumerate","zip","dict_itemiterator","dict_reverseitemiterator","odict_iterator","itertools.zip_longest","itertools.pairwise"].contains n=false) (hQ:Q () s):wpAny M A (letOwnedTupleGo tg (.ref it) u) Q E s:=by
 unfold letOwnedTupleGo
 cases tg <;> first
   | exact wpAny_pure hQ
   | (cases u <;> first
       | exact wpAny_pure hQ
       | (refine wpAny_bind (wpAny_load ho ?_)
          rw[hc,hd]
          show wpAny M A (if (["enumerate","zip","dict_itemiterator","dict_reverseitemiterator","odict_iterator","itertools.zip_longest","itertools.pairwise"].contains n&&vs[0]?==some (rawInt _))=true then _ else _) Q E s
          rw[if_neg (by intro h;rw[hn,Bool.false_and] at h;cases h)]
          exact wpAny_pure hQ))
def Itl (K:PySem.W.Frag)(a:Addr):It :=
 ⟨fun i H=>∃xs x,SqL K H a xs∧xs[i]?=some x,fun i H x H'=>H'=H∧∀xs,SqL K H a xs→xs[i]?=some x,fun i H=>∃xs,SqL K H a xs∧xs.length≤i⟩
def Itr (lo:Int)(n:Nat):It:=⟨fun i _=>i<n,fun i H x H'=>H'=H∧x = .int (lo+i),fun i _=>n≤i⟩
theorem Xun {P:Program}{w:World}{K:PySem.W.Frag}{tg:Expr}(a it:Addr):Turn P w K tg (Itl K a) [it] it (fun i h=>h.IsListIter it a i) where
 mem:=by simp
 obj:=fun i h st b hb=>by
   have e:b=it:=by simpa using hb
   subst e
   obtain⟨o,e,c,d⟩:=st
   exact⟨o,e,fun v z=>by rw[d] at z;cases z⟩
 keep:=fun i h h' st k=>st.at fun o e=>k it (by simp) o e
 item:=by
   intro X hP hw hK hc i pins s σ H E I hf st hg
   subst hP hw hK
   obtain⟨xs,x,hq,hx⟩:=hg
   obtain⟨its,rv,p,hz⟩:=I.list hq
   obtain⟨u,hu,ru⟩:=rv.get hx
   obtain⟨f0,f1,f2,f3,f4,f5⟩:=hf it (by simp)
   refine wpAny_pyNext_list_item st p.isList (x:=u) (by simpa using hu) fun h' st' sb=>?_
   have I1:Inv X pins σ H { s with heap:=h' }:=I.turned (t':=s.toks) (fun b o hb e=>(sb.2 b hb).trans e) f0 f1 f3 f4 f5
   obtain⟨o,e,c,d⟩:=id st'
   exact⟨u,rfl,XIt (s:={ s with heap:=h' }) e c d (by decide) ⟨x,H,I1,ru,⟨rfl,fun ys hy=>by rw[I.list_inj hy hq];exact hx⟩,st',fun b hb=>(hf b hb).1⟩⟩
 done:=by
   intro X hP hw hK hc i pins s σ H E I hf st hg
   subst hP hw hK
   obtain⟨xs,hq,hx⟩:=hg
   obtain⟨its,rv,p,hz⟩:=I.list hq
   obtain⟨f0,f1,f2,f3,f4,f5⟩:=hf it (by simp)
   have hl:=rv.length
   exact wpAny_pyNext_list_end (I.ok.hd hc) st p.isList (by simp;omega) fun h' eb=>⟨rfl,I.turned (t':=s.toks) (fun b o hb e=>eb b o hb e) f0 f1 f3 f4 f5⟩
 self:=fun _ _ _ _ _ st h=>wpAny_pyIter_listiter st h
theorem Xph {P:Program}{w:World}{K:PySem.W.Frag}{tg:Expr}(it:Addr)(lo:Int)(n:Nat):Turn P w K tg (Itr lo n) [it] it (fun i h=>IsRangeIter h it (lo+(i:Nat)*1) ((n:Int)-(i:Nat)) 1) where
 mem:=by simp
 obj:=fun i h st b hb=>by
   have e:b=it:=by simpa using hb
   subst e
   exact⟨_,st,fun v z=>by
     have z':Data.fields _=Data.cell v:=z
     cases z'⟩
 keep:=fun i h h' st k=>k it (by simp) _ st
 item:=by
   intro X hP hw hK hc i pins s σ H E I hf st hg
   subst hP hw hK
   obtain⟨f0,f1,f2,f3,f4,f5⟩:=hf it (by simp)
   have W:=Walks.range (prog:=X.prog) (w:=X.w) (I.ok.hd hc) it lo 1 n
   refine W.item i s _ _ hg st fun v h' tk hv st' kk=>?_
   obtain⟨t,rfl⟩:=hv
   have I1:Inv X pins σ H { s with heap:=h',toks:=tk }:=I.turned (fun b o hb e=>kk b o (by simpa using hb) e) f0 f1 f3 f4 f5
   refine⟨_,rfl,XIt (s:={ s with heap:=h',toks:=tk }) (n:="range_iterator") st' rfl rfl (by decide) ⟨.int (lo+i),H,I1,⟨t,?_⟩,⟨rfl,rfl⟩,st',fun b hb=>(hf b hb).1⟩⟩
   rw[Int.mul_one]
 done:=by
   intro X hP hw hK hc i pins s σ H E I hf st hg
   subst hP hw hK
   obtain⟨f0,f1,f2,f3,f4,f5⟩:=hf it (by simp)
   exact wpAny_pyNext_range_end (I.ok.hd hc) st (by have:n≤i:=hg;omega) fun h' eb=>⟨rfl,I.turned (t':=s.toks) (fun b o hb e=>eb b o hb e) f0 f1 f3 f4 f5⟩
 self:=fun _ _ _ _ _ st h=>wpAny_pyIter_rangeiter st h
end L2
namespace L2
open PySem PySem.Spec PyProof.Rows
section
variable {X:Cx}{tg:Expr}
def XQa (K:PySem.W.Frag)(tl:TE):TI:=fun σ H R=>tl σ H fun x H1=>∃a,x = .ref a∧(∃xs,SqL K H1 a xs)∧R (Itl K a) H1
theorem Xcq {l:Expr}{tl:TE}(hl:PE X l tl):PI X tg l (XQa X.K tl):=by
 intro pins s σ H R I h
 refine thn (hl pins s σ H _ I h) fun v s1 ⟨x,H1,I1,r1,q1⟩=>?_
 obtain⟨a,e,⟨xs,hq⟩,q⟩:=q1
 subst e
 cases r1
 obtain⟨its,rv,p,hz⟩:=I1.list hq
 refine wpAny_pyIter_list p.isList ?_
 refine⟨s1.heap.objs.size,[s1.heap.objs.size],_,_,H1,rfl,I1.kept (t':=s1.toks) fun b o e=>Heap.get?_push_of_some _ e,Xun a _,⟨_,Heap.get?_push_size _ rfl,rfl,rfl⟩,fun b hb=>?_,q⟩
 have e:b=s1.heap.objs.size:=by simpa using hb
 subst e
 exact I1.fpOk (Nat.le_refl _) (I1.hok.fresh (Nat.le_refl _))
theorem Xvl {pins:List (Addr×Obj)}{σ:St}{H:Hp}{s:Shared}{R:It→Hp→Prop}{E:Value→Shared→Prop}{lo hi:Int}{t u v:Tok}{tk:Nat}(I:Inv X pins σ H s)(h1 : -(2^62)≤lo)(h2:lo<2^62)(h3 : -(2^62)≤hi)(h4:hi<2^62)
   (q:R (Itr lo (hi-lo).toNat) H):wpAny (model X.prog X.w) X.A (pyIter (.ref s.heap.objs.size)) (PIE X pins σ tg R) E { s with heap:=s.heap.push { cls:=.type "range",data:=.fields #[.int lo t,.int hi u,.int 1 v] },toks:=tk }:=by
 refine wpAny_pyIter_range (IsRange.new ..) (small_one h1 h2 h3 h4) ?_
 have I1:Inv X pins σ H { s with heap:=s.heap.push { cls:=.type "range",data:=.fields #[.int lo t,.int hi u,.int 1 v] },toks:=tk }:=I.kept fun b o e=>Heap.get?_push_of_some _ e
 refine⟨(s.heap.push { cls:=.type "range",data:=.fields #[.int lo t,.int hi u,.int 1 v] }).objs.size,[(s.heap.push { cls:=.type "range",data:=.fields #[.int lo t,.int hi u,.int 1 v] }).objs.size],_,_,H,rfl,
   I1.kept (t':=tk) fun b o e=>Heap.get?_push_of_some _ e,Xph _ lo (hi-lo).toNat,?_,fun b hb=>?_,q⟩
 · have e1:lo+((0:Nat):Int)*1=lo:=by simp
   have e2:(((hi-lo).toNat:Nat):Int)-((0:Nat):Int)=Builtin.Range.rangeSize lo hi 1:=by rw[rangeSize_one];split <;> omega
   show IsRangeIter _ _ (lo+((0:Nat):Int)*1) ((((hi-lo).toNat:Nat):Int)-((0:Nat):Int)) 1
   rw[e1,e2]
   exact Heap.get?_push_size _ rfl
 · have e:b=(s.heap.push { cls:=.type "range",data:=.fields #[.int lo t,.int hi u,.int 1 v] }).objs.size:=by simpa using hb
   subst e
   exact I1.fpOk (Nat.le_refl _) (I1.hok.fresh (Nat.le_refl _))
def XOx (ta:TA):TI:=fun σ H R=>ta σ H fun vs H1=>∃j:Int,vs=[.int j]∧-(2^62)≤j∧j<2^62∧R (Itr 0 j.toNat) H1
theorem Xlc {a:Expr}{ta:TA}{p pos:Pos}(hg:Gl X "range")(hm:X.mg "range"=none)(ha:PA X [a] ta)(hs:starEach [a] X.env=[(false,eval a X.env)]:=by rfl):PI X tg (.Call (.Name "range" p) [a] [] pos) (XOx ta):=by
 intro pins s σ H R I h
 refine Call_ (Xol I hg hm boot_range (PyProof.Rows.callWith_type1 (thn (ha pos pins s σ H _ I h) fun us s1 ⟨vs,H1,I1,r1,q1⟩=>?_) hs rfl))
 obtain⟨j,e,q1,q2,q⟩:=q1
 subst e
 cases r1 with
 | cons r rr =>
   cases rr
   obtain⟨t,rfl⟩:=r
   exact call_range_1 (Xvl I1 (by omega) (by omega) q1 q2 (by simpa using q))
def tFor (wi:TI)(g:TG)(tb:TS):TS:=fun D σ H=>wi σ H fun J H1=>∃W:Nat→Nat→St→Hp→Prop,(∃m,W 0 m σ H1)∧∀i m σ H,W i m σ H →
 (J.stop i H∧D.nx σ H)∨(J.go i H∧∃N:St→Hp→Prop,(∀σ' H',N σ' H'→∃m',m'<m∧W (i+1) m' σ' H')∧∀x H',J.yld i H x H'→g x σ H' fun σ2 H2=>tb { D with nx:=N,ct:=N,bk:=D.nx } σ2 H2)
def Xku (fp:List Addr)(h:Heap):List (Addr×Obj):=fp.filterMap fun b=>(h.get? b).map fun o=>(b,o)
theorem Xez {fp:List Addr}{h:Heap}{b:Addr}{o:Obj}(hb:b∈fp)(e:h.get? b=some o):(b,o)∈Xku fp h:=List.mem_filterMap.mpr ⟨b,hb,by rw[e];rfl⟩
theorem Xqi {fp:List Addr}{h:Heap}{p:Addr×Obj}(hp:p∈Xku fp h):p.1∈fp∧h.get? p.1=some p.2:=by
 obtain⟨b,hb,e⟩:=List.mem_filterMap.mp hp
 cases q:h.get? b with
 | none=>rw[q] at e;cases e
 | some o =>
   rw[q] at e
   have e':(b,o)=p:=Option.some.inj e
   subst e'
   exact⟨hb,q⟩
theorem Inv.pinned {pins:List (Addr×Obj)}{σ:St}{H:Hp}{s:Shared}{fp:List Addr}(I:Inv X pins σ H s)(hf:∀b∈fp,FpOk X pins H b)(ho:∀b∈fp,∃o,s.heap.get? b=some o∧∀v,o.data≠.cell v):Inv X (pins++Xku fp s.heap) σ H s :=
 I.pins_of fun p hp=>(List.mem_append.mp hp).elim (fun z=>I.pin p (List.mem_append_right _ z)) fun z=>by
   obtain⟨hb,e⟩:=Xqi z
   obtain⟨f0,f1,f2,_⟩:=hf p.1 hb
   obtain⟨o,e',d⟩:=ho p.1 hb
   rw[e] at e';cases e'
   exact⟨e,f0,f1,f2,d⟩
theorem Inv.unpinned {pins pl:List (Addr×Obj)}{σ:St}{H:Hp}{s:Shared}(I:Inv X (pins++pl) σ H s):Inv X pins σ H s:=I.pins_of fun p hp=>I.pin p (List.mem_append_right _ (List.mem_append_left _ hp))
theorem Xel {iter:Expr}{body:List Stmt}{wi:TI}{g:TG}{tb:TS}{pos:Pos}(hp:PassesOwn (model X.prog X.w) X.A X.env X.xe)(hc:X.calm=true)(hi:PI X tg iter wi)(hg:PG X tg g)(hb:PSs X body tb)
   (hs:∀x,foldedSetIterable iter X.env x=pure x:=by intro _;rfl):PS X (.For tg iter body [] pos) (tFor wi g tb):=by
 intro pins s σ H D I h
 refine wpAny_For (thn (hi pins s σ H _ I h) fun v s1 h1=>thn h1 fun itv s2 h2=>?_) hs
 obtain⟨it,fp,tn,J,H2,e,I2,T,st2,f2,W,⟨m0,w0⟩,turn⟩:=h2
 subst e
 -- what stays true of the iterator's objects through the loop
 have stat:∀{H':Hp},(∀b∈fp,H' b=none)→∀b∈fp,FpOk X pins H' b:=fun hn b hb=>⟨hn b hb,(f2 b hb).2⟩
 refine codeAny_forLoop_any (fun n s'=>∃i σ' H',Inv X pins σ' H' s'∧tn i s'.heap∧(∀b∈fp,H' b=none)∧W i n σ' H') ?_ m0 ⟨0,σ,H2,I2,st2,fun b hb=>(f2 b hb).1,w0⟩
 rintro n s3 ⟨i,σ3,H3,I3,st3,fr3,w3⟩
 rcases turn i n σ3 H3 w3 with ⟨stop,qn⟩ | ⟨go,N,hN,step⟩
 · refine wpAny_passesOwn hp (thn (T.done X rfl rfl rfl hc i pins s3 σ3 H3 X.xe I3 (stat fr3) st3 stop) fun r s4 ⟨hr,I4⟩=>?_)
   subst hr
   exact wpAny_execs_nil ⟨σ3,H3,I4,qn⟩
 · refine wpAny_passesOwn hp (thn (T.item X rfl rfl rfl hc i pins s3 σ3 H3 X.xe I3 (stat fr3) st3 go) fun r s4 ⟨u,hr,h4⟩=>?_)
   subst hr
   refine wpAny_passesOwn hp (thn h4 fun _ s5 ⟨x,H5,I5,r5,y5,st5,fr5⟩=>?_)
   have I5':=I5.pinned (stat fr5) (T.obj _ _ st5)
   refine wpAny_passesOwn hp (thn (hg _ s5 σ3 H5 x u _ I5' r5 (step x H5 y5)) fun _ s6 ⟨σ6,H6,I6,q6⟩=>?_)
   refine wpAny_passesOwn hp (thn (hb _ s6 σ6 H6 _ I6 q6) fun f s7 q7=>?_)
   have again:∀{σ7:St} {H7:Hp},Inv X (pins++Xku fp s5.heap) σ7 H7 s7→N σ7 H7→∃m,m<n∧∃i σ' H',Inv X pins σ' H' s7∧tn i s7.heap∧(∀b∈fp,H' b=none)∧W i m σ' H':=fun {σ7 H7} I7 n7=>by
     obtain⟨m',hm,w7⟩:=hN σ7 H7 n7
     refine⟨m',hm,i+1,σ7,H7,I7.unpinned,T.keep _ _ _ st5 fun b hb o e=>(I7.pin (b,o) (List.mem_append_right _ (List.mem_append_right _ (Xez hb e)))).1,fun b hb=>?_,w7⟩
     obtain⟨o,e,d⟩:=T.obj _ _ st5 b hb
     exact(I7.pin (b,o) (List.mem_append_right _ (List.mem_append_right _ (Xez hb e)))).2.1
   cases f with
   | next=>obtain⟨σ7,H7,I7,n7⟩:=q7;exact again I7 n7
   | cont=>obtain⟨σ7,H7,I7,n7⟩:=q7;exact again I7 n7
   | brk=>obtain⟨σ7,H7,I7,q7⟩:=q7;exact⟨σ7,H7,I7.unpinned,q7⟩
   | ret v=>obtain⟨x7,σ7,H7,I7,r7,q7⟩:=q7;exact⟨x7,σ7,H7,I7.unpinned,r7,q7⟩
end
theorem Xdn {K:PySem.W.Frag}{a:Addr}{xs:List V}{g:TG}{tb:TS}{D:Ends}{σ:St}{H:Hp}(Pv:Nat→St→Hp→Prop)(h0:Pv 0 σ H)(hl:∀i σ H,i≤xs.length→Pv i σ H→SqL K H a xs)
   (hs:∀i x σ H,xs[i]?=some x→Pv i σ H→g x σ H fun σ2 H2=>tb { D with nx:=Pv (i+1),ct:=Pv (i+1),bk:=D.nx } σ2 H2) (hd:∀σ H,Pv xs.length σ H→D.nx σ H) :
   ∃W:Nat→Nat→St→Hp→Prop,(∃m,W 0 m σ H)∧∀i m σ H,W i m σ H →
     ((Itl K a).stop i H∧D.nx σ H)∨((Itl K a).go i H∧∃N:St→Hp→Prop,(∀σ' H',N σ' H'→∃m',m'<m∧W (i+1) m' σ' H')∧∀x H',(Itl K a).yld i H x H'→g x σ H' fun σ2 H2=>tb { D with nx:=N,ct:=N,bk:=D.nx } σ2 H2):=by
 refine⟨fun i m σ H=>m=xs.length-i∧i≤xs.length∧Pv i σ H,⟨xs.length,by simp,Nat.zero_le _,h0⟩,?_⟩
 rintro i m σ H ⟨rfl,hi,p⟩
 have q:=hl i σ H hi p
 by_cases hlt:i<xs.length
 · refine .inr ⟨⟨xs,xs[i],q,by simp [hlt]⟩,Pv (i+1),fun σ' H' p'=>⟨xs.length-(i+1),by omega,rfl,hlt,p'⟩,fun x H' y=>?_⟩
   obtain⟨e,y⟩:=y
   subst e
   exact hs i x σ _ (y xs q) p
 · have e:i=xs.length:=by omega
   subst e
   exact .inl ⟨⟨xs,q,Nat.le_refl _⟩,hd σ H p⟩
theorem Xmf {lo:Int}{n:Nat}{g:TG}{tb:TS}{D:Ends}{σ:St}{H:Hp}(Pv:Nat→St→Hp→Prop)(h0:Pv 0 σ H)
   (hs:∀i σ H,i<n→Pv i σ H→g (.int (lo+i)) σ H fun σ2 H2=>tb { D with nx:=Pv (i+1),ct:=Pv (i+1),bk:=D.nx } σ2 H2) (hd:∀σ H,Pv n σ H→D.nx σ H) :
   ∃W:Nat→Nat→St→Hp→Prop,(∃m,W 0 m σ H)∧∀i m σ H,W i m σ H →
     ((Itr lo n).stop i H∧D.nx σ H)∨((Itr lo n).go i H∧∃N:St→Hp→Prop,(∀σ' H',N σ' H'→∃m',m'<m∧W (i+1) m' σ' H')∧∀x H',(Itr lo n).yld i H x H'→g x σ H' fun σ2 H2=>tb { D with nx:=N,ct:=N,bk:=D.nx } σ2 H2):=by
 refine⟨fun i m σ H=>m=n-i∧i≤n∧Pv i σ H,⟨n,by simp,Nat.zero_le _,h0⟩,?_⟩
 rintro i m σ H ⟨rfl,hi,p⟩
 by_cases hlt:i<n
 · refine .inr ⟨hlt,Pv (i+1),fun σ' H' p'=>⟨n-(i+1),by omega,rfl,hlt,p'⟩,fun x H' y=>?_⟩
   obtain⟨e,y⟩:=y
   subst e y
   exact hs i σ _ hlt p
 · have e:i=n:=by omega
   subst e
   exact .inl ⟨Nat.le_refl _,hd σ H p⟩
end L2
namespace L2
open PySem PySem.Spec PyProof.Rows
abbrev R2:=V→V→Hp→VK→Prop
def OpR (X:Cx)(f:Value→Value→Sem Value)(r:R2):Prop :=
 ∀(pins:List (Addr×Obj)) (s:Shared) (σ:St) (H:Hp) (x y:V) (v u:Value) (Q:VK),Inv X pins σ H s→RelV x v→RelV y u→r x y H Q →
   wpAny (model X.prog X.w) X.A (f v u) (EP X pins σ Q) X.xe s
def UnR (X:Cx)(f:Value→Sem Value)(r:V→Hp→VK→Prop):Prop :=
 ∀(pins:List (Addr×Obj)) (s:Shared) (σ:St) (H:Hp) (x:V) (v:Value) (Q:VK),Inv X pins σ H s→RelV x v→r x H Q →
   wpAny (model X.prog X.w) X.A (f v) (EP X pins σ Q) X.xe s
def Xit (X:Cx)(f:Value)(r:List V→Hp→VK→Prop):Prop :=
 ∀(pins:List (Addr×Obj)) (s:Shared) (σ:St) (H:Hp) (xs:List V) (us:List Value) (Q:VK),Inv X pins σ H s→Vals xs us→r xs H Q →
   wpAny (model X.prog X.w) X.A (call f us) (EP X pins σ Q) X.xe s
def TruR (X:Cx)(r:V→Hp→(Bool→Hp→Prop)→Prop):Prop :=
 ∀(pins:List (Addr×Obj)) (s:Shared) (σ:St) (H:Hp) (x:V) (v:Value) (Q:Bool→Hp→Prop),Inv X pins σ H s→RelV x v→r x H Q →
   wpAny (model X.prog X.w) X.A (truthy v) (TP X pins σ Q) X.xe s
def tOp (r:R2)(ta tb:TE):TE:=fun σ H Q=>ta σ H fun x H1=>tb σ H1 fun y H2=>r x y H2 Q
def tUn (r:V→Hp→VK→Prop)(ta:TE):TE:=fun σ H Q=>ta σ H fun x H1=>r x H1 Q
def rI (C:Int→Int→Prop)(g:Int→Int→V):R2:=fun x y H Q=>∃i j,x = .int i∧y = .int j∧C i j∧Q (g i j) H
def rI0 (g:Int→Int→V):R2:=fun x y H Q=>∃i j,x = .int i∧y = .int j∧Q (g i j) H
def rU (g:Int→V):V→Hp→VK→Prop:=fun x H Q=>∃i,x = .int i∧Q (g i) H
section
variable {X:Cx}{a b c:Expr}{ta tb tc:TE}{pos:Pos}
theorem binT (ha:PE X a ta)(hb:PE X b tb){pins:List (Addr×Obj)}{s:Shared}{σ:St}{H:Hp}{R:V→V→Hp→Prop}(I:Inv X pins σ H s)
   (h:ta σ H fun x H1=>tb σ H1 fun y H2=>R x y H2) {Q:Value→Shared→Prop} {f:Value→Value→Sem Value}
   (hf:∀v u s2 x y H2,Inv X pins σ H2 s2→RelV x v→RelV y u→R x y H2→wpAny (model X.prog X.w) X.A (f v u) Q X.xe s2) :
   wpAny (model X.prog X.w) X.A (eval a X.env) (fun v s₁=>wpAny (model X.prog X.w) X.A (eval b X.env) (fun u s₂=>wpAny (model X.prog X.w) X.A (f v u) Q X.xe s₂) X.xe s₁) X.xe s:=by
 refine thn (ha pins s σ H _ I h) fun v s1 ⟨x,H1,I1,r1,q1⟩=>?_
 refine thn (hb pins s1 σ H1 _ I1 q1) fun u s2 ⟨y,H2,I2,r2,q2⟩=>?_
 exact hf v u s2 x y H2 I2 r1 r2 q2
theorem Xal {op:Operator}{r:R2}(ho:OpR X (binaryOp op) r)(ha:PE X a ta)(hb:PE X b tb):PE X (.BinOp a op b pos) (tOp r ta tb):=by
 intro pins s σ H Q I h
 exact wpAny_BinOp (binT ha hb I h fun v u s2 x y H2 I2 rx ry q=>ho pins s2 σ H2 x y v u Q I2 rx ry q)
theorem Xnl {op:UnaryOp}{r:V→Hp→VK→Prop}(ho:UnR X (unaryOp op) r)(ha:PE X a ta):PE X (.UnaryOp op a pos) (tUn r ta):=by
 intro pins s σ H Q I h
 exact UnaryOp_ (thn (ha pins s σ H _ I h) fun v s1 ⟨x,H1,I1,r1,q1⟩=>ho pins s1 σ H1 x v Q I1 r1 q1)
theorem opI {f:Value→Value→Sem Value}{C:Int→Int→Prop}{g:Int→Int→Int}
   (rule:∀(i j:Int) (t u:Tok) (s:Shared) (Q:Value→Shared→Prop) (E:Value→Shared→Prop),C i j→Q (.int (g i j) s.toks) { s with toks:=s.toks+1 }→wpAny (model X.prog X.w) X.A (f (.int i t) (.int j u)) Q E s) :
   OpR X f (rI C fun i j=>.int (g i j)):=by
 intro pins s σ H x y v u Q I rx ry h
 obtain⟨i,j,rfl,rfl,hc,q⟩:=h
 obtain⟨t,rfl⟩:=rx
 obtain⟨t',rfl⟩:=ry
 exact rule i j t t' s _ _ hc ⟨.int (g i j),H,I.tok _,⟨_,rfl⟩,q⟩
theorem opI0 {f:Value→Value→Sem Value}{g:Int→Int→Int}
   (rule:∀(i j:Int) (t u:Tok) (s:Shared) (Q:Value→Shared→Prop) (E:Value→Shared→Prop),Q (.int (g i j) s.toks) { s with toks:=s.toks+1 }→wpAny (model X.prog X.w) X.A (f (.int i t) (.int j u)) Q E s) :
   OpR X f (rI0 fun i j=>.int (g i j)):=by
 intro pins s σ H x y v u Q I rx ry h
 obtain⟨i,j,rfl,rfl,q⟩:=h
 obtain⟨t,rfl⟩:=rx
 obtain⟨t',rfl⟩:=ry
 exact rule i j t t' s _ _ ⟨.int (g i j),H,I.tok _,⟨_,rfl⟩,q⟩
theorem opB0 {f:Value→Value→Sem Value}{g:Int→Int→Bool}
   (rule:∀(i j:Int) (t u:Tok) (s:Shared) (Q:Value→Shared→Prop) (E:Value→Shared→Prop),Q (.bool (g i j)) s→wpAny (model X.prog X.w) X.A (f (.int i t) (.int j u)) Q E s) :
   OpR X f (rI0 fun i j=>.bl (g i j)):=by
 intro pins s σ H x y v u Q I rx ry h
 obtain⟨i,j,rfl,rfl,q⟩:=h
 obtain⟨t,rfl⟩:=rx
 obtain⟨t',rfl⟩:=ry
 exact rule i j t t' s _ _ ⟨.bl (g i j),H,I,rfl,q⟩
def CDiv (i j:Int):Prop:=0<j∧j<1073741824
def CPow (i j:Int):Prop:=0≤j∧j≤1000000∧i.natAbs<2^64
def CMul (i j:Int):Prop:=(-(2^64)<i∧i<2^64)∨(-(2^64)<j∧j<2^64)
theorem CMul.ok {i j:Int}(h:CMul i j):IntMulOk i j:=by
 rcases h with ⟨h1,h2⟩ | ⟨h1,h2⟩
 · exact .of_left (intBits_le_64 h1 h2)
 · exact .of_right (intBits_le_64 h1 h2)
theorem Xpg (k:Nat):(0:Int)≤2^k:=by
 rw[two_pow_cast]
 exact Int.natCast_nonneg _
theorem Xbb:OpR X (binaryOp .Add) (rI0 fun i j=>.int (i+j)):=opI0 fun _ _ _ _ _ _ _ q=>add_int q
theorem Xcx:OpR X (binaryOp .Sub) (rI0 fun i j=>.int (i-j)):=opI0 fun _ _ _ _ _ _ _ q=>sub_int q
theorem Xfi:OpR X (binaryOp .Mult) (rI CMul fun i j=>.int (i*j)):=opI fun _ _ _ _ _ _ _ hc q=>mul_int q hc.ok
theorem Xmj:OpR X (binaryOp .FloorDiv) (rI CDiv fun i j=>.int (i/j)):=opI fun i j _ _ _ _ _ hc q=>by
 have h1:(0:Int)<j:=hc.1
 have h2:j<1073741824:=hc.2
 exact floordiv_int (by omega) (by rw[Int.fdiv_eq_ediv_of_nonneg i (by omega)];exact q) (.inl (PyProof.noPylong_small (by omega)))
theorem Xbu:OpR X (binaryOp .Mod) (rI (fun _ j=>0<j) fun i j=>.int (i%j)):=opI fun i j _ _ _ _ _ hc q=>by
 have h1:(0:Int)<j:=hc
 exact mod_int' (by omega) (by rw[Int.fmod_eq_emod_of_nonneg i (by omega)];exact q)
theorem XAj:OpR X (binaryOp .Pow) (rI CPow fun i j=>.int (i^j.toNat)):=opI fun _ _ _ _ _ _ _ hc q=>pow_int_small hc.1 hc.2.1 hc.2.2 q
theorem XPa:OpR X (binaryOp .RShift) (rI (fun _ j=>0≤j) fun i j=>.int (i/2^j.toNat)):=opI fun i j _ _ _ _ _ hc q =>
 rshift_int hc (by rw[Int.fdiv_eq_ediv_of_nonneg i (Xpg _)];exact q)
theorem XLs:OpR X (binaryOp .BitAnd) (rI0 fun i j=>.int (Builtin.bitAnd i j)):=opI0 fun _ _ _ _ _ _ _ q=>and_int q
theorem XSs:OpR X (binaryOp .BitOr) (rI0 fun i j=>.int (Builtin.bitOr i j)):=opI0 fun _ _ _ _ _ _ _ q=>or_int q
theorem unI {f:Value→Sem Value}{g:Int→Int}
   (rule:∀(i:Int) (t:Tok) (s:Shared) (Q:Value→Shared→Prop) (E:Value→Shared→Prop),Q (.int (g i) s.toks) { s with toks:=s.toks+1 }→wpAny (model X.prog X.w) X.A (f (.int i t)) Q E s) :
   UnR X f (rU fun i=>.int (g i)):=by
 intro pins s σ H x v Q I rx h
 obtain⟨i,rfl,q⟩:=h
 obtain⟨t,rfl⟩:=rx
 exact rule i t s _ _ ⟨.int (g i),H,I.tok _,⟨_,rfl⟩,q⟩
theorem Xie:UnR X (unaryOp .USub) (rU fun i=>.int (-i)):=unI fun _ _ _ _ _ q=>neg_int q
end
def scal:V→V→Bool
 | .non,.non=>true | .non,.int _=>true | .int _,.non=>true | .non,.bl _=>true | .bl _,.non=>true | .non,.str _=>true | .str _,.non=>true
 | .int _,.int _=>true | .bl _,.bl _=>true | .str _,.str _=>true | .byt _,.byt _=>true
 | .int _,.str _=>true | .str _,.int _=>true | .bl _,.str _=>true | .str _,.bl _=>true
 | _,_=>false
def rEq:R2:=fun x y H Q=>scal x y=true∧Q (.bl (decide (x=y))) H
def rNe:R2:=fun x y H Q=>scal x y=true∧Q (.bl (!decide (x=y))) H
theorem Xjp {i j:Int}:decide (V.int i=V.int j)=(i==j):=by
 rw[Bool.eq_iff_iff]
 simp
theorem XAq {i j:Bool}:decide (V.bl i=V.bl j)=(i==j):=by
 rw[Bool.eq_iff_iff]
 simp
theorem Xno {i j:Str}:decide (V.str i=V.str j)=(i==j):=by
 rw[Bool.eq_iff_iff]
 simp
theorem Xqp {i j:Array UInt8}:decide (V.byt i=V.byt j)=(i.toList==j.toList):=by
 rw[Bool.eq_iff_iff]
 cases i
 cases j
 simp
section
variable {X:Cx}{a b c:Expr}{ta tb tc:TE}{pos:Pos}
theorem Xbm {pins:List (Addr×Obj)}{σ:St}{H:Hp}{s:Shared}{Q:VK}{k k':Bool}(I:Inv X pins σ H s)(q:Q (.bl k) H)(e:k=k'):EP X pins σ Q (.bool k') s:=by
 subst e
 exact⟨.bl k,H,I,rfl,q⟩
theorem Xfl:OpR X (compareOp .Eq) rEq:=by
 intro pins s σ H x y v u Q I rx ry h
 obtain⟨hs,q⟩:=h
 cases x with
 | non =>
   cases rx
   cases y with
   | non=>cases ry;exact PySem.EqNone.eq_none_none (Xbm I q (by simp))
   | bl j=>cases ry;exact PySem.EqNone.eq_none_bool (Xbm I q (by simp))
   | int j=>obtain⟨t',rfl⟩:=ry;exact PySem.EqNone.eq_none_int (Xbm I q (by simp))
   | str j=>obtain⟨t',rfl⟩:=ry;exact PySem.EqNone.eq_none_str (Xbm I q (by simp))
   | _=>exact absurd (show false=true from hs) Bool.false_ne_true
 | bl i =>
   cases rx
   cases y with
   | non=>cases ry;exact PySem.EqNone.eq_bool_none (Xbm I q (by simp))
   | bl j=>cases ry;exact eq_bool (Xbm I q XAq)
   | str j=>obtain⟨t',rfl⟩:=ry;exact PySem.EqMixed.eq_bool_str (Xbm I q (by simp))
   | _=>exact absurd (show false=true from hs) Bool.false_ne_true
 | int i =>
   obtain⟨t,rfl⟩:=rx
   cases y with
   | non=>cases ry;exact PySem.EqNone.eq_int_none (Xbm I q (by simp))
   | int j=>obtain⟨t',rfl⟩:=ry;exact eq_int (Xbm I q Xjp)
   | str j=>obtain⟨t',rfl⟩:=ry;exact PySem.EqMixed.eq_int_str (Xbm I q (by simp))
   | _=>exact absurd (show false=true from hs) Bool.false_ne_true
 | str i =>
   obtain⟨t,rfl⟩:=rx
   cases y with
   | non=>cases ry;exact PySem.EqNone.eq_str_none (Xbm I q (by simp))
   | bl j=>cases ry;exact PySem.EqMixed.eq_str_bool (Xbm I q (by simp))
   | int j=>obtain⟨t',rfl⟩:=ry;exact PySem.EqMixed.eq_str_int (Xbm I q (by simp))
   | str j=>obtain⟨t',rfl⟩:=ry;exact eq_str (Xbm I q Xno)
   | _=>exact absurd (show false=true from hs) Bool.false_ne_true
 | byt i =>
   obtain⟨t,rfl⟩:=rx
   cases y with
   | byt j=>obtain⟨t',rfl⟩:=ry;exact PySem.W.eq_bytes (Xbm I q Xqp)
   | _=>exact absurd (show false=true from hs) Bool.false_ne_true
 | _=>cases y <;> exact absurd (show false=true from hs) Bool.false_ne_true
theorem Xkn:OpR X (compareOp .NotEq) rNe:=by
 intro pins s σ H x y v u Q I rx ry h
 obtain⟨hs,q⟩:=h
 cases x with
 | non =>
   cases rx
   cases y with
   | non=>cases ry;exact PySem.EqNone.ne_none_none (Xbm I q (by simp))
   | bl j=>cases ry;exact PySem.EqNone.ne_none_bool (Xbm I q (by simp))
   | int j=>obtain⟨t',rfl⟩:=ry;exact PySem.EqNone.ne_none_int (Xbm I q (by simp))
   | str j=>obtain⟨t',rfl⟩:=ry;exact PySem.EqNone.ne_none_str (Xbm I q (by simp))
   | _=>exact absurd (show false=true from hs) Bool.false_ne_true
 | bl i =>
   cases rx
   cases y with
   | non=>cases ry;exact PySem.EqNone.ne_bool_none (Xbm I q (by simp))
   | bl j=>cases ry;exact ne_bool (Xbm I q (congrArg not XAq))
   | str j=>obtain⟨t',rfl⟩:=ry;exact PySem.EqMixed.ne_bool_str (Xbm I q (by simp))
   | _=>exact absurd (show false=true from hs) Bool.false_ne_true
 | int i =>
   obtain⟨t,rfl⟩:=rx
   cases y with
   | non=>cases ry;exact PySem.EqNone.ne_int_none (Xbm I q (by simp))
   | int j=>obtain⟨t',rfl⟩:=ry;exact ne_int (Xbm I q (congrArg not Xjp))
   | str j=>obtain⟨t',rfl⟩:=ry;exact PySem.EqMixed.ne_int_str (Xbm I q (by simp))
   | _=>exact absurd (show false=true from hs) Bool.false_ne_true
 | str i =>
   obtain⟨t,rfl⟩:=rx
   cases y with
   | non=>cases ry;exact PySem.EqNone.ne_str_none (Xbm I q (by simp))
   | bl j=>cases ry;exact PySem.EqMixed.ne_str_bool (Xbm I q (by simp))
   | int j=>obtain⟨t',rfl⟩:=ry;exact PySem.EqMixed.ne_str_int (Xbm I q (by simp))
   | str j=>obtain⟨t',rfl⟩:=ry;exact ne_str (Xbm I q (congrArg not Xno))
   | _=>exact absurd (show false=true from hs) Bool.false_ne_true
 | byt i =>
   obtain⟨t,rfl⟩:=rx
   cases y with
   | byt j=>obtain⟨t',rfl⟩:=ry;exact PySem.W.ne_bytes (Xbm I q (congrArg not Xqp))
   | _=>exact absurd (show false=true from hs) Bool.false_ne_true
 | _=>cases y <;> exact absurd (show false=true from hs) Bool.false_ne_true
theorem Xfk:OpR X (compareOp .Lt) (rI0 fun i j=>.bl (decide (i<j))):=opB0 fun _ _ _ _ _ _ _ q=>lt_int q
theorem XOk:OpR X (compareOp .LtE) (rI0 fun i j=>.bl (decide (i≤j))):=opB0 fun _ _ _ _ _ _ _ q=>le_int q
theorem Xke:OpR X (compareOp .Gt) (rI0 fun i j=>.bl (decide (j<i))):=opB0 fun _ _ _ _ _ _ _ q=>gt_int q
theorem XDi:OpR X (compareOp .GtE) (rI0 fun i j=>.bl (decide (j≤i))):=opB0 fun _ _ _ _ _ _ _ q=>ge_int q
theorem Xnq:OpR X (compareOp .Is) (fun x y H Q=>y = .non∧Q (.bl (decide (x = .non))) H):=by
 intro pins s σ H x y v u Q I rx ry h
 obtain⟨rfl,q⟩:=h
 cases ry
 refine is_none_gen (Xbm I q ?_)
 cases x <;> first
   | (cases rx;rfl)
   | (obtain⟨t,rfl⟩:=rx;rfl)
theorem Xkj:OpR X (compareOp .IsNot) (fun x y H Q=>y = .non∧Q (.bl (!decide (x = .non))) H):=by
 intro pins s σ H x y v u Q I rx ry h
 obtain⟨rfl,q⟩:=h
 cases ry
 refine isnot_none_gen (Xbm I q ?_)
 cases x <;> first
   | (cases rx;rfl)
   | (obtain⟨t,rfl⟩:=rx;rfl)
theorem Xao (b:Expr){op:CmpOp}(h:op≠.In:=by decide)(h2:op≠.NotIn:=by decide):behindInMarks op b=false:=by
 have e1:(op==CmpOp.In)=false:=by cases op <;> first | rfl | exact absurd rfl h
 have e2:(op==CmpOp.NotIn)=false:=by cases op <;> first | rfl | exact absurd rfl h2
 cases b <;> simp [behindInMarks,e1,e2]
theorem Xih {op:CmpOp}{r:R2}(ho:OpR X (compareOp op) r)(ha:PE X a ta)(hb:PE X b tb)(hm:behindInMarks op b=false):PE X (.Compare a [op] [b] pos) (tOp r ta tb):=by
 intro pins s σ H Q I h
 exact wpAny_Compare1 (binT ha hb I h fun v u s2 x y H2 I2 rx ry q=>ho pins s2 σ H2 x y v u Q I2 rx ry q) hm
def XMs (t:TE):TT:=fun σ H Q=>t σ H fun x H'=>∃k,x = .bl k∧Q k H'
theorem Xaj {op:CmpOp}{r:R2}(ho:OpR X (compareOp op) r)(ha:PE X a ta)(hb:PE X b tb)(hm:behindInMarks op b=false):PT X (.Compare a [op] [b] pos) (XMs (tOp r ta tb)):=by
 intro pins s σ H Q I h
 refine wpAny_isTrue_Compare1 (thn (ha pins s σ H _ I h) fun v s1 ⟨x,H1,I1,r1,q1⟩=>thn (hb pins s1 σ H1 _ I1 q1) fun u s2 ⟨y,H2,I2,r2,q2⟩ =>
   thn (ho pins s2 σ H2 x y v u _ I2 r1 r2 q2) fun c s3 ⟨z,H3,I3,r3,k,e,q3⟩=>?_) hm
 subst e
 cases r3
 exact wpAny_truthy_bool ⟨H3,I3,q3⟩
def TruV (K:PySem.W.Frag)(x:V)(H:Hp)(k:Bool):Prop :=
 match x with
 | .non=>k=false
 | .bl b=>k=b
 | .int i=>k=(i != 0)
 | .str y=>y.length≤sizeLine∧k=((y.length:Int) != 0)
 | .byt y=>y.size≤sizeLine∧k=((y.size:Int) != 0)
 | .ref p=>(∃xs,SqL K H p xs∧k = !xs.isEmpty)∨(∃xs,SqT K H p xs∧k = !xs.isEmpty)∨∃kvs,H p=some (.dK kvs)∧k = !kvs.isEmpty
 | _=>False
theorem Xov {κ:Type}{kvs:List (κ×V)}{vs:List (κ×Value)}(r:KV kvs vs):(!vs.isEmpty) = !kvs.isEmpty:=by
 cases r <;> rfl
theorem Xjm {xs:List V}{its:List Value}(r:Vals xs its):(!its.toArray.isEmpty) = !xs.isEmpty:=by
 cases r <;> simp
theorem Xkz:(sizeLine:Nat)<2^63:=by rw[sizeLine_eq];decide
theorem XKv:TruR X (fun x H Q=>∃k,TruV X.K x H k∧Q k H):=by
 intro pins s σ H x v Q I rx h
 obtain⟨k,e,q⟩:=h
 have hl:=Xkz
 have hs:sizeLine=16777216:=sizeLine_eq
 cases x with
 | non =>
   cases rx
   have e':k=false:=e
   subst e'
   exact truthy_none ⟨H,I,q⟩
 | bl b =>
   cases rx
   have e':k=b:=e
   subst e'
   exact wpAny_truthy_bool ⟨H,I,q⟩
 | int i =>
   obtain⟨t,rfl⟩:=rx
   have e':k=(i != 0):=e
   subst e'
   exact PySem.P.truthy_int ⟨H,I,q⟩
 | str y =>
   obtain⟨t,rfl⟩:=rx
   obtain⟨hy,e'⟩:y.length≤sizeLine∧k=((y.length:Int) != 0):=e
   subst e'
   exact PySem.P.truthy_str (by omega) ⟨H,I.tok _,q⟩
 | byt y =>
   obtain⟨t,rfl⟩:=rx
   obtain⟨hy,e'⟩:y.size≤sizeLine∧k=((y.size:Int) != 0):=e
   subst e'
   exact PySem.W.truthy_bytes (by omega) ⟨H,I.tok _,q⟩
 | ref p =>
   cases rx
   have e':(∃xs,SqL X.K H p xs∧k = !xs.isEmpty)∨(∃xs,SqT X.K H p xs∧k = !xs.isEmpty)∨∃kvs,H p=some (.dK kvs)∧k = !kvs.isEmpty:=e
   rcases e' with ⟨xs,hx,e'⟩ | ⟨xs,hx,e'⟩ | ⟨kvs,hx,e'⟩
   · subst e'
     obtain⟨its,r,pl,hz⟩:=I.list hx
     have hlen:=r.length
     exact wpAny_truthy_list pl.isList (by simp only [List.size_toArray];omega) ⟨H,I.tok _,by rw[Xjm r];exact q⟩
   · subst e'
     obtain⟨its,r,pl,hz⟩:=I.tuple hx
     have hlen:=r.length
     exact truthy_tuple pl (by simp only [List.size_toArray];omega) ⟨H,I.tok _,by rw[Xjm r];exact q⟩
   · subst e'
     obtain⟨hz,hS,vs,r,m⟩:kvs.length≤sizeLine∧(p==sysModules)=false∧∃vs,KV kvs vs∧s.heap.DictOf (Xbo X.prog X.w) p vs:=I.hok p _ hx
     have hlen:kvs.length=vs.length:=Paired.length r
     exact wpAny_truthy_dict hS m (by omega) ⟨H,I.tok _,by rw[Xov r];exact q⟩
 | _=>exact(show False from e).elim
theorem Xcd (ha:PE X a ta)(he:∀whole,isTrue a X.env whole=(do let v ←whole;standAt a.pos;holding [v] (truthy v))) :
   PT X a (fun σ H Q=>ta σ H fun x H'=>∃k,TruV X.K x H' k∧Q k H'):=by
 intro pins s σ H Q I h
 exact isTrue_plain (thn (ha pins s σ H _ I h) fun v s1 ⟨x,H1,I1,r1,q1⟩=>XKv pins s1 σ H1 x v Q I1 r1 q1) (he _)
theorem Xvp {x:V}{us:List Value}(r:Vals [x] us):∃u,us=[u]∧RelV x u:=by
 cases r with
 | cons r1 r2=>cases r2;exact⟨_,rfl,r1⟩
theorem XHh {x y:V}{us:List Value}(r:Vals [x,y] us):∃u w',us=[u,w']∧RelV x u∧RelV y w':=by
 cases r with
 | cons r1 r2 =>
   cases r2 with
   | cons r3 r4=>cases r4;exact⟨_,_,rfl,r1,r3⟩
theorem Xsk (hc:X.calm=true):Xit X (.builtin "min") (fun xs H Q=>∃i j,xs=[.int i,.int j]∧Q (.int (if j<i then j else i)) H):=by
 intro pins s σ H xs us Q I r h
 obtain⟨i,j,rfl,q⟩:=h
 obtain⟨u,w',rfl,⟨t,rfl⟩,⟨t',rfl⟩⟩:=XHh r
 refine min_two_ints (I.ok.hd hc) fun h' tk k=>⟨_,H,I.kept k,?_,q⟩
 by_cases hj:j<i
 · rw[if_pos hj,if_pos hj];exact⟨_,rfl⟩
 · rw[if_neg hj,if_neg hj];exact⟨_,rfl⟩
end
end L2
namespace L2
open PySem PySem.Spec PyProof.Rows
structure ObjM (h:Heap)(x dx C:Addr)(mA:Str→Option Value):Prop where
 obj:h.get? x=some (PySem.W.instObj C dx)
 ns:h.Ns1 dx mA
 ne:dx≠x
theorem Xto {h:Heap}{dx:Addr}{mA:Str→Option Value}(n:h.Ns1 dx mA):∃od,h.get? dx=some od∧∀name,PySem.W.lookIn name od=some (mA name):=by
 obtain⟨o,es,ep,ho,hd,hk,_,hm⟩:=n
 refine⟨o,ho,fun name=>?_⟩
 have e:=hm name
 unfold nsFind findBy at e
 rw[←Array.find?_toList] at e
 unfold PySem.W.lookIn
 rw[hd]
 dsimp only
 split
 · rename_i y q
   rw[q] at e
   exact congrArg some e
 · rename_i q
   rw[q] at e
   have a:es.toList.any (·.refKey)=false:=by
     rw[List.any_eq_false]
     intro y hy
     obtain⟨z,t,hkey⟩:=hk y (Array.mem_toList_iff.mp hy)
     simp [DictEntry.refKey,hkey]
   have a':¬es.toList.any (·.refKey)=true:=by rw[a];exact Bool.false_ne_true
   rw[if_neg a']
   exact congrArg some e
theorem ObjM.look {h:Heap}{x dx C:Addr}{mA:Str→Option Value}(I:ObjM h x dx C mA):∃od,PySem.W.InstAt h x (PySem.W.instObj C dx) C (some od)∧∀name,PySem.W.lookIn name od=some (mA name) :=
 let ⟨od,ho,hl⟩:=Xto I.ns
 ⟨od,⟨I.obj,rfl,rfl,ho⟩,hl⟩
section
variable {prog:Program}{w:World}{A:Around}{E:Value→Shared→Prop}{s:Shared}{K:PySem.W.Frag}{x dx C f:Addr}{mA:Str→Option Value}{name:Str}{v:Value}
theorem XJh {expr:Bool}{Q:Value→Shared→Prop}(X:K.In s.heap)(I:ObjM s.heap x dx C mA)(hg:PySem.W.plainGet K C name=true)(hh:PySem.W.hasDictIn K C=true)
   (ha:PySem.W.findIn K (.ref C) name=some none) (hv:mA name=some v) (hv':PySem.W.handedIn v=true) (h:Q v { s with toks:=s.toks+1 }) :
   wpAny (model prog w) A (getAttr (.ref x) name expr) Q E s:=by
 obtain⟨od,J,hl⟩:=I.look
 exact PySem.W.get_value X J (PySem.W.plainGet_of hg).1 (PySem.W.findObj_own hh ha rfl (by rw[hl,hv])) hv' h
theorem Xyx {pl:Sem Bool}{Q:Value×List Value→Shared→Prop}(X:K.In s.heap)(I:ObjM s.heap x dx C mA)(hg:PySem.W.plainGet K C name=true)
   (hf:PySem.W.findIn K (.ref C) name=some (some (.ref f))) (ht:PySem.W.isFn K (.ref f)=true) (hv:mA name=none) (h:Q (.ref f,[.ref x]) s) :
   wpAny (model prog w) A (getMethod (.ref x) name pl) Q E s:=by
 obtain⟨od,J,hl⟩:=I.look
 exact PySem.W.method_fn X J (PySem.W.plainGet_of hg).1 (PySem.W.plainGet_of hg).2 hf (beq_iff_eq.mp ht) (by show (PySem.W.lookIn name od).map (·.isSome)=some false;rw[hl,hv];rfl) h
theorem XHv {ns:List Str}{Q:Unit→Shared→Prop}(X:K.In s.heap)(I:ObjM s.heap x dx C mA)
   (hs:PySem.W.findIn K (.ref C) "__setattr__"=some (some (.builtin "object.__setattr__"))) (hp:PySem.W.plainOver K C=true) (ht:PySem.W.takerIn K C name=some none) (hh:PySem.W.hasDictIn K C=true)
   (hw:PySem.Within mA ns) (hsz:ns.length≤sizeLine)
   (h:∀h',ObjM h' x dx C (fun y=>if y=name then some v else mA y)→Heap.SameBut dx s.heap h'→Q () { s with heap:=h',toks:=s.toks+2 }) :
   wpAny (model prog w) A (setAttr (.ref x) name v) Q E s:=by
 obtain⟨od,J,hl⟩:=I.look
 refine PySem.W.set_plain X J hs (PySem.W.osa_open (s:={ s with toks:=s.toks+1 }) (r:=none) X J hp ht fun b=>?_)
 obtain⟨cd,hc,hd'⟩:=PySem.W.any_some hh
 have hx:s.heap.get? x=some ⟨.ref C,some dx,.plain,#[]⟩:=I.obj
 refine wpAny_bind (wpAny_pure (wpAny_bind (wpAny_bind (wpAny_loadPart hx (wpAny_bind (PySem.W.Looks.here (s:={ s with toks:=s.toks+1 }) (PySem.W.looks_clsIn X hc) ?_))))))
 rw[hd']
 refine wpAny_pure (a:=some dx) (wpAny_bind (wpAny_pure (wpAny_bind ?_)))
 refine wpAny_nsSet1 (s:={ s with toks:=s.toks+1 }) I.ns fun h' hn2 hs2=>?_
 obtain⟨oD,esD,epD,hoD,hdD,hcD⟩:=hn2.count (PySem.Within.cons name v hw)
 refine wpAny_bind (wpAny_lookBehind hoD (by rw[hdD];exact pastItsLine_dict (Nat.le_trans hcD (by rw[List.length_cons];omega))) ?_)
 exact wpAny_pure (h _ ⟨(hs2.2 _ (Ne.symm I.ne)).trans I.obj,hn2,I.ne⟩ hs2)
theorem Xvk {R:Result→Shared→Prop}{vs:List Value}{kw:List (Str×Value)}(X:K.In s.heap)(hm:PySem.W.makesIn K C=true)
   (hi:PySem.W.findIn K (.ref C) "__init__"=some (some (.ref f))) (hf:PySem.W.typeIn K (.ref f)=some (.type "function"))
   (h:codeAny (model prog w) (A.under (.builtin "type.__call__" ⟨.ref C::vs,kw⟩)) (.call (.ref f) ⟨.ref (s.heap.objs.size+1)::vs,kw⟩) (PySem.W.InitBack (s.heap.objs.size+1) R)
     { s with heap:=(s.heap.push PySem.W.emptyDict).push (PySem.W.instObj C s.heap.objs.size) }) :
   codeAny (model prog w) A (.call (.ref C) ⟨vs,kw⟩) R s:=by
 obtain⟨hh,g,d,t,os⟩:=s
 exact PySem.W.make_core (PySem.W.makes_of X hm) (PySem.W.looks_findIn X hi) (fun self=>PySem.W.bind_fn X self hf) (.inl rfl) h
end
def putF (f:Str)(v:V):List (Str×V)→List (Str×V)
 | []=>[(f,v)]
 | (g,x)::r=>if g=f then (g,v)::r else (g,x)::putF f v r
theorem Xin (f g:Str)(v:V):∀fs:List (Str×V),(putF f v fs).lookup g=if g=f then some v else fs.lookup g
 | []=>by
   show List.lookup g [(f,v)]=_
   by_cases h:g=f
   · have hb:(g==f)=true:=beq_iff_eq.mpr h
     simp only [List.lookup,hb,if_pos h]
   · have hb:(g==f)=false:=beq_eq_false_iff_ne.mpr h
     simp only [List.lookup,hb,if_neg h]
 | (k,x)::r=>by
   have ih:=Xin f g v r
   rw[show putF f v ((k,x)::r)=(if k=f then (k,v)::r else (k,x)::putF f v r) from rfl]
   by_cases hk:k=f
   · rw[if_pos hk]
     by_cases h:g=k
     · have hb:(g==k)=true:=beq_iff_eq.mpr h
       simp only [List.lookup,hb,if_pos (h.trans hk)]
     · have hb:(g==k)=false:=beq_eq_false_iff_ne.mpr h
       simp only [List.lookup,hb,if_neg (fun e:g=f=>h (e.trans hk.symm))]
   · rw[if_neg hk]
     by_cases h:g=k
     · have hb:(g==k)=true:=beq_iff_eq.mpr h
       simp only [List.lookup,hb,if_neg (fun e:g=f=>hk (h.symm.trans e))]
     · have hb:(g==k)=false:=beq_eq_false_iff_ne.mpr h
       simp only [List.lookup,hb]
       exact ih
theorem Xil (f:Str)(v:V):∀fs:List (Str×V),f∈(putF f v fs).map (·.1)∧∀g,g∈fs.map (·.1)→g∈(putF f v fs).map (·.1)
 | []=>⟨by simp [putF],fun g h=>by simp at h⟩
 | (k,x)::r=>by
   obtain⟨i1,i2⟩:=Xil f v r
   rw[show putF f v ((k,x)::r)=(if k=f then (k,v)::r else (k,x)::putF f v r) from rfl]
   by_cases hk:k=f
   · rw[if_pos hk]
     subst hk
     exact⟨by simp,fun g h=>by simpa using h⟩
   · rw[if_neg hk]
     refine⟨?_,fun g h=>?_⟩
     · rw[List.map_cons]
       exact List.mem_cons_of_mem _ i1
     · rw[List.map_cons] at h ⊢
       rcases List.mem_cons.mp h with e | e
       · exact List.mem_cons.mpr (.inl e)
       · exact List.mem_cons_of_mem _ (i2 g e)
theorem Xip (f:Str)(v:V):∀fs:List (Str×V),(putF f v fs).length≤fs.length+1
 | []=>by simp [putF]
 | (k,x)::r=>by
   have ih:=Xip f v r
   rw[show putF f v ((k,x)::r)=(if k=f then (k,v)::r else (k,x)::putF f v r) from rfl]
   by_cases hk:k=f
   · rw[if_pos hk,List.length_cons,List.length_cons];omega
   · rw[if_neg hk,List.length_cons,List.length_cons];omega
theorem RelO.some_of {v:V}{o:Option Value}(r:RelO (some v) o):∃u,o=some u∧RelV v u:=by
 cases o with
 | none=>exact(show False from r).elim
 | some u=>exact⟨u,rfl,r⟩
theorem RelO.none_of {o:Option Value}(r:RelO none o):o=none:=by
 cases o with
 | none=>rfl
 | some u=>exact(show False from r).elim
theorem Xqb {v:V}{u:Value}(r:RelV v u):PySem.W.handedIn u=true:=by
 cases v with
 | non=>cases (show u=Value.none from r);rfl
 | bl b=>cases (show u=Value.bool b from r);rfl
 | int i=>obtain⟨t,e⟩:=(show ∃t,u=Value.int i t from r);cases e;rfl
 | str x=>obtain⟨t,e⟩:=(show ∃t,u=Value.str x t from r);cases e;rfl
 | byt b=>obtain⟨t,e⟩:=(show ∃t,u=Value.bytes b t from r);cases e;rfl
 | flt b=>obtain⟨t,e⟩:=(show ∃t,u=Value.float b t from r);cases e;rfl
 | ref a=>cases (show u=Value.ref a from r);rfl
 | ty n=>cases (show u=Value.type n from r);rfl
section
variable {P:Program}{w:World}{H H':Hp}{h h':Heap}{a C dx:Addr}{fs fs':List (Str×V)}
theorem Xju (hok:HOk P w H h)(e:H a=some (.ins C dx fs)):∃mA,ObjM h a dx C mA∧(∀f,RelO (fs.lookup f) (mA f))∧PySem.Within mA (fs.map (·.1))∧fs.length≤1000∧H dx=some (.own a):=by
 obtain⟨d,z,ne,ob,mA,n,r,q⟩:=(show Xcj P w H h a (.ins C dx fs) from hok a _ e)
 exact⟨mA,⟨ob,n,ne⟩,r,q,z,d⟩
end
structure Cls (K:PySem.W.Frag)(C:Addr):Prop where
 pg:PySem.W.plainGet K C Str.empty=true
 hd:PySem.W.hasDictIn K C=true
 po:PySem.W.plainOver K C=true
 sa:PySem.W.findIn K (.ref C) "__setattr__"=some (some (.builtin "object.__setattr__"))
theorem Cls.get {K:PySem.W.Frag}{C:Addr}(c:Cls K C)(f:Str):PySem.W.plainGet K C f=true:=c.pg
def Xcp (K:PySem.W.Frag)(C:Addr)(f:Str):Prop:=PySem.W.findIn K (.ref C) f=some none
theorem Xcp.taker {K:PySem.W.Frag}{C:Addr}{f:Str}(n:Xcp K C f):PySem.W.takerIn K C f=some none:=by
 unfold PySem.W.takerIn
 rw[show PySem.W.findIn K (.ref C) f=some none from n]
 rfl
structure Con (K:PySem.W.Frag)(C:Addr)(f:Str)(v:V)(u:Value):Prop where
 at_:PySem.W.findIn K (.ref C) f=some (some u)
 rel:RelV v u
 get:PySem.W.specialIn K u "__get__"=some none
 cp:PySem.W.copiedNames.contains f=false
structure Meth (K:PySem.W.Frag)(C:Addr)(m:Str)(f:Addr):Prop where
 at_:PySem.W.findIn K (.ref C) m=some (some (.ref f))
 fn:PySem.W.isFn K (.ref f)=true
 kp:PySem.W.keepIn K (.ref f)=true
section
variable {X:Cx}{pins:List (Addr×Obj)}{σ:St}{H:Hp}{s:Shared}{a C dx:Addr}{fs:List (Str×V)}{f:Str}{v:V}{A:Around}{E:Value→Shared→Prop}
theorem Xpi {b:Bool}{Q:Value→Shared→Prop}(I:Inv X pins σ H s)(e:H a=some (.ins C dx fs))(c:Cls X.K C)(n:Xcp X.K C f)(l:fs.lookup f=some v)
   (h:∀u s',Inv X pins σ H s'→RelV v u→Q u s'):wpAny (model X.prog X.w) A (getAttr (.ref a) f b) Q E s:=by
 obtain⟨mA,O,r,_,_,_⟩:=Xju I.hok e
 obtain⟨u,hu,ru⟩:=RelO.some_of (v:=v) (o:=mA f) (by rw[←l];exact r f)
 exact XJh I.kIn O (c.get f) c.hd n hu (Xqb ru) (h u _ (I.tok _) ru)
theorem Xfb {m:Str}{g:Addr}{pl:Sem Bool}{Q:Value×List Value→Shared→Prop}(I:Inv X pins σ H s)(e:H a=some (.ins C dx fs))(c:Cls X.K C)(k:Meth X.K C m g)(l:fs.lookup m=none)
   (h:Q (.ref g,[.ref a]) s):wpAny (model X.prog X.w) A (getMethod (.ref a) m pl) Q E s:=by
 obtain⟨mA,O,r,_,_,_⟩:=Xju I.hok e
 have hn:mA m=none:=RelO.none_of (by rw[←l];exact r m)
 exact Xyx I.kIn O (c.get m) k.at_ k.fn hn h
theorem Xou {y:V}{u:Value}{Q:Unit→Shared→Prop}(I:Inv X pins σ H s)(e:H a=some (.ins C dx fs))(c:Cls X.K C)(n:Xcp X.K C f)(hl:fs.length<1000)(ry:RelV y u)
   (h:∀s',Inv X pins σ (upd H a (.ins C dx (putF f y fs))) s'→Q () s'):wpAny (model X.prog X.w) A (setAttr (.ref a) f u) Q E s:=by
 obtain⟨mA,O,r,wi,_,ho⟩:=Xju I.hok e
 have hz:(fs.map (·.1)).length≤sizeLine:=by rw[List.length_map,sizeLine_eq];omega
 refine XHv I.kIn O c.sa c.po n.taker c.hd wi hz fun h' O' sb=>h _ ?_
 have hd:∃o,h'.get? dx=some o:=let ⟨o,_,_,e',_⟩:=O'.ns;⟨o,e'⟩
 refine I.write (x:=a) (e:=dx) (by rw[e];exact True.intro) (.inr ho) (fun b q hb z=>(sb.2 b hb).trans z) hd ?_
 refine⟨by rw[Xam O.ne];exact ho,?_,O.ne,O'.obj,_,O'.ns,fun g=>?_,fun g hg=>?_⟩
 · have:=Xip f y fs;omega
 · show RelO ((putF f y fs).lookup g) (if g=f then some u else mA g)
   rw[Xin]
   by_cases q:g=f
   · rw[if_pos q,if_pos q];exact ry
   · rw[if_neg q,if_neg q];exact r g
 · by_cases q:g=f
   · rw[q];exact(Xil f y fs).1
   · refine(Xil f y fs).2 g (wi g fun z=>hg ?_)
     show (if g=f then some u else mA g)=none
     rw[if_neg q];exact z
theorem Inv.made (I:Inv X pins σ H s):Inv X pins σ (upd (upd H s.heap.objs.size (.own (s.heap.objs.size+1))) (s.heap.objs.size+1) (.ins C s.heap.objs.size []))
   { s with heap:=(s.heap.push PySem.W.emptyDict).push (PySem.W.instObj C s.heap.objs.size) }:=by
 have e1:(s.heap.push PySem.W.emptyDict).get? s.heap.objs.size=some PySem.W.emptyDict:=Heap.get?_push_size s.heap rfl
 have e2:((s.heap.push PySem.W.emptyDict).push (PySem.W.instObj C s.heap.objs.size)).get? (s.heap.objs.size+1)=some (PySem.W.instObj C s.heap.objs.size):=by
   have:=Heap.get?_push_size (s.heap.push PySem.W.emptyDict) (o:=PySem.W.instObj C s.heap.objs.size) rfl
   rwa [Heap.size_push] at this
 have e3:(s.heap.push PySem.W.emptyDict).Ns s.heap.objs.size (fun _=>none):=⟨PySem.W.emptyDict,#[],_,e1,rfl,(fun e he=>absurd he (by simp)),fun _=>rfl⟩
 have I1:=I.laid (a:=s.heap.objs.size) (o:=.own (s.heap.objs.size+1)) (h':=s.heap.push PySem.W.emptyDict) (t':=s.toks) (fun b u q=>Heap.get?_push_of_some _ q) (Nat.le_refl _) ⟨_,e1⟩
 refine I1.laid (a:=s.heap.objs.size+1) (o:=.ins C s.heap.objs.size []) (t':=s.toks) (fun b u q=>Heap.get?_push_of_some _ q) (Nat.le_of_eq (Heap.size_push _ _)) ?_
 have ne:s.heap.objs.size≠s.heap.objs.size+1:=Nat.ne_of_lt (Nat.lt_succ_self _)
 refine⟨by rw[Xam ne,upd_same],Nat.zero_le _,ne,e2,fun _=>none,(Heap.Ns1.of_empty e3).at fun o q=>Heap.get?_push_of_some _ q,fun _=>True.intro,fun y hy=>absurd rfl hy⟩
theorem XBr {prog:Program}{w:World}{env:Env}{e:Expr}{f:Str}{pos:Pos}{s:Shared}{Q:Value→Shared→Prop}(hb:attributeBase e f env (eval e env)=eval e env)
   (h:wpAny (model prog w) A (eval e env) (fun o s₁=>wpAny (model prog w) A (getAttr o f true) Q E s₁) E s):wpAny (model prog w) A (eval (.Attribute e f pos) env) Q E s :=
 Attribute_any_ h (by rw[arm_eval_Attribute,hb])
end
def tFld (K:PySem.W.Frag)(ta:TE)(f:Str):TE:=fun σ H Q=>ta σ H fun x H1=>∃a C dx fs v,x = .ref a∧H1 a=some (.ins C dx fs)∧Cls K C∧Xcp K C f∧fs.lookup f=some v∧Q v H1
def sFld (K:PySem.W.Frag)(ta tv:TE)(f:Str):TS:=fun D σ H=>tv σ H fun y H1=>ta σ H1 fun x H2=>∃a C dx fs,x = .ref a∧H2 a=some (.ins C dx fs)∧Cls K C∧Xcp K C f∧fs.length<1000 ∧
 D.nx σ (upd H2 a (.ins C dx (putF f y fs)))
section
variable {X:Cx}{o e value:Expr}{f:Str}{pos pos' tpos:Pos}{ta tv:TE}
theorem Xcm (he:PE X e ta)(hb:attributeBase e f X.env (eval e X.env)=eval e X.env):PE X (.Attribute e f pos) (tFld X.K ta f):=by
 intro pins s σ H Q I h
 refine XBr hb (thn (he pins s σ H _ I h) fun u s1 ⟨x,H1,I1,rx,a,C,dx,fs,v,ex,ea,c,n,l,q⟩=>?_)
 subst ex
 obtain rfl:u=Value.ref a:=rx
 exact Xpi I1 ea c n l fun u' s2 I2 ru=>⟨v,H1,I2,ru,q⟩
theorem Xdv (ha:PE X o ta)(hv:PE X value tv)(hs:swapsWith value (some (.Attribute o f pos')) pos.line X.env=pure false):PS X (.Assign [.Attribute o f pos'] value pos) (sFld X.K ta tv f):=by
 intro pins s σ H D I h
 refine plainObj_wpAny_Assign_Attribute (thn (hv pins s σ H _ I h) fun u s1 ⟨y,H1,I1,ry,q⟩=>thn (ha pins s1 σ H1 _ I1 q) fun ov s2 ⟨x,H2,I2,rx,a,C,dx,fs,ex,ea,c,n,l,q2⟩=>?_) hs
 subst ex
 obtain rfl:ov=Value.ref a:=rx
 exact Xou I2 ea c n l ry fun s3 I3=>⟨σ,_,I3,q2⟩
end
section
variable {X:Cx}{pins:List (Addr×Obj)}{σ:St}{H:Hp}{s:Shared}{A:Around}{E:Value→Shared→Prop}{Q:Value→Shared→Prop}{c:Value}{b:Bool}
inductive TyOf (K:PySem.W.Frag)(H:Hp):V→Value→Prop where
 | non:TyOf K H .non (.type "NoneType")
 | bl (x:Bool):TyOf K H (.bl x) (.type "bool")
 | int (i:Int):TyOf K H (.int i) (.type "int")
 | str (x:Str):TyOf K H (.str x) (.type "str")
 | flt (x:UInt64):TyOf K H (.flt x) (.type "float")
 | lst {a:Addr} {xs:List V} (e:H a=some (.lst xs)):TyOf K H (.ref a) (.type "list")
 | frz {a:Addr} {o:Obj} {xs:List V} (e:H a=some (.frz o (.lst xs))):TyOf K H (.ref a) (.type "list")
 | tup {a:Addr} {xs:List V} (e:H a=some (.tup xs)):TyOf K H (.ref a) (.type "tuple")
 | dK {a:Addr} {kvs:List (Key×V)} (e:H a=some (.dK kvs)):TyOf K H (.ref a) (.type "dict")
 | dT {a:Addr} {kvs:List (List Key×V)} (e:H a=some (.dT kvs)):TyOf K H (.ref a) (.type "dict")
 | ins {a C dx:Addr} {fs:List (Str×V)} (e:H a=some (.ins C dx fs)) (cl:Cls K C) (ha:PySem.W.findIn K (.ref C) "__class__"=some (some (.builtin "object.__class__")))
     (hn:PySem.W.specialIn K (.builtin "object.__class__") "__get__"=some (some (.builtin "getset_descriptor.__get__"))) (htk:PySem.W.takesIn K (.builtin "object.__class__")=some true)
     (hm:PySem.W.mroIn K C (.type "object")=some true):TyOf K H (.ref a) (.ref C)
theorem Xly {x:V}{u t:Value}(I:Inv X pins σ H s)(rx:RelV x u)(ty:TyOf X.K H x t)(e:PySem.W.kitOne X.K t c=some b)(h:∀tk,Q (.bool b) { s with toks:=tk }) :
   wpAny (model X.prog X.w) A (call (.builtin "isinstance") [u,c]) Q E s:=by
 cases ty with
 | non=>cases (show u=Value.none from rx);exact PySem.W.kia_one PySem.W.kitx_none I.kIn True.intro e (fun z=>nomatch z) h
 | bl y=>cases (show u=Value.bool y from rx);exact PySem.W.kia_one PySem.W.kitx_bool I.kIn True.intro e (fun z=>nomatch z) h
 | int i=>obtain⟨t,q⟩:=(show ∃t,u=Value.int i t from rx);cases q;exact PySem.W.kia_one PySem.W.kitx_int I.kIn True.intro e (fun z=>nomatch z) h
 | str y=>obtain⟨t,q⟩:=(show ∃t,u=Value.str y t from rx);cases q;exact PySem.W.kia_one PySem.W.kitx_str I.kIn True.intro e (fun z=>nomatch z) h
 | flt y=>obtain⟨t,q⟩:=(show ∃t,u=Value.float y t from rx);cases q;exact PySem.W.kia_one PySem.W.kitx_float I.kIn True.intro e (fun z=>nomatch z) h
 | @lst a xs ea =>
   cases (show u=Value.ref a from rx)
   obtain⟨_,_,n,_,h1⟩:=(show Xcj X.prog X.w H s.heap a (.lst xs) from I.hok a _ ea)
   exact PySem.W.kia_one PySem.W.kitx_list I.kIn ⟨_,h1,rfl⟩ e (fun z=>nomatch z) h
 | @frz a ob xs ea =>
   cases (show u=Value.ref a from rx)
   obtain⟨_,_,_,n,_,h1⟩:=(show Xcj X.prog X.w H s.heap a (.frz ob (.lst xs)) from I.hok a _ ea)
   exact PySem.W.kia_one PySem.W.kitx_list I.kIn ⟨_,h1,rfl⟩ e (fun z=>nomatch z) h
 | @tup a xs ea =>
   cases (show u=Value.ref a from rx)
   obtain⟨_,_,_,p⟩:=(show Xcj X.prog X.w H s.heap a (.tup xs) from I.hok a _ ea)
   obtain⟨o,h1,h2,_⟩:=p
   exact PySem.W.kia_one PySem.W.kitx_tuple I.kIn ⟨o,h1,h2⟩ e (fun z=>nomatch z) h
 | @dK a kvs ea =>
   cases (show u=Value.ref a from rx)
   obtain⟨_,_,vs,_,p⟩:=(show Xcj X.prog X.w H s.heap a (.dK kvs) from I.hok a _ ea)
   obtain⟨o,es,ep,h1,h2,_⟩:=p
   exact PySem.W.kia_one PySem.W.kitx_dict I.kIn ⟨o,h1,h2.1⟩ e (fun z=>nomatch z) h
 | @dT a kvs ea =>
   cases (show u=Value.ref a from rx)
   obtain⟨_,_,xs,_,o,es,ep,h1,h2,_⟩:=(show Xcj X.prog X.w H s.heap a (.dT kvs) from I.hok a _ ea)
   exact PySem.W.kia_one PySem.W.kitx_dict I.kIn ⟨o,h1,h2.1⟩ e (fun z=>nomatch z) h
 | @ins a C dx fs ea cl ha hn htk hm =>
   cases (show u=Value.ref a from rx)
   obtain⟨mA,O,_⟩:=Xju I.hok ea
   obtain⟨od,J,_⟩:=O.look
   exact PySem.W.kia_one (PySem.W.kitx_own (cl.get _) cl.hd ha hn htk hm) I.kIn J e (fun z=>nomatch z) h
end
end L2
namespace L2
open PySem PySem.Spec PyProof.Rows
structure Room (k:Nat)(A:Around):Prop where
 hd:A.handled=none
 dp:A.depth+3*k+5<recursionLimit
 un:A.units+16*k+200<cLine
theorem Room.mono {j k:Nat}{A:Around}(r:Room k A)(h:j≤k):Room j A:=⟨r.hd,by have:=r.dp;omega,by have:=r.un;omega⟩
theorem Room.deeper {k:Nat}{A:Around}(r:Room (k+1) A)(env:Env):Room k (A.deeper env) :=
 ⟨r.hd,by have:=r.dp;show A.depth+1+3*k+5<_;omega,by have:=r.un;show A.units+3+16*k+200<_;omega⟩
theorem Room.in1 {k:Nat}{A:Around}(r:Room (k+1) A):Room k A.in1 :=
 ⟨r.hd,by have:=r.dp;show A.depth+3*k+5<_;omega,by have:=r.un;show A.units+1+16*k+200<_;omega⟩
theorem Xpj {A:Around}{C:Addr}{us:List Value}{kw:List (Str×Value)}:(A.under (.builtin "type.__call__" ⟨.ref C::us,kw⟩)).depth=A.depth+1:=by
 first | rfl | simp [Around.under,Code.weight,Code.isCreation,Code.isGuard,Code.isCaller,Code.frames,Code.isFrame,guardIds]
theorem Xpp {A:Around}{C:Addr}{us:List Value}{kw:List (Str×Value)}:(A.under (.builtin "type.__call__" ⟨.ref C::us,kw⟩)).units=A.units+1:=by
 first | rfl | simp [Around.under,Code.cUnits,Code.frames,Code.isFrame]
theorem Room.make {k:Nat}{A:Around}(r:Room (k+1) A)(C:Addr)(us:List Value)(kw:List (Str×Value)):Room k (A.under (.builtin "type.__call__" ⟨.ref C::us,kw⟩)) :=
 ⟨r.hd,by have:=r.dp;rw[Xpj];omega,by have:=r.un;rw[Xpp];omega⟩
theorem Room.depth {k:Nat}{A:Around}(r:Room k A):A.depth<recursionLimit:=by have:=r.dp;omega
theorem Room.units {k:Nat}{A:Around}(r:Room k A):A.units+64<cLine:=by have:=r.un;omega
def tNil:TA:=fun _ H Q=>Q [] H
def XMp (ta:TE)(tr:TA):TA:=fun σ H Q=>ta σ H fun x H1=>tr σ H1 fun xs H2=>Q (x::xs) H2
section
variable {X:Cx}{e:Expr}{es:List Expr}{te:TE}{t:TA}{pos:Pos}
theorem Xad:PA X [] tNil:=fun _ _ _ _ H Q I h=>Calls.spliced_nil ⟨[],H,I,.nil,h⟩
theorem Xaa (ha:PE X e te)(hr:PA X es t)(hs:starEach (e::es) X.env=(false,eval e X.env)::starEach es X.env:=by rfl):PA X (e::es) (XMp te t):=by
 intro pos pins s σ H Q I h
 rw[hs]
 show wpAny _ _ (spliced ((false,eval e X.env)::backTo pos (starEach es X.env))) _ _ s
 refine Calls.spliced_cons (thn (ha pins s σ H _ I h) fun u s1 ⟨x,H1,I1,r1,q1⟩=>?_)
 exact thn (hr pos pins s1 σ H1 _ I1 q1) fun us s2 ⟨xs,H2,I2,r2,q2⟩=>⟨x::xs,H2,I2,.cons r1 r2,q2⟩
def tTup (t:TA):TE:=fun σ H Q=>t σ H fun xs H1=>xs.length≤sizeLine∧∀p,H1 p=none→Q (.ref p) (upd H1 p (.tup xs))
def tLst (t:TA):TE:=fun σ H Q=>t σ H fun xs H1=>xs.length≤sizeLine∧∀p,H1 p=none→Q (.ref p) (upd H1 p (.lst xs))
theorem Xew {x1}(h:PA X es t):PE X (.Tuple es x1 pos) (tTup t):=by
 intro pins s σ H Q I hq
 refine wpAny_Tuple_spliced (thn (h pos pins s σ H _ I hq) fun us s1 ⟨xs,H1,I1,r,z,q⟩=>⟨by rw[←r.length];exact z,?_⟩)
 have hf:H1 s1.heap.objs.size=none:=I1.hok.fresh (Nat.le_refl _)
 refine⟨.ref s1.heap.objs.size,upd H1 s1.heap.objs.size (.tup xs),I1.laid (t':=s1.toks) (fun b u e=>Heap.get?_push_of_some _ e) (Nat.le_refl _) ?_,rfl,q _ hf⟩
 exact⟨z,us,r,⟨_,Heap.get?_push_size _ rfl,rfl,_,rfl⟩⟩
theorem Xer (h:PA X es t):PE X (.List es pos) (tLst t):=by
 intro pins s σ H Q I hq
 refine wpAny_List_spliced (thn (h pos pins s σ H _ I hq) fun us s1 ⟨xs,H1,I1,r,z,q⟩=>⟨by rw[←r.length];exact z,?_⟩)
 have hf:H1 s1.heap.objs.size=none:=I1.hok.fresh (Nat.le_refl _)
 refine⟨.ref s1.heap.objs.size,upd H1 s1.heap.objs.size (.lst xs),I1.laid (t':=s1.toks) (fun b u e=>Heap.get?_push_of_some _ e) (Nat.le_refl _) ?_,rfl,q _ hf⟩
 exact⟨z,us,0,r,Heap.get?_push_size _ rfl⟩
end
abbrev Sp:=List V→Hp→VK→XK→Prop
abbrev CXT:=List Env→Hp→Shared→XK→Value→Shared→Prop
structure Env0 (P:Program)(w:World)(K:PySem.W.Frag)(mg:Str→Option Value)(base:Heap)(A:Around)(outer:List Env)(s:Shared)(H:Hp):Prop where
 frames:A.frames=some outer
 mod:Mod K mg base
 bs:∀b o,base.get? b=some o→s.heap.get? b=some o∧H b=none
 bsz:base.objs.size≤s.heap.objs.size
 funs:s.heap.FunFrames base outer
 frf:∀b∈frs outer,H b=none
 hok:HOk P w H s.heap
 bare:AllBare s.gens
def CE (outer:List Env)(P:Program)(w:World)(H:Hp)(s:Shared)(Q:VK)(u:Value)(s':Shared):Prop :=
 ∃v H',s'.os=s.os∧AllBare s'.gens∧Un (frs outer) [] H H' s.heap s'.heap∧HOk P w H' s'.heap∧RelV v u∧Q v H'
def CR (CX:CXT)(outer:List Env)(P:Program)(w:World)(H:Hp)(s:Shared)(Q:VK)(E:XK)(r:Result)(s':Shared):Prop :=
 match r with
 | .ok (.ret u)=>CE outer P w H s Q u s'
 | .ok _=>False
 | .error e=>CX outer H s E e s'
structure FnOk (P:Program)(w:World)(K:PySem.W.Frag)(mg:Str→Option Value)(base:Heap)(CX:CXT)(k:Nat)(f:Addr)(fd:FuncData)(ps:List Str)(sp:Sp):Prop where
 len:∀vs H Q E,sp vs H Q E→vs.length=ps.length
 run:∀(A:Around) (outer:List Env) (s:Shared) (H:Hp) (args:Args) (us:List Value) (vs:List V) (Q:VK) (E:XK),Room k A→Env0 P w K mg base A outer s H→BindsTo s fd args (ps.zip us)→Vals vs us→sp vs H Q E →
   codeAny (model P w) A (.call (.ref f) args) (CR CX outer P w H s Q E) s
theorem FnOk.mono {P:Program}{w:World}{K:PySem.W.Frag}{mg:Str→Option Value}{base:Heap}{CX:CXT}{j k:Nat}{f:Addr}{fd:FuncData}{ps:List Str}{sp:Sp}(F:FnOk P w K mg base CX j f fd ps sp)(h:j≤k) :
   FnOk P w K mg base CX k f fd ps sp:=⟨F.len,fun A outer s H args us vs Q E hr=>F.run A outer s H args us vs Q E (hr.mono h)⟩
theorem FnOk.imp {P:Program}{w:World}{K:PySem.W.Frag}{mg:Str→Option Value}{base:Heap}{CX:CXT}{k:Nat}{f:Addr}{fd:FuncData}{ps:List Str}{sp sp':Sp}(F:FnOk P w K mg base CX k f fd ps sp)
   (h:∀vs H Q E,sp' vs H Q E→sp vs H Q E):FnOk P w K mg base CX k f fd ps sp' :=
 ⟨fun vs H Q E q=>F.len vs H Q E (h _ _ _ _ q),fun A outer s H args us vs Q E hr he hb hv hs=>F.run A outer s H args us vs Q E hr he hb hv (h _ _ _ _ hs)⟩
theorem Env0.make {P:Program}{w:World}{K:PySem.W.Frag}{mg:Str→Option Value}{base:Heap}{A:Around}{outer:List Env}{s:Shared}{H:Hp}(e:Env0 P w K mg base A outer s H)(C:Addr)(us:List Value)(kw:List (Str×Value)) :
   Env0 P w K mg base (A.under (.builtin "type.__call__" ⟨.ref C::us,kw⟩)) outer s H:=⟨by first | exact e.frames | (simpa [Around.under,Code.envs,Code.isFrame,pushEnvs] using e.frames),e.mod,e.bs,e.bsz,e.funs,e.frf,e.hok,e.bare⟩
theorem Env0.in1 {P:Program}{w:World}{K:PySem.W.Frag}{mg:Str→Option Value}{base:Heap}{A:Around}{outer:List Env}{s:Shared}{H:Hp}(e:Env0 P w K mg base A outer s H) :
   Env0 P w K mg base A.in1 outer s H:=⟨e.frames,e.mod,e.bs,e.bsz,e.funs,e.frf,e.hok,e.bare⟩
section
variable {X:Cx}{pins:List (Addr×Obj)}{σ:St}{H:Hp}{s s':Shared}
theorem Inv.env0 (I:Inv X pins σ H s):Env0 X.prog X.w X.K X.mg X.base X.A X.stack s H :=
 ⟨I.ok.frames,I.ok.mod,I.bs,Nat.le_trans I.ok.bsz I.sz,I.stack,I.stkFree,I.hok,I.bare⟩
theorem Inv.after {Q:VK}{u:Value}(I:Inv X pins σ H s)(h:CE X.stack X.prog X.w H s Q u s'):EP X pins σ Q u s':=by
 obtain⟨v,H',os,bare,un,hok,r,q⟩:=h
 obtain⟨hh,g,d,t,os'⟩:=s'
 obtain rfl:os'=s.os:=os
 exact⟨v,H',I.call (h':=hh) (g':=g) (d':=d) (t':=t) (ch:=[]) un hok bare (fun b z=>absurd z (by simp)),r,q⟩
end
def Xtv (sp:Sp)(dvs:List V)(E:XK)(t:TA):TE:=fun σ H Q=>t σ H fun vs H1=>sp (vs++dvs) H1 Q E
def Xwj (C:Addr)(sp:Sp)(dvs:List V)(E:XK)(t:TA):TE:=fun σ H Q=>t σ H fun vs H1=>∀x dx,H1 x=none→H1 dx=none→dx≠x →
 sp (.ref x::(vs++dvs)) (upd (upd H1 dx (.own x)) x (.ins C dx [])) (fun v H2=>v = .non∧Q (.ref x) H2) E
def Xcy (K:PySem.W.Frag)(fd:FuncData)(ps:List Str)(ds:List Value):Prop :=
 ∀(s:Shared) (us:List Value),K.In s.heap→(us++ds).length=ps.length→BindsTo s fd ⟨us,[]⟩ (ps.zip (us++ds))
theorem Xcy.all {K:PySem.W.Frag}{fd:FuncData}{ps:List Str}(h:∀us:List Value,us.length=ps.length→bindArgs fd ⟨us,[]⟩=pure (ps.zip us)):Xcy K fd ps []:=fun s us _ hl=>by
 rw[List.append_nil] at hl ⊢
 exact .of_eq (h us hl)
def Xff (CX:CXT)(X:Cx)(E:XK):Prop:=∀(pins:List (Addr×Obj)) (σ:St) (H:Hp) (s:Shared) (e:Value) (s':Shared),Inv X pins σ H s→CX X.stack H s E e s'→X.xe e s'
section
variable {X:Cx}{CX:CXT}{k:Nat}{f C:Addr}{fd:FuncData}{ps:List Str}{sp:Sp}{dvs:List V}{ds:List Value}{E:XK}{x m:Str}{p pos apos:Pos}{e o:Expr}{es:List Expr}{ta:TE}{t:TA}
theorem Xoc {pins:List (Addr×Obj)}{σ:St}{H:Hp}{s:Shared}{Q:VK}{us:List Value}{vs:List V}(F:FnOk X.prog X.w X.K X.mg X.base CX k f fd ps sp)(hr:Room k X.A)(hb:Xcy X.K fd ps ds)(hd:Vals dvs ds)(hx:Xff CX X E)
   (I:Inv X pins σ H s) (r:Vals vs us) (h:sp (vs++dvs) H Q E):wpAny (model X.prog X.w) X.A (call (.ref f) us) (EP X pins σ Q) X.xe s:=by
 have r2:Vals (vs++dvs) (us++ds):=r.append hd
 have hl:(us++ds).length=ps.length:=by rw[←r2.length];exact F.len _ _ _ _ h
 refine wpAny_call (codeAny_mono (F.run X.A X.stack s H ⟨us,[]⟩ (us++ds) (vs++dvs) Q E hr I.env0 (hb s us I.kIn hl) r2 h) fun r s' hq=>?_)
 cases r with
 | error e=>exact hx pins σ H s e s' I hq
 | ok fl =>
   cases fl with
   | ret u=>exact I.after hq
   | next=>exact False.elim hq
   | brk=>exact False.elim hq
   | cont=>exact False.elim hq
theorem Xtf (F:FnOk X.prog X.w X.K X.mg X.base CX k f fd ps sp)(hr:Room k X.A)(hg:Gl X x)(hm:X.mg x=some (.ref f))(hk:PySem.W.keepIn X.K (.ref f)=true)(hb:Xcy X.K fd ps ds)(hd:Vals dvs ds)(hx:Xff CX X E)
   (ha:PA X (e::es) t) (hdb:(x==("__debug__":Str))=false:=by decide) (he:starEach (e::es) X.env=(false,eval e X.env)::starEach es X.env:=by rfl) (hpl:(backTo pos (starEach es X.env)).any (·.1)=false:=by rfl) :
   PE X (.Call (.Name x p) (e::es) [] pos) (Xtv sp dvs E t):=by
 intro pins s σ H Q I h
 refine wpAny_Call_Name_kw (Xeq I hg hm ?_ hdb)
 refine PySem.W.callWith_K (h₀:=X.base) I.ok.mod.kin hk (thn (ha pos pins s σ H _ I h) fun us s1 ⟨vs,H1,I1,r,q⟩=>⟨I1.kIn,?_⟩) he hpl
 exact Xoc F hr hb hd hx I1 r q
structure Mk (K:PySem.W.Frag)(C f:Addr):Prop where
 makes:PySem.W.makesIn K C=true
 init:PySem.W.findIn K (.ref C) "__init__"=some (some (.ref f))
 fn:PySem.W.isFn K (.ref f)=true
 kp:PySem.W.keepIn K (.ref C)=true
theorem Xzf {pins:List (Addr×Obj)}{σ:St}{H:Hp}{s:Shared}{Q:VK}{us:List Value}{vs:List V}(M:Mk X.K C f)(F:FnOk X.prog X.w X.K X.mg X.base CX k f fd ps sp)(hr:Room (k+1) X.A)(hb:Xcy X.K fd ps ds)(hd:Vals dvs ds)
   (hx:Xff CX X E) (I:Inv X pins σ H s) (r:Vals vs us)
   (h:∀x dx,H x=none→H dx=none→dx≠x→sp (.ref x::(vs++dvs)) (upd (upd H dx (.own x)) x (.ins C dx [])) (fun v H2=>v = .non∧Q (.ref x) H2) E) :
   wpAny (model X.prog X.w) X.A (call (.ref C) us) (EP X pins σ Q) X.xe s:=by
 have hq:=h (s.heap.objs.size+1) s.heap.objs.size (I.hok.fresh (Nat.le_succ _)) (I.hok.fresh (Nat.le_refl _)) (Nat.ne_of_lt (Nat.lt_succ_self _))
 have I2:=Inv.made (C:=C) I
 have r2:Vals (V.ref (s.heap.objs.size+1)::(vs++dvs)) (Value.ref (s.heap.objs.size+1)::(us++ds)):=.cons rfl (r.append hd)
 have hl:(Value.ref (s.heap.objs.size+1)::us++ds).length=ps.length:=by
   have e:=r2.length
   rw[F.len _ _ _ _ hq] at e
   exact e.symm
 refine wpAny_call (Xvk (f:=f) I.kIn M.makes M.init (beq_iff_eq.mp M.fn) (codeAny_mono (F.run _ X.stack _ _ ⟨Value.ref (s.heap.objs.size+1)::us,[]⟩ (Value.ref (s.heap.objs.size+1)::(us++ds)) _ _ E (hr.make C us [])
   (I2.env0.make C us []) (hb _ (Value.ref (s.heap.objs.size+1)::us) I2.kIn hl) r2 hq) fun r s' hq'=>?_))
 cases r with
 | error e=>exact hx pins σ _ _ e s' I2 hq'
 | ok fl =>
   cases fl with
   | ret u =>
     obtain⟨v,H',I3,rv,ev,q3⟩:=I2.after hq'
     subst ev
     exact⟨rv,⟨V.ref (s.heap.objs.size+1),H',I3,rfl,q3⟩⟩
   | next=>exact False.elim hq'
   | brk=>exact False.elim hq'
   | cont=>exact False.elim hq'
theorem XHg (M:Mk X.K C f)(F:FnOk X.prog X.w X.K X.mg X.base CX k f fd ps sp)(hr:Room (k+1) X.A)(hg:Gl X x)(hm:X.mg x=some (.ref C))(hb:Xcy X.K fd ps ds)(hd:Vals dvs ds)(hx:Xff CX X E)
   (ha:PA X (e::es) t) (hdb:(x==("__debug__":Str))=false:=by decide) (he:starEach (e::es) X.env=(false,eval e X.env)::starEach es X.env:=by rfl) (hpl:(backTo pos (starEach es X.env)).any (·.1)=false:=by rfl) :
   PE X (.Call (.Name x p) (e::es) [] pos) (Xwj C sp dvs E t):=by
 intro pins s σ H Q I h
 refine wpAny_Call_Name_kw (Xeq I hg hm ?_ hdb)
 refine PySem.W.callWith_K (h₀:=X.base) I.ok.mod.kin M.kp (thn (ha pos pins s σ H _ I h) fun us s1 ⟨vs,H1,I1,r,q⟩=>⟨I1.kIn,?_⟩) he hpl
 exact Xzf M F hr hb hd hx I1 r q
end
section
variable {X:Cx}{CX:CXT}{k:Nat}{f C:Addr}{fd:FuncData}{ps ks:List Str}{sp:Sp}{E:XK}{x m:Str}{p pos apos kpos:Pos}{e o:Expr}{es:List Expr}{kws:List Keyword}{te ta:TE}{t tk:TA}{nm:Option Str}
structure KBinds (K:PySem.W.Frag)(fd:FuncData)(ps ks:List Str)(g:List Value→List Value→List Value)(gV:List V→List V→List V):Prop where
 to:∀(s:Shared) (us ws:List Value),K.In s.heap→(g us ws).length=ps.length→BindsTo s fd ⟨us,ks.zip ws⟩ (ps.zip (g us ws))
 rel:∀{vs:List V} {us:List Value} {zs:List V} {ws:List Value},Vals vs us→Vals zs ws→Vals (gV vs zs) (g us ws)
variable {g:List Value→List Value→List Value}{gV:List V→List V→List V}
end
structure FnScope (N P:List Str)(sc:Scope):Prop where
 kind:sc.kind = .function
 co:sc.isCoroutine=false
 gen:sc.isGenerator=false
 nd:N.Nodup
 pre:N.take P.length=P
 par:∀x∈P,sc.names.lookup x=some .local∨sc.names.lookup x=some .cell
 nofree:∀y∈sc.names,y.2≠.free
theorem Xla {kindOf:Str→Option NameKind}{x:Str}:∀{binds:List (Str×Value)} {m:Str→Option Value},(∀v,(x,v) ∉ binds)→bindL kindOf binds m x=m x
 | [],_,_=>rfl
 | (n,v)::r,m,h=>by
   unfold bindL
   rw[Xla fun w hw=>h w (List.mem_cons_of_mem _ hw)]
   split
   · have:x≠n:=by rintro rfl;exact h v List.mem_cons_self
     simp [this]
   · rfl
theorem Xlx {kindOf:Str→Option NameKind}{x:Str}:∀{binds:List (Str×Value)} {m:Str→Option Value},(∀v,(x,v) ∉ binds)→bindC kindOf binds m x=m x
 | [],_,_=>rfl
 | (n,v)::r,m,h=>by
   unfold bindC
   rw[Xlx fun w hw=>h w (List.mem_cons_of_mem _ hw)]
   split
   · rfl
   · have:x≠n:=by rintro rfl;exact h v List.mem_cons_self
     simp [this]
theorem Xmc {kindOf:Str→Option NameKind}{x:Str}{v:Value}:∀{P:List Str} {vs:List Value} {i:Nat} {m:Str→Option Value},P.Nodup→P[i]?=some x→vs[i]?=some v→kindOf x=some .local →
   bindL kindOf (P.zip vs) m x=some v
 | [],_,_,_,_,h,_,_=>by simp at h
 | _::_,[],_,_,_,_,h,_=>by simp at h
 | p::P,w::vs,0,m,nd,h1,h2,hk=>by
   simp at h1 h2;subst h1;subst h2
   show bindL kindOf ((p,w)::P.zip vs) m p=_
   unfold bindL
   rw[Xla fun v hv=>(List.nodup_cons.mp nd).1 (List.of_mem_zip hv).1,if_pos hk]
   simp
 | p::P,w::vs,i+1,m,nd,h1,h2,hk=>by
   show bindL kindOf ((p,w)::P.zip vs) m x=_
   unfold bindL
   exact Xmc (i:=i) (List.nodup_cons.mp nd).2 (by simpa using h1) (by simpa using h2) hk
theorem Xme {kindOf:Str→Option NameKind}{x:Str}{v:Value}:∀{P:List Str} {vs:List Value} {i:Nat} {m:Str→Option Value},P.Nodup→P[i]?=some x→vs[i]?=some v→kindOf x≠some .local →
   bindC kindOf (P.zip vs) m x=some v
 | [],_,_,_,_,h,_,_=>by simp at h
 | _::_,[],_,_,_,_,h,_=>by simp at h
 | p::P,w::vs,0,m,nd,h1,h2,hk=>by
   simp at h1 h2;subst h1;subst h2
   show bindC kindOf ((p,w)::P.zip vs) m p=_
   unfold bindC
   rw[Xlx fun v hv=>(List.nodup_cons.mp nd).1 (List.of_mem_zip hv).1,if_neg hk]
   simp
 | p::P,w::vs,i+1,m,nd,h1,h2,hk=>by
   show bindC kindOf ((p,w)::P.zip vs) m x=_
   unfold bindC
   exact Xme (i:=i) (List.nodup_cons.mp nd).2 (by simpa using h1) (by simpa using h2) hk
def start (N:List Str)(vs:List V):St:=vs.map some++List.replicate (N.length-vs.length) none
def cxOf (CX:CXT)(P:Program)(w:World)(K:PySem.W.Frag)(mg:Str→Option Value)(base:Heap)(N:List Str)(qual:Str)(scope:Scope)(f:Addr)(cd:Value)(A:Around)(outer:List Env)(s:Shared)(H:Hp)(E:XK):Cx where
 prog:=P
 w:=w
 K:=K
 mg:=mg
 base:=base
 A:=A.deeper (envOfC qual scope s.heap.objs.size f cd)
 N:=N
 s₀:=s
 H₀:=H
 env:=envOfC qual scope s.heap.objs.size f cd
 outer:=outer
 stack:=envOfC qual scope s.heap.objs.size f cd::outer
 ex:=[]
 calm:=true
 fn:=fun _=>true
 pn:=[]
 xe:=fun e s'=>wpAny (model P w) (A.deeper (envOfC qual scope s.heap.objs.size f cd)) (leaving (envOfC qual scope s.heap.objs.size f cd) e) (fun _ s''=>CX outer H s E e s'') (fun e' s''=>CX outer H s E e' s'') s'
theorem Xoe {sc:Scope}{n:Nat}{x:Str}(h:sc.names.lookup x=some .cell):∃c,(cellsFrom n sc.names []).lookup x=some c:=by
 have q:=PySem.W.cellsFrom_some sc.names n [] (.inl h)
 exact Option.isSome_iff_exists.mp q
theorem Xrk {CX:CXT}{P:Program}{w:World}{K:PySem.W.Frag}{mg:Str→Option Value}{base:Heap}{N ps:List Str}{qual:Str}{scope:Scope}{f:Addr}{cd:Value}{A:Around}{outer:List Env}{s s1:Shared}{H:Hp}{E:XK}{us:List Value}{vs:List V}
   (S:FnScope N ps scope) (hd:A.handled=none) (e0:Env0 P w K mg base A outer s H) (hl:vs.length=ps.length) (r:Vals vs us)
   (x:InCallC s s.heap.objs.size (bindL (envOfC qual scope s.heap.objs.size f cd).kindOf (ps.zip us) fun _=>none) (cellsFrom (s.heap.objs.size+1) scope.names []) (bindC (envOfC qual scope s.heap.objs.size f cd).kindOf (ps.zip us) fun _=>none) s1) :
   Inv (cxOf CX P w K mg base N qual scope f cd A outer s H E) [] (start N vs) H s1:=by
 have hpl:ps.length≤N.length:=by have:=congrArg List.length S.pre;rw[List.length_take] at this;omega
 obtain⟨h1,tk,rfl,hk⟩:=x.done
 have noA:∀b:Addr,b ∉ (cxOf CX P w K mg base N qual scope f cd A outer s H E).ex:=fun b z=>absurd (show b∈([]:List Addr) from z) (by simp)
 refine⟨⟨e0.mod,S.kind,rfl,rfl,Nat.le_refl _,fun y z c h1 h2=>?_,fun y hy=>?_,fun y c _ h=>?_,fun _=>hd,Around.frames_deeper e0.frames,.inr ⟨rfl,rfl⟩,fun b z=>absurd z (noA b),e0.bs,e0.bsz,fun b _ _=>noA b,fun b z=>absurd z (noA b),e0.funs,e0.frf⟩,
   rfl,e0.bare,Un.kept hk,⟨_,x.toInCall.ns,fun i y v h1 h2 h3=>?_⟩,fun y c h=>⟨_,x.cell y c h⟩,e0.hok.fresh (Nat.le_refl _),fun y c h=>?_,fun p hp=>absurd (show p∈([]:List (Addr×Obj)) from hp) (by simp),e0.hok.kept hk,?_⟩
 · exact name_of_addr x.apart (PySem.mem_of_lookup h1) (PySem.mem_of_lookup h2)
 · have hy:scope.names.lookup y=some .cell∨scope.names.lookup y=some .free:=hy
   rcases hy with hy | hy
   · exact Xoe hy
   · exact absurd rfl (S.nofree _ (PySem.mem_of_lookup hy))
 · exact Nat.le_of_lt (x.above y c (PySem.mem_of_lookup h))
 · have hi:i<vs.length:=by
     unfold start at h2
     by_cases hi:i<vs.length
     · exact hi
     · rw[List.getElem?_append_right (by simpa using hi)] at h2
       rw[List.getElem?_replicate] at h2
       split at h2 <;> cases h2
   have ha:vs[i]?=some v:=by
     unfold start at h2
     rw[List.getElem?_append_left (by simpa using hi),List.getElem?_map] at h2
     cases e:vs[i]? with
     | none=>rw[e] at h2;cases h2
     | some a=>rw[e] at h2;cases h2;rfl
   obtain⟨u,hu,rv⟩:=r.get ha
   have hp:ps[i]?=some y:=by
     rw[←S.pre,List.getElem?_take_of_lt (by omega)];exact h1
   have ndP:ps.Nodup:=by rw[←S.pre];exact S.nd.sublist (List.take_sublist _ _)
   refine⟨u,rv,?_⟩
   rcases S.par y (List.mem_of_getElem? hp) with k | k
   · exact .inl ⟨k,Xmc ndP hp hu k⟩
   · obtain⟨c,e⟩:=Xoe (n:=s.heap.objs.size+1) k
     refine .inr ⟨.inl k,c,e,?_⟩
     have q:=x.cell y c e
     rw[Xme ndP hp hu (by show scope.names.lookup y≠_;rw[k];decide)] at q
     exact q
 · exact e0.hok.fresh (Nat.le_of_lt (x.above y c (PySem.mem_of_lookup h)))
 · unfold start
   show _=N.length
   rw[List.length_append,List.length_map,List.length_replicate]
   omega
theorem XHz {CX:CXT}{P:Program}{w:World}{K:PySem.W.Frag}{mg:Str→Option Value}{base:Heap}{k:Nat}{f:Addr}{name qual:Str}{params:Arguments}{body:List Stmt}{scope:Scope}{dV kV doc pm cdv ct oc:Value}{an od:Option Addr}
   {osl:Array (Option Value)} {N ps:List Str} {sp:Sp} (lk:K.lookup f=some ⟨oc,od,.func (PySem.W.fnOf name qual params body scope dV kV doc pm an cdv ct),osl⟩) (hcd:PySem.W.codeIn K cdv qual=true) (S:FnScope N ps scope)
   (len:∀vs H Q E,sp vs H Q E→vs.length=ps.length)
   (hbody:∀(A:Around) (outer:List Env) (s:Shared) (H:Hp) (vs:List V) (Q:VK) (E:XK),Room k (A.deeper (envOfC qual scope s.heap.objs.size f cdv))→sp vs H Q E →
     ∃t,PSs (cxOf CX P w K mg base N qual scope f cdv A outer s H E) body t∧t { nx:=fun _ H'=>Q .non H',rt:=Q } (start N vs) H) :
   FnOk P w K mg base CX (k+1) f (PySem.W.fnOf name qual params body scope dV kV doc pm an cdv ct) ps sp:=by
 refine⟨len,fun A outer s H args us vs Q E hr e0 hb r hsp=>?_⟩
 have hl:=len _ _ _ _ hsp
 have KX:K.In s.heap:=e0.mod.kin.keeps fun b o e=>(e0.bs b o e).1
 have lim:s.heap.NoLimit:=e0.mod.nolimit.keeps fun b o e=>(e0.bs b o e).1
 have hkind:∀y∈ps.zip us,scope.names.lookup y.1=some .local∨(scope.names.lookup y.1=some .cell∧((cellsFrom (s.heap.objs.size+1) scope.names []).lookup y.1).isSome=true):=fun ⟨n,v⟩ hy=>by
   rcases S.par n (List.of_mem_zip hy).1 with q | q
   · exact .inl q
   · exact .inr ⟨q,PySem.W.cellsFrom_some _ _ _ (.inl q)⟩
 refine codeAny_call_function hr.depth (KX _ _ lk) rfl S.co S.gen rfl (PySem.W.codeRec_of KX hcd) (hb _ _ _ _ ?_)
 refine wpAny_newFunctionEnv_cells S.kind hkind fun env he s1 x=>?_
 subst he
 refine⟨lim.keeps x.toInCall.keep,codeAny_func ?_⟩
 obtain⟨t,ht,hq⟩:=hbody A outer s H vs Q E (hr.deeper _) hsp
 have I:Inv (cxOf CX P w K mg base N qual scope f cdv A outer s H E) [] (start N vs) H s1:=Xrk S hr.hd e0 hl r x
 refine wpAny_mono (ht [] s1 (start N vs) H _ I hq) (fun fl s' hs=>?_) fun e s' hs=>hs
 have fin:∀{σ':St} {H':Hp} {v:V} {u:Value},Inv (cxOf CX P w K mg base N qual scope f cdv A outer s H E) [] σ' H' s'→RelV v u→Q v H'→CE outer P w H s Q u s' :=
   fun {σ' H' v u} J rv q=>⟨v,H',J.os,J.bare,J.base,J.hok,rv,q⟩
 cases fl with
 | ret u =>
   obtain⟨v,σ',H',J,rv,q⟩:=hs
   exact fin J rv q
 | next =>
   obtain⟨σ',H',J,q⟩:=hs
   exact fin (v:=V.non) (u:=Value.none) J rfl q
 | brk =>
   obtain⟨_,_,_,q⟩:=hs
   exact False.elim q
 | cont =>
   obtain⟨_,_,_,q⟩:=hs
   exact False.elim q
end L2
namespace L2
open PySem PySem.Spec PyProof.Rows
section
variable {X:Cx}{x:Str}{p pos:Pos}{e:Expr}{es:List Expr}{t:TA}{id T:String}{r:List V→Hp→VK→Prop}
def tCB (r:List V→Hp→VK→Prop)(t:TA):TE:=fun σ H Q=>t σ H fun vs H1=>r vs H1 Q
theorem Xba (hc:Xit X (.builtin id) r)(hg:Gl X x)(hm:X.mg x=none)(hv:bootBuiltins x=some (.builtin id))(ha:PA X (e::es) t)(hn:x≠"__name__":=by decide)(hdb:(x==("__debug__":Str))=false:=by decide)
   (he:starEach (e::es) X.env=(false,eval e X.env)::starEach es X.env:=by rfl) (hpl:(backTo pos (starEach es X.env)).any (·.1)=false:=by rfl):PE X (.Call (.Name x p) (e::es) [] pos) (tCB r t):=by
 intro pins s σ H Q I h
 refine wpAny_Call_Name_kw (Xol I hg hm hv ?_ hn hdb)
 exact PyProof.Rows.callWith_builtin1 (thn (ha pos pins s σ H _ I h) fun us s1 ⟨vs,H1,I1,r1,q1⟩=>hc pins s1 σ H1 vs us Q I1 r1 q1) he hpl
theorem Xcw (hc:Xit X (.type T) r)(hg:Gl X x)(hm:X.mg x=none)(hv:bootBuiltins x=some (.type T))(ha:PA X (e::es) t)(hn:x≠"__name__":=by decide)(hdb:(x==("__debug__":Str))=false:=by decide)
   (he:starEach (e::es) X.env=(false,eval e X.env)::starEach es X.env:=by rfl) (hpl:(backTo pos (starEach es X.env)).any (·.1)=false:=by rfl):PE X (.Call (.Name x p) (e::es) [] pos) (tCB r t):=by
 intro pins s σ H Q I h
 refine wpAny_Call_Name_kw (Xol I hg hm hv ?_ hn hdb)
 exact PyProof.Rows.callWith_type1 (thn (ha pos pins s σ H _ I h) fun us s1 ⟨vs,H1,I1,r1,q1⟩=>hc pins s1 σ H1 vs us Q I1 r1 q1) he hpl
end
end L2
namespace HT
open PySem PyProof.Rows
def lexLt:List Int→List Int→Bool
 | [],[]=>false
 | [],_::_=>true
 | _::_,[]=>false
 | x::xs,y::ys=>if x=y then lexLt xs ys else decide (x<y)
theorem Xpo (x y:Int)(xs ys:List Int):lexLt (x::xs) (y::ys)=if x=y then lexLt xs ys else decide (x<y):=rfl
theorem Xkp:lexLt [] []=false:=rfl
theorem Xiw (y:Int)(ys:List Int):lexLt [] (y::ys)=true:=rfl
theorem Xix (x:Int)(xs:List Int):lexLt (x::xs) []=false:=rfl
theorem Xyc (A:Around)(s:Shared)(a:Int)(t:Tok)(c:Int)(u:Tok):∃e,SeqAt.EqAt A s (.int a t) (.int c u) e∧(e=true↔a=c) :=
 ⟨(a==c),SeqAt.EqAt.int_int a t c u,by simp⟩
theorem Xzc (A:Around)(s:Shared)(a:Int)(t:Tok)(c:Int)(u:Tok)(prog:Program)(w:World)(E:Value→Shared→Prop)(Q:Value→Shared→Prop)(h:Q (.bool (decide (a<c))) s) :
   wpAny (model prog w) A (richCompare .Lt (.int a t) (.int c u)) Q E s :=
 (PyProof.Rows.lt_int h:wpAny (model prog w) A (compareOp .Lt (.int a t) (.int c u)) Q E s)
section
open PySem.SeqAt
open PySem.AutoSeq1 (wpAny_loadPart')
open PySem.MeetsSeq PySem.MeetsSeq2 PySem.MeetsSeq3
theorem Xki (l b:Addr)(items items2:Array Value)(n n2:Nat)(dd dd2:Option Addr)(sl sl2:Array (Option Value))(ns ms:List Int)(hi:IntsAre items.toList ns)(hj:IntsAre items2.toList ms) :
   Meets (Builtin.«tuple.__lt__» ⟨[.ref l,.ref b],[]⟩)
     (fun _ R s=>s.heap.get? l=some { cls:=.type "tuple",dict:=dd,data:=.seq items n,slots:=sl }∧s.heap.get? b=some { cls:=.type "tuple",dict:=dd2,data:=.seq items2 n2,slots:=sl2 } ∧
       R (.ok (.ret (.bool (lexLt ns ms)))) s) :=
 .of_wp fun prog w A R s h=>by
   obtain⟨hp,g,d,tk,os⟩:=s;obtain⟨hl,hb,h⟩:=h
   have f2:=AutoSeq1.sub_tuple_tuple
   have z1:items.size=ns.length:=by rw[←hi.length];simp
   have z2:items2.size=ms.length:=by rw[←hj.length];simp
   wp_walk using wpAny_loadPart' hl,wpAny_loadPart' hb,wpAny_forIn_list _ (fun rest b s'=>b.1=none∧s'=⟨hp,g,d,tk,os⟩∧∃(vs ws:List Value) (ns' ms':List Int),rest=vs.zip ws ∧
     IntsAre vs ns'∧IntsAre ws ms'∧ns'.length+items2.size=ms'.length+items.size∧R (.ok (.ret (.bool (lexLt ns' ms')))) ⟨hp,g,d,tk,os⟩) _
   case turn =>
     rintro⟨y,x⟩ rest b s' ⟨hb',rfl,vs,ws,ns',ms',hz,hvi,hwi,hlen,hR⟩
     cases hvi with
     | nil=>rw[List.zip_nil_left] at hz;cases hz
     | cons a t hvi' =>
       cases hwi with
       | nil=>rw[List.zip_nil_right] at hz;cases hz
       | cons c u hwi' =>
         rw[List.zip_cons_cons] at hz
         injection hz with hyx hrest
         injection hyx with hy hx
         subst hy hx
         rw[Xpo] at hR
         simp only [List.length_cons] at hlen
         obtain⟨e,he,hiff⟩:=Xyc A.in1 ⟨hp,g,d,tk,os⟩ a t c u
         refine wpAny_bind (he prog w _ _ ?_)
         cases e with
         | true =>
           rw[if_pos (hiff.mp rfl)] at hR
           wp_walk
           exact⟨rfl,rfl,_,_,_,_,hrest,hvi',hwi',by omega,hR⟩
         | false =>
           rw[if_neg (fun q=>absurd (hiff.mpr q) Bool.false_ne_true)] at hR
           have hri:=Xzc A.in1 ⟨hp,g,d,tk,os⟩ a t c u prog w
           wp_walk using hri
           exact⟨_,rfl,by simpa using hR⟩
   case fin =>
     rintro⟨b1,b2⟩ s' ⟨hb',rfl,vs,ws,ns',ms',hz,hvi,hwi,hlen,hR⟩
     simp only at hb'
     subst hb'
     have hv:lexLt ns' ms'=decide (items.size<items2.size):=by
       cases hvi with
       | nil =>
         cases hwi with
         | nil =>
           simp only [List.length_nil] at hlen
           rw[Xkp]
           exact(decide_eq_false (by omega)).symm
         | cons c u hw =>
           simp only [List.length_nil,List.length_cons] at hlen
           rw[Xiw]
           exact(decide_eq_true (by omega)).symm
       | cons a t hv =>
         cases hwi with
         | nil =>
           simp only [List.length_nil,List.length_cons] at hlen
           rw[Xix]
           exact(decide_eq_false (by omega)).symm
         | cons c u hw =>
           rw[List.zip_cons_cons] at hz
           cases hz
     rw[hv] at hR
     wp_walk
     exact⟨_,rfl,by simpa [Builtin.Tuple.tupleCompareSizes] using hR⟩
   case h =>
     exact⟨rfl,rfl,items.toList,items2.toList,ns,ms,rfl,hi,hj,by omega,h⟩
end
section
variable {prog:Program}{w:World}{A:Around}{E:Value→Shared→Prop}{s:Shared}
theorem lt_tupInts {l b:Addr}{items items2:Array Value}{ns ms:List Int}{Q:Value→Shared→Prop}(hl:IsTup s.heap l items)(hb:IsTup s.heap b items2)(hi:IntsAre items.toList ns)(hj:IntsAre items2.toList ms)
   (hu:A.units<cLine) (h:Q (.bool (lexLt ns ms)) s):wpAny (model prog w) A (compareOp .Lt (.ref l) (.ref b)) Q E s:=by
 obtain⟨⟨cls,dd,data,sl⟩,ho,hc,n,hd⟩:=id hl
 obtain⟨⟨cls2,dd2,data2,sl2⟩,ho2,hc2,n2,hd2⟩:=id hb
 simp only at hc hd hc2 hd2
 subst hc hd hc2 hd2
 exact richCompare_meets_room (op:=.Lt) ⟨_,ho,rfl⟩ ⟨_,ho2,rfl⟩ PySem.F.slot_tuple_lt PySem.F.entry_tuple_lt (PySem.F.args_tuple_lt_2 _ _) (Xki l b items items2 n n2 dd dd2 sl sl2 ns ms hi hj)
   ⟨ho,ho2,show Value.bool (lexLt ns ms)≠Value.notImplemented∧Q (.bool (lexLt ns ms)) s from ⟨(fun x=>nomatch x),h⟩⟩ hu
def sIx (n d:Nat):Option Int→Nat
 | none=>d
 | some v=>if v<0 then (v+(n:Int)).toNat else min v.toNat n
theorem sIx_none (n d:Nat):sIx n d none=d:=rfl
theorem sIx_nat (n d k:Nat):sIx n d (some (k:Int))=min k n:=by
 show (if (k:Int)<0 then ((k:Int)+(n:Int)).toNat else min (k:Int).toNat n)=min k n
 rw[if_neg (by omega),Int.toNat_natCast]
end
end HT
namespace L2
open PySem PySem.Spec PyProof.Rows
abbrev TO:=St→Hp→(Option Int→Hp→Prop)→Prop
def PO (X:Cx)(e:Option Expr)(t:TO):Prop :=
 ∀(pins:List (Addr×Obj)) (s:Shared) (σ:St) (H:Hp) (Q:Option Int→Hp→Prop),Inv X pins σ H s→t σ H Q →
   wpAny (model X.prog X.w) X.A (evalPart e X.env) (fun u s'=>∃o H',Inv X pins σ H' s'∧IsPart u o∧Q o H') X.xe s
def Xue:TO:=fun _ H Q=>Q none H
def XJq (t:TE):TO:=fun σ H Q=>t σ H fun x H1=>∃i,x = .int i∧Q (some i) H1
theorem Xdr {ns:List Int}:∀{us:List Value},Vals (ns.map V.int) us→IntsAre us ns:=by
 induction ns with
 | nil=>intro us r;rw[List.map_nil] at r;cases r;exact .nil
 | cons n ns ih =>
   intro us r
   rw[List.map_cons] at r
   cases r with
   | cons r1 r2 =>
     obtain⟨t,e⟩:=r1
     subst e
     exact .cons n t (ih r2)
section
variable {X:Cx}{e:Expr}{te:TE}{lo hi:Option Expr}{tl th:TO}{pos p2:Pos}
theorem Xnf:PO X none Xue:=by
 intro pins s σ H Q I h
 rw[evalPart_none]
 exact wpAny_pure ⟨none,H,I,.none,h⟩
theorem Xfj (h:PE X e te):PO X (some e) (XJq te):=by
 intro pins s σ H Q I hw
 rw[evalPart_some]
 refine thn (h pins s σ H _ I hw) fun u s1 ⟨x,H1,I1,r1,q1⟩=>?_
 obtain⟨i,rfl,q⟩:=q1
 obtain⟨t,rfl⟩:=r1
 exact⟨some i,H1,I1,.int i t,q⟩
def SlR (X:Cx)(r:V→Option Int→Option Int→Hp→VK→Prop):Prop :=
 ∀(pins:List (Addr×Obj)) (s:Shared) (σ:St) (H:Hp) (x:V) (v vl vu:Value) (lo hi:Option Int) (sl:Addr) (Q:VK),Inv X pins σ H s→RelV x v→s.heap.IsSliceOf sl vl vu .none→IsPart vl lo→IsPart vu hi→r x lo hi H Q →
   ∃T id,typeLookup (.type T) "__getitem__"=pure (some (.builtin id))∧s.TypeIs v T∧wpAny (model X.prog X.w) X.A (getItem v (.ref sl)) (EP X pins σ Q) X.xe s
def tSl (r:V→Option Int→Option Int→Hp→VK→Prop)(te:TE)(tl th:TO):TE:=fun σ H Q=>te σ H fun x H1=>tl σ H1 fun l H2=>th σ H2 fun u H3=>r x l u H3 Q
theorem Xgd {r:V→Option Int→Option Int→Hp→VK→Prop}(hr:SlR X r)(he:PE X e te)(hl:PO X lo tl)(hu:PO X hi th):PE X (.Subscript e (.Slice lo hi none p2) pos) (tSl r te tl th):=by
 intro pins s σ H Q I h
 refine Subscript_ (thn (he pins s σ H _ I h) fun v s1 ⟨x,H1,I1,r1,q1⟩=>?_)
 refine wpAny_Slice (thn (hl pins s1 σ H1 _ I1 q1) fun vl s2 ⟨l,H2,I2,pl,q2⟩=>thn (hu pins s2 σ H2 _ I2 q2) fun vu s3 ⟨u,H3,I3,pu,q3⟩=>?_)
 rw[evalPart_none]
 refine wpAny_pure ?_
 have I4:Inv X pins σ H3 { s3 with heap:=s3.heap.push { cls:=.type "slice",data:=.fields #[vl,vu,.none] } }:=I3.kept (t':=s3.toks) fun b ob q=>Heap.get?_push_of_some _ q
 obtain⟨T,id,hT,ht,hg⟩:=hr pins { s3 with heap:=s3.heap.push { cls:=.type "slice",data:=.fields #[vl,vu,.none] } } σ H3 x v vl vu l u s3.heap.objs.size Q I4 r1 (Heap.IsSliceOf.new ..) pl pu q3
 show wpAny (model X.prog X.w) X.A (subscriptTail e (.Slice lo hi none p2) v (.ref s3.heap.objs.size)) (EP X pins σ Q) X.xe { s3 with heap:=s3.heap.push { cls:=.type "slice",data:=.fields #[vl,vu,.none] } }
 exact tail_any (ops:=[.ref s3.heap.objs.size,v]) ht hT hg (by with_unfolding_all rfl)
def cutV (xs:List V)(lo hi:Option Int):List V:=(xs.drop (HT.sIx xs.length 0 lo)).take (HT.sIx xs.length xs.length hi-HT.sIx xs.length 0 lo)
theorem Xne (xs:List V)(lo hi:Option Int):(cutV xs lo hi).length≤xs.length:=by
 unfold cutV
 rw[List.length_take,List.length_drop]
 omega
end
end L2
namespace L2
open PySem PySem.Spec PyProof.Rows
def ixN (n:Nat)(i:Int):Option Nat:=if 0≤i then (if i<n then some i.toNat else none) else if -(n:Int)≤i then some (i+n).toNat else none
def atI {α:Type}(xs:List α)(i:Int):Option α:=(ixN xs.length i).bind fun j=>xs[j]?
theorem Xpv {n:Nat}{i:Int}{j:Nat}(h:ixN n i=some j):seqIndex? i n=some j∧j<n∧-(n:Int)≤i∧i<n:=by
 unfold ixN at h
 by_cases h0:0≤i
 · rw[if_pos h0] at h
   by_cases h1:i<n
   · rw[if_pos h1] at h
     have e:i.toNat=j:=Option.some.inj h
     exact⟨by rw[seqIndex_of h0 h1,e],by omega,by omega,h1⟩
   · rw[if_neg h1] at h;cases h
 · rw[if_neg h0] at h
   by_cases h1 : -(n:Int)≤i
   · rw[if_pos h1] at h
     have e:(i+n).toNat=j:=Option.some.inj h
     exact⟨by rw[seqIndex_neg (by omega) h1,e],by omega,h1,by omega⟩
   · rw[if_neg h1] at h;cases h
theorem Xpt {α:Type}{xs:List α}{i:Int}{v:α}(h:atI xs i=some v):∃j,seqIndex? i xs.length=some j∧xs[j]?=some v∧j<xs.length∧-(xs.length:Int)≤i∧i<xs.length:=by
 unfold atI at h
 cases e:ixN xs.length i with
 | none=>rw[e] at h;cases h
 | some j =>
   rw[e] at h
   obtain⟨h1,h2,h3,h4⟩:=Xpv e
   exact⟨j,h1,h,h2,h3,h4⟩
theorem Xmi {α:Type}{xs:List α}{j:Nat}{v:α}(h:xs[j]?=some v):atI xs (j:Int)=some v:=by
 have hj:j<xs.length:=(List.getElem?_eq_some_iff.mp h).1
 have e:ixN xs.length (j:Int)=some j:=by
   unfold ixN
   rw[if_pos (by omega),if_pos (by omega)];simp
 unfold atI;rw[e];exact h
theorem Xzm {α:Type}(xs:List α)(v:α):atI (xs++[v]) (-1)=some v:=by
 have hl:(xs++[v]).length=xs.length+1:=by simp
 have e:ixN (xs++[v]).length (-1)=some xs.length:=by
   unfold ixN
   rw[hl,if_neg (by decide),if_pos (by omega)]
   congr 1
   omega
 unfold atI
 rw[e]
 show (xs++[v])[xs.length]?=some v
 simp
def XBt (b:Expr):Prop:=∀o i,subscripted b false o i=operate [o,i] (getItem o i)
def IxR (X:Cx)(r:R2):Prop :=
 ∀(value slice:Expr) (pins:List (Addr×Obj)) (s:Shared) (σ:St) (H:Hp) (x y:V) (v u:Value) (Q:VK),Inv X pins σ H s→RelV x v→RelV y u→r x y H Q →
   subscripted slice false v u=operate [v,u] (getItem v u)→wpAny (model X.prog X.w) X.A (subscriptTail value slice v u) (EP X pins σ Q) X.xe s
def MtR (X:Cx)(id:String)(r:V→List V→Hp→VK→Prop):Prop :=
 ∀(pins:List (Addr×Obj)) (s:Shared) (σ:St) (H:Hp) (x:V) (xs:List V) (v:Value) (us:List Value) (Q:VK),Inv X pins σ H s→RelV x v→Vals xs us→r x xs H Q →
   wpAny (model X.prog X.w) X.A (call (.builtin id) (v::us)) (EP X pins σ Q) X.xe s
section
variable {X:Cx}{a b:Expr}{ta tb:TE}{pos:Pos}
theorem Xbd {r:R2}(hr:IxR X r)(ha:PE X a ta)(hb:PE X b tb)(hs:XBt b):PE X (.Subscript a b pos) (tOp r ta tb):=by
 intro pins s σ H Q I h
 exact Subscript_ (binT ha hb I h fun v u s2 x y H2 I2 rx ry q=>hr a b pins s2 σ H2 x y v u Q I2 rx ry q (hs _ _))
def rIxL (K:PySem.W.Frag):R2:=fun x y H Q=>∃p xs i v,x = .ref p∧y = .int i∧SqL K H p xs∧atI xs i=some v∧Q v H
def rIxT (K:PySem.W.Frag):R2:=fun x y H Q=>∃p xs i v,x = .ref p∧y = .int i∧SqT K H p xs∧atI xs i=some v∧Q v H
theorem Xat:IxR X (rIxL X.K):=by
 intro value slice pins s σ H x y v u Q I rx ry h hs
 obtain⟨p,xs,i,z,rfl,rfl,hq,he,q⟩:=h
 cases rx
 obtain⟨t,rfl⟩:=ry
 obtain⟨its,r,pl,hz⟩:=I.list hq
 obtain⟨j,h1,h2,h3,h4,h5⟩:=Xpt he
 obtain⟨w,ew,rw'⟩:=r.get h2
 have hl:=r.length
 have hn:=Xkz
 have fin:EP X pins σ Q w s:=⟨z,H,I,rw',q⟩
 by_cases h0:0≤i
 · have hj:i.toNat=j:=by
     rw[seqIndex_of h0 h5] at h1
     exact Option.some.inj h1
   exact item_listR pl.isList h0 (by omega) (by rw[hj];simpa using ew) fin hs
 · have hj:(i+(its.toArray.size:Int)).toNat=j:=by
     rw[seqIndex_neg (by omega) h4] at h1
     rw[List.size_toArray,←hl]
     exact Option.some.inj h1
   exact subscriptTail_builtinR (x:=w) pl.isList.typeIs slot_list_getitem.lookup
     (wpAny_getItem_list_neg (Q:=fun r s'=>r=w∧EP X pins σ Q r s') pl.isList (by omega) (by rw[List.size_toArray] <;> omega) (by omega) (by rw[hj];simpa using ew) ⟨rfl,fin⟩) hs
theorem Xci:IxR X (rIxT X.K):=by
 intro value slice pins s σ H x y v u Q I rx ry h hs
 obtain⟨p,xs,i,z,rfl,rfl,hq,he,q⟩:=h
 cases rx
 obtain⟨t,rfl⟩:=ry
 obtain⟨its,r,pl,hz⟩:=I.tuple hq
 obtain⟨j,h1,h2,h3,h4,h5⟩:=Xpt he
 obtain⟨w,ew,rw'⟩:=r.get h2
 have hl:=r.length
 have hn:=Xkz
 have fin:EP X pins σ Q w s:=⟨z,H,I,rw',q⟩
 exact subscriptTail_builtinR (x:=w) pl.typeIs slot_tuple_getitem.lookup
   (getItem_tuple (j:=j) (Q:=fun r s'=>r=w∧EP X pins σ Q r s') pl (by omega) (by omega) (by rw[List.size_toArray,←hl];exact h1) (by simpa using ew) ⟨rfl,fin⟩) hs
theorem Xot (its:List Value)(n j:Nat)(u:Value):Obj.mapSeq (·.setIfInBounds j u) { cls:=.type "list",data:=.seq its.toArray n }={ cls:=.type "list",data:=.seq (its.set j u).toArray n }:=by
 simp [Obj.mapSeq]
theorem Inv.lst {pins:List (Addr×Obj)}{σ:St}{H:Hp}{s:Shared}{p:Addr}{xs:List V}(I:Inv X pins σ H s)(h:H p=some (.lst xs)) :
   ∃(its:List Value) (n:Nat),Vals xs its∧s.heap.get? p=some { cls:=.type "list",data:=.seq its.toArray n }∧xs.length≤sizeLine:=by
 obtain⟨z,its,n,r,e⟩:=I.hok p _ h
 exact⟨its,n,r,e,z⟩
theorem Inv.lstUpd {pins:List (Addr×Obj)}{σ:St}{H:Hp}{s:Shared}{p:Addr}{xs ys:List V}{its its':List Value}{n n':Nat}{f:Obj→Obj}(I:Inv X pins σ H s)(h:H p=some (.lst xs))
   (ho:s.heap.get? p=some { cls:=.type "list",data:=.seq its.toArray n }) (hf:f { cls:=.type "list",data:=.seq its.toArray n }={ cls:=.type "list",data:=.seq its'.toArray n' }) (r:Vals ys its') (hz:ys.length≤sizeLine) (t:Nat) :
   Inv X pins σ (upd H p (.lst ys)) { s with heap:=s.heap.update p f,toks:=t }:=by
 have e:(s.heap.update p f).get? p=some { cls:=.type "list",data:=.seq its'.toArray n' }:=by
   rw[Heap.get?_update_self f ho (by rw[hf] <;> rfl),hf]
 refine I.write (x:=p) (e:=p) (by rw[h];trivial) (.inl rfl) (fun b u hb q=>(Heap.get?_update_other _ _ (Ne.symm hb)).trans q) ⟨_,e⟩ ?_
 exact⟨hz,its',n',r,e⟩
def XDd:V→V→V→Hp→(Hp→Prop)→Prop:=fun o i v H Q=>∃p xs k j,o = .ref p∧i = .int k∧H p=some (.lst xs)∧ixN xs.length k=some j∧Q (upd H p (.lst (xs.set j v)))
theorem Xea:PSet X XDd:=by
 intro pins s σ H o i v ov iv u Q I ro ri rv h
 obtain⟨p,xs,k,j,rfl,rfl,hp,hj,q⟩:=h
 cases ro
 obtain⟨t,rfl⟩:=ri
 obtain⟨its,n,r,ho,hz⟩:=I.lst hp
 obtain⟨h1,h2,h3,h4⟩:=Xpv hj
 have hl:=r.length
 have hn:=Xkz
 have I':Inv X pins σ (upd H p (.lst (xs.set j v))) { s with heap:=s.heap.update p (Obj.mapSeq (·.setIfInBounds j u)) } :=
   I.lstUpd hp ho (Xot its n j u) (r.set rv j) (by rw[List.length_set];exact hz) s.toks
 by_cases h0:0≤k
 · have hk:k.toNat=j:=by
     rw[seqIndex_of h0 h4] at h1
     exact Option.some.inj h1
   exact PySem.W.ki_setAt ho h0 (by omega) (by rw[List.size_toArray,←hl];exact h4) (by rw[hk];exact⟨_,I',q⟩)
 · have hk:(k+(its.toArray.size:Int)).toNat=j:=by
     rw[seqIndex_neg (by omega) h3] at h1
     rw[List.size_toArray,←hl]
     exact Option.some.inj h1
   exact PySem.W.ki_setBack ho (by omega) (by rw[List.size_toArray,←hl];exact h3) (by omega) (by rw[hk];exact⟨_,I',q⟩)
theorem Xlh (lo hi:Option Int)(n:Nat):(sliceBounds lo hi none n).1=((HT.sIx n 0 lo:Nat):Int)∧(sliceBounds lo hi none n).2.1=((HT.sIx n n hi:Nat):Int)∧(sliceBounds lo hi none n).2.2=1:=by
 refine⟨?_,?_,rfl⟩
 · cases lo with
   | none=>simp [sliceBounds,HT.sIx]
   | some i =>
     simp only [sliceBounds,HT.sIx,Option.getD_none,show (1:Int)>0 by decide,if_true]
     by_cases h:i<0
     · simp only [h,if_true] <;> omega
     · simp only [h,if_false] <;> omega
 · cases hi with
   | none=>simp [sliceBounds,HT.sIx]
   | some i =>
     simp only [sliceBounds,HT.sIx,Option.getD_none,show (1:Int)>0 by decide,if_true]
     by_cases h:i<0
     · simp only [h,if_true] <;> omega
     · simp only [h,if_false] <;> omega
theorem Xkm (its:List Value)(lo hi:Option Int):slicePick its.toArray lo hi none=((its.drop (HT.sIx its.length 0 lo)).take (HT.sIx its.length its.length hi-HT.sIx its.length 0 lo)).toArray:=by
 obtain⟨h1,h2,h3⟩:=Xlh lo hi its.toArray.size
 unfold slicePick
 rw[h1,h2,h3]
 simp only [sliceRange_one,pick_run,List.size_toArray] <;> rfl
def rSlL (K:PySem.W.Frag):V→Option Int→Option Int→Hp→VK→Prop:=fun x lo hi H Q=>∃a xs,x = .ref a∧SqL K H a xs∧∀p,H p=none→Q (.ref p) (upd H p (.lst (cutV xs lo hi)))
theorem Xhq:SlR X (rSlL X.K):=by
 intro pins s σ H x v vl vu lo hi sl Q I rx hs pl pu h
 obtain⟨a,xs,rfl,hx,q⟩:=h
 cases rx
 obtain⟨its,r,ht,hz⟩:=I.list hx
 have hlen:=r.length
 refine⟨"list",_,slot_list_getitem.lookup,ht.isList.typeIs,?_⟩
 refine wpAny_getItem_list_slice ht.isList hs pl pu .none (by simp) ?_ (by rw[List.size_toArray] <;> omega)
 rw[Xkm,←hlen]
 refine⟨.ref s.heap.objs.size,_,I.laid (t':=s.toks) (o:=.lst (cutV xs lo hi)) (fun b ob q=>Heap.get?_push_of_some _ q) (Nat.le_refl _) ?_,rfl,q _ (I.hok.fresh (Nat.le_refl _))⟩
 exact⟨Nat.le_trans (Xne xs lo hi) hz,_,0,(r.drop (HT.sIx xs.length 0 lo)).take (HT.sIx xs.length xs.length hi-HT.sIx xs.length 0 lo),Heap.get?_push_size _ rfl⟩
def Xhu:V→Bool
 | .non=>true
 | .bl _=>true
 | .int _=>true
 | .str _=>true
 | _=>false
def eqV:V→V→Bool
 | .non,.non=>true
 | .bl a,.bl b=>a==b
 | .bl a,.int b=>(if a then 1 else 0)==b
 | .int a,.bl b=>a==(if b then 1 else 0)
 | .int a,.int b=>a==b
 | .str a,.str b=>a==b
 | _,_=>false
theorem XOe {A:Around}{s:Shared}{y x:V}{u v:Value}(ry:RelV y u)(rx:RelV x v)(fy:Xhu y=true)(fx:Xhu x=true):SeqAt.EqAt A s u v (eqV y x):=by
 cases y with
 | non =>
   cases ry
   cases x with
   | non=>cases rx;exact SeqAt.EqAt.same _
   | bl b=>cases rx;exact SeqAt.EqAt.none_bool b
   | int b=>obtain⟨t,rfl⟩:=rx;exact SeqAt.EqAt.none_int b t
   | str b=>obtain⟨t,rfl⟩:=rx;exact SeqAt.EqAt.none_str b t
   | _=>exact absurd (show false=true from fx) Bool.false_ne_true
 | bl a =>
   cases ry
   cases x with
   | non=>cases rx;exact SeqAt.EqAt.bool_none a
   | bl b=>cases rx;exact SeqAt.EqAt.bool_bool a b
   | int b=>obtain⟨t,rfl⟩:=rx;exact SeqAt.EqAt.bool_int a b t
   | str b=>obtain⟨t,rfl⟩:=rx;exact SeqAt.EqAt.bool_str a b t
   | _=>exact absurd (show false=true from fx) Bool.false_ne_true
 | int a =>
   obtain⟨t',rfl⟩:=ry
   cases x with
   | non=>cases rx;exact SeqAt.EqAt.int_none a t'
   | bl b=>cases rx;exact SeqAt.EqAt.int_bool a t' b
   | int b=>obtain⟨t,rfl⟩:=rx;exact SeqAt.EqAt.int_int a t' b t
   | str b=>obtain⟨t,rfl⟩:=rx;exact SeqAt.EqAt.int_str a t' b t
   | _=>exact absurd (show false=true from fx) Bool.false_ne_true
 | str a =>
   obtain⟨t',rfl⟩:=ry
   cases x with
   | non=>cases rx;exact SeqAt.EqAt.str_none a t'
   | bl b=>cases rx;exact SeqAt.EqAt.str_bool a t' b
   | int b=>obtain⟨t,rfl⟩:=rx;exact SeqAt.EqAt.str_int a t' b t
   | str b=>obtain⟨t,rfl⟩:=rx;exact SeqAt.EqAt.str_str a t' b t
   | _=>exact absurd (show false=true from fx) Bool.false_ne_true
 | _=>exact absurd (show false=true from fy) Bool.false_ne_true
theorem Xay:Xit X (.builtin "len") (fun xs H Q=>∃p ys,xs=[.ref p]∧(SqL X.K H p ys∨SqT X.K H p ys)∧Q (.int ys.length) H):=by
 intro pins s σ H xs us Q I r h
 obtain⟨p,ys,rfl,hq,q⟩:=h
 obtain⟨u,rfl,rx⟩:=Xvp r
 cases rx
 have hn:=Xkz
 rcases hq with hq | hq
 · obtain⟨its,r',pl,hz⟩:=I.list hq
   have hlen:=r'.length
   exact Calls.call_len_list pl.isList (by simp only [List.size_toArray] <;> omega) ⟨.int ys.length,H,I.tok _,⟨s.toks+1,by rw[List.size_toArray,hlen]⟩,q⟩
 · obtain⟨its,r',pl,hz⟩:=I.tuple hq
   have hlen:=r'.length
   exact len_tuple pl (by simp only [List.size_toArray] <;> omega) ⟨.int ys.length,H,I.tok _,⟨s.toks+1,by rw[List.size_toArray,hlen]⟩,q⟩
theorem Xcf:Xit X (.type "list") (fun xs H Q=>∃p ys,xs=[.ref p]∧(SqL X.K H p ys∨SqT X.K H p ys)∧∀l,H l=none→Q (.ref l) (upd H l (.lst ys))):=by
 intro pins s σ H xs us Q I r h
 obtain⟨p,ys,rfl,hq,q⟩:=h
 obtain⟨u,rfl,rx⟩:=Xvp r
 cases rx
 have fin:∀(its:List Value),Vals ys its→ys.length≤sizeLine→∀(h':Heap) (c':Nat),(∀b o',s.heap.get? b=some o'→h'.get? b=some o') →
     h'.get? s.heap.objs.size=some { cls:=.type "list",dict:=none,data:=.seq its.toArray c',slots:=#[] }→EP X pins σ Q (.ref s.heap.objs.size) { s with heap:=h' }:=fun its r' hz h' c' kp e =>
   ⟨.ref s.heap.objs.size,_,I.laid (t':=s.toks) kp (Nat.le_refl _) (show Xcj X.prog X.w _ h' _ (.lst ys) from ⟨hz,its,c',r',e⟩),rfl,q _ (I.hok.fresh (Nat.le_refl _))⟩
 rcases hq with hq | hq
 · obtain⟨its,r',pl,hz⟩:=I.list hq
   have hlen:=r'.length
   obtain⟨o,ho,hc,n,hd⟩:=pl.isList
   exact call_list_seq p (.inl rfl) ho hc hd (fun h' c' kp e=>fin its r' hz h' c' kp e) (by simp only [List.size_toArray] <;> omega)
 · obtain⟨its,r',pl,hz⟩:=I.tuple hq
   have hlen:=r'.length
   obtain⟨o,ho,hc,n,hd⟩:=pl
   exact call_list_seq p (.inr rfl) ho hc hd (fun h' c' kp e=>fin its r' hz h' c' kp e) (by simp only [List.size_toArray] <;> omega)
def tyV (K:PySem.W.Frag)(T:String)(x:V)(H:Hp):Prop:=match x with
 | .str _=>T="str"
 | .int _=>T="int"
 | .ref p=>(T="list"∧∃xs,SqL K H p xs)∨(T="tuple"∧∃o,K.lookup p=some o∧o.cls = .type "tuple"∧o.dict=none) ∨
     (T="dict"∧((∃kvs,H p=some (.dK kvs))∨∃kvs,H p=some (.dT kvs)))∨(T="set"∧∃S n,H p=some (.set S n))
 | _=>False
theorem XAs {pins:List (Addr×Obj)}{σ:St}{H:Hp}{s:Shared}{T:String}{x:V}{v:Value}(I:Inv X pins σ H s)(r:RelV x v)(ty:tyV X.K T x H) :
   s.TypeIs v T∧∀a,v = .ref a→∃ob,s.heap.get? a=some ob∧ob.dict=none:=by
 cases x with
 | str z =>
   obtain⟨t,rfl⟩:=r
   cases (show T="str" from ty)
   exact⟨typeIs_str s z t,fun _ e=>nomatch e⟩
 | int i =>
   obtain⟨t,rfl⟩:=r
   cases (show T="int" from ty)
   exact⟨typeIs_int s i t,fun _ e=>nomatch e⟩
 | ref p =>
   cases r
   rcases ty with ⟨rfl,xs,hq⟩ | ⟨rfl,o,hk,hc,hd⟩ | ⟨rfl,hk⟩ | ⟨rfl,S,n,hk⟩
   · obtain⟨its,_,pl,_⟩:=I.list hq
     refine⟨pl.isList.typeIs,fun a e=>?_⟩
     cases e
     obtain⟨o,n,e,c,hd,_⟩:=pl
     exact⟨o,e,hd⟩
   · refine⟨⟨o,I.kIn p o hk,hc⟩,fun a e=>?_⟩
     cases e
     exact⟨o,I.kIn _ o hk,hd⟩
   · have z:∃o,s.heap.get? p=some o∧o.ExactDict:=by
       rcases hk with ⟨kvs,hk⟩ | ⟨kvs,hk⟩
       · obtain⟨_,_,_,_,o,_,_,e,ex,_⟩:=I.hok p _ hk
         exact⟨o,e,ex⟩
       · obtain⟨_,_,_,_,o,_,_,e,ex,_⟩:=I.hok p _ hk
         exact⟨o,e,ex⟩
     obtain⟨o,e,ex⟩:=z
     refine⟨⟨o,e,ex.1⟩,fun a e2=>?_⟩
     cases e2
     exact⟨o,e,ex.2.1⟩
   · obtain⟨o,_,_,_,e,ex,_⟩:=I.hok p _ hk
     refine⟨⟨o,e,ex.1⟩,fun a e2=>?_⟩
     cases e2
     exact⟨o,e,ex.2.1⟩
 | _=>exact False.elim ty
def tBM0 (K:PySem.W.Frag)(T:String)(r:V→List V→Hp→VK→Prop)(to:TE):TE:=fun σ H Q=>to σ H fun x H1=>tyV K T x H1∧r x [] H1 Q
def tBM (K:PySem.W.Frag)(T:String)(r:V→List V→Hp→VK→Prop)(to:TE)(t:TA):TE:=fun σ H Q=>to σ H fun x H1=>tyV K T x H1∧t σ H1 fun xs H2=>r x xs H2 Q
variable {o e:Expr}{es:List Expr}{to:TE}{t:TA}{name:Str}{apos cpos:Pos}{T id:String}{r:V→List V→Hp→VK→Prop}
theorem XAy (pa:PlainAttrs T)(slot:Slot T name id)(hty:typeOf (.builtin id)=pure (.type "method_descriptor"))(hm:MtR X id r)(ho:PE X o to)
   (hbase:attributeBase o name X.env (eval o X.env)=eval o X.env:=by rfl) (hline:(apos.endLine==cpos.line)=true:=by rfl):PE X (.Call (.Attribute o name apos) [] [] cpos) (tBM0 X.K T r to):=by
 intro pins s σ H Q I h
 refine wpAny_Call_method0_late hbase hline (thn (ho pins s σ H _ I h) fun v s1 ⟨x,H1,I1,r1,ty,q1⟩=>?_)
 obtain⟨h1,h2⟩:=XAs I1 r1 ty
 exact⟨T,id,pa,slot,hty,h1,h2,Calls.callWith_builtin rfl (PySem.evalArgs_none (hm pins s1 σ H1 x [] v [] Q I1 r1 .nil q1))⟩
theorem Xrg (pa:PlainAttrs T)(slot:Slot T name id)(hty:typeOf (.builtin id)=pure (.type "method_descriptor"))(hm:MtR X id r)(ho:PE X o to)(ha:PA X (e::es) t)
   (hbase:attributeBase o name X.env (eval o X.env)=eval o X.env:=by rfl)
   (hfew:((backTo cpos (starEach (e::es) X.env)).all (fun x=>!x.1)&&(backToKw cpos (keywordEach [] X.env)).all (fun x=>x.1.isSome)
     && decide ((e::es).length+([]:List Keyword).length+(if ([]:List Keyword).isEmpty then 0 else 1)<30))=true:=by rfl)
   (hline:(apos.endLine==cpos.line)=true:=by rfl) (hs:starEach (e::es) X.env=(false,eval e X.env)::starEach es X.env:=by rfl) (hplain:(backTo cpos (starEach es X.env)).any (·.1)=false:=by rfl) :
   PE X (.Call (.Attribute o name apos) (e::es) [] cpos) (tBM X.K T r to t):=by
 intro pins s σ H Q I h
 refine wpAny_Call_method_late hbase hfew hline rfl (thn (ho pins s σ H _ I h) fun v s1 ⟨x,H1,I1,r1,ty,q1⟩=>?_)
 obtain⟨h1,h2⟩:=XAs I1 r1 ty
 refine⟨T,id,pa,slot,hty,h1,h2,?_⟩
 have hA:=ha cpos pins s1 σ H1 _ I1 q1
 rw[hs] at hA ⊢
 refine Calls.callWith_builtin (by show (false||(backTo cpos (starEach es X.env)).any (·.1))=false;rw[hplain] <;> rfl) (Calls.evalArgs_plain ?_)
 exact thn hA fun us s2 ⟨vs,H2,I2,r2,q2⟩=>hm pins s2 σ H2 x vs v us Q I2 r1 r2 q2
/- xs.append(e),list.index on a module's tuple .. are MtR facts of 06m -/
end
end L2
namespace L2
open PySem PySem.Spec PyProof.Rows
def MtM (X:Cx)(id:String)(r:V→List V→Hp→VK→Prop):Prop :=
 ∀(pins:List (Addr×Obj)) (s:Shared) (σ:St) (H:Hp) (x:V) (xs:List V) (v:Value) (us:List Value) (Q:VK),Inv X pins σ H s→RelV x v→Vals xs us→r x xs H Q →
   wpAny (model X.prog X.w) X.A (call (.builtin id) (v::us)) (EP X pins σ Q) X.xe s
theorem Vals.one:∀{x:V} {us:List Value},Vals [x] us→∃u,us=[u]∧RelV x u
 | _,_,.cons r .nil=>⟨_,rfl,r⟩
theorem Vals.zero:∀{us:List Value},Vals [] us→us=[]
 | _,.nil=>rfl
theorem Vals.dropLast {xs:List V}{us:List Value}(h:Vals xs us):Vals xs.dropLast us.dropLast:=by
 induction h with
 | nil=>exact .nil
 | cons r t ih =>
   cases t with
   | nil=>exact .nil
   | cons q t'=>exact .cons r ih
theorem Vals.rep {xs:List V}{us:List Value}(h:Vals xs us):∀k:Nat,Vals (List.replicate k xs).flatten (List.replicate k us).flatten
 | 0=>.nil
 | k+1=>by
   rw[List.replicate_succ,List.replicate_succ,List.flatten_cons,List.flatten_cons]
   exact Vals.append h (Vals.rep h k)
theorem Xlk (its:List Value):∀(k:Nat) (acc:List Value),
   List.foldl (fun x1 x2=>x1++x2) acc.toArray (List.replicate k its.toArray)=(acc++(List.replicate k its).flatten).toArray
 | 0,acc=>by simp
 | k+1,acc=>by
   have e:acc.toArray++its.toArray=(acc++its).toArray:=by simp
   have e2:(acc++its)++(List.replicate k its).flatten=acc++(List.replicate (k+1) its).flatten:=by
     rw[List.replicate_succ,List.flatten_cons,List.append_assoc]
   rw[←e2,←Xlk its k (acc++its),←e,List.replicate_succ,List.foldl_cons]
section
variable {X:Cx}{pins:List (Addr×Obj)}{σ:St}{H:Hp}{s:Shared}{l b:Addr}{xs ys zs:List V}
theorem Inv.lset {its its':List Value}{n:Nat}{f:Array Value→Array Value}{t':Nat}(I:Inv X pins σ H s)(hH:H l=some (.lst xs))
   (e:s.heap.get? l=some { cls:=.type "list",data:=.seq its.toArray n }) (hf:f its.toArray=its'.toArray) (hv:Vals ys its') (hz:ys.length≤sizeLine) :
   Inv X pins σ (upd H l (.lst ys)) { s with heap:=s.heap.update l (Obj.mapSeq f),toks:=t' }:=by
 have q:=PySem.IsL.update e f
 rw[hf] at q
 refine I.write (x:=l) (e:=l) (by rw[hH];exact trivial) (.inl rfl) (fun b' u hb hu=>(Heap.get?_update_other s.heap (Obj.mapSeq f) (Ne.symm hb)).trans hu) ⟨_,q⟩ ?_
 exact⟨hz,its',_,hv,q⟩
theorem Inv.lnew {its:List Value}{t':Nat}(I:Inv X pins σ H s)(hv:Vals ys its)(hz:ys.length≤sizeLine) :
   Inv X pins σ (upd H s.heap.objs.size (.lst ys)) { s with heap:=s.heap.push { cls:=.type "list",data:=.seq its.toArray },toks:=t' } :=
 I.laid (fun _ _ q=>Heap.get?_push_of_some _ q) (Nat.le_refl _) ⟨hz,its,0,hv,Heap.get?_push_size _ rfl⟩
theorem Inv.fresh (I:Inv X pins σ H s):H s.heap.objs.size=none:=I.hok.fresh (Nat.le_refl _)
theorem Inv.lstM (I:Inv X pins σ H s)(hH:H l=some (.lst xs)):xs.length≤sizeLine∧∃(its:List Value) (n:Nat),Vals xs its∧xs.length=its.length∧s.heap.get? l=some { cls:=.type "list",data:=.seq its.toArray n }:=by
 obtain⟨z,its,n,r,e⟩:=I.hok l _ hH
 exact⟨z,its,n,r,r.length,e⟩
theorem Xon {n:Nat}(h:n≤sizeLine):Builtin.List.listTooLong n=false:=by
 unfold Builtin.List.listTooLong
 exact decide_eq_false (by omega)
end
section
variable {X:Cx}
def Xuj:V→List V→Hp→VK→Prop:=fun x vs H Q=>∃l xs y,x = .ref l∧vs=[y]∧H l=some (.lst xs)∧xs.length<sizeLine∧Q .non (upd H l (.lst (xs++[y])))
theorem Xdy:MtM X "list.append" Xuj:=by
 intro pins s σ H x vs v us Q I rx rv h
 obtain⟨l,xs,y,rfl,rfl,hH,hz,q⟩:=h
 cases rx
 obtain⟨u,rfl,ru⟩:=rv.one
 obtain⟨z,its,n,r,hl,e⟩:=I.lstM hH
 refine call_meets F.slot_list_append ⟨_,e,rfl⟩ F.entry_list_append (F.args_list_append_2 _ _) (PySem.list_append l its.toArray n u (by rw[List.size_toArray];omega)) ⟨e,?_⟩
 refine⟨.non,_,I.lset (its':=its++[u]) hH e (by simp) (r.append (.cons ru .nil)) ?_,rfl,q⟩
 rw[List.length_append,List.length_singleton]
 omega
def XJb:V→List V→Hp→VK→Prop:=fun x vs H Q=>∃l b xs zs,x = .ref l∧vs=[.ref b]∧H l=some (.lst xs)∧H b=some (.lst zs)∧xs.length+zs.length≤sizeLine∧Q .non (upd H l (.lst (xs++zs)))
theorem XPt:MtM X "list.extend" XJb:=by
 intro pins s σ H x vs v us Q I rx rv h
 obtain⟨l,b,xs,zs,rfl,rfl,hH,hB,hz,q⟩:=h
 cases rx
 obtain⟨u,rfl,ru⟩:=rv.one
 cases ru
 obtain⟨z,its,n,r,hl,e⟩:=I.lstM hH
 obtain⟨z2,its2,n2,r2,hl2,e2⟩:=I.lstM hB
 have hsz:its.toArray.size+its2.toArray.size≤sizeLine:=by rw[List.size_toArray,List.size_toArray];omega
 have hlong:¬(!its.toArray.isEmpty&&Builtin.List.listTooLong (its.toArray.size+its2.toArray.size))=true:=by
   rw[Xon hsz,Bool.and_false]
   exact Bool.false_ne_true
 refine call_meets F.slot_list_extend ⟨_,e,rfl⟩ F.entry_list_extend (F.args_list_extend_2 _ _)
   (AutoSeq1.list_extend_list_list_0 l its.toArray n b its2.toArray n2 hlong (by rw[List.size_toArray];omega) (by omega)) ⟨e,e2,?_⟩
 refine⟨.non,_,I.lset (its':=its++its2) hH e (by simp) (r.append r2) ?_,rfl,q⟩
 rw[List.length_append]
 omega
def rCat:R2:=fun x y H Q=>∃l b xs zs,x = .ref l∧y = .ref b∧H l=some (.lst xs)∧H b=some (.lst zs)∧xs.length+zs.length≤sizeLine∧∀p,H p=none→Q (.ref p) (upd H p (.lst (xs++zs)))
theorem Xum:OpR X (binaryOp .Add) rCat:=by
 intro pins s σ H x y v u Q I rx ry h
 obtain⟨l,b,xs,zs,rfl,rfl,hH,hB,hz,q⟩:=h
 cases rx
 cases ry
 obtain⟨z,its,n,r,hl,e⟩:=I.lstM hH
 obtain⟨z2,its2,n2,r2,hl2,e2⟩:=I.lstM hB
 refine PySem.P.add_list e e2 ?_ (by rw[List.size_toArray,List.size_toArray];omega)
 have ea:its.toArray++its2.toArray=(its++its2).toArray:=by simp
 rw[ea]
 exact⟨.ref _,_,I.lnew (t':=s.toks) (r.append r2) (by rw[List.length_append];omega),rfl,q _ I.fresh⟩
def rRep:R2:=fun x y H Q=>∃l k xs,x = .ref l∧y = .int k∧H l=some (.lst xs)∧-(2^63)≤k∧k<2^63∧xs.length*k.toNat≤sizeLine ∧
 ∀p,H p=none→Q (.ref p) (upd H p (.lst (List.replicate k.toNat xs).flatten))
theorem XFb {α:Type}(xs:List α)(k:Nat):(List.replicate k xs).flatten.length=k*xs.length:=by
 induction k with
 | zero=>simp
 | succ k ih=>rw[List.replicate_succ,List.flatten_cons,List.length_append,ih,Nat.succ_mul,Nat.add_comm]
theorem XAv:OpR X (binaryOp .Mult) rRep:=by
 intro pins s σ H x y v u Q I rx ry h
 obtain⟨l,k,xs,rfl,rfl,hH,h1,h2,hz,q⟩:=h
 cases rx
 obtain⟨t,rfl⟩:=ry
 obtain⟨z,its,n,r,hl,e⟩:=I.lstM hH
 have hlen:its.toArray.size*k.toNat≤sizeLine:=by rw[List.size_toArray,←hl];exact hz
 have hcap:¬its.toArray.size*k.toNat>(2^63-1)/8:=by
   have:(sizeLine:Nat)≤(2^63-1)/8:=by decide
   omega
 have hfit:¬(!Builtin.List.listFitsIndex k)=true:=by
   rw[fitsIndex_both h1 h2]
   exact Bool.false_ne_true
 have hlong:¬Builtin.List.listTooLong (its.toArray.size*k.toNat)=true:=by
   rw[Xon hlen]
   exact Bool.false_ne_true
 have hnew:List.foldl (fun x1 x2=>x1++x2) #[] (List.replicate (if its.toArray.isEmpty=true then 0 else k.toNat) its.toArray)=(List.replicate k.toNat its).flatten.toArray:=by
   have f0:∀m:Nat,List.foldl (fun x1 x2=>x1++x2) #[] (List.replicate m its.toArray)=(List.replicate m its).flatten.toArray:=fun m=>by
     have:=Xlk its m []
     rw[List.nil_append] at this
     exact this
   rw[f0]
   cases its with
   | nil=>simp
   | cons a r'=>rw[if_neg (by simp)]
 refine wpAny_binaryOp_repeat_ref (T:="list") (U:="int") (by decide) ⟨_,e,rfl⟩ (fun s'=>typeIs_int s' k t) noFill_list_mul F.fills_int_mul F.slot_int_rmul repeat_list F.slot_int_index.lookup
   (call_meets F.slot_int_rmul (typeIs_int s k t) F.entry_int_rmul (F.args_int_rmul_2 _ _) (int___rmul___int_list k t l its.toArray n)
     ⟨e,rfl,⟨_,e,rfl⟩,call_meets F.slot_list_mul ⟨_,e,rfl⟩ F.entry_list_mul (F.args_list_mul_2 _ _) (AutoListH.list___mul___list_int_3 l its.toArray n k t hfit hcap hlong) ⟨e,?_⟩⟩)
 rw[hnew]
 exact⟨.ref _,_,I.lnew (t':=s.toks) (r.rep k.toNat) (by rw[XFb,Nat.mul_comm];exact hz),rfl,q _ I.fresh⟩
end
section
variable {prog:Program}{w:World}{A:Around}{E:Value→Shared→Prop}{s:Shared}
end
section
variable {X:Cx}
end
end L2
namespace Att
open PySem PySem.W PySem.Calls PyProof.Rows
theorem Xis {P:Params}{h:Heap}:∀(ns:List Int) (vs:List Value),WellAll P h vs (ns.map WData.int)→IntsAre vs ns:=by
 intro ns
 induction ns with
 | nil =>
   intro vs w
   rw[List.map_nil] at w
   cases w
   exact .nil
 | cons n ns ih =>
   intro vs w
   rw[List.map_cons] at w
   cases w with
   | cons a b =>
     cases a
     exact .cons _ _ (ih _ b)
theorem Xra {l:OpenLaw}{n:Nat}(hn:l.most=some n){P:Params}{h:Heap}{args:List WData}{vals:List Value}
   (hpre:l.row.toRowW.claim.pre args=true) (hwl:WellAll P h vals args) :
   ∃a vs ns,vals=[Value.ref a]∧args=[WData.list (ns.map WData.int)]∧h.get? a=some { cls:=.type "list",data:=.seq vs.toArray }∧IntsAre vs ns∧ns.length≤n:=by
 have hsh:WShape.hasAll [] args [.list .int]=true:=(pre_splitW hpre).1
 have hc:l.pre.holds [] { args:=args }=true:=(pre_splitW hpre).2
 obtain⟨d,r,rfl,h1,h2⟩:=hasAllW_cons hsh
 obtain rfl:=hasAllW_nil h2
 obtain⟨xs,rfl,h3⟩:=hasW_list h1
 obtain⟨ns,rfl⟩:=items_int h3
 have hlen:ns.length≤n:=by
   unfold OpenLaw.pre at hc
   have h4:(WTm.not (.lt (.lit (.int (n:Int))) (.len (.arg 0)))).holds [] { args:=[.list (ns.map .int)] }=true:=by
     have h4:=(holds_andW hc).1
     rw[hn] at h4
     exact h4
   have h5:=condW_of h4 (w_not (w_lt w_lit (w_len_list (w_arg rfl))))
   rw[List.length_map] at h5
   refine Nat.le_of_not_lt fun q=>?_
   have q':(n:Int)<((ns.length:Nat):Int):=by omega
   first
     | (rw[decide_eq_true q'] at h5;exact absurd h5 (by decide))
     | (simp at h5;omega)
 cases hwl with
 | cons w1 w2 =>
   cases w2
   cases w1 with
   | list ho hall=>exact⟨_,_,ns,rfl,rfl,ho,Xis ns _ hall,hlen⟩
theorem Xqz (l:OpenLaw)(args:List WData):l.row.toRowW.claim.post args (.bool true) args=true :=
 postW_of (r:=l.row.toRowW) (X:=(true==true))
   (show WShape.has [] (.bool true) .bool=true by first | rfl | decide | simp [WShape.has,WShape.arms,WShape.armsAll])
   (show (WTm.eq .res (.lit (.bool true))).value [] { args:=args,res:=some (.bool true),after:=args }=some (.bool (true==true)) from w_eq_bool (w_res rfl) w_lit) rfl
theorem attach_call {l:OpenLaw}{n:Nat}{q:Program}{loose:List Str}{XP:(Str→Option Value)→Heap→Prop}{YP:World→Heap→Prop}{d:DefRec}
   (hn:l.most=some n) (hdf:d.params.defaults=[])
   (call:∀(w:World) (s₀ s₁:Shared) (mg mb:Str→Option Value) (fa:Addr) (o:Obj) (pm cd doc:Value) (a:Addr) (vs:List Value) (ns:List Int),
     Ground q loose [] XP w s₀ mg mb s₁.heap→YP w s₁.heap →
     s₁.heap.get? fa=some o→o.data = .func (docDef d.name d.params d.body d.scope pm cd doc)→s₁.heap.CodeRec cd d.name→mg d.name=some (.ref fa) →
     s₁.heap.get? a=some { cls:=.type "list",data:=.seq vs.toArray }→IntsAre vs ns→ns.length≤n→s₁.gens=#[] →
     codeAny (model l.prog w) callerA (.call (.ref fa) ⟨[.ref a],[]⟩) (fun r s'=>r = .ok (.ret (.bool true))∧OldK s₁.heap s'.heap∧s'.os=s₁.os∧AllBare s'.gens) s₁) :
   WalkO q loose XP YP l.row.toRowW d [] (fun f vs=>PySem.call f vs):=by
 intro w s₀ s₁ mg mb G Y fa o pm cd doc dV kV ho hd hcd hD hmg hg args vals as hpre hlay hrd hwl hlo
 obtain rfl:dV = .none:=Dflts.none hD hdf
 obtain rfl:kV = .none:=Dflts.noKw hD
 obtain⟨a,vs,ns,rfl,rfl,hobj,hints,hlen⟩:=Xra hn hpre hwl
 refine enter_call (codeAny_mono (call w s₀ s₁ mg mb fa o pm cd doc a vs ns G Y ho (fd_plain hd) hcd hmg hobj hints hlen hg) fun r s' hq=>?_)
 obtain⟨rfl,h2,h3,h4⟩:=hq
 exact⟨.inl ⟨.bool true,.bool true,[],rfl,fun _=>rfl,.bool true,Xqz l _,fun _=>⟨List.Pairwise.nil,fun _ hm=>(nomatch hm)⟩⟩,h2,h3,h4⟩
section
variable {prog:Program}{w:World}{A:Around}{E:Value→Shared→Prop}{s:Shared}{K:Frag}
end
end Att
namespace L2
open PySem PySem.Spec PyProof.Rows
theorem Xky:∀{vs:List Value} {ns:List Int},IntsAre vs ns→Vals (ns.map V.int) vs
 | _,_,.nil=>.nil
 | _,_,.cons n t h=>.cons ⟨t,rfl⟩ (Xky h)
def Only (H:Hp):Prop:=∀b,H b=none∨∃o xs,H b=some (.frz o (.lst xs))
theorem Xwv {P:Program}{w:World}{K:PySem.W.Frag}{mg mb:Str→Option Value}{CX:CXT}{k:Nat}{fa a:Addr}{fd:FuncData}{x:Str}{sp:Sp}{s₁:Shared}{vs:List Value}{ns:List Int}
   (KX:K.In s₁.heap) (hns:s₁.heap.Ns mainGlobals mg) (hb:s₁.heap.Ns builtinsNs mb) (hbb:∀x:Str,x≠"__name__"→mb x=bootBuiltins x) (hlim:s₁.heap.NoLimit) (hg:s₁.gens=#[])
   (ha:s₁.heap.get? a=some { cls:=.type "list",data:=.seq vs.toArray }) (hi:IntsAre vs ns) (hl:ns.length≤sizeLine) (hr:Room k callerA)
   (F:∀base:Heap,K.In base→base.Ns mainGlobals mg→FnOk P w K mg base CX k fa fd [x] sp) (hbind:∀(s:Shared) (u:Value),BindsTo s fd ⟨[u],[]⟩ [(x,u)])
   (hsp:∀H:Hp,Only H→SqL K H a (ns.map V.int)→sp [.ref a] H (fun v _=>v = .bl true) fun _ _ _=>False)
   (hCX:∀H e s',CX [] H s₁ (fun _ _ _=>False) e s'→False) :
   codeAny (model P w) callerA (.call (.ref fa) ⟨[.ref a],[]⟩) (fun r s'=>r = .ok (.ret (.bool true))∧OldK s₁.heap s'.heap∧s'.os=s₁.os∧AllBare s'.gens) s₁:=by
 have rv:=Xky hi
 have lenV:=hi.length
 -- from an abstract heap in which nothing but the script may be tracked
 have core:∀H:Hp,Only H→SqL K H a (ns.map V.int)→HOk P w H s₁.heap→(∀b,H b≠none→b=a)→(H a≠none→K.lookup a=none) →
     codeAny (model P w) callerA (.call (.ref fa) ⟨[.ref a],[]⟩) (fun r s'=>r = .ok (.ret (.bool true))∧OldK s₁.heap s'.heap∧s'.os=s₁.os∧AllBare s'.gens) s₁:=by
   intro H hO hS hok hA hK
   have base_of:∀{b:Addr} {o:Obj},s₁.heap.get? b=some o→H b=none→(hidT s₁.heap H).get? b=some o:=fun e n=>Xwn e n
   have noA:∀{b:Addr} {o:Obj} {es:Array DictEntry} {ep:Nat},s₁.heap.get? b=some o→o.data = .dict es ep→H b=none:=fun {b o es ep} e d=>by
     cases q:H b with
     | none=>rfl
     | some u =>
       have e':b=a:=hA b (by rw[q];simp)
       subst e'
       rw[ha] at e;cases e
       have d':Data.seq vs.toArray _=Data.dict es ep:=d
       cases d'
   have nsK:∀{b:Addr} {m:Str→Option Value},s₁.heap.Ns b m→(hidT s₁.heap H).Ns b m:=fun {b m} ⟨o,es,ep,e,d,r⟩=>⟨o,es,ep,base_of e (noA e d),d,r⟩
   have hKb:K.In (hidT s₁.heap H):=fun b o e=>base_of (KX b o e) (by
     cases q:H b with
     | none=>rfl
     | some u =>
       have e':b=a:=hA b (by rw[q];simp)
       subst e'
       rw[hK (by rw[q];simp)] at e;cases e)
   have hM:Mod K mg (hidT s₁.heap H):=⟨hKb,nsK hns,⟨mb,nsK hb,hbb⟩,let ⟨mc,h1,h2⟩:=hlim;⟨mc,nsK h1,h2⟩⟩
   have e0:Env0 P w K mg (hidT s₁.heap H) callerA [] s₁ H:=⟨rfl,hM,fun b o e=>XIq e,Nat.le_of_eq (Xpy _ _),trivial,fun b hb=>absurd (show b∈([]:List Addr) from hb) (by simp),hok,.of_eq hg⟩
   refine codeAny_mono ((F _ hKb (nsK hns)).run callerA [] s₁ H ⟨[.ref a],[]⟩ [.ref a] [.ref a] _ _ hr e0 (hbind s₁ (.ref a)) (.cons rfl .nil) (hsp H hO hS)) fun r s' h=>?_
   cases r with
   | error e=>exact(hCX H e s' h).elim
   | ok fl =>
     cases fl with
     | next=>exact False.elim h
     | brk=>exact False.elim h
     | cont=>exact False.elim h
     | ret u =>
       obtain⟨v,H',os,bare,un,hok',r',q⟩:=h
       have q':v = .bl true:=q
       subst q'
       obtain rfl:u=Value.bool true:=r'
       refine⟨rfl,OldK.of_keep fun b o e=>?_,os,bare⟩
       cases q:H b with
       | none=>exact un.keep b o e q (by intro z;exact absurd (show b∈([]:List Addr) from z) (by simp)) (by simp)
       | some u =>
         rcases hO b with z | ⟨ob,xs,z⟩
         · rw[q] at z;cases z
         · have z2:=un.frzs b ob _ z
           obtain⟨e1,_⟩:=hok b _ z
           obtain⟨e2,_⟩:=hok' b _ z2
           rw[e] at e1;cases e1
           exact e2
 cases hk:K.lookup a with
 | some o =>
   -- the script is one of the module's own objects
   have e:=KX a o hk
   rw[ha] at e
   cases e
   refine core (fun _=>none) (fun _=>.inl rfl) (.inr ⟨_,vs.toArray,_,hk,rfl,rfl,rfl,by rw[List.size_toArray,lenV];exact hl,by simpa using rv⟩) (fun b u z=>by have z':(none:Option HO)=some u:=z;cases z') (fun b z=>absurd rfl z) fun z=>absurd rfl z
 | none =>
   refine core (fun b=>if b=a then some (.frz { cls:=.type "list",data:=.seq vs.toArray } (.lst (ns.map V.int))) else none) (fun b=>?_) (.inl (.inr ⟨{ cls:=.type "list",data:=.seq vs.toArray },if_pos rfl⟩)) (fun b u z=>?_) (fun b z=>?_) fun _=>hk
   · by_cases hb:b=a
     · exact .inr ⟨_,_,if_pos hb⟩
     · exact .inl (if_neg hb)
   · by_cases hb:b=a
     · have z':=(if_pos hb).symm.trans z
       cases z'
       subst hb
       exact⟨ha,by rw[List.length_map];exact hl,vs,_,rv,ha⟩
     · have z':=(if_neg hb).symm.trans z
       cases z'
   · by_cases hb:b=a
     · exact hb
     · exact absurd (if_neg hb) z
end L2
namespace L2
open PySem PySem.Spec PyProof.Rows
theorem walk_of {l:PySem.W.OpenLaw}{n k:Nat}{q:Program}{loose:List Str}{XP:(Str→Option Value)→Heap→Prop}{YP:World→Heap→Prop}{d:DefRec}{K:Params→PySem.W.Frag}{CX:World→CXT}{sp:World→Sp}{x:Str}
   (hn:l.most=some n) (hn2:n≤sizeLine) (hdf:d.params.defaults=[]) (hr:Room k callerA)
   (hY:∀(w:World) (h:Heap),YP w h→(K w.params).In h)
   (F:∀(w:World) (mg:Str→Option Value) (fa:Addr) (h:Heap),(K w.params).In h→h.Ns mainGlobals mg→mg d.name=some (.ref fa) →
     ∃fd:FuncData,(∀(s:Shared) (u:Value),BindsTo s fd ⟨[u],[]⟩ [(x,u)]) ∧
       ∀base:Heap,(K w.params).In base→base.Ns mainGlobals mg→FnOk l.prog w (K w.params) mg base (CX w) k fa fd [x] (sp w))
   (hsp:∀(w:World) (H:Hp) (a:Addr) (ns:List Int),ns.length≤n→Only H→SqL (K w.params) H a (ns.map V.int)→sp w [.ref a] H (fun v _=>v = .bl true) fun _ _ _=>False)
   (hCX:∀(w:World) (H:Hp) (s:Shared) (e:Value) (s':Shared),CX w [] H s (fun _ _ _=>False) e s'→False) :
   PySem.W.WalkO q loose XP YP l.row.toRowW d [] (fun f vs=>PySem.call f vs):=by
 refine Att.attach_call hn hdf fun w s₀ s₁ mg mb fa o pm cd doc a vs ns G Y ho hd hcd hmg hobj hints hlen hg=>?_
 have KX:=hY w _ Y
 obtain⟨fd,hb,hF⟩:=F w mg fa _ KX G.T.g hmg
 exact Xwv KX G.T.g G.T.b G.T.builtins G.T.nolimit hg hobj hints (Nat.le_trans hlen hn2) hr hF hb (fun H hO hS=>hsp w H a ns hlen hO hS) fun H e s'=>hCX w H s₁ e s'
end L2
namespace L2
open PySem PySem.Spec PyProof.Rows
abbrev CX0:CXT:=fun _ _ _ _ _ _=>False
abbrev E0:XK:=fun _ _ _=>False
structure Fun (K:PySem.W.Frag)(x qual:Str)(st:Stmt)(f:Addr)(fd:FuncData):Prop where
 ex:∃(oc:Value) (od:Option Addr) (kV doc pm:Value) (an:Option Addr) (cdv ct:Value) (osl:Array (Option Value)),
   fd=PySem.W.fnOf x qual (Xbr st) (Xbe st) (Xae st) .none kV doc pm an cdv ct∧K.lookup f=some ⟨oc,od,.func fd,osl⟩∧PySem.W.codeIn K cdv qual=true
 kp:PySem.W.keepIn K (.ref f)=true
section
variable {P:Program}{w:World}{K:PySem.W.Frag}{mg:Str→Option Value}{base:Heap}
theorem Fun.ok {x qual:Str}{st:Stmt}{f:Addr}{fd:FuncData}{N ps:List Str}{k:Nat}{sp:Sp}(F:Fun K x qual st f fd)(S:FnScope N ps (Xae st))(len:∀vs H Q E,sp vs H Q E→vs.length=ps.length)
   (hbody:∀(cdv:Value) (A:Around) (outer:List Env) (s:Shared) (H:Hp) (vs:List V) (Q:VK) (E:XK),Room k (A.deeper (envOfC qual (Xae st) s.heap.objs.size f cdv))→sp vs H Q E →
     ∃t,PSs (cxOf CX0 P w K mg base N qual (Xae st) f cdv A outer s H E).nox (Xbe st) t∧t { nx:=fun _ H'=>Q .non H',rt:=Q } (start N vs) H):FnOk P w K mg base CX0 (k+1) f fd ps sp:=by
 obtain⟨oc,od,kV,doc,pm,an,cdv,ct,osl,rfl,lk,hcd⟩:=F.ex
 refine XHz lk hcd S len fun A outer s H vs Q E hr hsp=>?_
 obtain⟨t,h,q⟩:=hbody cdv A outer s H vs Q E hr hsp
 exact⟨t,h.nox,q⟩
theorem Fun.binds {x qual:Str}{st:Stmt}{f:Addr}{fd:FuncData}{ps:List Str}(F:Fun K x qual st f fd)
   (h:∀(kV doc pm:Value) (an:Option Addr) (cdv ct:Value) (us:List Value),us.length=ps.length→bindArgs (PySem.W.fnOf x qual (Xbr st) (Xbe st) (Xae st) .none kV doc pm an cdv ct) ⟨us,[]⟩=pure (ps.zip us)):Xcy K fd ps []:=by
 obtain⟨oc,od,kV,doc,pm,an,cdv,ct,osl,rfl,lk,hcd⟩:=F.ex
 exact .all (h kV doc pm an cdv ct)
theorem Xbw {x qual:Str}{st:Stmt}{f:Addr}{oc:Value}{od an:Option Addr}{osl:Array (Option Value)}{kV doc pm cdv ct:Value}(l:K.lookup f=some ⟨oc,od,.func (PySem.W.fnOf x qual (Xbr st) (Xbe st) (Xae st) .none kV doc pm an cdv ct),osl⟩)
   (c:PySem.W.codeIn K cdv qual=true) (k:PySem.W.keepIn K (.ref f)=true):Fun K x qual st f (PySem.W.fnOf x qual (Xbr st) (Xbe st) (Xae st) .none kV doc pm an cdv ct):=⟨⟨oc,od,kV,doc,pm,an,cdv,ct,osl,rfl,l,c⟩,k⟩
end
theorem small1000 {n:Nat}(h:n≤1000):n<sizeLine:=Nat.lt_of_le_of_lt h (by decide)
section
variable {X:Cx}
theorem pv (i:Nat){x:Str}{pos:Pos}(hN:X.N[i]?=some x:=by rfl)(hv:Vis X.env.scope x:=by first | exact Or.inl rfl | exact Or.inr (Or.inl rfl) | exact Or.inr (Or.inr rfl))(hd:(x==("__debug__":Str))=false:=by decide)
   (hcd:(x==("__classdict__":Str))=false:=by decide):PE X (.Name x pos) (tVar i):=XMh hN hv hd hcd
end
theorem iteF {A B:Prop}(h:B):if false=true then A else B:=by
 rw[if_neg Bool.false_ne_true]
 exact h
theorem iteT {A B:Prop}(h:A):if true=true then A else B:=by
 rw[if_pos rfl]
 exact h
def Same (H H':Hp):Prop:=∀b o,H b=some o→H' b=some o
theorem Same.refl (H:Hp):Same H H:=fun _ _ h=>h
theorem Same.trans {H H1 H2:Hp}(a:Same H H1)(b:Same H1 H2):Same H H2:=fun c o h=>b c o (a c o h)
theorem Same.free {H H':Hp}(e:Same H H'){l:Addr}(h:H' l=Option.none):H l=Option.none:=by
 cases q:H l with
 | none=>rfl
 | some o =>
   rw[e l o q] at h
   cases h
theorem Same.seq {K:PySem.W.Frag}{H H':Hp}{a:Addr}{xs:List V}(e:Same H H')(h:SqL K H a xs):SqL K H' a xs:=by
 rcases h with (h | ⟨o,h⟩) | h
 · exact .inl (.inl (e _ _ h))
 · exact .inl (.inr ⟨o,e _ _ h⟩)
 · exact .inr h
end L2
set_option Elab.async false
set_option linter.all false
set_option maxRecDepth 100000
set_option maxHeartbeats 4000000
namespace Stow
structure Pc where
 a:Int
 l:Int
 v:Bool
 deriving DecidableEq
def mkOf (l:Int)(v:Bool):Int:=l*2+(if v then 1 else 0)
def Pc.mk' (p:Pc):Int:=mkOf p.l p.v
def Xai:Int→List Pc→Int→Prop
 | s,[],e=>s=e
 | s,p::r,e=>p.a=s∧1≤p.l∧(p.v=true→3≤p.l)∧Xai (s+p.l) r e
theorem Xai.le:∀{ps:List Pc} {s e:Int},Xai s ps e→s+ps.length≤e
 | [],s,e,h=>by have h:s=e:=h;simp [h]
 | p::r,s,e,h=>by
   obtain⟨_,h1,_,h2⟩:=h
   have:=Xai.le h2
   simp only [List.length_cons];omega
theorem Xai.app:∀{ps qs:List Pc} {s m e:Int},Xai s ps m→Xai m qs e→Xai s (ps++qs) e
 | [],_,s,m,e,h,k=>by have h:s=m:=h;subst h;exact k
 | p::r,qs,s,m,e,h,k=>by
   obtain⟨h0,h1,h2,h3⟩:=h
   exact⟨h0,h1,h2,Xai.app h3 k⟩
theorem Xai.one {p:Pc}(h1:1≤p.l)(h3:p.v=true→3≤p.l):Xai p.a [p] (p.a+p.l):=⟨rfl,h1,h3,rfl⟩
theorem Xai.snoc {ps:List Pc}{s:Int}{p:Pc}(h:Xai s ps p.a)(h1:1≤p.l)(h3:p.v=true→3≤p.l):Xai s (ps++[p]) (p.a+p.l):=h.app (.one h1 h3)
theorem Xai.mem:∀{ps:List Pc} {s e:Int},Xai s ps e→∀p∈ps,s≤p.a∧1≤p.l∧(p.v=true→3≤p.l)∧p.a+p.l≤e
 | [],_,_,_,p,hp=>by cases hp
 | q::r,s,e,h,p,hp=>by
   obtain⟨h0,h1,h2,h3⟩:=h
   rcases List.mem_cons.mp hp with rfl | hp
   · have:=h3.le
     exact⟨by omega,h1,h2,by omega⟩
   · obtain⟨a,b,c,d⟩:=Xai.mem h3 p hp
     exact⟨by omega,b,c,d⟩
def Xbc (cs:List Int)(ps:List Pc):Prop:=∀p∈ps,cs[p.a.toNat]?=some p.mk'∧cs[(p.a+p.l-1).toNat]?=some p.mk'
theorem Xbc.nil (cs:List Int):Xbc cs []:=fun p hp=>by cases hp
theorem Xbc.snoc {cs ext:List Int}{ps:List Pc}{p:Pc}(hc:Xai 0 ps p.a)(hl:(cs.length:Int)=p.a)(h1:1≤p.l)(he:(ext.length:Int)=p.l)(m:Xbc cs ps) :
   Xbc ((((cs++ext).set p.a.toNat p.mk')).set (p.a+p.l-1).toNat p.mk') (ps++[p]):=by
 intro q hq
 have h0:=hc.le
 rcases List.mem_append.mp hq with hq | hq
 · obtain⟨a1,a2,a3,a4⟩:=hc.mem q hq
   obtain⟨b1,b2⟩:=m q hq
   have key:∀k:Nat,(k:Int)<p.a→∀z,cs[k]?=some z→((((cs++ext).set p.a.toNat p.mk')).set (p.a+p.l-1).toNat p.mk')[k]?=some z:=by
     intro k hk z hz
     rw[List.getElem?_set_ne (by omega),List.getElem?_set_ne (by omega),List.getElem?_append_left (by omega)]
     exact hz
   exact⟨key _ (by omega) _ b1,key _ (by omega) _ b2⟩
 · have e:q=p:=by simpa using hq
   subst e
   have len:(cs++ext).length=cs.length+ext.length:=List.length_append
   constructor
   · by_cases h:(q.a+q.l-1).toNat=q.a.toNat
     · rw[h,List.getElem?_set_self (by simp;omega)]
     · rw[List.getElem?_set_ne (by omega),List.getElem?_set_self (by simp;omega)]
   · rw[List.getElem?_set_self (by simp;omega)]
theorem Xgn (l:Int)(v:Bool):mkOf l v/2=l:=by unfold mkOf;split <;> omega
theorem Xhm (l:Int)(v:Bool):decide (mkOf l v%2=1)=v:=by
 unfold mkOf
 cases v
 · exact decide_eq_false (by simp)
 · exact decide_eq_true (by simp)
def Xbv (ns:List Int)(k:Int):Bool :=
 if ns.getD k.toNat 0/2<1∨(ns.length:Int)<k+ns.getD k.toNat 0/2 then false else decide (3≤ns.getD k.toNat 0/2)||!decide (ns.getD k.toNat 0%2=1)
def Xdm (ns:List Int)(k:Int):Option Int :=
 if Xbv ns k=true then (if ns.getD (k+ns.getD k.toNat 0/2-1).toNat 0=ns.getD k.toNat 0 then none else some (k+ns.getD k.toNat 0/2-1)) else some k
theorem Xgk {ns:List Int}{k:Nat}{x:Int}(h:ns[k]?=some x):ns.getD k 0=x:=by rw[List.getD_eq_getElem?_getD,h];rfl
theorem Xza {ns:List Int}{p:Pc}(h1:1≤p.l)(h3:p.v=true→3≤p.l)(hl:p.a+p.l≤ns.length)(m1:ns[p.a.toNat]?=some p.mk')(m2:ns[(p.a+p.l-1).toNat]?=some p.mk'):Xdm ns p.a=none:=by
 have e1:=Xgk m1
 have e2:=Xgk m2
 have e3:ns.getD p.a.toNat 0/2=p.l:=by rw[e1];exact Xgn _ _
 have hc:Xbv ns p.a=true:=by
   unfold Xbv
   rw[e3,if_neg (by omega),e1]
   show (decide (3≤p.l)||!decide (mkOf p.l p.v%2=1))=true
   rw[Xhm]
   cases hv:p.v with
   | false=>simp
   | true=>simp [h3 hv]
 unfold Xdm
 rw[if_pos hc,e3,e2,e1,if_pos rfl]
end Stow
namespace Stow
theorem Xgr (ns:List Int)(k:Int):Xbv ns k=true↔(1≤ns.getD k.toNat 0/2∧k+ns.getD k.toNat 0/2≤ns.length∧(ns.getD k.toNat 0%2=1→3≤ns.getD k.toNat 0/2)):=by
 unfold Xbv
 by_cases h:ns.getD k.toNat 0/2<1∨(ns.length:Int)<k+ns.getD k.toNat 0/2
 · rw[if_pos h]
   constructor
   · intro z;cases z
   · intro z;omega
 · rw[if_neg h]
   simp only [Bool.or_eq_true,decide_eq_true_eq,Bool.not_eq_true',decide_eq_false_iff_not]
   constructor
   · intro z
     refine⟨by omega,by omega,fun w=>?_⟩
     rcases z with z | z
     · exact z
     · exact absurd w z
   · rintro⟨_,_,z⟩
     by_cases w:ns.getD k.toNat 0%2=1
     · exact .inl (z w)
     · exact .inr w
def pcAt (ns:List Int)(k:Int):Pc:=⟨k,ns.getD k.toNat 0/2,decide (ns.getD k.toNat 0%2=1)⟩
theorem XIb {ns:List Int}{k:Int}(h:Xdm ns k=none):Xbv ns k=true:=by
 unfold Xdm at h
 split at h
 · assumption
 · cases h
theorem Xnj {ns:List Int}{k:Int}(h:Xdm ns k=none):1≤ns.getD k.toNat 0/2∧k+ns.getD k.toNat 0/2≤ns.length∧(ns.getD k.toNat 0%2=1→3≤ns.getD k.toNat 0/2):=(Xgr ns k).mp (XIb h)
theorem XLb {ns:List Int}{k:Int}(h:Xbv ns k=false):Xdm ns k=some k:=by
 unfold Xdm
 rw[if_neg (by rw[h];exact Bool.false_ne_true)]
theorem Xwh {ns:List Int}{k:Int}(h:Xbv ns k=true)(h2:ns.getD (k+ns.getD k.toNat 0/2-1).toNat 0≠ns.getD k.toNat 0):Xdm ns k=some (k+ns.getD k.toNat 0/2-1):=by
 unfold Xdm
 rw[if_pos h,if_neg h2]
theorem Xwq {ns:List Int}{k:Int}(h:Xbv ns k=true)(h2:ns.getD (k+ns.getD k.toNat 0/2-1).toNat 0=ns.getD k.toNat 0):Xdm ns k=none:=by
 unfold Xdm
 rw[if_pos h,if_pos h2]
def Xdc (ns:List Int)(k:Int):List Pc×Option Int :=
 if h:k<ns.length∧Xdm ns k=none then
   (pcAt ns k::(Xdc ns (k+ns.getD k.toNat 0/2)).1,(Xdc ns (k+ns.getD k.toNat 0/2)).2)
 else ([],if k<ns.length then Xdm ns k else none)
termination_by (ns.length-k).toNat
decreasing_by
 all_goals
   have:=Xnj h.2
   omega
theorem Xhl {ns:List Int}{k:Int}(h:¬k<ns.length):Xdc ns k=([],none):=by
 rw[Xdc,dif_neg (fun z=>h z.1),if_neg h]
theorem Xlz {ns:List Int}{k b:Int}(h:k<ns.length)(hb:Xdm ns k=some b):Xdc ns k=([],some b):=by
 rw[Xdc,dif_neg (fun z=>by rw[hb] at z;cases z.2),if_pos h,hb]
theorem Xgl {ns:List Int}{k:Int}(h:k<ns.length)(hb:Xdm ns k=none):Xdc ns k=(pcAt ns k::(Xdc ns (k+ns.getD k.toNat 0/2)).1,(Xdc ns (k+ns.getD k.toNat 0/2)).2):=by
 rw[Xdc,dif_pos ⟨h,hb⟩]
def WPre (ns:List Int)(ds:List Pc)(k:Int):Prop:=Xdc ns 0=(ds++(Xdc ns k).1,(Xdc ns k).2)
theorem WPre.nil (ns:List Int):WPre ns [] 0:=by unfold WPre;simp
theorem WPre.step {ns:List Int}{ds:List Pc}{k:Int}(w:WPre ns ds k)(h:k<ns.length)(hb:Xdm ns k=none):WPre ns (ds++[pcAt ns k]) (k+ns.getD k.toNat 0/2):=by
 unfold WPre at *
 rw[w,Xgl h hb]
 simp
theorem WPre.fin {ns:List Int}{ds:List Pc}{k:Int}(w:WPre ns ds k)(h:¬k<ns.length):Xdc ns 0=(ds,none):=by
 unfold WPre at w
 rw[w,Xhl h]
 simp
theorem WPre.bad {ns:List Int}{ds:List Pc}{k b:Int}(w:WPre ns ds k)(h:k<ns.length)(hb:Xdm ns k=some b):Xdc ns 0=(ds,some b):=by
 unfold WPre at w
 rw[w,Xlz h hb]
 simp
end Stow
namespace Stow
theorem Xlo (ns:List Int):∀(n:Nat) (k:Int),0≤k→(ns.length-k).toNat≤n→((Xdc ns k).1.length:Int)≤n
 | n,k,h0,hn=>by
   by_cases h:k<ns.length
   · cases hb:Xdm ns k with
     | some b=>rw[Xlz h hb];simp
     | none =>
       obtain⟨b1,b2,_⟩:=Xnj hb
       rw[Xgl h hb]
       cases n with
       | zero=>omega
       | succ n =>
         have:=Xlo ns n (k+ns.getD k.toNat 0/2) (by omega) (by omega)
         simp only [List.length_cons]
         omega
   · rw[Xhl h];simp
 termination_by n=>n
end Stow
namespace Stow
theorem XDy {cs:List Int}{p:Pc}(m:cs[p.a.toNat]?=some p.mk'):pcAt cs p.a=p:=by
 have e:=Xgk m
 unfold pcAt
 rw[e]
 show (⟨p.a,mkOf p.l p.v/2,decide (mkOf p.l p.v%2=1)⟩:Pc)=p
 rw[Xgn,Xhm]
theorem Xau {cs:List Int}:∀{ps:List Pc} {k:Int},Xai k ps cs.length→Xbc cs ps→Xdc cs k=(ps,none)
 | [],k,h,_=>by
   have h:k=cs.length:=h
   exact Xhl (by omega)
 | p::r,k,h,m=>by
   obtain⟨ea,h1,h3,h4⟩:=h
   have le:=h4.le
   obtain⟨m1,m2⟩:=m p List.mem_cons_self
   have bn:=Xza h1 h3 (by omega) m1 m2
   rw[ea] at bn
   have e2:cs.getD k.toNat 0/2=p.l:=by rw[←ea,Xgk m1];exact Xgn _ _
   have ih:=Xau (cs:=cs) h4 fun q hq=>m q (List.mem_cons_of_mem _ hq)
   rw[Xgl (by omega) bn,e2,ih,←ea,XDy m1]
end Stow
namespace Stow
open PySem L2 PyProof.Rows
structure Def (P:Program)(w:World)(K:PySem.W.Frag)(mg:Str→Option Value)(base:Heap)(x:Str)(k:Nat)(ps:List Str)(sp:Sp):Prop where
 ex:∃(f:Addr) (fd:FuncData),FnOk P w K mg base CX0 k f fd ps sp∧mg x=some (.ref f)∧PySem.W.keepIn K (.ref f)=true∧Xcy K fd ps []
structure Src (K:PySem.W.Frag)(mg:Str→Option Value)(x:Str)(st:Stmt):Prop where
 ex:∃(f:Addr) (fd:FuncData),Fun K x x st f fd∧mg x=some (.ref f)
theorem Xbg {K:PySem.W.Frag}{h:Heap}{mg:Str→Option Value}{x:Str}{st:Stmt}{f:Addr}{oc kV doc pm cdv ct:Value}{od an:Option Addr}{osl:Array (Option Value)}(X:K.In h)(G:h.Ns mainGlobals mg)
   (a:PySem.W.nsIn K mainGlobals x=some (some (.ref f))) (l:K.lookup f=some ⟨oc,od,.func (PySem.W.fnOf x x (Xbr st) (Xbe st) (Xae st) .none kV doc pm an cdv ct),osl⟩)
   (c:PySem.W.codeIn K cdv x=true) (k:PySem.W.keepIn K (.ref f)=true):Src K mg x st:=⟨f,_,Xbw l c k,PySem.W.mg_of X G a⟩
section
variable {P:Program}{w:World}{K:PySem.W.Frag}{mg:Str→Option Value}{base:Heap}
theorem Src.ok {x:Str}{st:Stmt}{N ps:List Str}{k:Nat}{sp:Sp}(S:Src K mg x st)(sc:FnScope N ps (Xae st))
   (hb:∀(kV doc pm:Value) (an:Option Addr) (cdv ct:Value) (us:List Value),us.length=ps.length→bindArgs (PySem.W.fnOf x x (Xbr st) (Xbe st) (Xae st) .none kV doc pm an cdv ct) ⟨us,[]⟩=pure (ps.zip us))
   (len:∀vs H Q E,sp vs H Q E→vs.length=ps.length)
   (hbody:∀(f:Addr) (cdv:Value) (A:Around) (outer:List Env) (s:Shared) (H:Hp) (vs:List V) (Q:VK) (E:XK),Room k (A.deeper (envOfC x (Xae st) s.heap.objs.size f cdv))→sp vs H Q E →
     ∃t,PSs (cxOf CX0 P w K mg base N x (Xae st) f cdv A outer s H E).nox (Xbe st) t∧t { nx:=fun _ H'=>Q .non H',rt:=Q } (start N vs) H):Def P w K mg base x (k+1) ps sp:=by
 obtain⟨f,fd,F,hm⟩:=S.ex
 exact⟨f,fd,F.ok sc len (hbody f),hm,F.kp,F.binds hb⟩
end
section
variable {X:Cx}
theorem Xjr:Xit X (.builtin "isinstance") (fun xs H Q=>∃x n t b,xs=[x,.ty n]∧TyOf X.K H x t∧PySem.W.kitOne X.K t (.type n)=some b∧Q (.bl b) H):=by
 intro pins s σ H xs us Q I r h
 obtain⟨x,n,t,b,rfl,ty,e,q⟩:=h
 obtain⟨u,u',rfl,rx,ry⟩:=XHh r
 cases (show u'=Value.type n from ry)
 exact Xly I rx ty e fun tk=>⟨.bl b,H,I.tok tk,rfl,q⟩
theorem Xzq {x:V}(h:Xhu x=true):eqV x x=true:=by
 cases x <;> first | rfl | (simp [eqV];done) | (exact absurd h Bool.false_ne_true)
theorem XQb (hu:X.A.units+64<cLine):OpR X (compareOp .Eq) (fun x y H Q=>∃(a b:Addr) (ns ms:List Int),x = .ref a∧y = .ref b∧SqL X.K H a (ns.map V.int)∧SqL X.K H b (ms.map V.int)∧Q (.bl (decide (ns=ms))) H):=by
 intro pins s σ H x y v u Q I rx ry h
 obtain⟨a,b,ns,ms,rfl,rfl,ha,hb,q⟩:=h
 cases rx
 cases ry
 obtain⟨its,r1,p1,_⟩:=I.list ha
 obtain⟨its2,r2,p2,_⟩:=I.list hb
 exact PySem.W.ke_eq_ints p1.isList p2.isList (Xdr r1) (Xdr r2) hu ⟨.bl _,H,I,rfl,q⟩
end
theorem _root_.L2.Same.new {H:Hp}{p:Addr}{o:HO}(h:H p=none):Same H (upd H p o):=fun b u e=>by
 rw[Xam (Xaq e h)]
 exact e
theorem _root_.L2.Same.put {H H':Hp}{p:Addr}{o:HO}(s:Same H H')(h:H p=none):Same H (upd H' p o):=fun b u e=>by
 rw[Xam (Xaq e h)]
 exact s b u e
theorem small4000 {n:Nat}(h:n≤4000):n<sizeLine:=Nat.lt_of_le_of_lt h (by decide)
theorem two1:(2:Int)^(1:Int).toNat=2:=by decide
theorem XJg (ns:List Int)(k:Int)(h0:0≤k)(h:k<ns.length):atI (ns.map V.int) k=some (.int (ns.getD k.toNat 0)):=by
 have e:(ns.map V.int)[k.toNat]?=some (.int (ns.getD k.toNat 0)):=by
   rw[List.getElem?_map,List.getD_eq_getElem?_getD,List.getElem?_eq_getElem (by omega)]
   rfl
 have:=Xmi e
 rwa [Int.toNat_of_nonneg h0] at this
theorem XCs (n:Int):decide (V.int (Builtin.bitAnd n 1)=V.int 1)=decide (n%2=1):=by
 rw[Xjp,bitAnd_m1]
 rfl
section
variable {K:PySem.W.Frag}
theorem kit_ii:PySem.W.kitOne K (.type "int") (.type "int")=some true:=by rfl
theorem kit_ll:PySem.W.kitOne K (.type "list") (.type "list")=some true:=by rfl
theorem kit_ib:PySem.W.kitOne K (.type "int") (.type "bool")=some false:=by
 show (if (Value.type "int"==Value.type "bool")=true then some true else PySem.W.kitCls K (.type "int") (.type "bool"))=some false
 rw[if_neg (by decide)]
 show (if PySem.W.kitMeta "bool"=true then PySem.W.subIn K (.type "int") (.type "bool") else none)=some false
 rw[if_pos (by decide +kernel)]
 show (fastBuiltinMro "int").map (·.contains (Value.type "bool"))=some false
 decide +kernel
end
end Stow
namespace Stow
open PySem
structure Noted (fr:List Addr)(e:Addr)(oe:Obj)(fl:Value)(h h':Heap):Prop where
 keep:∀b o,b≠e→b ∉ fr→h.get? b=some o→h'.get? b=some o
 slot:∀b o,b≠e→h.get? b=some o→∃sl,h'.get? b=some { o with slots:=sl }
 ent:∃(T:Addr) (oT:Obj) (ts:Array Value),h.get? T=none∧T≠e∧h'.get? e=some (oe.mapFields (·.setIfInBounds 1 (.ref T)))∧h'.get? T=some oT∧oT.data = .fields ts∧ts[3]?=some fl
section
variable {M:Model}{A:Around}{E:Value→Shared→Prop}{s:Shared}
theorem Xpr {base:Heap}{env:Env}{outer:List Env}{L e:Addr}{oe:Obj}{vs:Array Value}{head:Value}{had:Bool}{Q:Unit→Shared→Prop}(hfr:A.frames=some (env::outer))(hl:s.heap.FunFrames base (env::outer))(hf:env.frame=some L)
   (he:s.heap.get? e=some oe) (hd:oe.data = .fields vs) (hsz:1<vs.size) (h:∀h',Noted ((env::outer).filterMap (·.frame)) e oe (rawInt L) s.heap h'→Q () { s with heap:=h' }) :
   wpAny M A (do
     let a ←frameOf env
     let pl ←entryPlaceOf L had
     let b ←EntryCells.newEntry head a .none (rawInt L) .none pl
     setField (.ref e) 1 b) Q E s:=by
 have out:e ∉ (env::outer).filterMap (·.frame):=fun z=>by
   obtain⟨_,o,q,nf⟩:=hl.mem z
   rw[he] at q
   cases q
   exact nf vs hd
 refine wpAny_bind (wpAny_frameOf_fun hfr hl hf fun hA sA=>?_)
 refine wpAny_bind (wpAny_entryPlaceOf fun pl isP=>?_)
 unfold EntryCells.newEntry newFields
 refine wpAny_bind (wpAny_newObj_type ?_ (isP.sizeOk5 _ _ _ _ _))
 have eA:hA.get? e=some oe:=(sA.2.1 e out).trans he
 refine wpAny_setField (Heap.get?_push_of_some _ eA) hd hsz (h _ ?_)
 have apart:hA.objs.size≠e:=Nat.ne_of_gt (Heap.lt_size eA)
 have other:∀{ob:Obj} b o,b≠e→hA.get? b=some o→((hA.push ob).update e (Obj.mapFields (·.setIfInBounds 1 (Value.ref hA.objs.size)))).get? b=some o:=fun b o nb q=>by
   rw[Heap.get?_update_other _ _ (fun z=>nb z.symm)]
   exact Heap.get?_push_of_some _ q
 refine⟨fun b o nb nf q=>other b o nb ((sA.2.1 b nf).trans q),fun b o nb q=>?_,hA.objs.size,_,_,?_,apart,?_,(Heap.get?_update_other _ _ (fun z=>apart z.symm)).trans (Heap.get?_push_size _ rfl),rfl,?_⟩
 · obtain⟨sl,q'⟩:=sA.2.2 b o q
   exact⟨sl,other b _ nb q'⟩
 · rw[sA.1]
   exact Heap.get?_none_of_le (Nat.le_refl _)
 · exact Heap.get?_update_self _ (Heap.get?_push_of_some _ eA) (Obj.isFreed_of_fields (Obj.data_mapFields hd _))
 · first
     | (simp;done)
     | (rcases isP with rfl | ⟨_,_,_,_,_,_,_,rfl⟩ <;> simp)
theorem Xqw (o:Obj)(f:Array Value→Array Value):(o.mapFields f).dict=o.dict:=by
 obtain⟨c,d,dt,sl⟩:=o
 cases dt <;> rfl
end
def Exc (h:Heap)(x:Addr)(cls:Value)(od:Option Addr)(T:Addr)(fl:Value):Prop :=
 ∃(oe:Obj) (vs:Array Value) (oT:Obj) (ts:Array Value),T≠x∧h.get? x=some oe∧oe.cls=cls∧oe.dict=od∧oe.data = .fields vs∧vs[1]?=some (.ref T)∧h.get? T=some oT∧oT.data = .fields ts∧ts[3]?=some fl
def Exc0 (h:Heap)(x:Addr)(cls:Value)(od:Option Addr):Prop:=∃(oe:Obj) (vs:Array Value),h.get? x=some oe∧oe.cls=cls∧oe.dict=od∧oe.data = .fields vs∧vs[1]?=some .none
structure Upto (fr ex:List Addr)(h h':Heap):Prop where
 keep:∀b o,b ∉ ex→b ∉ fr→h.get? b=some o→h'.get? b=some o
 slot:∀b o,b ∉ ex→h.get? b=some o→∃sl,h'.get? b=some { o with slots:=sl }
theorem Upto.trans {fr ex ex':List Addr}{h1 h2 h3:Heap}(a:Upto fr ex h1 h2)(b:Upto fr ex' h2 h3):Upto fr (ex++ex') h1 h3 :=
 ⟨fun c o n1 n2 q=>b.keep c o (fun z=>n1 (List.mem_append_right _ z)) n2 (a.keep c o (fun z=>n1 (List.mem_append_left _ z)) n2 q),fun c o n1 q=>by
   obtain⟨sl,q1⟩:=a.slot c o (fun z=>n1 (List.mem_append_left _ z)) q
   obtain⟨sl',q2⟩:=b.slot c _ (fun z=>n1 (List.mem_append_right _ z)) q1
   exact⟨sl',q2⟩⟩
theorem Upto.update {fr:List Addr}{h:Heap}{a:Addr}{f:Obj→Obj}:Upto fr [a] h (h.update a f) :=
 ⟨fun b o n _ q=>by rw[Heap.get?_update_other _ _ (fun z=>n (by simp [z]))];exact q,fun b o n q=>⟨o.slots,by rw[Heap.get?_update_other _ _ (fun z=>n (by simp [z]))];exact q⟩⟩
section
variable {M:Model}{A:Around}{E:Value→Shared→Prop}{s:Shared}
theorem Xhb {fr:List Addr}{x:Addr}{cls:Value}{od:Option Addr}{T:Addr}{fl:Value}{Q:Unit→Shared→Prop}(ht:Exc s.heap x cls od T fl)
   (h:∀h',Upto fr [T] s.heap h'→Exc h' x cls od T .none→Q () { s with heap:=h' }):wpAny M A (setFlight (.ref x) none) Q E s:=by
 obtain⟨oe,vs,oT,ts,ne,ex,hc,hdi,hd,h1,eT,dT,h3⟩:=ht
 unfold setFlight
 refine wpAny_bind (wpAny_field ex hd h1 ?_)
 rw[if_pos (show (Value.ref T != Value.none)=true by simp)]
 have sz:3<ts.size:=(Array.getElem?_eq_some_iff.mp h3).1
 refine wpAny_setField eT dT sz (h _ .update ⟨oe,vs,_,_,ne,?_,hc,hdi,hd,h1,Heap.get?_update_self _ eT (Obj.isFreed_of_fields (Obj.data_mapFields dT _)),Obj.data_mapFields dT _,?_⟩)
 · rw[Heap.get?_update_other _ _ ne]
   exact ex
 · simp [sz]
theorem Noted.exc {fr:List Addr}{x:Addr}{oe:Obj}{vs:Array Value}{fl:Value}{h h':Heap}(n:Noted fr x oe fl h h')(hd:oe.data = .fields vs)(hsz:1<vs.size):∃T,h.get? T=none∧Exc h' x oe.cls oe.dict T fl:=by
 obtain⟨T,oT,ts,nT,ne,ex,eT,dT,h3⟩:=n.ent
 exact⟨T,nT,_,_,oT,ts,ne,ex,Obj.cls_mapFields _ _,Xqw _ _,Obj.data_mapFields hd _,by simp [hsz],eT,dT,h3⟩
theorem Noted.upto {fr:List Addr}{x:Addr}{oe:Obj}{fl:Value}{h h':Heap}(n:Noted fr x oe fl h h'):Upto fr [x] h h' :=
 ⟨fun b o nb nf q=>n.keep b o (fun z=>nb (by simp [z])) nf q,fun b o nb q=>n.slot b o (fun z=>nb (by simp [z])) q⟩
theorem XRc {base:Heap}{env:Env}{outer:List Env}{L x:Addr}{cls:Value}{od:Option Addr}{Q:Unit→Shared→Prop}(hfr:A.frames=some (env::outer))(hl:s.heap.FunFrames base (env::outer))(hf:env.frame=some L)(hx:Exc0 s.heap x cls od)
   (h:∀h' T,s.heap.get? T=none→Upto ((env::outer).filterMap (·.frame)) [x] s.heap h'→Exc h' x cls od T (rawInt L)→Q () { s with heap:=h' }):wpAny M A (noteFrame (.ref x) env) Q E s:=by
 obtain⟨oe,vs,ex,rfl,rfl,hd,h1⟩:=hx
 have sz:=(Array.getElem?_eq_some_iff.mp h1).1
 unfold noteFrame
 simp only [hf]
 refine wpAny_bind (wpAny_field ex hd h1 ?_)
 rw[if_neg (by decide)]
 refine Xpr hfr hl hf ex hd sz fun h' n=>?_
 obtain⟨T,nT,t⟩:=n.exc hd sz
 exact h h' T nT n.upto t
theorem XMl {base:Heap}{env:Env}{outer:List Env}{L x T:Addr}{cls:Value}{od:Option Addr}{Q:Unit→Shared→Prop}(hfr:A.frames=some (env::outer))(hl:s.heap.FunFrames base (env::outer))(hf:env.frame=some L)(hx:Exc s.heap x cls od T .none)
   (h:∀h' T',s.heap.get? T'=none→Upto ((env::outer).filterMap (·.frame)) [T,x] s.heap h'→Exc h' x cls od T' (rawInt L)→Q () { s with heap:=h' }):wpAny M A (noteFrame (.ref x) env) Q E s:=by
 obtain⟨oe,vs,oT,ts,ne,ex,rfl,rfl,hd,h1,eT,dT,h3⟩:=hx
 have sz:=(Array.getElem?_eq_some_iff.mp h1).1
 have sz3:=(Array.getElem?_eq_some_iff.mp h3).1
 unfold noteFrame
 simp only [hf]
 refine wpAny_bind (wpAny_field ex hd h1 ?_)
 rw[if_pos (show (Value.ref T != Value.none)=true by simp)]
 refine wpAny_bind (wpAny_field eT dT h3 ?_)
 rw[if_neg (show ¬((Value.none==rawInt L)=true) by simp [rawInt])]
 refine wpAny_bind (wpAny_setField eT dT sz3 ?_)
 have u1:Upto ((env::outer).filterMap (·.frame)) [T] s.heap (s.heap.update T (Obj.mapFields (·.setIfInBounds 3 Value.none))):=.update
 have hl2:(s.heap.update T (Obj.mapFields (·.setIfInBounds 3 Value.none))).FunFrames base (env::outer):=hl.of_keeps fun b o q nf=>by
   have nb:b≠T:=fun z=>by
     subst z
     rw[eT] at q
     cases q
     exact nf ts dT
   exact⟨o,by rw[Heap.get?_update_other _ _ (fun z=>nb z.symm)];exact q,rfl⟩
 have ex2:(s.heap.update T (Obj.mapFields (·.setIfInBounds 3 Value.none))).get? x=some oe:=by
   rw[Heap.get?_update_other _ _ ne]
   exact ex
 refine Xpr (s:={ s with heap:=s.heap.update T (Obj.mapFields (·.setIfInBounds 3 Value.none)) }) hfr hl2 hf ex2 hd sz fun h' n=>?_
 obtain⟨T',nT,t⟩:=n.exc hd sz
 refine h h' T' ?_ (u1.trans n.upto) t
 cases q:s.heap.get? T' with
 | none=>rfl
 | some o =>
   by_cases z:T'=T
   · subst z
     rw[Heap.get?_update_self _ eT (Obj.isFreed_of_fields (Obj.data_mapFields dT _))] at nT
     cases nT
   · rw[Heap.get?_update_other _ _ (fun y=>z y.symm),q] at nT
     cases nT
theorem XNs {base:Heap}{env:Env}{outer:List Env}{L x:Addr}{cls:Value}{od:Option Addr}{Q:Unit→Shared→Prop}(hfr:A.frames=some (env::outer))(hl:s.heap.FunFrames base (env::outer))(hf:env.frame=some L)(hx:Exc0 s.heap x cls od)
   (h:∀h' T,s.heap.get? T=none→Upto ((env::outer).filterMap (·.frame)) [x,T] s.heap h'→Exc h' x cls od T .none→Q () { s with heap:=h' }):wpAny M A (leaving env (.ref x)) Q E s:=by
 unfold leaving
 refine wpAny_bind (XRc hfr hl hf hx fun h1 T nT u t=>?_)
 exact Xhb (s:={ s with heap:=h1 }) (fr:=(env::outer).filterMap (·.frame)) t fun h2 u2 t2=>h h2 T nT (u.trans u2) t2
theorem XKs {base:Heap}{env:Env}{outer:List Env}{L x T:Addr}{cls:Value}{od:Option Addr}{Q:Unit→Shared→Prop}(hfr:A.frames=some (env::outer))(hl:s.heap.FunFrames base (env::outer))(hf:env.frame=some L)(hx:Exc s.heap x cls od T .none)
   (h:∀h' T',s.heap.get? T'=none→Upto ((env::outer).filterMap (·.frame)) [T,x,T'] s.heap h'→Exc h' x cls od T' .none→Q () { s with heap:=h' }):wpAny M A (leaving env (.ref x)) Q E s:=by
 unfold leaving
 refine wpAny_bind (XMl hfr hl hf hx fun h1 T' nT u t=>?_)
 exact Xhb (s:={ s with heap:=h1 }) (fr:=(env::outer).filterMap (·.frame)) t fun h2 u2 t2=>h h2 T' nT (u.trans u2) t2
end
end Stow
namespace Stow
open PySem
open Sem (wp)
section
variable {M:Model}{A:Around}{E:Value→Shared→Prop}
variable {nm q nm0 q0:Str}{C N C0 N0:Addr}{bs bm bs0 bm0:List Value}{hdct hdct0:Bool}{sn sn0:List Str}{sub sub0:List Value}{ab ab0:Bool}{col col0:Option Bool}{dd dd0:Option Addr}{k0 k1 k2 k3 k5 j0 j1 j2 j3 j5:Option Value}{newId newId0:String}
theorem Xrz {h:Heap}{g:Array GenState}{d:Drawn}{t:Nat}{os:OsState}{x:Addr}{ox:Obj}{b:Bool}{Q:Bool→Shared→Prop}
   (hC:h.get? C=some (excClassObj nm q C N bs bm hdct sn sub ab col dd k0 k1 k2 k3 k5 newId)) (hC0:h.get? C0=some (excClassObj nm0 q0 C0 N0 bs0 bm0 hdct0 sn0 sub0 ab0 col0 dd0 j0 j1 j2 j3 j5 newId0))
   (hx:h.get? x=some ox) (hcl:ox.cls = .ref C) (hb0:(Value.ref C0::bm0).contains (.type "BaseException")=true) (hb:(Value.ref C::bm).contains (.ref C0)=b) (k:Q b ⟨h,g,d,t,os⟩) :
   wpAny M A (excMatches (.ref x) (.ref C0)) Q E ⟨h,g,d,t,os⟩:=by
 have f:=tc_notTuple
 unfold excMatches
 repeat (first
   | (with_reducible refine wpAny_loadPart_at hx ?_;rw[hcl])
   | with_reducible refine wpAny_loadPart_at hC0 ?_
   | (with_reducible refine wpAny_isSubtype_exc hC0 ?_;rw[hb0])
   | (with_reducible refine wpAny_isSubtype_exc hC ?_;rw[hb])
   | wp_step)
 all_goals (cases b <;> (wp_walk;exact k))
end
end Stow
namespace Stow
open PySem
open Sem (wp)
def Lk (M:Model)(h:Heap){α:Type}(m:Sem α)(v:α):Prop:=∀(A:Around) (E:Value→Shared→Prop) (g:Array GenState) (d:Drawn) (t:Nat) (os:OsState) (Q:α→Shared→Prop),Q v ⟨h,g,d,t,os⟩→wpAny M A m Q E ⟨h,g,d,t,os⟩
theorem Lk.at {M:Model}{h:Heap}{α:Type}{m:Sem α}{v:α}(l:Lk M h m v){A:Around}{E:Value→Shared→Prop}{g:Array GenState}{d:Drawn}{t:Nat}{os:OsState}{Q:α→Shared→Prop}(q:Q v ⟨h,g,d,t,os⟩):wpAny M A m Q E ⟨h,g,d,t,os⟩:=l A E g d t os Q q
section
variable {prog:Program}{w:World}{A:Around}{E:Value→Shared→Prop}{h:Heap}{g:Array GenState}{d:Drawn}{t:Nat}{os:OsState}{a C:Addr}{o:Obj}
structure XLk (prog:Program)(w:World)(h:Heap)(C:Addr):Prop where
 ga:Lk (model prog w) h (typeLookup (.ref C) "__getattribute__") (some (.builtin "BaseException.__getattribute__"))
 gat:Lk (model prog w) h (typeLookup (.ref C) "__getattr__") none
 cls:Lk (model prog w) h (typeLookup (.ref C) "__class__") (some (.builtin "object.__class__"))
 obj:Lk (model prog w) h (isSubtype (.ref C) (.type "object")) true
 exc:Lk (model prog w) h (isSubtype (.ref C) (.type "BaseException")) true
end
end Stow
namespace Stow
open PySem L2 PyProof.Rows
section
variable {P:Program}{w:World}{H H':Hp}{h h' g:Heap}{a:Addr}{o:HO}
theorem XAa (x:Xcj P w H h a o):∃ob,h.get? a=some ob:=by
 cases o with
 | lst xs=>obtain⟨_,_,_,_,e⟩:=x;exact⟨_,e⟩
 | tup xs=>obtain⟨_,_,_,ob,e,_⟩:=x;exact⟨_,e⟩
 | dK kvs=>obtain⟨_,_,_,_,ob,_,_,e,_⟩:=x;exact⟨_,e⟩
 | dT kvs=>obtain⟨_,_,_,_,ob,_,_,e,_⟩:=x;exact⟨_,e⟩
 | set S n=>obtain⟨ob,_,_,_,e,_⟩:=x;exact⟨_,e⟩
 | ins C dx fs=>obtain⟨_,_,_,e,_⟩:=x;exact⟨_,e⟩
 | own y=>obtain⟨_,e⟩:=x;exact⟨_,e⟩
 | xd fs=>obtain⟨_,⟨_,_,_,e,_⟩,_⟩:=x;exact⟨_,e⟩
 | rng lo hi=>obtain⟨_,_,_,e⟩:=x;exact⟨_,e⟩
 | frz ob u=>obtain⟨e,_⟩:=x;exact⟨_,e⟩
 | tbl ps=>exact⟨_,(show h.get? a=some _ from x)⟩
 | met f y=>exact⟨_,(show h.get? a=some _ from x)⟩
 | ext φ=>obtain⟨_,e,_⟩:=x;exact e
theorem Xdo (x:HOk P w H h)(e:h.get? a=none):H a=none:=by
 cases q:H a with
 | none=>rfl
 | some u =>
   obtain⟨ob,z⟩:=XAa (x a u q)
   rw[e] at z
   cases z
theorem Xkk {fr ex:List Addr}(x:HOk P w H h)(u:Upto fr ex h h')(hf:∀b∈fr,H b=none)(he:∀b∈ex,H b=none):HOk P w H h':=fun a o e=>by
 have out:∀b v,H b=some v→b ∉ ex∧b ∉ fr:=fun b v q=>⟨(fun z=>by rw[he b z] at q;cases q),(fun z=>by rw[hf b z] at q;cases q)⟩
 refine(x a o e).stay (fun b ob hb q=>?_) (fun _ q=>q) fun _ _ q=>q
 rcases hb with rfl | hb
 · exact u.keep b ob (out b _ e).1 (out b _ e).2 q
 · exact u.keep b ob (out b _ hb).1 (out b _ hb).2 q
theorem Xnc {fs fr ex:List Addr}(u:Un fs [] H H' g h)(v:Upto fr ex h h')(hfr:∀b∈fr,b∈fs∨g.get? b=none)(hex:∀b∈ex,g.get? b=none):Un fs [] H H' g h':=by
 have nex:∀b o,g.get? b=some o→b ∉ ex:=fun b o q z=>by rw[hex b z] at q;cases q
 refine⟨fun b o q n hb hx=>?_,fun b o q n hb hx=>?_,u.free,fun b o q hx=>?_,u.tups,u.frzs,u.tbls⟩
 · refine v.keep b o (nex b o q) (fun z=>?_) (u.keep b o q n hb hx)
   rcases hfr b z with z | z
   · exact hb z
   · rw[z] at q
     cases q
 · obtain⟨sl,q1⟩:=u.slot b o q n hb hx
   obtain⟨sl',q2⟩:=v.slot b _ (nex b o q) q1
   exact⟨sl',q2⟩
 · obtain⟨o',q1⟩:=u.there b o q hx
   obtain⟨sl,q2⟩:=v.slot b o' (nex b o q) q1
   exact⟨_,q2⟩
theorem Xfx {fs:List Addr}(u:Un fs [] H H' g h)(e:h.get? a=none):g.get? a=none:=by
 cases q:g.get? a with
 | none=>rfl
 | some o =>
   obtain⟨o',z⟩:=u.there a o q (by simp)
   rw[e] at z
   cases z
end
def CXe (P:Program)(w:World):CXT:=fun outer H s E e s'=>∃(x C T:Addr) (od:Option Addr) (H':Hp),e = .ref x∧s'.os=s.os∧AllBare s'.gens∧Un (frs outer) [] H H' s.heap s'.heap∧HOk P w H' s'.heap ∧
 s.heap.get? x=none∧s.heap.get? T=none∧H' x=none∧H' T=none∧Exc s'.heap x (.ref C) od T .none∧E (.ref C) od H'
section
variable {P:Program}{w:World}{K:PySem.W.Frag}{mg:Str→Option Value}{base:Heap}{N:List Str}{qual:Str}{scope:Scope}{f:Addr}{cd:Value}{A:Around}{outer:List Env}{s₀:Shared}{H₀:Hp}{EX:XK}
theorem Xqm {pins:List (Addr×Obj)}{σ:L2.St}{H:Hp}{s:Shared}{x C:Addr}{od:Option Addr}(I:Inv (cxOf (CXe P w) P w K mg base N qual scope f cd A outer s₀ H₀ EX) pins σ H s)(hx:Exc0 s.heap x (.ref C) od)(nx:s₀.heap.get? x=none)(ux:H x=none)(q:EX (.ref C) od H) :
   (cxOf (CXe P w) P w K mg base N qual scope f cd A outer s₀ H₀ EX).xe (.ref x) s:=by
 refine XNs (base:=base) (outer:=outer) I.ok.frames I.stack rfl hx fun h' T nT u t=>?_
 have hu:Un (frs outer) [] H₀ H s₀.heap s.heap:=I.base
 have uT:H T=none:=Xdo I.hok nT
 refine⟨x,C,T,od,H,rfl,I.os,I.bare,Xnc hu u (fun b hb=>?_) (fun b hb=>?_),Xkk I.hok u I.stkFree (fun b hb=>?_),nx,Xfx hu nT,ux,uT,t,q⟩
 · rcases List.mem_cons.mp hb with rfl | hb
   · exact .inr (Heap.get?_none_of_le (Nat.le_refl _))
   · exact .inl hb
 · rcases List.mem_cons.mp hb with rfl | hb
   · exact nx
   · have e:b=T:=by simpa using hb
     subst e
     exact Xfx hu nT
 · rcases List.mem_cons.mp hb with rfl | hb
   · exact ux
   · have e:b=T:=by simpa using hb
     subst e
     exact uT
theorem Xgt:Xff (CXe P w) (cxOf (CXe P w) P w K mg base N qual scope f cd A outer s₀ H₀ EX) EX:=by
 rintro pins σ H s e s' I ⟨x,C,T,od,H',rfl,os,bare,un,hok,nx,nT,ux,uT,t,q⟩
 have I':Inv (cxOf (CXe P w) P w K mg base N qual scope f cd A outer s₀ H₀ EX) pins σ H' s':=by
   obtain⟨hh,gg,dd,tt,oo⟩:=s'
   obtain rfl:oo=s.os:=os
   have z:=I.call (h':=hh) (g':=gg) (d':=dd) (t':=tt) (ch:=[]) un hok bare (fun b z=>absurd z (by simp))
   exact z
 refine XKs (base:=base) (outer:=outer) I'.ok.frames I'.stack rfl t fun h' T' nT' u t'=>?_
 have hu:Un (frs outer) [] H₀ H' s₀.heap s'.heap:=I'.base
 have hu0:Un (frs outer) [] H₀ H s₀.heap s.heap:=I.base
 have uT':H' T'=none:=Xdo hok nT'
 have n0:∀b∈[T,x,T'],s₀.heap.get? b=none:=fun b hb=>by
   rcases List.mem_cons.mp hb with rfl | hb
   · exact Xfx hu0 nT
   · rcases List.mem_cons.mp hb with rfl | hb
     · exact Xfx hu0 nx
     · have e:b=T':=by simpa using hb
       subst e
       exact Xfx hu nT'
 refine⟨x,C,T',od,H',rfl,I'.os,I'.bare,Xnc hu u (fun b hb=>?_) n0,Xkk hok u I'.stkFree (fun b hb=>?_),n0 x (by simp),n0 T' (by simp),ux,uT',t',q⟩
 · rcases List.mem_cons.mp hb with rfl | hb
   · exact .inr (Heap.get?_none_of_le (Nat.le_refl _))
   · exact .inl hb
 · rcases List.mem_cons.mp hb with rfl | hb
   · exact uT
   · rcases List.mem_cons.mp hb with rfl | hb
     · exact ux
     · have e:b=T':=by simpa using hb
       subst e
       exact uT'
end
end Stow
namespace Stow
open PySem L2 PyProof.Rows
theorem Xrc {K:PySem.W.Frag}{h:Heap}{C:Addr}{bmB:List Value}{newId:String}(X:K.In h)(q:PySem.W.excIn K C bmB newId=true) :
   ∃(bm:List Value) (N:Addr) (nm qn:Str) (bs:List Value) (hd:Bool) (sn:List Str) (sub:List Value) (ab:Bool) (col:Option Bool) (dd:Option Addr) (k0 k1 k2 k3 k5:Option Value) (mN:Str→Option Value),
     h.get? C=some (excClassObj nm qn C N bs bm hd sn sub ab col dd k0 k1 k2 k3 k5 newId)∧h.Ns N mN∧mN "__init__"=none∧OwnTail h bmB bm∧∀v,PySem.W.mroIn K C v=some ((Value.ref C::bm).contains v):=by
 unfold PySem.W.excIn at q
 split at q
 · rename_i dd cd sl lk
   split at q
   · rename_i C' bm a0 a1 a2 a3 n a5 em es
     simp only [Bool.and_eq_true,beq_iff_eq,Bool.not_eq_true'] at q
     obtain⟨⟨⟨⟨⟨eC,rfl⟩,nodel⟩,tl⟩,okN⟩,noI⟩:=q
     have eC:=eC.symm
     subst eC
     have mro:∀v,PySem.W.mroIn K C v=some ((Value.ref C::bm).contains v):=fun v=>by
       unfold PySem.W.mroIn PySem.W.clsIn
       rw[lk]
       first
         | rfl
         | (simp [em];done)
     obtain⟨nm,bs,mr,ns,qn,hd,sn,sub,ab,col,del⟩:=cd
     dsimp only at em nodel okN noI
     subst em nodel
     have esl:sl=#[a0,a1,a2,a3,some (.builtin n),a5]:=by
       cases sl with
       | mk l =>
         dsimp only at es
         rw[es]
     subst esl
     exact⟨bm,ns,nm,qn,bs,hd,sn,sub,ab,col,dd,a0,a1,a2,a3,a5,_,X _ _ lk,.of_isNs (PySem.W.isNs_of_in X okN),PySem.W.nsMap_none_of_in X okN noI,PySem.W.tail_of_in X tl,mro⟩
   · cases q
 · cases q
structure XCls (K:PySem.W.Frag)(mg:Str→Option Value)(x:Str)(C:Addr):Prop where
 bound:mg x=some (.ref C)
 ex:∃(bmB:List Value) (B newId initId:String),PySem.W.excIn K C bmB newId=true∧ExcBaseFacts B newId initId bmB∧bmB.contains (.type "BaseException")=true
def XAe (C:Addr)(E:XK)(t:TA):TS:=fun _ σ H=>t σ H fun xs H1=>xs.length≤sizeLine∧E (.ref C) none H1
section
variable {P:Program}{w:World}{K:PySem.W.Frag}{mg:Str→Option Value}{base:Heap}{N:List Str}{qual:Str}{scope:Scope}{f:Addr}{cd:Value}{A:Around}{outer:List Env}{s₀:Shared}{H₀:Hp}{EX:XK}
theorem Xef {x:Str}{C:Addr}{np cpos pos:Pos}{e:Expr}{es:List Expr}{t:TA}(XC:XCls K mg x C)(hh:(cxOf (CXe P w) P w K mg base N qual scope f cd A outer s₀ H₀ EX).A.handled=none)
   (hg:Gl (cxOf (CXe P w) P w K mg base N qual scope f cd A outer s₀ H₀ EX) x) (ha:PA (cxOf (CXe P w) P w K mg base N qual scope f cd A outer s₀ H₀ EX) (e::es) t)
   (hdb:(x==("__debug__":Str))=false:=by decide) (he:starEach (e::es) (cxOf (CXe P w) P w K mg base N qual scope f cd A outer s₀ H₀ EX).env=(false,eval e (cxOf (CXe P w) P w K mg base N qual scope f cd A outer s₀ H₀ EX).env)::starEach es (cxOf (CXe P w) P w K mg base N qual scope f cd A outer s₀ H₀ EX).env:=by rfl)
   (hpl:(backTo cpos (starEach es (cxOf (CXe P w) P w K mg base N qual scope f cd A outer s₀ H₀ EX).env)).any (·.1)=false:=by rfl) :
   PS (cxOf (CXe P w) P w K mg base N qual scope f cd A outer s₀ H₀ EX) (.Raise (some (.Call (.Name x np) (e::es) [] cpos)) none pos) (XAe C EX t):=by
 intro pins s σ H D I h
 obtain⟨bmB,B,newId,initId,q,FB,hB⟩:=XC.ex
 obtain⟨bm,NN,nm,qn,bs,hd,sn,sub,ab,col,dd,k0,k1,k2,k3,k5,mN,hC,hN,noI,tl,_⟩:=Xrc I.mod.kin q
 refine wpAny_Raise_call_subT (C:=C) (nm:=nm) (q:=qn) (N:=NN) (bs:=bs) (bm:=bm) (hdct:=hd) (sn:=sn) (sub:=sub) (ab:=ab) (col:=col) (dd:=dd) (k0:=k0) (k1:=k1) (k2:=k2) (k3:=k3) (k5:=k5) FB (mN:=mN) (tl.hasType hB) hh
   (by rw[he];show (false||(backTo cpos (starEach es _)).any (·.1))=false;rw[hpl];rfl) noI (Xeq I hg XC.bound ⟨rfl,?_⟩ hdb)
 have hA:=ha cpos pins s σ H _ I h
 rw[he] at hA ⊢
 refine Calls.evalArgs_plain (thn hA fun us s2 ⟨xs,H2,I2,r2,hz,q2⟩=>⟨rfl,by rw[←r2.length];exact hz,I2.bk _ _ hC,hN.keeps I2.bk,tl.keeps I2.bk,fun h' x hm=>?_⟩)
 have I3:Inv (cxOf (CXe P w) P w K mg base N qual scope f cd A outer s₀ H₀ EX) pins σ H2 { s2 with heap:=h' }:=I2.kept (t':=s2.toks) hm.keeps
 obtain⟨tt,ht,_,_⟩:=hm.there
 exact Xqm I3 ⟨_,_,ht,rfl,rfl,rfl,rfl⟩ (Xfx (show Un (frs outer) [] H₀ H2 s₀.heap s2.heap from I2.base) hm.new) (Xdo I2.hok hm.new) q2
end
def ExcO (x C:Addr)(od:Option Addr):HO:=.ext fun h=>∃oe vs,h.get? x=some oe∧oe.cls = .ref C∧oe.dict=od∧oe.data = .fields vs
abbrev Cx.suite (X:Cx)(x:Addr):Cx:={ X with A:=X.A.mark (some (.ref x)),calm:=false,xe:=fun _ _=>False }
theorem Xuy {X:Cx}(ok:X.Ok)(x:Addr):(Cx.suite X x).Ok :=
 ⟨ok.mod,ok.kind,ok.glob,ok.blt,ok.above,ok.inj,ok.has,ok.cab,fun z=>(nomatch z),ok.frames,ok.stk,ok.exf,ok.bs,ok.bsz,ok.noex,ok.exfs,ok.funs,ok.frf⟩
theorem Xir {X:Cx}{pins:List (Addr×Obj)}{σ:L2.St}{H:Hp}{s:Shared}(I:Inv X pins σ H s)(x:Addr):Inv (Cx.suite X x) pins σ H s:=⟨Xuy I.ok x,I.os,I.bare,I.base,I.loc,I.cell,I.free,I.freeC,I.pin,I.hok,I.len⟩
theorem Xee {X:Cx}{pins:List (Addr×Obj)}{σ:L2.St}{H:Hp}{s:Shared}{x:Addr}(ok:X.Ok)(I:Inv (Cx.suite X x) pins σ H s):Inv X pins σ H s:=⟨ok,I.os,I.bare,I.base,I.loc,I.cell,I.free,I.freeC,I.pin,I.hok,I.len⟩
section
variable {X:Cx}
theorem Xog {pins:List (Addr×Obj)}{σ:L2.St}{H H':Hp}{s s':Shared}{h':Heap}{x C T:Addr}{od:Option Addr}{fr ex:List Addr}(I:Inv X pins σ H s)(os:s'.os=s.os)(bare:AllBare s'.gens)(un:Un (frs X.stack) [] H H' s.heap s'.heap)(hok:HOk X.prog X.w H' s'.heap)
   (nx:s.heap.get? x=none) (ux:H' x=none) (u:Upto fr ex s'.heap h') (hfr:fr=frs X.stack) (nex:∀b∈ex,s.heap.get? b=none∧H' b=none) (t:Exc h' x (.ref C) od T .none):Inv X pins σ (upd H' x (ExcO x C od)) { s' with heap:=h' }:=by
 subst hfr
 have un2:Un (frs X.stack) [] H H' s.heap h':=Xnc un u (fun b hb=>.inl hb) fun b hb=>(nex b hb).1
 have stk:∀b∈frs X.stack,H' b=none:=fun b hb=>by
   obtain⟨_,o,ho,_⟩:=I.stack.mem hb
   exact un.free b o ho (I.stkFree b hb) (by simp)
 have hok2:HOk X.prog X.w H' h':=Xkk hok u stk fun b hb=>(nex b hb).2
 have nex':∀b v,H' b=some v→b≠x:=fun b v e z=>by rw[z,ux] at e;cases e
 have un3:Un (frs X.stack) [] H (upd H' x (ExcO x C od)) s.heap h':=by
   refine⟨un2.keep,un2.slot,fun b o q n hx=>?_,un2.there,fun b xs q=>?_,fun b o v q=>?_,fun b ps q=>?_⟩
   · rw[Xam (fun z=>by rw[z,nx] at q;cases q)]
     exact un2.free b o q n hx
   · rw[Xam (nex' b _ (un2.tups b xs q))]
     exact un2.tups b xs q
   · rw[Xam (nex' b _ (un2.frzs b o v q))]
     exact un2.frzs b o v q
   · obtain⟨more,z⟩:=un2.tbls b ps q
     exact⟨more,by rw[Xam (nex' b _ z)];exact z⟩
 obtain⟨oe,vs,oT,ts,ne,ee,hc,hd,hf,_⟩:=t
 have hok3:HOk X.prog X.w (upd H' x (ExcO x C od)) h':=fun b v e=>by
   by_cases z:b=x
   · subst z
     rw[upd_same] at e
     cases e
     exact⟨⟨oe,vs,ee,hc,hd,hf⟩,⟨oe,ee⟩,fun h1 h2 ⟨o1,v1,q1,q2,q3,q4⟩ k=>⟨o1,v1,k o1 q1,q2,q3,q4⟩⟩
   · rw[Xam z] at e
     exact(hok2 b v e).stay (fun _ _ _ q=>q) (fun c q=>by rw[Xam (nex' c _ q)];exact q) fun c xs q=>by rw[Xam (nex' c _ q)];exact q
 obtain⟨hh,gg,dd,tt,oo⟩:=s'
 obtain rfl:oo=s.os:=os
 have z:=I.call (h':=h') (g':=gg) (d':=dd) (t':=tt) (ch:=[]) un3 hok3 bare (fun b z=>absurd z (by simp))
 exact z
end
end Stow
namespace Stow
open PySem L2 PyProof.Rows
section
variable {X:Cx}
def ECls (K:PySem.W.Frag)(C:Addr)(bm:List Value):Prop:=∃(nm qn:Str) (N:Addr) (bs:List Value) (hd:Bool) (sn:List Str) (sub:List Value) (ab:Bool) (col:Option Bool) (dd:Option Addr) (k0 k1 k2 k3 k5:Option Value) (newId:String),
 K.lookup C=some (excClassObj nm qn C N bs bm hd sn sub ab col dd k0 k1 k2 k3 k5 newId)
variable {k:Nat}{f C0:Addr}{fd:FuncData}{ps:List Str}{sp:Sp}{fx cx:Str}{p cpos epos np hpos pos:Pos}{e:Expr}{es:List Expr}{ta:TA}{b0:Stmt}{suite:List Stmt}{ts:Addr→TS}
theorem XKd {pins:List (Addr×Obj)}{σ:L2.St}{H:Hp}{s s':Shared}{EX:XK}{y:Value}{W:Shared→Prop}(I:Inv X pins σ H s)(hst:X.stack=X.env::X.outer∧X.env.frame=some X.env.locals)(hq:CXe X.prog X.w X.stack H s EX y s')
   (k:∀(x C:Addr) (od:Option Addr) (T:Addr) (h2:Heap) (H2:Hp),y = .ref x→EX (.ref C) od H2→Exc h2 x (.ref C) od T .none→Inv X pins σ (upd H2 x (ExcO x C od)) { s' with heap:=h2 } →
     (∀h3,Upto (frs X.stack) [T] h2 h3→Exc h3 x (.ref C) od T .none→H2 x=none∧Inv X pins σ (upd H2 x (ExcO x C od)) { s' with heap:=h3 })→W { s' with heap:=h2 }) {E':Value→Shared→Prop} :
   wpAny (model X.prog X.w) X.A (noteFrame y X.env) (fun _ s2=>wpAny (model X.prog X.w) X.A (setFlight y none) (fun _ s3=>W s3) E' s2) E' s':=by
 obtain⟨x,C,T,od,H',rfl,os,bare,un,hok,nx,nT,ux,uT,t,q⟩:=hq
 have I':Inv X pins σ H' s':=by
   obtain⟨hh,gg,dd,tt,oo⟩:=s'
   obtain rfl:oo=s.os:=os
   have z:=I.call (h':=hh) (g':=gg) (d':=dd) (t':=tt) (ch:=[]) un hok bare (fun b z=>absurd z (by simp))
   exact z
 have efr:(X.env::X.outer).filterMap (·.frame)=frs X.stack:=by rw[hst.1];rfl
 refine XMl (base:=X.base) (outer:=X.outer) (by rw[←hst.1];exact I'.ok.frames) (by rw[←hst.1];exact I'.stack) hst.2 t fun h1 T' nT' u1 t1=>?_
 rw[efr] at u1
 refine Xhb (s:={ s' with heap:=h1 }) (fr:=frs X.stack) t1 fun h2 u2 t2=>?_
 have new:∀b∈[T,x]++[T']++[T'],s.heap.get? b=none∧H' b=none:=fun b hb=>by
   simp only [List.cons_append,List.nil_append,List.mem_cons,List.not_mem_nil,or_false] at hb
   rcases hb with rfl | rfl | rfl | rfl
   · exact⟨nT,uT⟩
   · exact⟨nx,ux⟩
   · exact⟨Xfx un nT',Xdo hok nT'⟩
   · exact⟨Xfx un nT',Xdo hok nT'⟩
 refine k x C od T' h2 H' rfl q t2 (Xog I os bare un hok nx ux (u1.trans u2) rfl (fun b hb=>new b (List.mem_append_left _ hb)) t2) fun h3 u3 t3=>⟨ux,Xog I os bare un hok nx ux ((u1.trans u2).trans u3) rfl new t3⟩
theorem Xpl {pins:List (Addr×Obj)}{D:Ends}{x:Addr}{fl:Flow}{s':Shared}(ok:X.Ok)(h:SP (Cx.suite X x) pins D fl s'):SP X pins D fl s':=by
 cases fl with
 | next=>obtain⟨σ',H',I,q⟩:=h;exact⟨σ',H',Xee ok I,q⟩
 | brk=>obtain⟨σ',H',I,q⟩:=h;exact⟨σ',H',Xee ok I,q⟩
 | cont=>obtain⟨σ',H',I,q⟩:=h;exact⟨σ',H',Xee ok I,q⟩
 | ret u=>obtain⟨v,σ',H',I,r,q⟩:=h;exact⟨v,σ',H',Xee ok I,r,q⟩
end
end Stow
namespace Stow
open PySem L2 PyProof.Rows
structure Defx (P:Program)(w:World)(K:PySem.W.Frag)(mg:Str→Option Value)(base:Heap)(x:Str)(k:Nat)(ps:List Str)(sp:Sp):Prop where
 ex:∃(f:Addr) (fd:FuncData),FnOk P w K mg base (CXe P w) k f fd ps sp∧mg x=some (.ref f)∧PySem.W.keepIn K (.ref f)=true∧Xcy K fd ps []
section
variable {P:Program}{w:World}{K:PySem.W.Frag}{mg:Str→Option Value}{base:Heap}
theorem Xbf {x qual:Str}{st:Stmt}{f:Addr}{fd:FuncData}{N ps:List Str}{k:Nat}{sp:Sp}(F:Fun K x qual st f fd)(S:FnScope N ps (Xae st))(len:∀vs H Q E,sp vs H Q E→vs.length=ps.length)
   (hbody:∀(cdv:Value) (A:Around) (outer:List Env) (s:Shared) (H:Hp) (vs:List V) (Q:VK) (E:XK),Room k (A.deeper (envOfC qual (Xae st) s.heap.objs.size f cdv))→sp vs H Q E →
     ∃t,PSs (cxOf (CXe P w) P w K mg base N qual (Xae st) f cdv A outer s H E) (Xbe st) t∧t { nx:=fun _ H'=>Q .non H',rt:=Q } (start N vs) H):FnOk P w K mg base (CXe P w) (k+1) f fd ps sp:=by
 obtain⟨oc,od,kV,doc,pm,an,cdv,ct,osl,rfl,lk,hcd⟩:=F.ex
 exact XHz lk hcd S len fun A outer s H vs Q E hr hsp=>hbody cdv A outer s H vs Q E hr hsp
theorem Src.okx {x:Str}{st:Stmt}{N ps:List Str}{k:Nat}{sp:Sp}(S:Src K mg x st)(sc:FnScope N ps (Xae st))
   (hb:∀(kV doc pm:Value) (an:Option Addr) (cdv ct:Value) (us:List Value),us.length=ps.length→bindArgs (PySem.W.fnOf x x (Xbr st) (Xbe st) (Xae st) .none kV doc pm an cdv ct) ⟨us,[]⟩=pure (ps.zip us))
   (len:∀vs H Q E,sp vs H Q E→vs.length=ps.length)
   (hbody:∀(f:Addr) (cdv:Value) (A:Around) (outer:List Env) (s:Shared) (H:Hp) (vs:List V) (Q:VK) (E:XK),Room k (A.deeper (envOfC x (Xae st) s.heap.objs.size f cdv))→sp vs H Q E →
     ∃t,PSs (cxOf (CXe P w) P w K mg base N x (Xae st) f cdv A outer s H E) (Xbe st) t∧t { nx:=fun _ H'=>Q .non H',rt:=Q } (start N vs) H):Defx P w K mg base x (k+1) ps sp:=by
 obtain⟨f,fd,F,hm⟩:=S.ex
 exact⟨f,fd,Xbf F sc len (hbody f),hm,F.kp,F.binds hb⟩
end
section
variable {X:Cx}
theorem Xbq:Xff (CXe X.prog X.w) X E0:=by
 rintro pins σ H s e s' I ⟨x,C,T,od,H',_,_,_,_,_,_,_,_,_,_,q⟩
 exact q.elim
theorem Xah {x:Str}{j k:Nat}{ps:List Str}{sp:Sp}{p pos:Pos}{e:Expr}{es:List Expr}{t:TA}(D:Defx X.prog X.w X.K X.mg X.base x j ps sp)(hr:Room k X.A)(hg:Gl X x)(ha:PA X (e::es) t)(hk:j≤k:=by decide)
   (hdb:(x==("__debug__":Str))=false:=by decide) (he:starEach (e::es) X.env=(false,eval e X.env)::starEach es X.env:=by rfl) (hpl:(backTo pos (starEach es X.env)).any (·.1)=false:=by rfl) :
   PE X (.Call (.Name x p) (e::es) [] pos) (Xtv sp [] E0 t):=by
 obtain⟨f,fd,F,hm,kp,b⟩:=D.ex
 exact Xtf F (hr.mono hk) hg hm kp b .nil Xbq ha hdb he hpl
variable {j k:Nat}{C0:Addr}{ps:List Str}{sp:Sp}{fx cx:Str}{p cpos epos np hpos pos:Pos}{e:Expr}{es:List Expr}{ta:TA}{b0:Stmt}{suite:List Stmt}{ts:Addr→TS}
end
theorem Lk.of {M:Model}{h:Heap}{α:Type}{m:Sem α}{v:α}(l:PySem.W.Looks M h m v):Lk M h m v:=fun A E g d t os Q q=>l A Q E ⟨h,g,d,t,os⟩ (fun _ _ e=>e) q
structure XK0 (K:PySem.W.Frag)(C:Addr):Prop where
 ga:PySem.W.findIn K (.ref C) "__getattribute__"=some (some (.builtin "BaseException.__getattribute__"))
 gat:PySem.W.findIn K (.ref C) "__getattr__"=some none
 cls:PySem.W.findIn K (.ref C) "__class__"=some (some (.builtin "object.__class__"))
 obj:PySem.W.mroIn K C (.type "object")=some true
 exc:PySem.W.mroIn K C (.type "BaseException")=some true
theorem XK0.lk {prog:Program}{w:World}{K:PySem.W.Frag}{C:Addr}{h:Heap}(x:XK0 K C)(KX:K.In h):XLk prog w h C :=
 ⟨.of (PySem.W.looks_findIn KX x.ga),.of (PySem.W.looks_findIn KX x.gat),.of (PySem.W.looks_findIn KX x.cls),.of (PySem.W.looks_mroIn KX x.obj),.of (PySem.W.looks_mroIn KX x.exc)⟩
section
variable {X:Cx}
end
end Stow
namespace Stow
open PySem L2 PyProof.Rows
open PySem.W in
theorem Xmv (self:Value):refuseLoop self "__setattr__" [.type "ValueError",.type "Exception",.type "BaseException",.type "object"]=pure ():=by kernel_rfl
def Xib:List Value→Bool
 | .ref _::r=>Xib r
 | l=>l==[.type "ValueError",.type "Exception",.type "BaseException",.type "object"]
open PySem.W in
theorem Xia (self:Value):∀{l:List Value},Xib l=true→refuseLoop self "__setattr__" l=pure ()
 | .ref c::r,e=>by rw[refuseLoop_ref];exact Xia self e
 | [],e=>by cases e
 | .none::r,e=>by cases e
 | .type n::r,e=>by
   have e':(Value.type n::r)=[.type "ValueError",.type "Exception",.type "BaseException",.type "object"]:=beq_iff_eq.mp e
   rw[e']
   exact Xmv self
 | .ellipsis::r,e=>by cases e
 | .notImplemented::r,e=>by cases e
 | .bool b::r,e=>by cases e
 | .int i t::r,e=>by cases e
 | .float i t::r,e=>by cases e
 | .str i t::r,e=>by cases e
 | .bytes i t::r,e=>by cases e
 | .builtin i::r,e=>by cases e
section
variable {prog:Program}{w:World}{A:Around}{K:PySem.W.Frag}{x C:Addr}{s:Shared}
open PySem.W in
theorem Xzd {E:Value→Shared→Prop}{ox:Obj}{vs:Array Value}{name:Str}{v:Value}{cd:ClassData}{Q:Unit→Shared→Prop}(X:K.In s.heap)(hx:s.heap.get? x=some ox)(hcl:ox.cls = .ref C)(hdi:ox.dict=none)(hda:ox.data = .fields vs)
   (hs:findIn K (.ref C) "__setattr__"=some (some (.builtin "object.__setattr__"))) (hc:clsIn K C=some cd) (ho:Xib cd.mro=true) (hm:mroIn K C (.type "object")=some true) (hd:cd.hasDict=true) (ht:findIn K (.ref C) name=some none)
   (h:∀h' dx,s.heap.get? dx=none→dx≠x→h'.get? x=some { ox with dict:=some dx }→h'.Ns1 dx (fun y=>if y=name then some v else none)→(∀b o,b≠x→s.heap.get? b=some o→h'.get? b=some o)→Q () { s with heap:=h',toks:=s.toks+2 }) :
   wpAny (model prog w) A (setAttr (.ref x) name v) Q E s:=by
 have I:InstAt s.heap x ox C none:=⟨hx,hcl,by unfold notCls;rw[hda],by rw[hdi];trivial⟩
 refine set_plain X I hs ?_
 have SF:=PySem.F.store_object
 have sub:Looks (model prog w) s.heap (isInstance (.ref x) (.type "object")) true:=I.type.andThen (looks_mroIn X hm)
 refine codeAny_call_builtin SF.slot.plain SF.entry (@check_slot (model prog w) _ _ { s with toks:=s.toks+1 } "object.__setattr__" "object" "__setattr__" (.ref x) [.str name s.toks,v] [] _ SF.kind SF.split sub (SF.args (.ref x) (.str name s.toks) v) ?_)
 have mro:Looks (model prog w) s.heap (mroOf (.ref C)) cd.mro:=(looks_clsIn X hc).andThen .now
 rw[osa_eq,refuse_eq]
 refine wpAny_bind (wpAny_bind (Looks.here (s:={ s with toks:=s.toks+1 }) I.type (wpAny_bind (Looks.here (s:={ s with toks:=s.toks+1 }) mro ?_))))
 rw[Xia _ ho]
 refine wpAny_pure (wpAny_bind (Looks.here (s:={ s with toks:=s.toks+1 }) I.type (wpAny_bind (Looks.here (s:={ s with toks:=s.toks+1 }) (looks_findIn X ht) (wpAny_bind (wpAny_pure ?_))))))
 show wpAny _ _ (Builtin.ObjectAttr.storeInOwnDict (.ref x) (.ref C) _ name v _) _ _ _
 unfold Builtin.ObjectAttr.storeInOwnDict
 obtain⟨c0,d0,dt0,sl0⟩:=ox
 dsimp only at hcl hdi hda
 subst hcl hdi hda
 refine wpAny_bind (wpAny_pure (wpAny_bind (wpAny_bind (wpAny_loadPart hx (wpAny_bind (Looks.here (s:={ s with toks:=s.toks+1 }) (looks_clsIn X hc) ?_))))))
 rw[hd]
 show wpAny (model prog w) A.in1 (do
   let d ←alloc { cls:=Value.type "dict",data:=Data.dict #[] }
   update x fun o=>{ o with dict:=some d }
   dictMade (.ref C) x d) _ _ _
 refine wpAny_bind (wpAny_alloc ?_)
 refine wpAny_bind (wpAny_update (Heap.get?_push_of_some _ hx) ?_)
 refine wpAny_pure (a:=some s.heap.objs.size) (wpAny_bind (wpAny_pure (wpAny_bind ?_)))
 have ne:s.heap.objs.size≠x:=Nat.ne_of_gt (Heap.lt_size hx)
 have n0:((s.heap.push { cls:=.type "dict",data:=.dict #[] }).update x fun o=>{ o with dict:=some s.heap.objs.size }).Ns1 s.heap.objs.size (fun _=>none):=by
   have e1:(s.heap.push { cls:=.type "dict",data:=.dict #[] }).get? s.heap.objs.size=some { cls:=.type "dict",data:=.dict #[] }:=Heap.get?_push_size s.heap rfl
   have e3:(s.heap.push { cls:=.type "dict",data:=.dict #[] }).Ns s.heap.objs.size (fun _=>none):=⟨_,#[],_,e1,rfl,(fun e he=>absurd he (by simp)),fun _=>rfl⟩
   exact(Heap.Ns1.of_empty e3).at fun o q=>by rw[Heap.get?_update_other _ _ (fun z=>ne z.symm)];exact q
 refine wpAny_nsSet1 n0 fun h' hn2 hs2=>?_
 obtain⟨oD,esD,epD,hoD,hdD,hcD⟩:=hn2.count (PySem.Within.cons name v (ns:=[]) (fun y hy=>absurd rfl hy))
 refine wpAny_bind (wpAny_lookBehind hoD (by rw[hdD];exact pastItsLine_dict (Nat.le_trans hcD (by show 1≤sizeLine+1;exact Nat.le_add_left 1 _))) ?_)
 refine wpAny_pure (h _ s.heap.objs.size (Heap.get?_none_of_le (Nat.le_refl _)) ne ?_ hn2 fun b o nb q=>?_)
 · rw[hs2.2 x (fun z=>ne z.symm)]
   exact Heap.get?_update_self _ (Heap.get?_push_of_some _ hx) rfl
 · rw[hs2.2 b (Nat.ne_of_lt (Heap.lt_size q))]
   show ((s.heap.push _).update x _).get? b=some o
   rw[Heap.get?_update_other _ _ (fun z=>nb z.symm)]
   exact Heap.get?_push_of_some _ q
end
end Stow
namespace Stow
open PySem
open Sem (wp)
section
variable {prog:Program}{w:World}{A:Around}{E:Value→Shared→Prop}{h:Heap}{g:Array GenState}{d:Drawn}{t:Nat}{os:OsState}{a C:Addr}{o:Obj}{name:Str}{v:Value}
end
end Stow
namespace Stow
open PySem L2 PyProof.Rows
structure XSet (K:PySem.W.Frag)(C:Addr)(f:Str):Prop where
 sa:PySem.W.findIn K (.ref C) "__setattr__"=some (some (.builtin "object.__setattr__"))
 cd:∃cd,PySem.W.clsIn K C=some cd∧Xib cd.mro=true∧cd.hasDict=true
 ob:PySem.W.mroIn K C (.type "object")=some true
 no:PySem.W.findIn K (.ref C) f=some none
def ExcN (x C:Addr)(od:Option Addr):HO:=.ext fun h=>∃tt,h.get? x=some { cls:=.ref C,dict:=od,data:=.fields #[.ref tt,.none,.none,.none,.bool false,.none] }
def XTu (K:PySem.W.Frag)(ta tv:TE)(f:Str):TS:=fun D σ H=>tv σ H fun y H1=>ta σ H1 fun x H2=>∃a C,x = .ref a∧H2 a=some (ExcN a C none)∧XSet K C f∧∀dx,H2 dx=none→D.nx σ (upd (upd H2 dx (.xd [(f,y)])) a (ExcN a C (some dx)))
section
variable {X:Cx}{o e value:Expr}{f:Str}{pos pos':Pos}{ta tv:TE}
theorem XDf (ha:PE X o ta)(hv:PE X value tv)(hs:swapsWith value (some (.Attribute o f pos')) pos.line X.env=pure false:=by rfl):PS X (.Assign [.Attribute o f pos'] value pos) (XTu X.K ta tv f):=by
 intro pins s σ H D I h
 refine plainObj_wpAny_Assign_Attribute (thn (hv pins s σ H _ I h) fun u s1 ⟨y,H1,I1,ry,q⟩=>thn (ha pins s1 σ H1 _ I1 q) fun ov s2 ⟨x,H2,I2,rx,a,C,ex,ea,Z,q2⟩=>?_) hs
 subst ex
 obtain rfl:ov=Value.ref a:=rx
 obtain⟨⟨tt,ee⟩,_⟩:=I2.hok a _ ea
 obtain⟨cd,hcd,ht,hdi⟩:=Z.cd
 refine Xzd I2.kIn ee rfl rfl rfl Z.sa hcd ht Z.ob hdi Z.no fun h' dx nd ne e' n' kp=>?_
 have ud:H2 dx=none:=Xdo I2.hok nd
 have nda:a≠dx:=fun z=>ne z.symm
 refine⟨σ,_,?_,q2 dx ud⟩
 -- the dict is laid,the exception bears it
 have un:Un X.fs [] H2 (upd (upd H2 dx (.xd [(f,y)])) a (ExcN a C (some dx))) s2.heap h':=by
   refine⟨fun b ob qb n _ _=>kp b ob (fun z=>by rw[z,ea] at n;cases n) qb,fun b ob qb n _ _=>⟨ob.slots,kp b ob (fun z=>by rw[z,ea] at n;cases n) qb⟩,fun b ob qb n _=>?_,fun b ob qb _=>?_,fun b xs qb=>?_,fun b ob v' qb=>?_,fun b ps qb=>?_⟩
   · rw[Xam (fun z=>by rw[z,ea] at n;cases n),Xam (fun z=>by rw[z,nd] at qb;cases qb)]
     exact n
   · by_cases z:b=a
     · subst z
       exact⟨_,e'⟩
     · exact⟨ob,kp b ob z qb⟩
   · rw[Xam (fun z=>by rw[z,ea] at qb;cases qb),Xam (Xaq qb ud)]
     exact qb
   · rw[Xam (fun z=>by rw[z,ea] at qb;cases qb),Xam (Xaq qb ud)]
     exact qb
   · exact⟨#[],by rw[Xam (fun z=>by rw[z,ea] at qb;cases qb),Xam (Xaq qb ud),qb];simp⟩
 have hok:HOk X.prog X.w (upd (upd H2 dx (.xd [(f,y)])) a (ExcN a C (some dx))) h':=fun b v' qb=>by
   by_cases z:b=a
   · subst z
     rw[upd_same] at qb
     cases qb
     exact⟨⟨tt,e'⟩,⟨_,e'⟩,fun h1 h2 ⟨t1,q1⟩ k=>⟨t1,k _ q1⟩⟩
   · rw[Xam z] at qb
     by_cases z2:b=dx
     · subst z2
       rw[upd_same] at qb
       cases qb
       refine⟨_,n',fun g=>?_⟩
       show RelO (List.lookup g [(f,y)]) (if g=f then some u else none)
       by_cases zg:g=f
       · subst zg
         rw[if_pos rfl,List.lookup_cons_self]
         exact ry
       · rw[if_neg zg,List.lookup_cons,show (g==f)=false from beq_false_of_ne zg]
         trivial
     · rw[Xam z2] at qb
       refine(I2.hok b v' qb).stay (fun c w' hcw q=>kp c w' (fun y'=>?_) q) (fun c q=>?_) fun c xs q=>?_
       · subst y'
         rcases hcw with r | r
         · exact z r.symm
         · rw[ea] at r
           cases r
       · rw[Xam (fun z=>by rw[z,ea] at q;cases q),Xam (Xaq q ud)]
         exact q
       · rw[Xam (fun z=>by rw[z,ea] at q;cases q),Xam (Xaq q ud)]
         exact q
 exact I2.un un hok
end
end Stow
namespace Stow
open PySem
open Sem (wp)
section
variable {prog:Program}{w:World}{A:Around}{E:Value→Shared→Prop}{h:Heap}{g:Array GenState}{d:Drawn}{t:Nat}{os:OsState}
variable {nm q:Str}{C N:Addr}{bs bm bmB:List Value}{hdct:Bool}{sn:List Str}{sub:List Value}{ab:Bool}{col:Option Bool}{dd:Option Addr}{k0 k1 k2 k3 k5:Option Value}{B newId initId:String}
theorem Xtb (FB:ExcBaseFacts B newId initId bmB)(TL:OwnTail h bmB bm){args:List Value}{fI:Addr}{oI:Obj}{Q:Fin→Shared→Prop}(hC:h.get? C=some (excClassObj nm q C N bs bm hdct sn sub ab col dd k0 k1 k2 k3 k5 newId))
   (LI:PySem.W.Looks (model prog w) h (typeLookup (.ref C) "__init__") (some (.ref fI))) (hfI:h.get? fI=some oI) (hfc:oI.cls = .type "function")
   (k:∀h' e,Heap.MadeExcOf h h' e (.ref C) args→wpAny (model prog w) A (call (.ref fI) (.ref e::args)) (fun r s'=>r = .none∧Q (.done (.ret (.ref e))) s') E ⟨h',g,d,t,os⟩) (hz:args.length≤sizeLine) :
   wpAny (model prog w) A (Builtin.«type.__call__» ⟨.ref C::args,[]⟩) Q E ⟨h,g,d,t,os⟩:=by
 repeat (first
   | with_reducible refine wpAny_loadPart_at hC ?_
   | with_reducible refine wpAny_madeBy_exc hC ?_
   | wp_step)
 refine codeAny_call_builtin_code (Code.quiet_builtin _ FB.quiet) (wpAny_check_new_subT FB TL hC (codeAny_exc_new_subT FB TL hC ?_ hz))
 show wpAny _ _ _ _ _ _
 have kp:∀b o,h.get? b=some o→((h.push { cls:=.type "tuple",data:=.seq args.toArray }).push { cls:=.ref C,data:=.fields #[.ref h.objs.size,.none,.none,.none,.bool false,.none] }).get? b=some o :=
   fun b o z=>Heap.get?_push_of_some _ (Heap.get?_push_of_some _ z)
 have gC:=kp _ _ hC
 have gE:((h.push { cls:=.type "tuple",data:=.seq args.toArray }).push { cls:=.ref C,data:=.fields #[.ref h.objs.size,.none,.none,.none,.bool false,.none] }).get? (h.objs.size+1)
     = some { cls:=.ref C,data:=.fields #[.ref h.objs.size,.none,.none,.none,.bool false,.none] }:=by heap_get
 have cC:(Value.ref C::bm).contains (.ref C)=true:=by simp
 unfold isInstance
 repeat (first
   | with_reducible refine wpAny_loadPart_at gE ?_
   | (with_reducible refine wpAny_isSubtype_exc gC ?_;rw[cC])
   | wp_step)
 show wpAny _ _ (typeLookup (.ref C) _) _ _ _
 refine LI _ _ _ _ kp ?_
 refine wpAny_holding (wpAny_bind ?_)
 unfold bindSpecial
 refine wpAny_bind (wpAny_typeOf (T:="function") ⟨_,kp _ _ hfI,hfc⟩ ?_)
 rw[if_pos (by decide)]
 refine wpAny_pure (wpAny_bind (wpAny_mono (k _ (h.objs.size+1) ⟨kp,Heap.get?_none_of_le (Nat.le_succ _),h.objs.size,gE,Heap.get?_none_of_le (Nat.le_refl _),?_⟩) (fun r s' hr=>?_) fun _ _ z=>z))
 · exact Heap.get?_push_of_some _ (Heap.get?_push_at rfl rfl)
 · obtain⟨rfl,z⟩:=hr
   wp_walk
   exact z
theorem Xub (FB:ExcBaseFacts B newId initId bmB)(TL:OwnTail h bmB bm){args:List Value}{fI:Addr}{oI:Obj}{Q:Value→Shared→Prop}(hC:h.get? C=some (excClassObj nm q C N bs bm hdct sn sub ab col dd k0 k1 k2 k3 k5 newId))
   (LI:PySem.W.Looks (model prog w) h (typeLookup (.ref C) "__init__") (some (.ref fI))) (hfI:h.get? fI=some oI) (hfc:oI.cls = .type "function")
   (k:∀h' e,Heap.MadeExcOf h h' e (.ref C) args→wpAny (model prog w) (A.under (.builtin "type.__call__" ⟨.ref C::args,[]⟩)) (call (.ref fI) (.ref e::args)) (fun r s'=>r = .none∧Q (.ref e) s') E ⟨h',g,d,t,os⟩) (hz:args.length≤sizeLine) :
   wpAny (model prog w) A (call (.ref C) args) Q E ⟨h,g,d,t,os⟩:=by
 have y1:=tc_lookup
 have y2:=tc_bind (.ref C)
 have y3:(⟨h,g,d,t,os⟩:Shared).TypeIs (.ref C) "type":=⟨_,hC,rfl⟩
 refine wpAny_call (codeAny_of_tree ?_)
 show wpAny _ _ (callAny (.ref C) _) _ _ _
 repeat (any_goals (first
   | assumption
   | with_reducible refine wpAny_loadPart_at hC ?_
   | wp_step))
 refine⟨rfl,codeAny_call_builtin_at (Code.quiet_builtin _ (by decide +kernel)) entry_typeCall (wpAny_check_type_call_sub hC (Xtb FB TL hC LI hfI hfc (fun h' e hm=>?_) hz))⟩
 exact k h' e hm
theorem Xrt {M:Model}{env:Env}{s:Shared}{x:Sem Value}{Q:Flow→Shared→Prop}(hbase:bm.contains (.type "BaseException")=true)(hh:A.handled=none)
   (k:wpAny M A x (fun v s1=>∃e od tt,v = .ref e∧s1.heap.get? C=some (excClassObj nm q C N bs bm hdct sn sub ab col dd k0 k1 k2 k3 k5 newId)∧s1.heap.get? e=some { cls:=.ref C,dict:=od,data:=.fields #[.ref tt,.none,.none,.none,.bool false,.none] }∧E (.ref e) s1) E s) :
   wpAny M A (raiseStmt env (some x) none) Q E s:=by
 have cB:(Value.ref C::bm).contains (.type "BaseException")=true:=by rw[List.contains_cons,hbase,Bool.or_true]
 unfold raiseStmt
 refine wpAny_bind (wpAny_mono k (fun v s1 k1=>?_) fun _ _ z=>z)
 obtain⟨e,od,tt,rfl,hC,he,z⟩:=k1
 obtain⟨hp,gg,d1,tk,os1⟩:=s1
 repeat (first
   | with_reducible refine wpAny_loadPart_at he ?_
   | with_reducible refine wpAny_loadPart_at hC ?_
   | (with_reducible refine wpAny_isSubtype_exc hC ?_;rw[cB])
   | wp_step)
 exact wpAny_raiseNew_none hh z
end
end Stow
namespace Stow
open PySem L2 PyProof.Rows
structure XIni (K:PySem.W.Frag)(mg:Str→Option Value)(x:Str)(C C0 fI:Addr):Prop where
 bound:mg x=some (.ref C)
 lk:∃(nm qn:Str) (N:Addr) (bs:List Value) (hd:Bool) (sn:List Str) (sub:List Value) (ab:Bool) (col:Option Bool) (dd:Option Addr) (k0 k1 k2 k3 k5:Option Value),
   K.lookup C=some (excClassObj nm qn C N bs (.ref C0::[.type "ValueError",.type "Exception",.type "BaseException",.type "object"]) hd sn sub ab col dd k0 k1 k2 k3 k5 "ValueError.__new__")
 base:PySem.W.excIn K C0 [.type "ValueError",.type "Exception",.type "BaseException",.type "object"] "ValueError.__new__"=true
 ini:PySem.W.findIn K (.ref C) "__init__"=some (some (.ref fI))
 keep:PySem.W.keepIn K (.ref C)=true
 fn:∃(c:Value) (dd:Option Addr) (da:Data) (sl:Array (Option Value)),K.lookup fI=some ⟨c,dd,da,sl⟩∧c = .type "function"
def del (H:Hp)(x:Addr):Hp:=fun b=>if b=x then none else H b
theorem Xhd {H:Hp}{x:Addr}:del H x x=none:=by unfold del;rw[if_pos rfl]
theorem Xgq {H:Hp}{x b:Addr}(h:b≠x):del H x b=H b:=by unfold del;rw[if_neg h]
theorem XDp {X:Cx}{pins:List (Addr×Obj)}{σ:L2.St}{H:Hp}{s:Shared}{x:Addr}{φ:Heap→Prop}(I:Inv X pins σ H s)(e:H x=some (.ext φ)):Inv X pins σ (del H x) s:=by
 have nx:∀b v,H b=some v→v≠.ext φ→b≠x:=fun b v q n z=>by
   subst z
   rw[e] at q
   exact n (Option.some.inj q).symm
 have un:Un X.fs [] H (del H x) s.heap s.heap:=by
   refine⟨fun b o q _ _ _=>q,fun b o q _ _ _=>⟨o.slots,q⟩,fun b o q n _=>?_,fun b o q _=>⟨o,q⟩,fun b xs q=>?_,fun b o v q=>?_,fun b ps q=>⟨#[],?_⟩⟩
   · by_cases z:b=x
     · rw[z]
       exact Xhd
     · rw[Xgq z]
       exact n
   · rw[Xgq (nx b _ q (by intro z;cases z))]
     exact q
   · rw[Xgq (nx b _ q (by intro z;cases z))]
     exact q
   · rw[Xgq (nx b _ q (by intro z;cases z)),q]
     simp
 have hok:HOk X.prog X.w (del H x) s.heap:=fun b v q=>by
   by_cases z:b=x
   · rw[z,Xhd] at q
     cases q
   · rw[Xgq z] at q
     refine(I.hok b v q).stay (fun _ _ _ z=>z) (fun c q'=>?_) fun c xs q'=>?_
     · rw[Xgq (nx c _ q' (by intro z;cases z))]
       exact q'
     · rw[Xgq (nx c _ q' (by intro z;cases z))]
       exact q'
 exact I.un (h':=s.heap) (t':=s.toks) un hok
theorem XCh {X:Cx}{pins:List (Addr×Obj)}{σ:L2.St}{H:Hp}{s:Shared}{h':Heap}{x C tt:Addr}(I:Inv X pins σ H s)(nx:s.heap.get? x=none)(kp:∀b o,s.heap.get? b=some o→h'.get? b=some o)
   (e:h'.get? x=some { cls:=.ref C,data:=.fields #[.ref tt,.none,.none,.none,.bool false,.none] }):Inv X pins σ (upd H x (ExcN x C none)) { s with heap:=h' }:=by
 have ux:H x=none:=Xdo I.hok nx
 have un:Un X.fs [] H (upd H x (ExcN x C none)) s.heap h':=by
   refine⟨fun b o q _ _ _=>kp b o q,fun b o q _ _ _=>⟨o.slots,kp b o q⟩,fun b o q n _=>?_,fun b o q _=>⟨o,kp b o q⟩,fun b xs q=>?_,fun b o v q=>?_,fun b ps q=>⟨#[],?_⟩⟩
   · rw[Xam (fun z=>by rw[z,nx] at q;cases q)]
     exact n
   · rw[Xam (Xaq q ux)]
     exact q
   · rw[Xam (Xaq q ux)]
     exact q
   · rw[Xam (Xaq q ux),q]
     simp
 have hok:HOk X.prog X.w (upd H x (ExcN x C none)) h':=fun b v q=>by
   by_cases z:b=x
   · subst z
     rw[upd_same] at q
     cases q
     exact⟨⟨tt,e⟩,⟨_,e⟩,fun h1 h2 ⟨t1,q1⟩ k=>⟨t1,k _ q1⟩⟩
   · rw[Xam z] at q
     refine(I.hok b v q).stay (fun c w' _ q'=>kp c w' q') (fun c q'=>?_) fun c xs q'=>?_
     · rw[Xam (Xaq q' ux)]
       exact q'
     · rw[Xam (Xaq q' ux)]
       exact q'
 exact I.un (t':=s.toks) un hok
theorem Xus {X:Cx}{x:Str}{C C0 fI:Addr}{fd:FuncData}{ps:List Str}{sp:Sp}{j:Nat}{pins:List (Addr×Obj)}{σ:L2.St}{H:Hp}{s:Shared}{Q:VK}{us:List Value}{vs:List V}(XI:XIni X.K X.mg x C C0 fI)(F:FnOk X.prog X.w X.K X.mg X.base (CXe X.prog X.w) j fI fd ps sp)
   (hr:Room (j+1) X.A) (hb:Xcy X.K fd ps []) (I:Inv X pins σ H s) (r:Vals vs us) (hz:vs.length≤1000) (h:∀y,H y=none→sp (.ref y::vs) (upd H y (ExcN y C none)) (fun v H2=>v = .non∧Q (.ref y) H2) E0) :
   wpAny (model X.prog X.w) X.A (call (.ref C) us) (fun u s'=>EP X pins σ Q u s'∧∃y,u = .ref y∧s.heap.get? y=none) X.xe s:=by
 obtain⟨nm,qn,NN,bs,hd,sn,sub,ab,col,dd,k0,k1,k2,k3,k5,lkC⟩:=XI.lk
 obtain⟨bm,N0,nm0,qn0,bs0,hd0,sn0,sub0,ab0,col0,dd0,j0,j1,j2,j3,j5,mN0,hC0,hN0,noI,tl,_⟩:=Xrc I.kIn XI.base
 have FB:=PySem.F.excBase_ValueError
 have TL:OwnTail s.heap [.type "ValueError",.type "Exception",.type "BaseException",.type "object"] (.ref C0::[.type "ValueError",.type "Exception",.type "BaseException",.type "object"]):=.own hC0 hN0 noI .base
 obtain⟨cI,dI,daI,slI,lkI,ecI⟩:=XI.fn
 have gC:=I.kIn _ _ lkC
 have gI:=I.kIn _ _ lkI
 have LI:=PySem.W.looks_findIn (M:=model X.prog X.w) I.kIn XI.ini
 obtain⟨hp,gg,d1,tk,os1⟩:=s
 refine Xub FB TL gC LI gI ecI (fun h' y hm=>?_) (by rw[←r.length];exact Nat.le_of_lt (small1000 hz))
 obtain⟨tt,ey,_,_⟩:=hm.there
 have I2:=XCh I hm.new hm.keeps ey
 have uy:H y=none:=Xdo I.hok hm.new
 have hq:=h y uy
 have r2:Vals (V.ref y::vs) (Value.ref y::us):=.cons rfl r
 have hl:((Value.ref y::us)++[]).length=ps.length:=by
   rw[List.append_nil,←F.len _ _ _ _ hq]
   exact r2.length.symm
 have bd:=hb _ (Value.ref y::us) I2.kIn hl
 rw[List.append_nil] at bd
 refine wpAny_call (codeAny_mono (F.run _ X.stack _ _ ⟨Value.ref y::us,[]⟩ (Value.ref y::us) _ _ E0 (hr.make C us []) (I2.env0.make C us []) bd r2 hq) fun rs s' hq'=>?_)
 cases rs with
 | error e=>obtain⟨_,_,_,_,_,_,_,_,_,_,_,_,_,_,_,z⟩:=hq';exact z.elim
 | ok fl =>
   cases fl with
   | ret u =>
     obtain⟨v,H',I3,rv,ev,q3⟩:=I2.after hq'
     subst ev
     exact⟨rv,⟨V.ref y,H',I3,rfl,q3⟩,y,rfl,hm.new⟩
   | next=>exact False.elim hq'
   | brk=>exact False.elim hq'
   | cont=>exact False.elim hq'
def Xnp (C:Addr)(sp:Sp)(E:XK)(t:TA):TS:=fun _ σ H=>t σ H fun vs H1=>vs.length≤1000∧∀y,H1 y=none→sp (.ref y::vs) (upd H1 y (ExcN y C none)) (fun v H2=>v = .non∧∃z,V.ref y=V.ref z∧∃od,H2 z=some (ExcN z C od)∧E (.ref C) od (del H2 z)) E0
section
variable {P:Program}{w:World}{K:PySem.W.Frag}{mg:Str→Option Value}{base:Heap}{N:List Str}{qual:Str}{scope:Scope}{f:Addr}{cd:Value}{A:Around}{outer:List Env}{s₀:Shared}{H₀:Hp}{EX:XK}
theorem Xtp {x:Str}{C C0 fI:Addr}{fd:FuncData}{ps:List Str}{sp:Sp}{j k:Nat}{np cpos pos:Pos}{e:Expr}{es:List Expr}{t:TA}(XI:XIni K mg x C C0 fI)(F:FnOk P w K mg base (CXe P w) j fI fd ps sp)(hb:Xcy K fd ps [])
   (hr:Room k (cxOf (CXe P w) P w K mg base N qual scope f cd A outer s₀ H₀ EX).A)
   (hg:Gl (cxOf (CXe P w) P w K mg base N qual scope f cd A outer s₀ H₀ EX) x) (ha:PA (cxOf (CXe P w) P w K mg base N qual scope f cd A outer s₀ H₀ EX) (e::es) t) (hj:j+1≤k:=by decide)
   (hdb:(x==("__debug__":Str))=false:=by decide) (he:starEach (e::es) (cxOf (CXe P w) P w K mg base N qual scope f cd A outer s₀ H₀ EX).env=(false,eval e (cxOf (CXe P w) P w K mg base N qual scope f cd A outer s₀ H₀ EX).env)::starEach es (cxOf (CXe P w) P w K mg base N qual scope f cd A outer s₀ H₀ EX).env:=by rfl)
   (hpl:(backTo cpos (starEach es (cxOf (CXe P w) P w K mg base N qual scope f cd A outer s₀ H₀ EX).env)).any (·.1)=false:=by rfl) :
   PS (cxOf (CXe P w) P w K mg base N qual scope f cd A outer s₀ H₀ EX) (.Raise (some (.Call (.Name x np) (e::es) [] cpos)) none pos) (Xnp C sp EX t):=by
 intro pins s σ H D I h
 obtain⟨nm,qn,NN,bs,hd,sn,sub,ab,col,dd,k0,k1,k2,k3,k5,lkC⟩:=id XI.lk
 have hB:(Value.ref C0::[.type "ValueError",.type "Exception",.type "BaseException",.type "object"]:List Value).contains (.type "BaseException")=true:=by
   rw[List.contains_cons,PySem.F.excBase_ValueError.hasBase,Bool.or_true]
 rw[arm_exec_Raise]
 refine wpAny_bind (wpAny_standAt (Xrt (C:=C) (nm:=nm) (q:=qn) (N:=NN) (bs:=bs) (bm:=.ref C0::[.type "ValueError",.type "Exception",.type "BaseException",.type "object"]) (hdct:=hd) (sn:=sn) (sub:=sub) (ab:=ab) (col:=col) (dd:=dd) (k0:=k0) (k1:=k1) (k2:=k2) (k3:=k3) (k5:=k5) (newId:="ValueError.__new__") hB hr.hd ?_))
 refine wpAny_bind (wpAny_mono ?_ (fun v s1 hv=>wpAny_bind (wpAny_standAt (wpAny_pure hv))) (fun _ _ z=>z))
 refine wpAny_Call_Name_kw (Xeq I hg XI.bound ?_ hdb)
 refine PySem.W.callWith_K (h₀:=base) I.ok.mod.kin XI.keep (thn (ha cpos pins s σ H _ I h) fun us s1 ⟨vs,H1,I1,r,hz,q⟩=>⟨I1.kIn,?_⟩) he hpl
 refine thn (Xus XI F (hr.mono hj) hb I1 r hz (Q:=fun u H2=>∃z,u = .ref z∧∃od,H2 z=some (ExcN z C od)∧EX (.ref C) od (del H2 z)) (fun y hy=>q y hy)) fun u s2 ⟨⟨v,H2,I2,rv,y,ev,od,ey,qe⟩,y',eu,ny⟩=>?_
 · subst ev
   obtain rfl:u=Value.ref y:=rv
   cases eu
   obtain⟨⟨tt,g1⟩,_⟩:=I2.hok y _ ey
   refine⟨y,od,tt,rfl,I2.kIn _ _ lkC,g1,?_⟩
   exact Xqm (XDp I2 ey) ⟨_,_,g1,rfl,rfl,rfl,rfl⟩ (Xfx (show Un (frs outer) [] H₀ H1 s₀.heap s1.heap from I1.base) ny) Xhd qe
end
end Stow
set_option Elab.async false
set_option linter.all false
set_option maxRecDepth 100000
set_option maxHeartbeats 4000000
namespace Stow
open PySem L2 PyProof.Rows
structure DefI (P:Program)(w:World)(K:PySem.W.Frag)(mg:Str→Option Value)(base:Heap)(x:Str)(C C0:Addr)(j:Nat)(ps:List Str)(sp:Sp):Prop where
 ex:∃(fI:Addr) (fd:FuncData),XIni K mg x C C0 fI∧FnOk P w K mg base (CXe P w) j fI fd ps sp∧Xcy K fd ps []
def Xrx (C:Addr)(f:Str):Sp:=fun vs H Q _=>∃(y:Addr) (v:V),vs=[.ref y,v]∧H y=some (ExcN y C none)∧∀dx,H dx=none→Q .non (upd (upd H dx (.xd [(f,v)])) y (ExcN y C (some dx)))
section
variable {P:Program}{w:World}{K:PySem.W.Frag}{mg:Str→Option Value}{base:Heap}{N:List Str}{qual:Str}{scope:Scope}{f:Addr}{cd:Value}{A:Around}{outer:List Env}{s₀:Shared}{H₀:Hp}{EX:XK}
theorem Xps {x:Str}{C C0:Addr}{ps:List Str}{sp:Sp}{j k:Nat}{np cpos pos:Pos}{e:Expr}{es:List Expr}{t:TA}(D:DefI P w K mg base x C C0 j ps sp)
   (hr:Room k (cxOf (CXe P w) P w K mg base N qual scope f cd A outer s₀ H₀ EX).A)
   (hg:Gl (cxOf (CXe P w) P w K mg base N qual scope f cd A outer s₀ H₀ EX) x) (ha:PA (cxOf (CXe P w) P w K mg base N qual scope f cd A outer s₀ H₀ EX) (e::es) t) (hj:j+1≤k:=by decide)
   (hdb:(x==("__debug__":Str))=false:=by decide) (he:starEach (e::es) (cxOf (CXe P w) P w K mg base N qual scope f cd A outer s₀ H₀ EX).env=(false,eval e (cxOf (CXe P w) P w K mg base N qual scope f cd A outer s₀ H₀ EX).env)::starEach es (cxOf (CXe P w) P w K mg base N qual scope f cd A outer s₀ H₀ EX).env:=by rfl)
   (hpl:(backTo cpos (starEach es (cxOf (CXe P w) P w K mg base N qual scope f cd A outer s₀ H₀ EX).env)).any (·.1)=false:=by rfl) :
   PS (cxOf (CXe P w) P w K mg base N qual scope f cd A outer s₀ H₀ EX) (.Raise (some (.Call (.Name x np) (e::es) [] cpos)) none pos) (Xnp C sp EX t):=by
 obtain⟨fI,fd,XI,F,hb⟩:=D.ex
 exact Xtp XI F hb hr hg ha hj hdb he hpl
theorem Xdf {x:Str}{j k:Nat}{ps:List Str}{sp:Sp}{p pos:Pos}{e:Expr}{es:List Expr}{t:TA}(D:Defx P w K mg base x j ps sp)(hr:Room k (cxOf (CXe P w) P w K mg base N qual scope f cd A outer s₀ H₀ EX).A)
   (hg:Gl (cxOf (CXe P w) P w K mg base N qual scope f cd A outer s₀ H₀ EX) x) (ha:PA (cxOf (CXe P w) P w K mg base N qual scope f cd A outer s₀ H₀ EX) (e::es) t) (hk:j≤k:=by decide)
   (hdb:(x==("__debug__":Str))=false:=by decide) (he:starEach (e::es) (cxOf (CXe P w) P w K mg base N qual scope f cd A outer s₀ H₀ EX).env=(false,eval e (cxOf (CXe P w) P w K mg base N qual scope f cd A outer s₀ H₀ EX).env)::starEach es (cxOf (CXe P w) P w K mg base N qual scope f cd A outer s₀ H₀ EX).env:=by rfl)
   (hpl:(backTo pos (starEach es (cxOf (CXe P w) P w K mg base N qual scope f cd A outer s₀ H₀ EX).env)).any (·.1)=false:=by rfl) :
   PE (cxOf (CXe P w) P w K mg base N qual scope f cd A outer s₀ H₀ EX) (.Call (.Name x p) (e::es) [] pos) (Xtv sp [] EX t):=by
 obtain⟨f',fd,F,hm,kp,b⟩:=D.ex
 exact Xtf F (hr.mono hk) hg hm kp b .nil Xgt ha hdb he hpl
end
section
variable {K:PySem.W.Frag}{σ:L2.St}{H:Hp}{D:Ends}
theorem r_raise {C:Addr}{E:XK}{t:TA}(h:t σ H fun xs H1=>xs.length≤sizeLine∧E (.ref C) none H1):XAe C E t D σ H:=h
theorem r_raiseI {C:Addr}{sp:Sp}{E:XK}{t:TA}(h:t σ H fun vs H1=>vs.length≤1000∧∀y,H1 y=none→sp (.ref y::vs) (upd H1 y (ExcN y C none)) (fun v H2=>v = .non∧∃z,V.ref y=V.ref z∧∃od,H2 z=some (ExcN z C od)∧E (.ref C) od (del H2 z)) E0) :
   Xnp C sp E t D σ H:=h
theorem XPl {C:Addr}{f:Str}{E:XK}{v:V}(q:∀dx,H dx=none→E (.ref C) (some dx) (upd H dx (.xd [(f,v)]))) :
   [v].length≤1000∧∀y,H y=none→Xrx C f (.ref y::[v]) (upd H y (ExcN y C none)) (fun v H2=>v = .non∧∃z,V.ref y=V.ref z∧∃od,H2 z=some (ExcN z C od)∧E (.ref C) od (del H2 z)) E0:=by
 refine⟨by show 1≤1000;decide,fun y hy=>⟨y,v,rfl,upd_same,fun dx hd=>⟨rfl,y,rfl,some dx,upd_same,?_⟩⟩⟩
 have ne:dx≠y:=fun z=>by rw[z,upd_same] at hd;cases hd
 have hd':H dx=none:=by rw[Xam ne] at hd;exact hd
 have e:del (upd (upd (upd H y (ExcN y C none)) dx (.xd [(f,v)])) y (ExcN y C (some dx))) y=upd H dx (.xd [(f,v)]):=by
   funext b
   by_cases hb:b=y
   · subst hb
     rw[Xhd,Xam (Ne.symm ne)]
     exact hy.symm
   · rw[Xgq hb,Xam hb]
     by_cases hbd:b=dx
     · subst hbd
       rw[upd_same,upd_same]
     · rw[Xam hbd,Xam hb,Xam hbd]
 rw[e]
 exact q dx hd'
end
end Stow
namespace Stow
open PySem L2 PyProof.Rows
section
variable {X:Cx}{x:Str}{C:Addr}{p pos:Pos}{e:Expr}{es:List Expr}{t:TA}
end
section
variable {K:PySem.W.Frag}{σ:L2.St}{H:Hp}{Q:VK}
end
end Stow
namespace Stow
open PySem L2 PyProof.Rows
end Stow
namespace Stow
open PySem L2 PyProof.Rows
section
variable {X:Cx}
def PTs (X:Cx)(ifs:List Expr)(t:TT):Prop:=∀(pins:List (Addr×Obj)) (s:Shared) (σ:L2.St) (H:Hp) (Q:Bool→Hp→Prop),Inv X pins σ H s→t σ H Q →
 wpAny (model X.prog X.w) X.A (forIn ifs true fun c r=>if r=true then do let ok ←isTrue c X.env (eval c X.env);pure (ForInStep.yield ok) else pure (ForInStep.yield r)) (TP X pins σ Q) X.xe s
theorem Xkh:PTs X [] (fun _ H Q=>Q true H):=fun pins s σ H Q I q=>wpAny_tests_nil ⟨H,I,q⟩
theorem Xtj {c:Expr}{t:TT}(h:PT X c t):PTs X [c] t:=fun pins s σ H Q I q=>wpAny_tests_one (h pins s σ H Q I q)
end
end Stow
namespace Stow
open PySem L2 PyProof.Rows
theorem XMf {X:Cx}(hu:X.A.units+64<cLine):OpR X (compareOp .NotEq) (fun x y H Q=>∃(a b:Addr) (ns ms:List Int),x = .ref a∧y = .ref b∧SqL X.K H a (ns.map V.int)∧SqL X.K H b (ms.map V.int)∧Q (.bl (!decide (ns=ms))) H):=by
 intro pins s σ H x y v u Q I rx ry h
 obtain⟨a,b,ns,ms,rfl,rfl,ha,hb,q⟩:=h
 cases rx
 cases ry
 obtain⟨its,r1,p1,_⟩:=I.list ha
 obtain⟨its2,r2,p2,_⟩:=I.list hb
 exact PySem.W.ke_ne_ints p1.isList p2.isList (Xdr r1) (Xdr r2) hu ⟨.bl _,H,I,rfl,q⟩
section
variable {K:PySem.W.Frag}{σ:L2.St}{H:Hp}{Q:VK}{D:Ends}
theorem r_next (h:D.nx σ H):XEs D σ H:=h
theorem r_seq {t u:TS}(h:t { D with nx:=u D } σ H):tSeq t u D σ H:=h
theorem r_nx {f:L2.St→Hp→Prop}{r:VK}{b c:L2.St→Hp→Prop}(h:f σ H):Ends.nx ⟨f,r,b,c⟩ σ H:=h
theorem r_rt {f:L2.St→Hp→Prop}{r:VK}{b c:L2.St→Hp→Prop}{v:V}(h:r v H):Ends.rt ⟨f,r,b,c⟩ v H:=h
theorem r_drop {te:TE}(h:te σ H fun _ H1=>D.nx σ H1):XNo te D σ H:=h
theorem r_ret {te:TE}(h:te σ H D.rt):tRet te D σ H:=h
theorem r_ifS {c:TT}{t u:TS}(h:c σ H fun b H1=>if b=true then t D σ H1 else u D σ H1):tIfS c t u D σ H:=h
theorem r_asg {te:TE}{g:TG}(h:te σ H fun x H1=>g x σ H1 D.nx):tAsg te g D σ H:=h
theorem r_gname {i:Nat}{v:V}{R:L2.St→Hp→Prop}(h:R (σ.set i (some v)) H):Xmh i v σ H R:=h
theorem r_gsub {to ti:TE}{t:TSet}{v:V}{R:L2.St→Hp→Prop}(h:to σ H fun o H1=>ti σ H1 fun i H2=>t o i v H2 fun H3=>R σ H3):gSub to ti t v σ H R:=h
theorem r_var {i:Nat}{v:V}(e:σ[i]?=some (some v))(h:Q v H):tVar i σ H Q:=⟨v,e,h⟩
theorem r_c {v:V}(h:Q v H):tC v σ H Q:=h
theorem r_op {r:R2}{ta tb:TE}(h:ta σ H fun x H1=>tb σ H1 fun y H2=>r x y H2 Q):tOp r ta tb σ H Q:=h
theorem r_un {r:V→Hp→VK→Prop}{ta:TE}(h:ta σ H fun x H1=>r x H1 Q):tUn r ta σ H Q:=h
theorem r_rI0 {g:Int→Int→V}{i j:Int}(h:Q (g i j) H):rI0 g (.int i) (.int j) H Q:=⟨i,j,rfl,rfl,h⟩
theorem r_rI {C:Int→Int→Prop}{g:Int→Int→V}{i j:Int}(c:C i j)(h:Q (g i j) H):rI C g (.int i) (.int j) H Q:=⟨i,j,rfl,rfl,c,h⟩
theorem r_rU {g:Int→V}{i:Int}(h:Q (g i) H):rU g (.int i) H Q:=⟨i,rfl,h⟩
theorem decV {i j:Int}:decide (V.int i=V.int j)=decide (i=j):=by rw[Xjp];exact Bool.beq_eq_decide_eq i j
theorem r_eqI {i j:Int}(h:Q (.bl (decide (i=j))) H):rEq (.int i) (.int j) H Q:=⟨rfl,by rw[decV];exact h⟩
theorem r_neI {i j:Int}(h:Q (.bl (!decide (i=j))) H):rNe (.int i) (.int j) H Q:=⟨rfl,by rw[decV];exact h⟩
theorem r_isN {P:Prop}(h:P):V.non=V.non∧P:=⟨rfl,h⟩
theorem r_bl {b:Bool}{P:Bool→Prop}(h:P b):∃k,V.bl b=V.bl k∧P k:=⟨b,rfl,h⟩
theorem r_int {i:Int}{P:Int→Prop}(h:P i):∃k,V.int i=V.int k∧P k:=⟨i,rfl,h⟩
theorem r_test {t:TE}{R:Bool→Hp→Prop}(h:t σ H fun x H'=>∃k,x = .bl k∧R k H'):XMs t σ H R:=h
theorem r_tB {t:TE}{R:Bool→Hp→Prop}(h:t σ H fun x H'=>∃k,x = .bl k∧R k H'):tB t σ H R:=h
theorem r_and {t u:TT}{R:Bool→Hp→Prop}(h:t σ H fun c H1=>if c=true then u σ H1 R else R false H1):tAnd t u σ H R:=h
theorem r_or {t u:TT}{R:Bool→Hp→Prop}(h:t σ H fun c H1=>if c=true then R true H1 else u σ H1 R):tOr t u σ H R:=h
theorem r_not {t:TT}{R:Bool→Hp→Prop}(h:t σ H fun c H1=>R (!c) H1):tNot t σ H R:=h
theorem r_andV {ta tb:TE}(h:ta σ H fun x H1=>∃c,x = .bl c∧if c=true then tb σ H1 Q else Q (.bl false) H1):Xxx ta tb σ H Q:=h
theorem r_orV {ta tb:TE}(h:ta σ H fun x H1=>∃c,x = .bl c∧if c=true then Q (.bl true) H1 else tb σ H1 Q):tOrV ta tb σ H Q:=h
theorem r_notV {ta:TE}(h:ta σ H fun x H1=>∃c,x = .bl c∧Q (.bl (!c)) H1):XKf ta σ H Q:=h
theorem r_ifE {t:TT}{ta tb:TE}(h:t σ H fun c H1=>if c=true then ta σ H1 Q else tb σ H1 Q):tIf t ta tb σ H Q:=h
theorem r_cons {ta:TE}{tr:TA}{R:List V→Hp→Prop}(h:ta σ H fun x H1=>tr σ H1 fun xs H2=>R (x::xs) H2):XMp ta tr σ H R:=h
theorem r_nil {R:List V→Hp→Prop}(h:R [] H):tNil σ H R:=h
theorem r_tup {t:TA}(h:t σ H fun xs H1=>xs.length≤sizeLine∧∀p,H1 p=none→Q (.ref p) (upd H1 p (.tup xs))):tTup t σ H Q:=h
theorem r_lst {t:TA}(h:t σ H fun xs H1=>xs.length≤sizeLine∧∀p,H1 p=none→Q (.ref p) (upd H1 p (.lst xs))):tLst t σ H Q:=h
theorem r_call {sp:Sp}{E:XK}{t:TA}(h:t σ H fun vs H1=>sp vs H1 Q E):Xtv sp [] E t σ H Q:=by
 have e:(fun (vs:List V) H1=>sp (vs++[]) H1 Q E)=fun vs H1=>sp vs H1 Q E:=by funext vs H1;rw[List.append_nil]
 show t σ H fun vs H1=>sp (vs++[]) H1 Q E
 rw[e]
 exact h
theorem r_cb {r:List V→Hp→VK→Prop}{t:TA}(h:t σ H fun vs H1=>r vs H1 Q):tCB r t σ H Q:=h
theorem r_sl {r:V→Option Int→Option Int→Hp→VK→Prop}{te:TE}{tl th:TO}(h:te σ H fun x H1=>tl σ H1 fun l H2=>th σ H2 fun u H3=>r x l u H3 Q):tSl r te tl th σ H Q:=h
theorem r_nopart {R:Option Int→Hp→Prop}(h:R none H):Xue σ H R:=h
theorem r_part {t:TE}{R:Option Int→Hp→Prop}(h:t σ H fun x H1=>∃i,x = .int i∧R (some i) H1):XJq t σ H R:=h
theorem r_bm {T:String}{r:V→List V→Hp→VK→Prop}{to:TE}{t:TA}(h:to σ H fun x H1=>tyV K T x H1∧t σ H1 fun xs H2=>r x xs H2 Q):tBM K T r to t σ H Q:=h
theorem r_bm0 {T:String}{r:V→List V→Hp→VK→Prop}{to:TE}(h:to σ H fun x H1=>tyV K T x H1∧r x [] H1 Q):tBM0 K T r to σ H Q:=h
theorem r_tyL {p:Addr}{xs:List V}{P:Prop}(h:H p=some (.lst xs))(q:P):tyV K "list" (.ref p) H∧P:=⟨.inl ⟨rfl,xs,SqL.of h⟩,q⟩
theorem r_append {l:Addr}{xs:List V}{y:V}(h:H l=some (.lst xs))(hz:xs.length<sizeLine)(q:Q .non (upd H l (.lst (xs++[y])))):Xuj (.ref l) [y] H Q:=⟨l,xs,y,rfl,rfl,h,hz,q⟩
theorem Xkw {p:Addr}{xs:List V}{i:Int}{v:V}(h:SqL K H p xs)(e:atI xs i=some v)(q:Q v H):rIxL K (.ref p) (.int i) H Q:=⟨p,xs,i,v,rfl,rfl,h,e,q⟩
theorem r_ixT {p:Addr}{xs:List V}{i:Int}{v:V}(h:H p=some (.tup xs))(e:atI xs i=some v)(q:Q v H):rIxT K (.ref p) (.int i) H Q:=⟨p,xs,i,v,rfl,rfl,SqT.of h,e,q⟩
theorem r_ixI {p:Addr}{ns:List Int}{k:Int}(h:SqL K H p (ns.map V.int))(h0:0≤k)(h1:k<ns.length)(q:Q (.int (ns.getD k.toNat 0)) H):rIxL K (.ref p) (.int k) H Q:=⟨p,_,k,_,rfl,rfl,h,XJg ns k h0 h1,q⟩
theorem Xqy {n:Nat}{k:Int}(h0:0≤k)(h:k<n):ixN n k=some k.toNat:=by
 unfold ixN
 rw[if_pos h0,if_pos h]
theorem r_setI {p:Addr}{ns:List Int}{k x:Int}{R:Hp→Prop}(h:H p=some (.lst (ns.map V.int)))(h0:0≤k)(h1:k<ns.length)(q:R (upd H p (.lst ((ns.set k.toNat x).map V.int)))):XDd (.ref p) (.int k) (.int x) H R:=by
 refine⟨p,_,k,k.toNat,rfl,rfl,h,Xqy h0 (by rw[List.length_map];exact h1),?_⟩
 rw[List.map_set] at q
 exact q
theorem r_sll {a:Addr}{xs:List V}{lo hi:Option Int}(h:SqL K H a xs)(q:∀p,H p=none→Q (.ref p) (upd H p (.lst (cutV xs lo hi)))):rSlL K (.ref a) lo hi H Q:=⟨a,xs,rfl,h,q⟩
theorem r_lenI {p:Addr}{ns:List Int}{P:List V→Prop}(h:SqL K H p (ns.map V.int))(q:P (ns.map V.int)):∃p' ys,[V.ref p]=[V.ref p']∧(SqL K H p' ys∨SqT K H p' ys)∧P ys:=⟨p,_,rfl,.inl h,q⟩
theorem r_lenL {p:Addr}{xs:List V}{P:List V→Prop}(h:H p=some (.lst xs))(q:P xs):∃p' ys,[V.ref p]=[V.ref p']∧(SqL K H p' ys∨SqT K H p' ys)∧P ys:=⟨p,_,rfl,.inl (SqL.of h),q⟩
theorem r_isi {x:V}{n:String}{t:Value}{b:Bool}{P:Bool→Prop}(ty:TyOf K H x t)(e:PySem.W.kitOne K t (.type n)=some b)(q:P b):∃x' n' t' b',[x,V.ty n]=[x',V.ty n']∧TyOf K H x' t'∧PySem.W.kitOne K t' (.type n')=some b'∧P b':=⟨x,n,t,b,rfl,ty,e,q⟩
theorem r_max {i j:Int}{P:Int→Int→Prop}(q:P i j):∃i' j',[V.int i,V.int j]=[V.int i',V.int j']∧P i' j':=⟨i,j,rfl,q⟩
theorem r_new {xs:List V}{P:Prop}(h:xs.length≤1000)(q:P):xs.length≤sizeLine∧P:=⟨Nat.le_of_lt (small1000 h),q⟩
theorem r_truB {b:Bool}{P:Bool→Prop}(q:P b):∃k,TruV K (.bl b) H k∧P k:=⟨b,rfl,q⟩
theorem r_truL {p:Addr}{xs:List V}{P:Bool→Prop}(h:SqL K H p xs)(q:P (!xs.isEmpty)):∃k,TruV K (.ref p) H k∧P k:=⟨_,.inl ⟨xs,h,rfl⟩,q⟩
theorem r_for {wi:TI}{g:TG}{tb:TS}(h:wi σ H fun J H1=>∃W:Nat→Nat→L2.St→Hp→Prop,(∃m,W 0 m σ H1)∧∀i m σ H,W i m σ H →
   (J.stop i H∧D.nx σ H)∨(J.go i H∧∃N:L2.St→Hp→Prop,(∀σ' H',N σ' H'→∃m',m'<m∧W (i+1) m' σ' H')∧∀x H',J.yld i H x H'→g x σ H' fun σ2 H2=>tb { D with nx:=N,ct:=N,bk:=D.nx } σ2 H2)):tFor wi g tb D σ H:=h
theorem r_iL {tl:TE}{R:It→Hp→Prop}(h:tl σ H fun x H1=>∃a,x = .ref a∧(∃xs,SqL K H1 a xs)∧R (Itl K a) H1):XQa K tl σ H R:=h
theorem r_iR1 {ta:TA}{R:It→Hp→Prop}(h:ta σ H fun vs H1=>∃j:Int,vs=[.int j]∧-(2^62)≤j∧j<2^62∧R (Itr 0 j.toNat) H1):XOx ta σ H R:=h
theorem XAz {t u:TS}{M:L2.St→Hp→Prop}(hM:∀σ' H',M σ' H'→u D σ' H')(h:∀nx:L2.St→Hp→Prop,(∀σ' H',M σ' H'→nx σ' H')→t { D with nx:=nx } σ H):tSeq t u D σ H:=h (u D) hM
theorem r_isIf {c:TT}{t u v:TS}(h:tSeq (tIfS c t u) v D σ H):tSeq (tIfS c t u) v D σ H:=h
end
theorem r_ifN {b:Bool}{A B:Prop}(h:if b=true then B else A):if (!b)=true then A else B:=by cases b <;> exact h
theorem Xdl {c A B:Prop}[Decidable c](h1:c→A)(h2:¬c→B):if decide c=true then A else B:=by
 by_cases h:c
 · rw[decide_eq_true h]
   exact iteT (h1 h)
 · rw[decide_eq_false h]
   exact iteF (h2 h)
theorem r_ifdT {c A B:Prop}[Decidable c](h:c)(h1:A):if decide c=true then A else B:=Xdl (fun _=>h1) fun z=>absurd h z
theorem r_ifdF {c A B:Prop}[Decidable c](h:¬c)(h1:B):if decide c=true then A else B:=Xdl (fun z=>absurd z h) fun _=>h1
theorem Xgw {b:Bool}{A B:Prop}(h1:b=true→A)(h2:b=false→B):if b=true then A else B:=by
 cases b with
 | true=>exact iteT (h1 rfl)
 | false=>exact iteF (h2 rfl)
theorem look_put {H:Hp}{p d:Addr}{o v:HO}(hp:H p=none)(h:H d=some v):upd H p o d=some v:=(Xam (Xaq h hp)).trans h
theorem look_ne {H:Hp}{p d:Addr}{o v:HO}(hp:d≠p)(h:H d=some v):upd H p o d=some v:=(Xam hp).trans h
end Stow
namespace Stow
open PySem L2 PyProof.Rows
abbrev TX:=L2.St→Hp→VK→XK→Prop
def PX (X:Cx)(e:Expr)(t:TX):Prop:=∀(pins:List (Addr×Obj)) (s:Shared) (σ:L2.St) (H:Hp) (QV:VK) (EX:XK) (Qp W:Value→Shared→Prop),Inv X pins σ H s→t σ H QV EX→(∀u s',EP X pins σ QV u s'→Qp u s') →
 (∀H1 s1 y s',Inv X pins σ H1 s1→CXe X.prog X.w X.stack H1 s1 EX y s'→W y s')→wpAny (model X.prog X.w) X.A (eval e X.env) Qp W s
def XRz (C:Addr)(m:Str)(sp:Sp)(dvs:List V)(to:TE)(ta:TA):TX:=fun σ H QV EX=>to σ H fun x H1=>∃a dx fs,x = .ref a∧H1 a=some (.ins C dx fs)∧fs.lookup m=none∧ta σ H1 fun vs H2=>sp (x::(vs++dvs)) H2 QV EX
section
variable {X:Cx}{k:Nat}{f C:Addr}{fd:FuncData}{ps:List Str}{sp:Sp}{dvs:List V}{ds:List Value}{fx m:Str}{p pos apos:Pos}{e o:Expr}{es:List Expr}{to:TE}{ta:TA}
theorem XNe {pins:List (Addr×Obj)}{σ:L2.St}{H:Hp}{s:Shared}{us:List Value}{vs:List V}{QV:VK}{EX:XK}{Qp W:Value→Shared→Prop}(F:FnOk X.prog X.w X.K X.mg X.base (CXe X.prog X.w) k f fd ps sp)(hr:Room k X.A)(hb:Xcy X.K fd ps ds)(hd:Vals dvs ds)
   (I:Inv X pins σ H s) (r:Vals vs us) (h:sp (vs++dvs) H QV EX) (hv:∀u s',EP X pins σ QV u s'→Qp u s') (hx:∀y s',CXe X.prog X.w X.stack H s EX y s'→W y s'):wpAny (model X.prog X.w) X.A (call (.ref f) us) Qp W s:=by
 have r2:Vals (vs++dvs) (us++ds):=r.append hd
 have hl:(us++ds).length=ps.length:=by rw[←r2.length];exact F.len _ _ _ _ h
 refine wpAny_call (codeAny_mono (F.run X.A X.stack s H ⟨us,[]⟩ (us++ds) (vs++dvs) QV EX hr I.env0 (hb s us I.kIn hl) r2 h) fun r s' hq=>?_)
 cases r with
 | error y=>exact hx y s' hq
 | ok fl =>
   cases fl with
   | ret u=>exact hv u s' (I.after hq)
   | next=>exact False.elim hq
   | brk=>exact False.elim hq
   | cont=>exact False.elim hq
theorem XTm {pl:Sem Bool}(ho:PE X.nox o to)(c:Cls X.K C)(hm:Meth X.K C m f)(F:FnOk X.prog X.w X.K X.mg X.base (CXe X.prog X.w) k f fd ps sp)(hr:Room k X.A)(hb:Xcy X.K fd ps ds)(hd:Vals dvs ds)(ha:PA X.nox (e::es) ta)
   (hst:starEach (e::es) X.env=(false,eval e X.env)::starEach es X.env:=by rfl) (hpl:(backTo pos (starEach es X.env)).any (·.1)=false:=by rfl)
   (ht:eval (.Call (.Attribute o m apos) (e::es) [] pos) X.env=(do
     let ov ←eval o X.env
     standAt apos.atName
     let (f,first) ←holding [ov] (getMethod ov m pl)
     callWith pos f first (backTo pos (starEach (e::es) X.env)) (backToKw pos (keywordEach [] X.env))):=by rfl) :
   PX X (.Call (.Attribute o m apos) (e::es) [] pos) (XRz C m sp dvs to ta):=by
 intro pins s σ H QV EX Qp W I h hv hx
 refine PySem.W.methodCall_KW (pl:=pl) (wpAny_mono (ho pins s σ H _ (I.wish _) h) (fun u s1 ⟨x,H1,I1',rx,a,dx,fs,ex,ea,l,q⟩=>?_) (fun _ _ z=>z.elim)) ht
 have I1:=I1'.unwish
 subst ex
 obtain rfl:u=Value.ref a:=rx
 refine Xfb I1 ea c hm l ?_
 refine PySem.W.callWith_K (first:=[.ref a]) (h₀:=X.base) I.ok.mod.kin hm.kp (wpAny_mono (ha pos pins s1 σ H1 _ (I1.wish _) q) (fun us s2 ⟨vs,H2,I2',r,q2⟩=>?_) (fun _ _ z=>z.elim)) hst hpl
 have I2:=I2'.unwish
 exact⟨I2.kIn,XNe (us:=.ref a::us) (vs:=.ref a::vs) F hr hb hd I2 (.cons rfl r) q2 hv fun y s' hq=>hx H2 s2 y s' I2 hq⟩
end
def Fits (K:PySem.W.Frag)(C C0:Addr)(b:Bool):Prop:=∃(bm bm0:List Value),ECls K C bm∧ECls K C0 bm0∧(Value.ref C0::bm0).contains (.type "BaseException")=true∧(Value.ref C::bm).contains (.ref C0)=b
theorem Xtm {M:Model}{A:Around}{E:Value→Shared→Prop}{K:PySem.W.Frag}{C C0 x:Addr}{ox:Obj}{s:Shared}{b:Bool}{Q:Bool→Shared→Prop}(F:Fits K C C0 b)(KX:K.In s.heap)(hx:s.heap.get? x=some ox)(hc:ox.cls = .ref C)(k:Q b s) :
   wpAny M A (excMatches (.ref x) (.ref C0)) Q E s:=by
 obtain⟨bm,bm0,⟨nm,qn,N,bs,hd,sn,sub,ab,col,dd,k0,k1,k2,k3,k5,newId,lk⟩,⟨nm',qn',N',bs',hd',sn',sub',ab',col',dd',j0,j1,j2,j3,j5,new',lk0⟩,hb,hm⟩:=F
 have hC:=KX _ _ lk
 have hC0:=KX _ _ lk0
 obtain⟨hh,g,d,t,os⟩:=s
 exact Xrz hC hC0 hx hc hb hm k
abbrev TH:=Addr→Addr→TS
def PH (X:Cx)(hs:List ExceptHandler)(th:TH):Prop:=∀(pins:List (Addr×Obj)) (s:Shared) (σ:L2.St) (H:Hp) (D:Ends) (x C T:Addr) (od:Option Addr),X.Ok→Inv X pins σ H s→Exc s.heap x (.ref C) od T .none →
 (∀h3,Upto (frs X.stack) [T] s.heap h3→Exc h3 x (.ref C) od T .none→Inv X pins σ H { s with heap:=h3 })→th x C D σ H→wpAny (model X.prog X.w) X.A (handleBy (.ref x) X.env hs) (SP X pins D) X.xe s
section
variable {X:Cx}{C0:Addr}{cx:Str}{np hpos pos epos:Pos}{b0:Stmt}{suite:List Stmt}{ts:Addr→TS}{hs:List ExceptHandler}{th:TH}{e:Expr}{t:TX}
theorem XLx:PH X [] (fun _ _ _ _ _=>False):=fun _ _ _ _ _ _ _ _ _ _ _ _ _ h=>h.elim
theorem XFk (hgc:Gl X cx)(hc0:X.mg cx=some (.ref C0))(hss:∀x,PSs (Cx.suite X x) (b0::suite) (ts x))(hr:PH X hs th)(hdc:(cx==("__debug__":Str))=false:=by decide) :
   PH X (.ExceptHandler (some (.Name cx np)) none (b0::suite) hpos::hs) (fun x C D σ H=>(Fits X.K C C0 true∧ts x D σ H)∨(Fits X.K C C0 false∧th x C D σ H)):=by
 intro pins s σ H D x C T od ok J t2 again h
 obtain⟨oe,vs,oT,tts,ne,ee,hcl,_⟩:=id t2
 rcases h with ⟨fit,q⟩ | ⟨fit,q⟩
 · refine wpAny_handleBy_cons (codeAny_handlers_test (Xeq (X:=Cx.suite X x) (Xir J x) hgc hc0 (Xtm fit J.kIn ee hcl ?_) hdc)) (by intro z;cases z)
   refine codeAny_handlers_suite ?_
   refine Xhb (fr:=frs X.stack) t2 fun h3 u3 t3=>?_
   exact wpAny_mono (hss x pins _ σ _ D (Xir (again h3 u3 t3) x) q) (fun fl s4 q4=>Xpl ok q4) (fun _ _ z=>z.elim)
 · refine wpAny_handleBy_cons (codeAny_handlers_test (Xeq (X:=Cx.suite X x) (Xir J x) hgc hc0 (Xtm fit J.kIn ee hcl ?_) hdc)) (by intro z;cases z)
   exact hr pins s σ H D x C T od ok J t2 again q
theorem Upto.refl (fr ex:List Addr)(h:Heap):Upto fr ex h h:=⟨fun _ _ _ _ q=>q,fun b o _ q=>⟨o.slots,q⟩⟩
end
section
variable {K:PySem.W.Frag}{σ:L2.St}{H:Hp}{D:Ends}
end
end Stow
namespace Stow
open PySem L2 PyProof.Rows
structure FunD (K:PySem.W.Frag)(x qual:Str)(st:Stmt)(dV:Value)(f:Addr)(fd:FuncData):Prop where
 ex:∃(oc:Value) (od:Option Addr) (kV doc pm:Value) (an:Option Addr) (cdv ct:Value) (osl:Array (Option Value)),
   fd=PySem.W.fnOf x qual (Xbr st) (Xbe st) (Xae st) dV kV doc pm an cdv ct∧K.lookup f=some ⟨oc,od,.func fd,osl⟩∧PySem.W.codeIn K cdv qual=true
 kp:PySem.W.keepIn K (.ref f)=true
theorem Xsi {K:PySem.W.Frag}{x qual:Str}{st:Stmt}{f:Addr}{oc:Value}{od an:Option Addr}{osl:Array (Option Value)}{dV kV doc pm cdv ct:Value}(l:K.lookup f=some ⟨oc,od,.func (PySem.W.fnOf x qual (Xbr st) (Xbe st) (Xae st) dV kV doc pm an cdv ct),osl⟩)
   (c:PySem.W.codeIn K cdv qual=true) (k:PySem.W.keepIn K (.ref f)=true):FunD K x qual st dV f (PySem.W.fnOf x qual (Xbr st) (Xbe st) (Xae st) dV kV doc pm an cdv ct):=⟨⟨oc,od,kV,doc,pm,an,cdv,ct,osl,rfl,l,c⟩,k⟩
section
variable {P:Program}{w:World}{K:PySem.W.Frag}{mg:Str→Option Value}{base:Heap}
theorem Xoo {x qual:Str}{st:Stmt}{dV:Value}{f:Addr}{fd:FuncData}{N ps:List Str}{k:Nat}{sp:Sp}(F:FunD K x qual st dV f fd)(S:FnScope N ps (Xae st))(len:∀vs H Q E,sp vs H Q E→vs.length=ps.length)
   (hbody:∀(cdv:Value) (A:Around) (outer:List Env) (s:Shared) (H:Hp) (vs:List V) (Q:VK) (E:XK),Room k (A.deeper (envOfC qual (Xae st) s.heap.objs.size f cdv))→sp vs H Q E →
     ∃t,PSs (cxOf (CXe P w) P w K mg base N qual (Xae st) f cdv A outer s H E) (Xbe st) t∧t { nx:=fun _ H'=>Q .non H',rt:=Q } (start N vs) H):FnOk P w K mg base (CXe P w) (k+1) f fd ps sp:=by
 obtain⟨oc,od,kV,doc,pm,an,cdv,ct,osl,rfl,lk,hcd⟩:=F.ex
 exact XHz lk hcd S len fun A outer s H vs Q E hr hsp=>hbody cdv A outer s H vs Q E hr hsp
theorem FunD.binds {x qual:Str}{st:Stmt}{dV:Value}{f:Addr}{fd:FuncData}{ps:List Str}(F:FunD K x qual st dV f fd)
   (h:∀(kV doc pm:Value) (an:Option Addr) (cdv ct:Value) (us:List Value),us.length=ps.length→bindArgs (PySem.W.fnOf x qual (Xbr st) (Xbe st) (Xae st) dV kV doc pm an cdv ct) ⟨us,[]⟩=pure (ps.zip us)):Xcy K fd ps []:=by
 obtain⟨oc,od,kV,doc,pm,an,cdv,ct,osl,rfl,lk,hcd⟩:=F.ex
 exact .all (h kV doc pm an cdv ct)
theorem FunD.bindsD {x qual:Str}{st:Stmt}{T:Addr}{f:Addr}{fd:FuncData}{ps:List Str}{ds:List Value}{tc:Value}{td:Option Addr}{tn:Nat}{tsl:Array (Option Value)}(F:FunD K x qual st (.ref T) f fd)
   (lt:K.lookup T=some ⟨tc,td,.seq ds.toArray tn,tsl⟩)
   (h:∀(kV doc pm:Value) (an:Option Addr) (cdv ct:Value) (us:List Value),(us++ds).length=ps.length→∃k:Option (Array Value)→Sem (List (Str×Value)),
     bindArgs (PySem.W.fnOf x qual (Xbr st) (Xbe st) (Xae st) (.ref T) kV doc pm an cdv ct) ⟨us,[]⟩=seqItems? (.ref T) >>= k∧k (some ds.toArray)=pure (ps.zip (us++ds))):Xcy K fd ps ds:=by
 obtain⟨oc,od,kV,doc,pm,an,cdv,ct,osl,rfl,lk,hcd⟩:=F.ex
 intro s us X hl
 obtain⟨k,h1,h2⟩:=h kV doc pm an cdv ct us hl
 exact .of_defaults rfl (X _ _ lt) rfl h1 h2
end
structure Methx (P:Program)(w:World)(K:PySem.W.Frag)(mg:Str→Option Value)(base:Heap)(C:Addr)(m:Str)(j:Nat)(ps:List Str)(dvs:List V)(sp:Sp):Prop where
 ex:∃(f:Addr) (fd:FuncData) (ds:List Value),FnOk P w K mg base (CXe P w) j f fd ps sp∧Meth K C m f∧Xcy K fd ps ds∧Vals dvs ds
 cl:Cls K C
structure Makex (P:Program)(w:World)(K:PySem.W.Frag)(mg:Str→Option Value)(base:Heap)(x:Str)(C:Addr)(j:Nat)(ps:List Str)(dvs:List V)(sp:Sp):Prop where
 ex:∃(f:Addr) (fd:FuncData) (ds:List Value),FnOk P w K mg base (CXe P w) j f fd ps sp∧Mk K C f∧Xcy K fd ps ds∧Vals dvs ds
 bound:mg x=some (.ref C)
structure ClsM (K:PySem.W.Frag)(C:Addr)(m:Str)(f:Addr):Prop where
 sp:PySem.W.specialIn K (.ref C) "__getattribute__"=some (some (.builtin "type.__getattribute__"))
 rd:PySem.W.readsIn K C (.type "type")=true
 fc:PySem.W.findCls K (.ref C) (.type "type") m=some (.val (.ref f))
 kp:PySem.W.keepIn K (.ref f)=true
structure Basex (P:Program)(w:World)(K:PySem.W.Frag)(mg:Str→Option Value)(base:Heap)(x:Str)(m:Str)(j:Nat)(ps:List Str)(sp:Sp):Prop where
 ex:∃(C f:Addr) (fd:FuncData),FnOk P w K mg base (CXe P w) j f fd ps sp∧ClsM K C m f∧Xcy K fd ps []∧mg x=some (.ref C)
section
variable {X:Cx}{j k:Nat}{C:Addr}{ps:List Str}{sp:Sp}{dvs:List V}{x m:Str}{p pos apos:Pos}{e o:Expr}{es:List Expr}{to:TE}{t:TA}{EX:XK}
theorem Xhf (D:Makex X.prog X.w X.K X.mg X.base x C j ps dvs sp)(hp:Xff (CXe X.prog X.w) X EX)(hr:Room k X.A)(hg:Gl X x)(ha:PA X (e::es) t)(hk:j+1≤k:=by decide)
   (hdb:(x==("__debug__":Str))=false:=by decide) (he:starEach (e::es) X.env=(false,eval e X.env)::starEach es X.env:=by rfl) (hpl:(backTo pos (starEach es X.env)).any (·.1)=false:=by rfl):PE X (.Call (.Name x p) (e::es) [] pos) (Xwj C sp dvs EX t):=by
 obtain⟨f,fd,ds,F,M,hb,hd⟩:=D.ex
 exact XHg M F (hr.mono hk) hg D.bound hb hd hp ha hdb he hpl
theorem Xwz {pl:Sem Bool}{p':Pos}(D:Basex X.prog X.w X.K X.mg X.base x m j ps sp)(hp:Xff (CXe X.prog X.w) X EX)(hr:Room k X.A)(hg:Gl X x)(ha:PA X (e::es) t)(hk:j≤k:=by decide)(hdb:(x==("__debug__":Str))=false:=by decide)
   (hst:starEach (e::es) X.env=(false,eval e X.env)::starEach es X.env:=by rfl) (hpl:(backTo pos (starEach es X.env)).any (·.1)=false:=by rfl)
   (ht:eval (.Call (.Attribute (.Name x p') m apos) (e::es) [] pos) X.env=(do
     let ov ←eval (.Name x p') X.env
     standAt apos.atName
     let (f,first) ←holding [ov] (getMethod ov m pl)
     callWith pos f first (backTo pos (starEach (e::es) X.env)) (backToKw pos (keywordEach [] X.env))):=by rfl):PE X (.Call (.Attribute (.Name x p') m apos) (e::es) [] pos) (Xtv sp [] EX t):=by
 obtain⟨C,f,fd,F,M,hb,hm⟩:=D.ex
 intro pins s σ H Q I h
 refine PySem.W.methodCall_KW (pl:=pl) (Xeq I hg hm ?_ hdb) ht
 refine PySem.W.method_cls I.kIn M.sp (PySem.W.cls_value I.kIn M.rd M.fc rfl ?_)
 have I':=I.tok (s.toks+1)
 refine PySem.W.callWith_K (h₀:=X.base) I.ok.mod.kin M.kp (thn (ha pos pins _ σ H _ I' h) fun us s1 ⟨vs,H1,I1,r,q⟩=>⟨I1.kIn,?_⟩) hst hpl
 exact Xoc F (hr.mono hk) hb .nil hp I1 r q
end
section
variable {K:PySem.W.Frag}{σ:L2.St}{H:Hp}{Q:VK}{D:Ends}
theorem r_fld {f:Str}{ta:TE}(h:ta σ H fun x H1=>∃a C dx fs v,x = .ref a∧H1 a=some (.ins C dx fs)∧Cls K C∧Xcp K C f∧fs.lookup f=some v∧Q v H1):tFld K ta f σ H Q:=h
theorem r_at {a C dx:Addr}{fs:List (Str×V)}{f:Str}{v:V}{P:V→Prop}(h:H a=some (.ins C dx fs))(c:Cls K C)(n:Xcp K C f)(l:fs.lookup f=some v)(q:P v) :
   ∃a' C' dx' fs' v',V.ref a=V.ref a'∧H a'=some (.ins C' dx' fs')∧Cls K C'∧Xcp K C' f∧fs'.lookup f=some v'∧P v':=⟨a,C,dx,fs,v,rfl,h,c,n,l,q⟩
theorem r_sfld {f:Str}{ta tv:TE}(h:tv σ H fun y H1=>ta σ H1 fun x H2=>∃a C dx fs,x = .ref a∧H2 a=some (.ins C dx fs)∧Cls K C∧Xcp K C f∧fs.length<1000∧D.nx σ (upd H2 a (.ins C dx (putF f y fs)))):sFld K ta tv f D σ H:=h
end
end Stow
namespace Stow
open PySem L2 PyProof.Rows
section
variable {X:Cx}
end
section
variable {a x:Option V}{v:V}{l r:L2.St}{k:Nat}{n:Str}{ns:List Str}{vs:List V}
theorem set0_c:(a::l).set 0 x=x::l:=rfl
theorem XHx:L2.start (n::ns) (v::vs)=some v::L2.start ns vs:=by
 unfold L2.start
 rw[List.length_cons,List.length_cons,Nat.add_sub_add_right]
 rfl
theorem set0_0:(L2.start (n::ns) []).set 0 x=x::L2.start ns []:=rfl
theorem setS_c (h:l.set k x=r):(a::l).set (k+1) x=a::r:=h▸rfl
theorem setS_1 (h:(L2.start ns vs).set k x=r):(L2.start (n::ns) (v::vs)).set (k+1) x=some v::r:=by
 rw[XHx,←h]
 rfl
theorem setS_0 (h:(L2.start ns []).set k x=r):(L2.start (n::ns) []).set (k+1) x=none::r:=h▸rfl
theorem r_gnameN {σ σ':L2.St}{H:Hp}{i:Nat}{R:L2.St→Hp→Prop}(e:σ.set i (some v)=σ')(h:R σ' H):Xmh i v σ H R:=by
 subst e
 exact h
end
def cutI (ns:List Int)(l u:Option Int):List Int:=(ns.drop (HT.sIx ns.length 0 l)).take (HT.sIx ns.length ns.length u-HT.sIx ns.length 0 l)
theorem XGo (ns:List Int)(l u:Option Int):cutV (ns.map V.int) l u=(cutI ns l u).map V.int:=by
 unfold cutV cutI
 rw[List.map_take,List.map_drop,List.length_map]
theorem Xjq (ns:List Int)(l u:Option Int):(cutI ns l u).length≤ns.length:=by
 unfold cutI
 rw[List.length_take,List.length_drop]
 omega
section
variable {K:PySem.W.Frag}{σ:L2.St}{H:Hp}{D:Ends}{Q:VK}
theorem r_sllG {a:Addr}{ns:List Int}{lo hi:Option Int}(h:SqL K H a (ns.map V.int))(q:∀p H',H p=none→Same H H'→H' p=some (.lst ((cutI ns lo hi).map V.int))→Q (.ref p) H'):rSlL K (.ref a) lo hi H Q :=
 ⟨a,_,rfl,h,fun p hp=>by rw[XGo];exact q p _ hp (Same.new hp) upd_same⟩
theorem r_catG {l b:Addr}{xs zs:List Int}(h:H l=some (.lst (xs.map V.int)))(h2:H b=some (.lst (zs.map V.int)))(hz:xs.length+zs.length≤4000)(q:∀p H',H p=none→Same H H'→H' p=some (.lst ((xs++zs).map V.int))→Q (.ref p) H'):rCat (.ref l) (.ref b) H Q :=
 ⟨l,b,_,_,rfl,rfl,h,h2,by rw[List.length_map,List.length_map];exact Nat.le_of_lt (small4000 hz),fun p hp=>by rw[←List.map_append];exact q p _ hp (Same.new hp) upd_same⟩
theorem Xvm (ns:List Int)(l u:Nat):(cutI ns (some l) (some u)).length≤u-l:=by
 unfold cutI
 rw[List.length_take]
 have e1:=HT.sIx_nat ns.length ns.length u
 have e2:=HT.sIx_nat ns.length 0 l
 rw[e1,e2,List.length_drop]
 omega
theorem r_isSeq {t u:TS}(h:tSeq t u D σ H):tSeq t u D σ H:=h
theorem r_isAnd {ta tb:TE}(h:Xxx ta tb σ H Q):Xxx ta tb σ H Q:=h
theorem r_isOr {ta tb:TE}(h:tOrV ta tb σ H Q):tOrV ta tb σ H Q:=h
end
end Stow
namespace Stow
open PySem L2 PyProof.Rows
section
variable {K:PySem.W.Frag}{σ:L2.St}{H:Hp}{Q:VK}
theorem r_gtup {a:Addr}{xs:List V}{n:Nat}{t:TGs}{R:L2.St→Hp→Prop}(h:H a=some (.tup xs))(hl:xs.length=n)(q:t xs σ H R):gTup K n t (.ref a) σ H R:=⟨a,xs,rfl,SqT.of h,hl,q⟩
theorem r_gcons {v:V}{r:List V}{t:TG}{u:TGs}{R:L2.St→Hp→Prop}(h:t v σ H fun σ' H'=>u r σ' H' R):XPk t u (v::r) σ H R:=⟨v,r,rfl,h⟩
theorem r_gnil {R:L2.St→Hp→Prop}(h:R σ H):gNil [] σ H R:=⟨rfl,h⟩
theorem Xga {p:Addr}{xs:List V}{v:V}(h:SqL K H p (xs++[v]))(q:Q v H):rIxL K (.ref p) (.int (-1)) H Q:=Xkw h (Xzm xs v) q
theorem Xsc {p:Addr}{xs:List V}{v w:V}{R:Hp→Prop}(h:H p=some (.lst (xs++[v])))(q:R (upd H p (.lst (xs++[w])))):XDd (.ref p) (.int (-1)) w H R:=by
 refine⟨p,_,-1,xs.length,rfl,rfl,h,?_,?_⟩
 · unfold ixN
   rw[if_neg (by decide),List.length_append,List.length_singleton,if_pos (by omega)]
   congr 1
   omega
 · rw[List.set_append_right _ _ (Nat.le_refl _),Nat.sub_self]
   exact q
end
end Stow
namespace Stow
def fpl (a b:Int):Int:=a+(b-1-a%b)
def fp (a n L b:Int):Option Int:=if fpl a b+L≤a+n then some (fpl a b) else none
theorem XDr {a b:Int}(hb:1≤b):(fpl a b+1)%b=0:=by
 unfold fpl
 have e:=Int.emod_add_mul_ediv a b
 have:a+(b-1-a%b)+1=b*(a/b+1):=by rw[Int.mul_add,Int.mul_one];omega
 rw[this]
 exact Int.mul_emod_right _ _
end Stow
namespace Stow
open PySem L2 PyProof.Rows
def Xbh (H:Hp)(us:List V)(ps:List Pc):Prop:=us.length=ps.length∧∀(i:Nat) (p:Pc),ps[i]?=some p→∃a,us[i]?=some (.ref a)∧H a=some (.tup [.int p.a,.int p.l,.bl p.v])
theorem Xbh.nil {H:Hp}:Xbh H [] []:=⟨rfl,fun i p h=>by simp at h⟩
theorem Xbh.mono {H H':Hp}{us:List V}{ps:List Pc}(h:Xbh H us ps)(k:∀b xs,H b=some (.tup xs)→H' b=some (.tup xs)):Xbh H' us ps :=
 ⟨h.1,fun i p e=>let ⟨a,h1,h2⟩:=h.2 i p e;⟨a,h1,k _ _ h2⟩⟩
theorem Xbh.same {H H':Hp}{us:List V}{ps:List Pc}(h:Xbh H us ps)(k:Same H H'):Xbh H' us ps:=h.mono fun b xs e=>k b _ e
theorem Xbh.snoc {H:Hp}{us:List V}{ps:List Pc}{p:Pc}{a:Addr}(h:Xbh H us ps)(ha:H a=some (.tup [.int p.a,.int p.l,.bl p.v])):Xbh H (us++[.ref a]) (ps++[p]):=by
 refine⟨by simp [h.1],fun i q e=>?_⟩
 have hl:=h.1
 by_cases hi:i<ps.length
 · rw[List.getElem?_append_left hi] at e
   obtain⟨b,h1,h2⟩:=h.2 i q e
   exact⟨b,by rw[List.getElem?_append_left (by omega)];exact h1,h2⟩
 · have hlt:i<(ps++[p]).length:=(List.getElem?_eq_some_iff.mp e).1
   have hi2:i=ps.length:=by simp at hlt;omega
   subst hi2
   rw[List.getElem?_append_right (Nat.le_refl _)] at e
   have e':p=q:=by simpa using e
   subst e'
   exact⟨a,by rw[←hl,List.getElem?_append_right (Nat.le_refl _)];simp,ha⟩
theorem Xgz {H:Hp}{p:Addr}{o:HO}(hp:H p=none∨∃xs,H p=some (.lst xs)):∀b xs,H b=some (.tup xs)→upd H p o b=some (.tup xs):=fun b xs e=>by
 have hne:b≠p:=fun z=>by
   subst z
   rcases hp with h | ⟨ys,h⟩
   · rw[h] at e;cases e
   · rw[h] at e;cases e
 rw[Xam hne]
 exact e
theorem Xbh.push {H:Hp}{us:List V}{ps:List Pc}{p t:Addr}{z:Pc}(h:Xbh H us ps)(hp:H p=some (.lst us))(ht:H t=none) :
   upd (upd H t (.tup [.int z.a,.int z.l,.bl z.v])) p (.lst (us++[.ref t])) p=some (.lst (us++[.ref t])) ∧
   Xbh (upd (upd H t (.tup [.int z.a,.int z.l,.bl z.v])) p (.lst (us++[.ref t]))) (us++[.ref t]) (ps++[z]):=by
 have hpt:p≠t:=Xaq hp ht
 have hp2:upd H t (.tup [.int z.a,.int z.l,.bl z.v]) p=some (.lst us):=by rw[Xam hpt];exact hp
 refine⟨upd_same,?_⟩
 refine Xbh.snoc ?_ ?_
 · exact(h.mono (Xgz (.inl ht))).mono (Xgz (.inr ⟨_,hp2⟩))
 · exact Xgz (.inr ⟨_,hp2⟩) _ _ upd_same
theorem Xbh.at {H:Hp}{us:List V}{ps:List Pc}(h:Xbh H us ps){k:Int}(h0:0≤k)(h1:k<us.length):∃t z,atI us k=some (.ref t)∧ps[k.toNat]?=some z∧H t=some (.tup [.int z.a,.int z.l,.bl z.v]):=by
 have hl:=h.1
 have hk:k.toNat<ps.length:=by omega
 obtain⟨t,e1,e2⟩:=h.2 k.toNat ps[k.toNat] (by simp [hk])
 refine⟨t,_,?_,by simp [hk],e2⟩
 have:=Xmi e1
 rwa [Int.toNat_of_nonneg h0] at this
def Xcc (H:Hp)(us:List V)(xs:List (List V)):Prop:=us.length=xs.length∧∀(i:Nat) (x:List V),xs[i]?=some x→∃a,us[i]?=some (.ref a)∧H a=some (.tup x)
theorem Xcc.nil {H:Hp}:Xcc H [] []:=⟨rfl,fun i p h=>by simp at h⟩
theorem Xcc.mono {H H':Hp}{us:List V}{xs:List (List V)}(h:Xcc H us xs)(k:∀b ys,H b=some (.tup ys)→H' b=some (.tup ys)):Xcc H' us xs :=
 ⟨h.1,fun i p e=>let ⟨a,h1,h2⟩:=h.2 i p e;⟨a,h1,k _ _ h2⟩⟩
theorem Xcc.same {H H':Hp}{us:List V}{xs:List (List V)}(h:Xcc H us xs)(k:Same H H'):Xcc H' us xs:=h.mono fun b ys e=>k b _ e
theorem Xcc.push {H:Hp}{us:List V}{xs:List (List V)}{p t:Addr}{z:List V}(h:Xcc H us xs)(hp:H p=some (.lst us))(ht:H t=none) :
   Xcc (upd (upd H t (.tup z)) p (.lst (us++[.ref t]))) (us++[.ref t]) (xs++[z]):=by
 have hpt:p≠t:=Xaq hp ht
 have hp2:upd H t (.tup z) p=some (.lst us):=by rw[Xam hpt];exact hp
 have h2:=(h.mono (Xgz (o:=.tup z) (.inl ht))).mono (Xgz (o:=.lst (us++[.ref t])) (.inr ⟨_,hp2⟩))
 have hz:upd (upd H t (.tup z)) p (.lst (us++[.ref t])) t=some (.tup z):=Xgz (.inr ⟨_,hp2⟩) _ _ upd_same
 refine⟨by simp [h.1],fun i q e=>?_⟩
 have hl:=h.1
 by_cases hi:i<xs.length
 · rw[List.getElem?_append_left hi] at e
   obtain⟨b,h1,h3⟩:=h2.2 i q e
   exact⟨b,by rw[List.getElem?_append_left (by omega)];exact h1,h3⟩
 · have hlt:i<(xs++[z]).length:=(List.getElem?_eq_some_iff.mp e).1
   have hi2:i=xs.length:=by simp at hlt;omega
   subst hi2
   rw[List.getElem?_append_right (Nat.le_refl _)] at e
   have e':z=q:=by simpa using e
   subst e'
   exact⟨t,by rw[←hl,List.getElem?_append_right (Nat.le_refl _)];simp,hz⟩
theorem Xcc.at {H:Hp}{us:List V}{xs:List (List V)}(h:Xcc H us xs){i:Nat}(h1:i<us.length):∃t z,atI us (0+(i:Int))=some (.ref t)∧xs[i]?=some z∧H t=some (.tup z):=by
 have hl:=h.1
 have hk:i<xs.length:=by omega
 obtain⟨t,e1,e2⟩:=h.2 i xs[i] (by simp [hk])
 exact⟨t,_,by rw[Int.zero_add];exact Xmi e1,by simp [hk],e2⟩
@[reducible] def optV:Option Int→V
 | none=>.non
 | some b=>.int b
def Xfp:Sp:=fun vs H Q _=>∃n:Int,vs=[.int n]∧Q (.int (n/2)) H
def Xjn:Sp:=fun vs H Q _=>∃n:Int,vs=[.int n]∧Q (.bl (decide (n%2=1))) H
def XEq (K:PySem.W.Frag):Sp:=fun vs H Q _=>∃(a:Addr) (ns:List Int) (k:Int),vs=[.ref a,.int k]∧SqL K H a (ns.map V.int)∧0≤k∧k<ns.length∧Q (.bl (Xbv ns k)) H
def XGk (K:PySem.W.Frag):Sp:=fun vs H Q _=>∃(a:Addr) (ns:List Int) (k:Int),vs=[.ref a,.int k]∧SqL K H a (ns.map V.int)∧0≤k∧k<ns.length∧Q (optV (Xdm ns k)) H
def Xed (K:PySem.W.Frag)(C:Addr):Sp:=fun vs H Q E=>∃(a:Addr) (ns:List Int),vs=[.ref a]∧SqL K H a (ns.map V.int)∧ns.length≤4000 ∧
 (∀b,(Xdc ns 0).2=some b→∀(dx:Addr) (H':Hp),Same H H'→H' dx=some (.xd [("cell",.int b)])→E (.ref C) (some dx) H') ∧
 ((Xdc ns 0).2=none→∀(p:Addr) (us:List V) (H':Hp),H p=none→Same H H'→H' p=some (.lst us)→Xbh H' us (Xdc ns 0).1→Q (.ref p) H')
def Xtl (K:PySem.W.Frag):Sp:=fun vs H Q _=>∃(a:Addr) (ns:List Int) (k:Int),vs=[.ref a,.int k]∧SqL K H a (ns.map V.int)∧0≤k∧Q (.int (ns.getD k.toNat 0)) H
def Xkl:Sp:=fun vs H Q _=>∃n:Int,vs=[.int n]∧Q (.bl true) H
def Xxl (K:PySem.W.Frag):Sp:=fun vs H Q _=>∃(a:Addr) (ns:List Int),vs=[.ref a]∧SqL K H a (ns.map V.int)∧ns.length≤63∧∀H',Q (.bl true) H'
section
variable {K:PySem.W.Frag}{H:Hp}{Q:VK}{E:XK}
theorem i_long {n:Int}(q:Q (.int (n/2)) H):Xfp [.int n] H Q E:=⟨n,rfl,q⟩
theorem i_live {n:Int}(q:Q (.bl (decide (n%2=1))) H):Xjn [.int n] H Q E:=⟨n,rfl,q⟩
theorem i_can {a:Addr}{ns:List Int}{k:Int}(h:SqL K H a (ns.map V.int))(h0:0≤k)(h1:k<ns.length)(q:Q (.bl (Xbv ns k)) H):XEq K [.ref a,.int k] H Q E:=⟨a,ns,k,rfl,h,h0,h1,q⟩
theorem i_bad {a:Addr}{ns:List Int}{k:Int}(h:SqL K H a (ns.map V.int))(h0:0≤k)(h1:k<ns.length)(q:Q (optV (Xdm ns k)) H):XGk K [.ref a,.int k] H Q E:=⟨a,ns,k,rfl,h,h0,h1,q⟩
theorem i_cell {a:Addr}{ns:List Int}{k:Int}(h:SqL K H a (ns.map V.int))(h0:0≤k)(q:Q (.int (ns.getD k.toNat 0)) H):Xtl K [.ref a,.int k] H Q E:=⟨a,ns,k,rfl,h,h0,q⟩
theorem i_whole {n:Int}(q:Q (.bl true) H):Xkl [.int n] H Q E:=⟨n,rfl,q⟩
theorem Xvd (n:Int):decide (Builtin.bitAnd n 1=1)=decide (n%2=1):=by rw[←XCs,decV]
end
end Stow
namespace Stow
def Xch (cs:List Int)(k l:Int)(v:Bool):List Int:=(cs.set k.toNat (l*2+if v then 1 else 0)).set (k+l-1).toNat (l*2+if v then 1 else 0)
theorem Xbp (cs:List Int)(k l:Int)(v:Bool):(Xch cs k l v).length=cs.length:=by
 unfold Xch
 rw[List.length_set,List.length_set]
theorem Xdg {cs:List Int}{k l:Int}{v:Bool}{j:Nat}(h0:0≤k)(h1:1≤l)(h:(j:Int)<k∨k+l≤j):(Xch cs k l v)[j]?=cs[j]?:=by
 unfold Xch
 rw[List.getElem?_set_ne (by omega),List.getElem?_set_ne (by omega)]
theorem Xio {cs:List Int}{k l:Int}{v:Bool}(h0:0≤k)(h1:1≤l)(h:k+l≤cs.length):(Xch cs k l v)[k.toNat]?=some (mkOf l v):=by
 unfold Xch mkOf
 by_cases e:(k+l-1).toNat=k.toNat
 · rw[e,List.getElem?_set_self (by rw[List.length_set];omega)]
 · rw[List.getElem?_set_ne e,List.getElem?_set_self (by omega)]
theorem Xjd {cs:List Int}{k l:Int}{v:Bool}(h0:0≤k)(h1:1≤l)(h:k+l≤cs.length):(Xch cs k l v)[(k+l-1).toNat]?=some (mkOf l v):=by
 unfold Xch mkOf
 rw[List.getElem?_set_self (by rw[List.length_set];omega)]
def Xfs (ds:List Pc)(k:Int):Prop:=∀p∈ds,0≤p.a∧1≤p.l∧p.a+p.l≤k
def Xma (rs:List Pc)(e:Int):Prop:=∀p∈rs,e≤p.a∧1≤p.l
theorem Xai.endBy {ds:List Pc}{s e:Int}(h:Xai s ds e)(h0:0≤s):Xfs ds e:=fun p hp=>by
 obtain⟨h1,h2,_,h3⟩:=h.mem p hp
 omega
theorem Xai.fromOn {ds:List Pc}{s e:Int}(h:Xai s ds e):Xma ds s:=fun p hp=>by
 obtain⟨h1,h2,_,_⟩:=h.mem p hp
 omega
theorem Xfs.mono {ds:List Pc}{k k':Int}(h:Xfs ds k)(e:k≤k'):Xfs ds k':=fun p hp=>by have:=h p hp;omega
theorem Xfs.app {ds es:List Pc}{k:Int}(h:Xfs ds k)(g:Xfs es k):Xfs (ds++es) k:=fun p hp=>(List.mem_append.mp hp).elim (h p) (g p)
theorem Xbc.sub {cs:List Int}{ps qs:List Pc}(m:Xbc cs ps)(h:∀p∈qs,p∈ps):Xbc cs qs:=fun p hp=>m p (h p hp)
theorem Xbc.lay {cs:List Int}{ds rs:List Pc}{k l:Int}{v:Bool}(h0:0≤k)(h1:1≤l)(hl:k+l≤cs.length)(hd:Xfs ds k)(hr:Xma rs (k+l))(m:Xbc cs (ds++rs)) :
   Xbc (Xch cs k l v) (ds++⟨k,l,v⟩::rs):=by
 intro p hp
 rcases List.mem_append.mp hp with h | h
 · obtain⟨a0,a1,a2⟩:=hd p h
   obtain⟨m1,m2⟩:=m p (List.mem_append_left _ h)
   exact⟨by rw[Xdg h0 h1 (by omega)];exact m1,by rw[Xdg h0 h1 (by omega)];exact m2⟩
 · rcases List.mem_cons.mp h with h | h
   · subst h
     exact⟨Xio h0 h1 hl,Xjd h0 h1 hl⟩
   · obtain⟨a0,a1⟩:=hr p h
     obtain⟨m1,m2⟩:=m p (List.mem_append_right _ h)
     exact⟨by rw[Xdg h0 h1 (by omega)];exact m1,by rw[Xdg h0 h1 (by omega)];exact m2⟩
def lfI (cs:List Int)(b e:Int):List Int:=if b=e then cs else Xch cs b (e-b) false
def fr (b e:Int):List Pc:=if b=e then [] else [⟨b,e-b,false⟩]
theorem Xcn (cs:List Int)(b e:Int):(lfI cs b e).length=cs.length:=by
 unfold lfI
 split
 · rfl
 · exact Xbp _ _ _ _
theorem Xkg {cs:List Int}{b e:Int}{j:Nat}(h0:0≤b)(h1:b≤e)(h:(j:Int)<b∨e≤j):(lfI cs b e)[j]?=cs[j]?:=by
 unfold lfI
 split
 · rfl
 · exact Xdg h0 (by omega) (by omega)
theorem Xhc {b e:Int}(h:b≤e):Xai b (fr b e) e:=by
 unfold fr
 split
 · assumption
 · exact⟨rfl,(by show 1≤e-b;omega),(fun z=>by cases z),(by show b+(e-b)=e;omega)⟩
theorem Xbc.layF {cs:List Int}{ds rs:List Pc}{b e:Int}(h0:0≤b)(h1:b≤e)(hl:e≤cs.length)(hd:Xfs ds b)(hr:Xma rs e)(m:Xbc cs (ds++rs)):Xbc (lfI cs b e) (ds++(fr b e++rs)):=by
 unfold lfI fr
 split
 · exact m
 · exact Xbc.lay h0 (by omega) (by omega) hd (by rw[show b+(e-b)=e by omega];exact hr) m
def cutO (cs:List Int)(a l s L:Int):List Int:=lfI (Xch (lfI cs a s) s L true) (s+L) (a+l)
theorem Xjy (cs:List Int)(a l s L:Int):(cutO cs a l s L).length=cs.length:=by
 unfold cutO
 rw[Xcn,Xbp,Xcn]
def cutP (ds rs:List Pc)(a l s L:Int):List Pc:=ds++(fr a s++(⟨s,L,true⟩::(fr (s+L) (a+l)++rs)))
theorem Xpd {cs:List Int}{ds rs:List Pc}{z:Pc}{s L:Int}(h0:0≤z.a)(hL:1≤L)(h1:z.a≤s)(h2:s+L≤z.a+z.l)(hl:z.a+z.l≤cs.length)(hd:Xfs ds z.a)(hr:Xma rs (z.a+z.l))(m:Xbc cs (ds++z::rs)) :
   Xbc (cutO cs z.a z.l s L) (cutP ds rs z.a z.l s L):=by
 have m0:Xbc cs (ds++rs):=m.sub fun p hp=>by
   rcases List.mem_append.mp hp with h | h
   · exact List.mem_append_left _ h
   · exact List.mem_append_right _ (List.mem_cons_of_mem _ h)
 have m1:=Xbc.layF h0 h1 (by omega) hd (fun p hp=>by have:=hr p hp;omega) m0
 have d1:Xfs (ds++fr z.a s) s:=(hd.mono h1).app ((Xhc h1).endBy h0)
 have m2:Xbc (Xch (lfI cs z.a s) s L true) ((ds++fr z.a s)++⟨s,L,true⟩::rs) :=
   Xbc.lay (by omega) hL (by rw[Xcn];omega) d1 (fun p hp=>by have:=hr p hp;omega) (by rw[List.append_assoc];exact m1)
 have d2:Xfs ((ds++fr z.a s)++[⟨s,L,true⟩]) (s+L):=(d1.mono (by omega)).app fun p hp=>by
   have:p=⟨s,L,true⟩:=by simpa using hp
   subst this
   exact⟨by show 0≤s;omega,hL,Int.le_refl _⟩
 have m3:=Xbc.layF (cs:=Xch (lfI cs z.a s) s L true) (b:=s+L) (e:=z.a+z.l) (by omega) h2 (by rw[Xbp,Xcn];omega) d2 hr (by rw[List.append_assoc];exact m2)
 unfold cutO cutP
 simpa only [List.append_assoc,List.singleton_append,List.cons_append,List.nil_append] using m3
theorem Xos {ds rs:List Pc}{a l s L n:Int}(hL:3≤L)(h1:a≤s)(h2:s+L≤a+l)(hd:Xai 0 ds a)(hr:Xai (a+l) rs n):Xai 0 (cutP ds rs a l s L) n :=
 hd.app ((Xhc h1).app ⟨rfl,(by show 1≤L;omega),(fun _=>hL),(Xhc h2).app hr⟩)
theorem Xzr {cs:List Int}{a l s L:Int}{j:Nat}(h0:0≤a)(hL:1≤L)(h1:a≤s)(h2:s+L≤a+l)(h:(j:Int)<a∨a+l≤j):(cutO cs a l s L)[j]?=cs[j]?:=by
 unfold cutO
 rw[Xkg (by omega) h2 (by omega),Xdg (by omega) hL (by omega),Xkg h0 h1 (by omega)]
theorem Xaw:∀{ps:List Pc} {s e:Int} {i:Nat} {z:Pc},Xai s ps e→ps[i]?=some z→∃ds rs,ps=ds++z::rs∧ds.length=i∧Xai s ds z.a∧Xai (z.a+z.l) rs e
 | [],s,e,i,z,_,h=>by simp at h
 | p::r,s,e,0,z,c,h=>by
   have e1:p=z:=by simpa using h
   subst e1
   obtain⟨h0,h1,h2,h3⟩:=c
   exact⟨[],r,rfl,rfl,h0.symm,by rw[h0];exact h3⟩
 | p::r,s,e,i+1,z,c,h=>by
   obtain⟨h0,h1,h2,h3⟩:=c
   obtain⟨ds,rs,e1,e2,c1,c2⟩:=Xaw h3 (show r[i]?=some z by simpa using h)
   exact⟨p::ds,rs,by rw[e1];rfl,by rw[List.length_cons,e2],⟨h0,h1,h2,c1⟩,c2⟩
theorem Xcg {ps:List Pc}{s e:Int}{i:Nat}{z y:Pc}(c:Xai s ps e)(h:ps[i]?=some z)(h':ps[i+1]?=some y):y.a=z.a+z.l:=by
 obtain⟨ds,rs,rfl,rfl,_,c2⟩:=Xaw c h
 rw[List.getElem?_append_right (by omega)] at h'
 rw[show ds.length+1-ds.length=1 by omega] at h'
 cases rs with
 | nil=>simp at h'
 | cons p r =>
   have:p=y:=by simpa using h'
   subst this
   exact c2.1
theorem Xpe {ps:List Pc}{s e:Int}{i:Nat}{z:Pc}(c:Xai s ps e)(h:ps[i]?=some z)(h':ps.length=i+1):z.a+z.l=e:=by
 obtain⟨ds,rs,rfl,rfl,_,c2⟩:=Xaw c h
 rw[List.length_append,List.length_cons] at h'
 have:rs=[]:=List.length_eq_zero_iff.mp (by omega)
 subst this
 exact c2
theorem Xmu {ps:List Pc}{s e:Int}{z:Pc}(c:Xai s ps e)(h:ps[0]?=some z):z.a=s:=by
 cases ps with
 | nil=>simp at h
 | cons p r =>
   have:p=z:=by simpa using h
   subst this
   exact c.1
theorem Xhy {ps:List Pc}{s e:Int}{i:Nat}{z:Pc}(c:Xai s ps e)(h:ps[i]?=some z):s+i≤z.a:=by
 obtain⟨ds,rs,rfl,rfl,c1,_⟩:=Xaw c h
 exact c1.le
theorem Xmw {ps:List Pc}:∀{b e:Int},Xai b ps e→∀(i j:Nat) (y z:Pc),ps[i]?=some y→ps[j]?=some z→y.a=z.a→y=z:=by
 induction ps with
 | nil=>intro b e _ i j y z hi;simp at hi
 | cons p r ih =>
   intro b e h i j y z hi hj ha
   obtain⟨e1,h1,h3,c⟩:=h
   have up:∀(i:Nat) (y:Pc),r[i]?=some y→y.a>p.a:=fun i y hy=>by
     have:=(c.mem y (List.mem_of_getElem? hy)).1
     omega
   cases i with
   | zero =>
     cases j with
     | zero=>simp at hi hj;rw[←hi,←hj]
     | succ j =>
       have e2:p=y:=by simpa using hi
       have:=up j z (by simpa using hj)
       subst e2;omega
   | succ i =>
     cases j with
     | zero =>
       have e2:p=z:=by simpa using hj
       have:=up i y (by simpa using hi)
       subst e2;omega
     | succ j=>exact ih c i j y z (by simpa using hi) (by simpa using hj) ha
def fbeg (ps:List Pc)(i:Nat)(z:Pc):Int:=match i with
 | 0=>z.a
 | j+1=>match ps[j]? with
   | some y=>if y.v=true then z.a else y.a
   | none=>z.a
def fend (ps:List Pc)(i:Nat)(z:Pc):Int:=match ps[i+1]? with
 | some y=>if y.v=true then z.a+z.l else y.a+y.l
 | none=>z.a+z.l
theorem Xpf {cs:List Int}{ps:List Pc}{s e:Int}{j:Nat}{y z:Pc}(c:Xai s ps e)(m:Xbc cs ps)(h:ps[j]?=some y)(h':ps[j+1]?=some z):cs.getD (z.a-1).toNat 0=y.mk':=by
 have e:=Xcg c h h'
 obtain⟨_,m2⟩:=m y (List.mem_of_getElem? h)
 rw[List.getD_eq_getElem?_getD,show z.a-1=y.a+y.l-1 by omega,m2]
 rfl
theorem Xmx {cs:List Int}{ps:List Pc}{s e:Int}{j:Nat}{y z:Pc}(c:Xai s ps e)(m:Xbc cs ps)(h:ps[j]?=some y)(h':ps[j+1]?=some z):cs.getD (y.a+y.l).toNat 0=z.mk':=by
 have e:=Xcg c h h'
 obtain⟨m1,_⟩:=m z (List.mem_of_getElem? h')
 rw[List.getD_eq_getElem?_getD,←e,m1]
 rfl
theorem Xsn {ps:List Pc}{s e:Int}{i:Nat}{z:Pc}(c:Xai s ps e)(h:ps[i]?=some z):s≤fbeg ps i z∧fbeg ps i z≤z.a:=by
 have hz:=Xhy c h
 unfold fbeg
 split
 · omega
 · rename_i j
   split
   · rename_i y hy
     have hy':=Xhy c hy
     have e1:=Xcg c hy h
     have:=c.mem y (List.mem_of_getElem? hy)
     split <;> omega
   · omega
theorem Xng {ps:List Pc}{s e:Int}{i:Nat}{z:Pc}(c:Xai s ps e)(h:ps[i]?=some z):z.a+z.l≤fend ps i z∧fend ps i z≤e:=by
 have hz:=c.mem z (List.mem_of_getElem? h)
 unfold fend
 split
 · rename_i y hy
   have e1:=Xcg c h hy
   have:=c.mem y (List.mem_of_getElem? hy)
   split <;> omega
 · omega
theorem Xkr {a b:Int}(hb:1≤b) : -(a+1)%b=b-1-a%b:=by
 have e:=Int.emod_add_mul_ediv a b
 have h0:=Int.emod_nonneg a (show b≠0 by omega)
 have h1:=Int.emod_lt_of_pos a (show 0<b by omega)
 have eq : -(a+1)=(b-1-a%b)+b*(-(a/b)-1):=by
   rw[Int.mul_sub,Int.mul_neg]
   omega
 rw[eq,Int.add_mul_emod_self_left,Int.emod_eq_of_lt (by omega) (by omega)]
end Stow
namespace Stow
theorem Xbn {ps:List Pc}{s e:Int}{y z:Pc}(c:Xai s ps e)(hy:y∈ps)(hz:z∈ps)(h:y.a=z.a):y=z:=by
 obtain⟨i,hi⟩:=List.getElem?_of_mem hy
 obtain⟨j,hj⟩:=List.getElem?_of_mem hz
 exact Xmw c i j y z hi hj h
end Stow
namespace Stow
theorem Xfy {ps:List Pc}{j:Nat}{y z:Pc}(h:ps[j]?=some y)(hv:y.v=true):fbeg ps (j+1) z=z.a:=by
 unfold fbeg
 simp only [h]
 exact if_pos hv
theorem Xge {ps:List Pc}{j:Nat}{y z:Pc}(h:ps[j]?=some y)(hv:y.v=false):fbeg ps (j+1) z=y.a:=by
 unfold fbeg
 simp only [h]
 exact if_neg (by rw[hv];exact Bool.false_ne_true)
theorem Xeu {ps:List Pc}{j:Nat}{y z:Pc}(h:ps[j+1]?=some y)(hv:y.v=true):fend ps j z=z.a+z.l:=by
 unfold fend
 rw[h]
 exact if_pos hv
theorem Xev {ps:List Pc}{j:Nat}{y z:Pc}(h:ps[j+1]?=some y)(hv:y.v=false):fend ps j z=y.a+y.l:=by
 unfold fend
 rw[h]
 exact if_neg (by rw[hv];exact Bool.false_ne_true)
theorem Xfw {ps:List Pc}{j:Nat}{z:Pc}(h:ps[j+1]?=none):fend ps j z=z.a+z.l:=by
 unfold fend
 rw[h]
end Stow
namespace Stow
theorem Xgb {ps:List Pc}{s e:Int}{i j:Nat}{y z:Pc}(c:Xai s ps e)(hi:ps[i]?=some y)(hj:ps[j]?=some z)(h:y.a=z.a):i=j:=by
 rcases Nat.lt_trichotomy i j with g | g | g
 · exfalso
   obtain⟨ds,rs,e1,e2,c1,c2⟩:=Xaw c hi
   subst e1 e2
   rw[List.getElem?_append_right (by omega)] at hj
   cases k:j-ds.length with
   | zero=>omega
   | succ n =>
     rw[k] at hj
     have hm:z∈rs:=List.mem_of_getElem? (show rs[n]?=some z from hj)
     have:=(c2.mem z hm).1
     have:=(c.mem y (List.mem_append_right _ List.mem_cons_self)).2.1
     omega
 · exact g
 · exfalso
   obtain⟨ds,rs,e1,e2,c1,c2⟩:=Xaw c hj
   subst e1 e2
   rw[List.getElem?_append_right (by omega)] at hi
   cases k:i-ds.length with
   | zero=>omega
   | succ n =>
     rw[k] at hi
     have hm:y∈rs:=List.mem_of_getElem? (show rs[n]?=some y from hi)
     have:=(c2.mem y hm).1
     have:=(c.mem z (List.mem_append_right _ List.mem_cons_self)).2.1
     omega
end Stow
namespace Stow
def Xav (acc:List Pc)(z:Pc):List Pc:=match acc.getLast? with
 | some y=>if z.v=false∧y.v=false then acc.dropLast++[⟨y.a,y.l+z.l,false⟩] else acc++[z]
 | none=>acc++[z]
def Xcr (ps:List Pc):List Pc:=ps.foldl Xav []
theorem Xmb (z:Pc):Xav [] z=[z]:=rfl
theorem Xbs {acc:List Pc}{z:Pc}(h:z.v=true):Xav acc z=acc++[z]:=by
 unfold Xav
 split
 · rw[if_neg (by rw[h];simp)]
 · rfl
theorem Xce {D:List Pc}{y z:Pc}(h:y.v=true):Xav (D++[y]) z=D++[y]++[z]:=by
 unfold Xav
 rw[List.getLast?_concat]
 simp only
 rw[if_neg (by rw[h];simp)]
theorem Xbz {D:List Pc}{y z:Pc}(h:y.v=false)(hz:z.v=false):Xav (D++[y]) z=D++[⟨y.a,y.l+z.l,false⟩]:=by
 unfold Xav
 rw[List.getLast?_concat]
 simp only
 rw[if_pos ⟨hz,h⟩,List.dropLast_concat]
theorem Xfe {ps:List Pc}{i:Nat}{z:Pc}(h:ps[i]?=some z):Xcr (ps.take (i+1))=Xav (Xcr (ps.take i)) z:=by
 unfold Xcr
 rw[List.take_add_one,h,List.foldl_append]
 rfl
theorem Xbk (l:List Pc):l=[]∨∃D y,l=D++[y]:=by
 rcases List.eq_nil_or_concat l with h | ⟨D,y,h⟩
 · exact .inl h
 · exact .inr ⟨D,y,by rw[h,List.concat_eq_append]⟩
theorem Xai.take:∀{ps:List Pc} {s e:Int} {i:Nat},Xai s ps e→i≤ps.length→∃m,Xai s (ps.take i) m∧Xai m (ps.drop i) e
 | ps,s,e,0,c,_=>⟨s,rfl,c⟩
 | [],s,e,i+1,c,h=>by simp at h
 | p::r,s,e,i+1,c,h=>by
   obtain⟨h0,h1,h2,h3⟩:=c
   obtain⟨m,c1,c2⟩:=h3.take (i:=i) (by simpa using h)
   exact⟨m,⟨h0,h1,h2,c1⟩,c2⟩
theorem Xai.unsnoc {D:List Pc}{y:Pc}{s e:Int}(c:Xai s (D++[y]) e):Xai s D y.a∧1≤y.l∧(y.v=true→3≤y.l)∧y.a+y.l=e:=by
 obtain⟨ds,rs,e1,e2,c1,c2⟩:=Xaw (i:=D.length) (z:=y) c (by rw[List.getElem?_append_right (Nat.le_refl _),Nat.sub_self];rfl)
 have hl:=congrArg List.length e1
 rw[List.length_append,List.length_append,List.length_singleton,List.length_cons] at hl
 have er:rs=[]:=List.length_eq_zero_iff.mp (by omega)
 subst er
 have:=(List.append_inj e1 (by omega)).1
 subst this
 obtain⟨h1,h2,h3,_⟩:=c.mem y (List.mem_append_right _ List.mem_cons_self)
 exact⟨c1,h2,h3,c2⟩
theorem Xiv {acc:List Pc}{z:Pc}{s:Int}(c:Xai s acc z.a)(h1:1≤z.l)(h3:z.v=true→3≤z.l):Xai s (Xav acc z) (z.a+z.l):=by
 rcases Xbk acc with h | ⟨D,y,h⟩
 · subst h
   exact Xai.snoc c h1 h3
 · subst h
   cases hy:y.v with
   | true=>rw[Xce hy];exact Xai.snoc c h1 h3
   | false =>
     cases hz:z.v with
     | true=>rw[Xbs hz];exact Xai.snoc c h1 h3
     | false =>
       rw[Xbz hy hz]
       obtain⟨c1,y1,_,y2⟩:=c.unsnoc
       have:=Xai.snoc (p:=⟨y.a,y.l+z.l,false⟩) c1 (by show 1≤y.l+z.l;omega) (fun w=>by cases w)
       rwa [show (⟨y.a,y.l+z.l,false⟩:Pc).a+(⟨y.a,y.l+z.l,false⟩:Pc).l=z.a+z.l by show y.a+(y.l+z.l)=z.a+z.l;omega] at this
theorem Xen:∀{ps acc:List Pc} {s m e:Int},Xai s acc m→Xai m ps e→Xai s (ps.foldl Xav acc) e
 | [],acc,s,m,e,c,d=>by have d:m=e:=d;subst d;exact c
 | p::r,acc,s,m,e,c,d=>by
   obtain⟨h0,h1,h2,h3⟩:=d
   show Xai s (r.foldl Xav (Xav acc p)) e
   refine Xen (m:=p.a+p.l) (Xiv (by rw[h0];exact c) h1 h2) (by rw[h0];exact h3)
theorem Xim {ps:List Pc}{s e:Int}(c:Xai s ps e):Xai s (Xcr ps) e:=Xen (acc:=[]) rfl c
def Xdj (cs:List Int)(ps:List Pc):List Int:=ps.foldl (fun c z=>Xch c z.a z.l z.v) cs
theorem Xnh (cs:List Int)(ds:List Pc)(z:Pc):Xdj cs (ds++[z])=Xch (Xdj cs ds) z.a z.l z.v:=by
 unfold Xdj
 rw[List.foldl_append]
 rfl
theorem Xmq {cs:List Int}{ps:List Pc}{i:Nat}{z:Pc}(h:ps[i]?=some z):Xdj cs (ps.take (i+1))=Xch (Xdj cs (ps.take i)) z.a z.l z.v:=by
 rw[List.take_add_one,h]
 exact Xnh _ _ _
theorem Xdp:∀(ps:List Pc) (cs:List Int),(Xdj cs ps).length=cs.length
 | [],cs=>rfl
 | p::r,cs=>by
   show (Xdj (Xch cs p.a p.l p.v) r).length=cs.length
   rw[Xdp r,Xbp]
theorem Xgs:∀{rs ds:List Pc} {cs:List Int} {m:Int},Xai 0 ds m→Xai m rs cs.length→Xbc cs ds→Xbc (Xdj cs rs) (ds++rs)
 | [],ds,cs,m,_,_,k=>by rw[List.append_nil];exact k
 | p::r,ds,cs,m,c,d,k=>by
   obtain⟨e0,h1,h2,h3⟩:=d
   have l0:=c.le
   have l1:=h3.le
   have:=Xgs (rs:=r) (ds:=ds++[p]) (cs:=Xch cs p.a p.l p.v) (m:=p.a+p.l) (Xai.snoc (by rw[e0];exact c) h1 h2) (by rw[Xbp,e0];exact h3)
     (Xbc.lay (rs:=[]) (by omega) h1 (by omega) (by rw[e0];exact c.endBy (Int.le_refl 0)) (fun p hp=>by cases hp) (by rw[List.append_nil];exact k))
   rw[List.append_assoc,List.singleton_append] at this
   exact this
theorem Xgp (ps:List Pc):∀i,i≤ps.length→(Xcr (ps.take i)).length≤i
 | 0,_=>by simp [Xcr]
 | i+1,h=>by
   have ih:=Xgp ps i (by omega)
   have e:ps[i]?=some ps[i]:=by simp [show i<ps.length by omega]
   rw[Xfe e]
   generalize Xcr (ps.take i)=acc at ih
   generalize ps[i]=z
   rcases Xbk acc with e | ⟨D,w,e⟩
   · subst e;simp [Xmb]
   · subst e
     rw[List.length_append,List.length_singleton] at ih
     cases hw:w.v with
     | true=>rw[Xce hw];simp;omega
     | false =>
       cases hz:z.v with
       | true=>rw[Xbs hz];simp;omega
       | false=>rw[Xbz hw hz];simp;omega
def Xax (ps:List Pc):Prop:=∀j y z,ps[j]?=some y→ps[j+1]?=some z→y.v=true∨z.v=true
theorem Xax.snoc {D:List Pc}{w z:Pc}(h:Xax (D++[w]))(hv:w.v=true∨z.v=true):Xax (D++[w]++[z]):=by
 intro j y x hy hx
 have hl:j+1<(D++[w]++[z]).length:=(List.getElem?_eq_some_iff.mp hx).1
 rw[List.length_append,List.length_singleton] at hl
 rw[List.getElem?_append_left (by omega)] at hy
 by_cases e:j+1<(D++[w]).length
 · rw[List.getElem?_append_left e] at hx
   exact h j y x hy hx
 · rw[List.length_append,List.length_singleton] at e hl
   rw[List.getElem?_append_right (by rw[List.length_append,List.length_singleton];omega),show j+1-(D++[w]).length=0 by rw[List.length_append,List.length_singleton];omega] at hx
   rw[show j=D.length by omega,List.getElem?_append_right (Nat.le_refl _),Nat.sub_self] at hy
   have e1:w=y:=by simpa using hy
   have e2:z=x:=by simpa using hx
   rw[←e1,←e2]
   exact hv
theorem Xax.last {D:List Pc}{w u:Pc}(h:Xax (D++[w]))(hv:u.v=w.v):Xax (D++[u]):=by
 intro j y x hy hx
 have hl:j+1<(D++[u]).length:=(List.getElem?_eq_some_iff.mp hx).1
 rw[List.length_append,List.length_singleton] at hl
 rw[List.getElem?_append_left (by omega)] at hy
 by_cases e:j+1<D.length
 · rw[List.getElem?_append_left e] at hx
   exact h j y x (by rw[List.getElem?_append_left (by omega)];exact hy) (by rw[List.getElem?_append_left e];exact hx)
 · rw[List.getElem?_append_right (by omega),show j+1-D.length=0 by omega] at hx
   have e2:u=x:=by simpa using hx
   have:=h j y w (by rw[List.getElem?_append_left (by omega)];exact hy) (by rw[List.getElem?_append_right (by omega),show j+1-D.length=0 by omega];rfl)
   rw[←e2,hv]
   exact this
theorem Xiu {acc:List Pc}{z:Pc}(h:Xax acc):Xax (Xav acc z):=by
 rcases Xbk acc with e | ⟨D,w,e⟩
 · subst e
   intro j y x _ hx
   have:j+1<[z].length:=(List.getElem?_eq_some_iff.mp hx).1
   simp at this
 · subst e
   cases hw:w.v with
   | true=>rw[Xce hw];exact h.snoc (.inl hw)
   | false =>
     cases hz:z.v with
     | true=>rw[Xbs hz];exact h.snoc (.inr hz)
     | false=>rw[Xbz hw hz];exact h.last hw.symm
theorem Xes:∀(ps acc:List Pc),Xax acc→Xax (ps.foldl Xav acc)
 | [],_,h=>h
 | p::r,acc,h=>Xes r (Xav acc p) (Xiu h)
theorem Xnb (ps:List Pc):Xax (Xcr ps):=Xes ps [] fun j y x hy _=>by simp at hy
theorem Xns {ps:List Pc}(h:Xax ps):∀i,i≤ps.length→Xcr (ps.take i)=ps.take i
 | 0,_=>rfl
 | 1,hi=>by
   have e:ps[0]?=some ps[0]:=by simp
   rw[Xfe e,List.take_add_one,e]
   rfl
 | i+2,hi=>by
   have ey:ps[i]?=some ps[i]:=by simp [show i<ps.length by omega]
   have ez:ps[i+1]?=some ps[i+1]:=by simp [show i+1<ps.length by omega]
   have ih:=Xns h (i+1) (by omega)
   rw[Xfe ez,ih]
   have hv:=h i _ _ ey ez
   have e1:ps.take (i+1)=ps.take i++[ps[i]]:=by rw[List.take_add_one,ey];rfl
   have e2:ps.take (i+2)=ps.take (i+1)++[ps[i+1]]:=by rw[List.take_add_one,ez];rfl
   rw[e2,e1]
   rcases hv with hv | hv
   · exact Xce hv
   · exact Xbs hv
end Stow
namespace Stow
theorem XGc {α:Type}(ds rs:List α)(z:α):(ds++z::rs)[ds.length]?=some z:=by
 rw[List.getElem?_append_right (Nat.le_refl _),Nat.sub_self]
 rfl
end Stow
namespace Stow
end Stow
namespace Stow
open PySem L2 PyProof.Rows
theorem Xbh.unsnoc {H:Hp}{us:List V}{ps:List Pc}{y:Pc}(h:Xbh H us (ps++[y])):∃ui t,us=ui++[.ref t]∧Xbh H ui ps∧H t=some (.tup [.int y.a,.int y.l,.bl y.v]):=by
 have hl:=h.1
 rw[List.length_append,List.length_singleton] at hl
 obtain⟨t,e1,e2⟩:=h.2 ps.length y (by rw[List.getElem?_append_right (Nat.le_refl _),Nat.sub_self];rfl)
 have hd:us=us.take ps.length++[.ref t]:=by
   have:=List.take_append_drop ps.length us
   have e3:us.drop ps.length=[.ref t]:=by
     apply List.ext_getElem?
     intro i
     rw[List.getElem?_drop]
     cases i with
     | zero=>exact e1
     | succ i=>rw[List.getElem?_eq_none (by omega)];rfl
   rw[e3] at this
   exact this.symm
 refine⟨us.take ps.length,t,hd,⟨by rw[List.length_take];omega,fun i p e=>?_⟩,e2⟩
 have hi:i<ps.length:=(List.getElem?_eq_some_iff.mp e).1
 obtain⟨a,h1,h2⟩:=h.2 i p (by rw[List.getElem?_append_left hi];exact e)
 exact⟨a,by rw[List.getElem?_take_of_lt hi];exact h1,h2⟩
theorem Xbh.relast {H:Hp}{ui:List V}{ps:List Pc}{p t t0:Addr}{z:Pc}(h:Xbh H ui ps)(hp:H p=some (.lst (ui++[.ref t0])))(ht:H t=none) :
   Xbh (upd (upd H t (.tup [.int z.a,.int z.l,.bl z.v])) p (.lst (ui++[.ref t]))) (ui++[.ref t]) (ps++[z]):=by
 have hpt:p≠t:=Xaq hp ht
 have hp2:upd H t (.tup [.int z.a,.int z.l,.bl z.v]) p=some (.lst (ui++[.ref t0])):=by rw[Xam hpt];exact hp
 refine Xbh.snoc ?_ ?_
 · exact(h.mono (Xgz (.inl ht))).mono (Xgz (.inr ⟨_,hp2⟩))
 · exact Xgz (.inr ⟨_,hp2⟩) _ _ upd_same
section
variable {X:Cx}
end
end Stow
namespace Stow
open PySem L2 PyProof.Rows
def eqVs (xs ys:List V):Bool:=(List.range (min xs.length ys.length)).all (fun j=>eqV (xs.getD j .non) (ys.getD j .non))&&xs.length==ys.length
section
variable {X:Cx}{pins:List (Addr×Obj)}{σ:L2.St}{H:Hp}{s:Shared}{A:Around}
theorem Xvu {a b:Addr}{xs ys:List V}(I:Inv X pins σ H s)(ha:SqT X.K H a xs)(hb:SqT X.K H b ys)(hf:xs.all Xhu=true)(hg:ys.all Xhu=true) :
   ∃its its2:List Value,s.heap.IsTuple a its.toArray∧s.heap.IsTuple b its2.toArray∧its.length=xs.length∧its2.length=ys.length ∧
     ∀j (h1:j<its.toArray.size) (h2:j<its2.toArray.size),SeqAt.EqAt A s its.toArray[j] its2.toArray[j] (eqV (xs.getD j .non) (ys.getD j .non)):=by
 obtain⟨its,r1,p1,_⟩:=I.tuple ha
 obtain⟨its2,r2,p2,_⟩:=I.tuple hb
 have l1:=r1.length
 have l2:=r2.length
 refine⟨its,its2,p1,p2,l1.symm,l2.symm,fun j h1 h2=>?_⟩
 rw[List.size_toArray] at h1 h2
 have hj:j<xs.length:=by omega
 have hk:j<ys.length:=by omega
 obtain⟨u1,e1,q1⟩:=r1.get (i:=j) (x:=xs[j]) (by simp [hj])
 obtain⟨u2,e2,q2⟩:=r2.get (i:=j) (x:=ys[j]) (by simp [hk])
 obtain⟨g1,f1⟩:=List.getElem?_eq_some_iff.mp e1
 obtain⟨g2,f2⟩:=List.getElem?_eq_some_iff.mp e2
 have fl:Xhu xs[j]=true:=List.all_eq_true.mp hf _ (List.getElem_mem hj)
 have gl:Xhu ys[j]=true:=List.all_eq_true.mp hg _ (List.getElem_mem hk)
 have z:=XOe (A:=A) (s:=s) q1 q2 fl gl
 rw[←f1,←f2] at z
 have ex:xs.getD j .non=xs[j]:=by simp [hj]
 have ey:ys.getD j .non=ys[j]:=by simp [hk]
 rw[ex,ey]
 simpa using z
theorem XCn {a b:Addr}{xs ys:List V}(hu:A.units<cLine)(I:Inv X pins σ H s)(ha:SqT X.K H a xs)(hb:SqT X.K H b ys)(hf:xs.all Xhu=true)(hg:ys.all Xhu=true):SeqAt.RcAt A s (.ref a) (.ref b) (eqVs xs ys):=by
 obtain⟨its,its2,p1,p2,l1,l2,he⟩:=Xvu (A:=A.in1) I ha hb hf hg
 have key:=SeqAt.RcAt.tuples p1 p2 hu he
 simp only [List.size_toArray,l1,l2] at key
 exact key
theorem Xtd {xs:List V}(hf:xs.all Xhu=true):eqVs xs xs=true:=by
 unfold eqVs
 rw[Bool.and_eq_true]
 refine⟨List.all_eq_true.mpr fun j hj=>?_,by simp⟩
 have hj:j<xs.length:=by simpa using hj
 have ex:xs.getD j .non=xs[j]:=by simp [hj]
 rw[ex]
 exact Xzq (List.all_eq_true.mp hf _ (List.getElem_mem hj))
theorem Xni {a b:Addr}{xs:List V}(hu:A.units<cLine)(I:Inv X pins σ H s)(ha:SqT X.K H a xs)(hb:SqT X.K H b xs)(hf:xs.all Xhu=true):SeqAt.EqAt A s (.ref a) (.ref b) true:=by
 by_cases e:a=b
 · subst e;exact SeqAt.EqAt.same _
 · refine SeqAt.EqAt.of_refs e ?_
   have:=XCn hu I ha hb hf hf
   rwa [Xtd hf] at this
end
section
variable {X:Cx}
theorem XDn (hu:X.A.units+64<cLine):OpR X (compareOp .NotEq) (fun x y H Q=>∃a b us ws ps,x = .ref a∧y = .ref b∧H a=some (.lst us)∧H b=some (.lst ws)∧Xbh H us ps∧Xbh H ws ps∧Q (.bl false) H):=by
 intro pins s σ H x y v u Q I rx ry h
 obtain⟨a,b,us,ws,ps,rfl,rfl,ha,hb,pu,pw,q⟩:=h
 cases rx
 cases ry
 obtain⟨its,r1,p1,_⟩:=I.list (SqL.of ha)
 obtain⟨its2,r2,p2,_⟩:=I.list (SqL.of hb)
 have l1:=r1.length
 have l2:=r2.length
 have m1:=pu.1
 have m2:=pw.1
 have key:SeqAt.RcNeAt X.A s (.ref a) (.ref b) (!((List.range its.toArray.size).all (fun _=>true))):=by
   refine SeqAt.RcNeAt.lists p1.isList p2.isList (by rw[List.size_toArray,List.size_toArray];omega) (by omega) fun j h1 h2=>?_
   rw[List.size_toArray] at h1 h2
   have hj:j<ps.length:=by omega
   obtain⟨t1,e1,f1⟩:=pu.2 j ps[j] (by simp [hj])
   obtain⟨t2,e2,f2⟩:=pw.2 j ps[j] (by simp [hj])
   obtain⟨u1,g1,q1⟩:=r1.get e1
   obtain⟨u2,g2,q2⟩:=r2.get e2
   cases q1
   cases q2
   obtain⟨_,k1⟩:=List.getElem?_eq_some_iff.mp g1
   obtain⟨_,k2⟩:=List.getElem?_eq_some_iff.mp g2
   have z:=Xni (A:=X.A.in1) (by show X.A.units+1<cLine;omega) I (SqT.of f1) (SqT.of f2) rfl
   rw[←k1,←k2] at z
   simpa using z
 have e:(!((List.range its.toArray.size).all (fun _=>true)))=false:=by simp
 rw[e] at key
 exact key _ _ _ _ ⟨.bl false,H,I,rfl,q⟩
end
end Stow
set_option Elab.async false
set_option linter.all false
set_option maxRecDepth 100000
set_option maxHeartbeats 4000000
namespace L2
open PySem PySem.Spec PyProof.Rows
section
variable {κ:Type}[DecidableEq κ]
def valV (kvs:List (κ×V))(k:κ):Option V:=(kvs.find? fun kv=>decide (kv.1=k)).map (·.2)
def putK (kvs:List (κ×V))(k:κ)(v:V):List (κ×V) :=
 if (kvs.any fun kv=>decide (kv.1=k))=true then kvs.map (fun kv=>if kv.1=k then (kv.1,v) else kv) else kvs++[(k,v)]
def Xdu (kvs:List (κ×V))(k:κ):List (κ×V):=kvs.filter fun kv=>decide (kv.1≠k)
theorem Xhe {p:κ×V}{r:List (κ×V)}{k:κ}(e:p.1=k):valV (p::r) k=some p.2:=by simp [valV,List.find?_cons,e]
theorem Xfu {p:κ×V}{r:List (κ×V)}{k:κ}(e:¬p.1=k):valV (p::r) k=valV r k:=by simp [valV,List.find?_cons,e]
theorem Xka (k:κ):∀kvs:List (κ×V),(kvs.any fun kv=>decide (kv.1=k))=(valV kvs k).isSome
 | []=>rfl
 | p::r=>by
   rw[List.any_cons]
   by_cases e:p.1=k
   · simp only [Xhe e,decide_eq_true e,Bool.true_or,Option.isSome_some]
   · rw[Xfu e,decide_eq_false e,Bool.false_or];exact Xka k r
theorem Xij (kvs:List (κ×V))(k:κ)(v:V):(putK kvs k v).length≤kvs.length+1:=by
 unfold putK
 split
 · rw[List.length_map];omega
 · rw[List.length_append,List.length_cons,List.length_nil];omega
theorem Xnr {kvs:List (κ×V)}{k:κ}(v:V)(h:valV kvs k=none):putK kvs k v=kvs++[(k,v)]:=by
 unfold putK
 rw[Xka,h]
 exact if_neg (by decide)
theorem RelO.isSome_eq {o:Option V}{u:Option Value}(r:RelO o u):o.isSome=u.isSome:=by
 cases o with
 | none=>cases u with
   | none=>rfl
   | some _=>exact(show False from r).elim
 | some _=>cases u with
   | none=>exact(show False from r).elim
   | some _=>rfl
theorem RelO.getD {o:Option V}{u:Option Value}{d:V}{d':Value}(r:RelO o u)(rd:RelV d d'):RelV (o.getD d) (u.getD d'):=by
 cases o with
 | none=>cases u with
   | none=>exact rd
   | some _=>exact(show False from r).elim
 | some _=>cases u with
   | none=>exact(show False from r).elim
   | some _=>exact r
theorem KV.val {kvs:List (κ×V)}{vs:List (κ×Value)}(r:KV kvs vs)(k:κ):RelO (valV kvs k) (valueAt vs k):=by
 unfold KV at r
 induction r with
 | nil=>exact True.intro
 | @cons p q ps qs h t ih =>
   obtain⟨h1,h2⟩:=h
   by_cases e:p.1=k
   · have e':q.1=k:=h1.symm.trans e
     have b:valueAt (q::qs) k=some q.2:=by simp [valueAt,List.find?_cons,e']
     rw[Xhe e,b];exact h2
   · have e':¬q.1=k:=fun z=>e (h1.trans z)
     have b:valueAt (q::qs) k=valueAt qs k:=by simp [valueAt,List.find?_cons,e']
     rw[Xfu e,b];exact ih
theorem KV.any {kvs:List (κ×V)}{vs:List (κ×Value)}(r:KV kvs vs)(k:κ):(kvs.any fun kv=>decide (kv.1=k))=vs.any fun kv=>decide (kv.1=k):=by
 unfold KV at r
 induction r with
 | nil=>rfl
 | cons h t ih=>rw[List.any_cons,List.any_cons,ih,h.1]
theorem KV.repl {kvs:List (κ×V)}{vs:List (κ×Value)}(r:KV kvs vs)(k:κ){y:V}{u:Value}(ry:RelV y u) :
   KV (kvs.map fun kv=>if kv.1=k then (kv.1,y) else kv) (vs.map fun kv=>if kv.1=k then (kv.1,u) else kv):=by
 unfold KV at r ⊢
 induction r with
 | nil=>exact .nil
 | @cons p q ps qs h t ih =>
   rw[List.map_cons,List.map_cons]
   refine .cons ?_ ih
   obtain⟨h1,h2⟩:=h
   by_cases e:p.1=k
   · rw[if_pos e,if_pos (h1.symm.trans e)];exact⟨h1,ry⟩
   · rw[if_neg e,if_neg (fun z=>e (h1.trans z))];exact⟨h1,h2⟩
theorem KV.put {kvs:List (κ×V)}{vs:List (κ×Value)}(r:KV kvs vs)(k:κ){y:V}{u:Value}(ry:RelV y u):KV (putK kvs k y) (stored vs k u):=by
 unfold putK stored
 rw[r.any k]
 by_cases e:(vs.any fun kv=>decide (kv.1=k))=true
 · rw[if_pos e,if_pos e];exact r.repl k ry
 · rw[if_neg e,if_neg e];exact Paired.snoc r ⟨rfl,ry⟩
theorem KV.drop {kvs:List (κ×V)}{vs:List (κ×Value)}(r:KV kvs vs)(k:κ):KV (Xdu kvs k) (without vs k):=by
 unfold KV at r ⊢
 unfold Xdu without
 induction r with
 | nil=>exact .nil
 | @cons p q ps qs h t ih =>
   obtain⟨h1,h2⟩:=h
   rw[List.filter_cons,List.filter_cons]
   by_cases e:p.1=k
   · have a:¬decide (p.1≠k)=true:=by simp [e]
     have b:¬decide (q.1≠k)=true:=by simp [h1.symm.trans e]
     rw[if_neg a,if_neg b];exact ih
   · have e':¬q.1=k:=fun z=>e (h1.trans z)
     have a:decide (p.1≠k)=true:=by simp [e]
     have b:decide (q.1≠k)=true:=by simp [e']
     rw[if_pos a,if_pos b];exact .cons ⟨h1,h2⟩ ih
theorem KV.length {kvs:List (κ×V)}{vs:List (κ×Value)}(r:KV kvs vs):kvs.length=vs.length:=Paired.length r
theorem Xjx (kvs:List (κ×V))(k:κ):(Xdu kvs k).length≤kvs.length:=List.length_filter_le _ _
end
theorem Xmn {P:Program}{w:World}{k:Key}{u:Value}(r:RelV (kV k) u):(Xbo P w).is k u=true:=by
 cases k with
 | inl i=>obtain⟨t,e⟩:=(show ∃t,u=Value.int i t from r);subst e;exact Xmt P w i t
 | inr x=>obtain⟨t,e⟩:=(show ∃t,u=Value.str x t from r);subst e;exact Xmm P w x t
theorem Xle {P:Program}{w:World}:∀{ks:List Key} {us:List Value},Vals (ks.map kV) us→ItemsAre (Xbo P w) ks us
 | [],_,r=>by rw[List.map_nil] at r;cases r;exact .nil
 | k::ks,_,r=>by
   rw[List.map_cons] at r
   cases r with
   | cons h t=>exact .cons (Xmn h) (Xle t)
abbrev KT (H:Hp):List (List Key×V)→List (List Key×Addr×Value)→Prop:=Paired fun p q=>p.1=q.1∧H q.2.1=some (.tup (p.1.map kV))∧RelV p.2 q.2.2
theorem KT.val {H:Hp}{kvs:List (List Key×V)}{xs:List (List Key×Addr×Value)}(r:KT H kvs xs)(k:List Key):RelO (valV kvs k) ((atKey xs k).map (·.2)):=by
 induction r with
 | nil=>exact True.intro
 | @cons p q ps qs h t ih =>
   obtain⟨h1,_,h2⟩:=h
   by_cases e:p.1=k
   · have e':q.1=k:=h1.symm.trans e
     have b:atKey (q::qs) k=some q.2:=by simp [atKey,List.find?_cons,e']
     rw[Xhe e,b];exact h2
   · have e':¬q.1=k:=fun z=>e (h1.trans z)
     have b:atKey (q::qs) k=atKey qs k:=by simp [atKey,List.find?_cons,e']
     rw[Xfu e,b];exact ih
theorem KT.repl {H:Hp}{kvs:List (List Key×V)}{xs:List (List Key×Addr×Value)}(r:KT H kvs xs)(k:List Key){y:V}{u:Value}(ry:RelV y u) :
   KT H (kvs.map fun kv=>if kv.1=k then (kv.1,y) else kv) (xs.map (putAt k u)):=by
 induction r with
 | nil=>exact .nil
 | @cons p q ps qs h t ih =>
   rw[List.map_cons,List.map_cons]
   refine .cons ?_ ih
   obtain⟨h1,h2,h3⟩:=h
   unfold putAt
   by_cases e:p.1=k
   · rw[if_pos e,if_pos (h1.symm.trans e)];exact⟨h1,h2,ry⟩
   · rw[if_neg e,if_neg (fun z=>e (h1.trans z))];exact⟨h1,h2,h3⟩
theorem KT.put {H:Hp}{kvs:List (List Key×V)}{xs:List (List Key×Addr×Value)}(r:KT H kvs xs)(k:List Key){b:Addr}{y:V}{u:Value}(hb:H b=some (.tup (k.map kV)))(ry:RelV y u) :
   KT H (putK kvs k y) (storedH xs k b u):=by
 have e:(kvs.any fun kv=>decide (kv.1=k))=(atKey xs k).isSome:=by
   rw[Xka,(r.val k).isSome_eq,Option.isSome_map]
 unfold putK storedH
 rw[e]
 by_cases q:(atKey xs k).isSome=true
 · rw[if_pos q,if_pos q];exact r.repl k ry
 · rw[if_neg q,if_neg q];exact Paired.snoc r ⟨rfl,hb,ry⟩
theorem KT.keeps {H H':Hp}{kvs:List (List Key×V)}{xs:List (List Key×Addr×Value)}(r:KT H kvs xs)(ht:∀b ys,H b=some (.tup ys)→H' b=some (.tup ys)):KT H' kvs xs :=
 Paired.mapP r fun _ _ z=>⟨z.1,ht _ _ z.2.1,z.2.2⟩
section
variable {P:Program}{w:World}{H:Hp}{h:Heap}{a:Addr}
theorem XJx {u:HO}(ok:HOk P w H h)(e:Rd H a u):Xcj P w H h a u:=e.ok ok
theorem Xli {kvs:List (Key×V)}(ok:HOk P w H h)(e:Rd H a (.dK kvs)):kvs.length≤sizeLine∧(a==sysModules)=false∧∃vs,KV kvs vs∧h.DictOf (Xbo P w) a vs :=
 show Xcj P w H h a (.dK kvs) from XJx ok e
theorem Xqn {kvs:List (Key×V)}(ok:HOk P w H h)(e:H a=some (.dK kvs)):kvs.length≤sizeLine∧(a==sysModules)=false∧∃vs,KV kvs vs∧h.DictOf (Xbo P w) a vs:=Xli ok (.inl e)
theorem Xlv {ks:List Key}(ok:HOk P w H h)(e:H a=some (.tup (ks.map kV))):(tupleKind (Xbo P w)).is h ks a:=by
 obtain⟨_,its,r,o,h1,h2,n,h3⟩:=(show Xcj P w H h a (.tup (ks.map kV)) from ok a _ e)
 exact⟨o,its.toArray,n,h1,h2,h3,by simpa using Xle r⟩
theorem Xpb {kvs:List (List Key×V)}(ok:HOk P w H h)(e:Rd H a (.dT kvs)):kvs.length≤sizeLine∧(a==sysModules)=false ∧
   ∃xs,KT H kvs xs∧h.DictOfH (tupleKind (Xbo P w)) a xs:=by
 obtain⟨z,y,xs,r,o,es,ep,h1,h2,h3,h4,h5⟩:=(show Xcj P w H h a (.dT kvs) from XJx ok e)
 refine⟨z,y,xs,r,o,es,ep,h1,h2,h3,h4,fun x hx=>?_,h5⟩
 have all:∀{l:List (List Key×V)} {m:List (List Key×Addr×Value)},KT H l m→∀x∈m,(tupleKind (Xbo P w)).is h x.1 x.2.1:=by
   intro l m q
   induction q with
   | nil=>intro x hx;exact nomatch hx
   | @cons p q ps qs hq t ih =>
     intro x hx
     rcases List.mem_cons.mp hx with e | hx
     · subst e
       exact Xlv ok (by rw[←hq.1];exact hq.2.1)
     · exact ih x hx
 exact all r x hx
theorem XSx {kvs:List (List Key×V)}(ok:HOk P w H h)(e:H a=some (.dT kvs)):kvs.length≤sizeLine∧(a==sysModules)=false ∧
   ∃xs,KT H kvs xs∧h.DictOfH (tupleKind (Xbo P w)) a xs:=Xpb ok (.inl e)
end
def DGet (H:Hp)(a:Addr)(y:V)(r:Option V):Prop :=
 (∃kvs k,Rd H a (.dK kvs)∧y=kV k∧r=valV kvs k)∨∃kvs k b,Rd H a (.dT kvs)∧y = .ref b∧H b=some (.tup (k.map kV))∧r=valV kvs k
def DPut (H:Hp)(a:Addr)(y v:V)(H':Hp):Prop :=
 (∃kvs k,H a=some (.dK kvs)∧y=kV k∧kvs.length<sizeLine∧H'=upd H a (.dK (putK kvs k v))) ∨
 ∃kvs k b,H a=some (.dT kvs)∧y = .ref b∧H b=some (.tup (k.map kV))∧kvs.length<sizeLine∧H'=upd H a (.dT (putK kvs k v))
theorem DGet.k {H:Hp}{a:Addr}{kvs:List (Key×V)}{k:Key}(e:H a=some (.dK kvs)):DGet H a (kV k) (valV kvs k):=.inl ⟨kvs,k,.inl e,rfl,rfl⟩
theorem DGet.t {H:Hp}{a b:Addr}{kvs:List (List Key×V)}{k:List Key}(e:H a=some (.dT kvs))(eb:H b=some (.tup (k.map kV))):DGet H a (.ref b) (valV kvs k):=.inr ⟨kvs,k,b,.inl e,rfl,eb,rfl⟩
theorem DPut.k {H:Hp}{a:Addr}{kvs:List (Key×V)}{k:Key}{v:V}(e:H a=some (.dK kvs))(hl:kvs.length<sizeLine):DPut H a (kV k) v (upd H a (.dK (putK kvs k v))):=.inl ⟨kvs,k,e,rfl,hl,rfl⟩
theorem DPut.t {H:Hp}{a b:Addr}{kvs:List (List Key×V)}{k:List Key}{v:V}(e:H a=some (.dT kvs))(eb:H b=some (.tup (k.map kV)))(hl:kvs.length<sizeLine) :
   DPut H a (.ref b) v (upd H a (.dT (putK kvs k v))):=.inr ⟨kvs,k,b,e,rfl,eb,hl,rfl⟩
section
variable {X:Cx}{pins:List (Addr×Obj)}{σ:St}{H:Hp}{s:Shared}{a:Addr}{y v:V}{u r:Value}{o:Option V}{A:Around}{E:Value→Shared→Prop}
theorem Inv.big (I:Inv X pins σ H s):sysModules<s.heap.objs.size:=by
 have h:mainGlobals<s.heap.objs.size:=(I.mod.glob.keeps I.bk).lt
 exact Nat.lt_trans (by decide) h
theorem Xro {Q:Value→Shared→Prop}(hu:A.units+1<cLine)(I:Inv X pins σ H s)(g:DGet H a y (some v))(ry:RelV y u)(h:∀w' s',Inv X pins σ H s'→RelV v w'→Q w' s') :
   wpAny (model X.prog X.w) A (getItem (.ref a) u) Q E s:=by
 rcases g with ⟨kvs,k,e,ey,l⟩ | ⟨kvs,k,b,e,ey,eb,l⟩
 · subst ey
   obtain⟨z,hd,vs,rel,dd⟩:=Xli I.hok e
   obtain⟨w',hw,rw'⟩:=RelO.some_of (v:=v) (o:=valueAt vs k) (by rw[l];exact rel.val k)
   exact wpAny_getItem_of (Xmn ry) dd.mapOf hw (h w' _ (I.tok _) rw')
 · subst ey
   cases (show u=Value.ref b from ry)
   obtain⟨z,hd,xs,rel,dd⟩:=Xpb I.hok e
   obtain⟨w',hw,rw'⟩:=RelO.some_of (v:=v) (o:=(atKey xs k).map (·.2)) (by rw[l];exact rel.val k)
   obtain⟨p,hp,hp2⟩:=Option.map_eq_some_iff.mp hw
   refine wpAny_getItem_heap (tupleKind_room_in1 hu) (Xlv I.hok eb) dd hp ?_
   rw[hp2]
   exact h w' _ (I.tok _) rw'
theorem d_in {Q:Value→Shared→Prop}(hu:A.units+1<cLine)(I:Inv X pins σ H s)(g:DGet H a y o)(ry:RelV y u)(h:∀s',Inv X pins σ H s'→Q (.bool o.isSome) s') :
   wpAny (model X.prog X.w) A (compareOp .In u (.ref a)) Q E s:=by
 rcases g with ⟨kvs,k,e,ey,l⟩ | ⟨kvs,k,b,e,ey,eb,l⟩
 · subst ey
   obtain⟨z,hd,vs,rel,dd⟩:=Xli I.hok e
   refine wpAny_in_of (Xmn ry) hd dd.mapOf ?_
   rw[←(rel.val k).isSome_eq,←l]
   exact h _ (I.tok _)
 · subst ey
   cases (show u=Value.ref b from ry)
   obtain⟨z,hd,xs,rel,dd⟩:=Xpb I.hok e
   refine wpAny_in_heap (tupleKind_room_in1 hu) (Xlv I.hok eb) hd dd ?_
   have q:=(rel.val k).isSome_eq
   rw[Option.isSome_map] at q
   rw[←q,←l]
   exact h _ (I.tok _)
theorem Xhk {h':Heap}{t':Nat}{ob:HO}(I:Inv X pins σ H s)(mu:Mut (H a))(hs:Heap.SameBut a s.heap h')(he:∃q,h'.get? a=some q)(new:Xcj X.prog X.w (upd H a ob) h' a ob) :
   Inv X pins σ (upd H a ob) { s with heap:=h',toks:=t' } :=
 I.write (x:=a) (e:=a) mu (.inl rfl) (fun b q hb z=>(hs.2 b hb).trans z) he new
theorem Xnx {P:Program}{w:World}{H':Hp}{h':Heap}{kvs:List (Key×V)}{vs:List (Key×Value)}(z:kvs.length≤sizeLine)(hd:(a==sysModules)=false)(rel:KV kvs vs)(dd:h'.DictOf (Xbo P w) a vs) :
   Xcj P w H' h' a (.dK kvs):=⟨z,hd,vs,rel,dd⟩
theorem Xrr {H':Hp}{Q:Unit→Shared→Prop}(hu:A.units+1<cLine)(I:Inv X pins σ H s)(g:DPut H a y v H')(ry:RelV y u)(rv:RelV v r)(h:∀s',Inv X pins σ H' s'→Q () s') :
   wpAny (model X.prog X.w) A (setItem (.ref a) u r) Q E s:=by
 rcases g with ⟨kvs,k,e,ey,l,eH⟩ | ⟨kvs,k,b,e,ey,eb,l,eH⟩
 · subst ey eH
   obtain⟨z,hd,vs,rel,dd⟩:=Xqn I.hok e
   have hz:vs.length≤sizeLine:=by rw[←rel.length];exact z
   have hl:(putK kvs k v).length≤sizeLine:=by have:=Xij kvs k v;omega
   refine wpAny_setItem_pairs (hsz:=hz) (Xmn ry) dd fun h' dd' hs=>h _ ?_
   have he:∃q,h'.get? a=some q:=let ⟨q,_,_,hq,_⟩:=dd';⟨q,hq⟩
   exact Xhk I (by rw[e];exact True.intro) hs he (Xnx hl hd (rel.put k rv) dd')
 · subst ey eH
   cases (show u=Value.ref b from ry)
   obtain⟨z,hd,xs,rel,dd⟩:=XSx I.hok e
   have hz:xs.length≤sizeLine:=by rw[←Paired.length rel];exact z
   have hl:(putK kvs k v).length≤sizeLine:=by have:=Xij kvs k v;omega
   refine wpAny_setItem_heap (hsz:=hz) (tupleKind_room_in1 hu) (Xlv I.hok eb) dd fun h' dd' hs=>h _ ?_
   obtain⟨q,es,ep,hq,h2,h3,h4,_,h5⟩:=dd'
   refine Xhk I (by rw[e];exact True.intro) hs ⟨q,hq⟩ ⟨hl,hd,_,(rel.put k eb rv).keeps fun c ys ec=>?_,q,es,ep,hq,h2,h3,h4,h5⟩
   rw[Xam (ne_of ec e (fun z=>nomatch z))]
   exact ec
end
section
variable {X:Cx}{pins:List (Addr×Obj)}{σ:St}{H:Hp}{s:Shared}{a:Addr}{kvs:List (Key×V)}{k:Key}{u:Value}{A:Around}{E:Value→Shared→Prop}
theorem XLa {Q:Unit→Shared→Prop}(I:Inv X pins σ H s)(e:H a=some (.dK kvs))(ry:RelV (kV k) u)(l:(valV kvs k).isSome=true)(h:∀s',Inv X pins σ (upd H a (.dK (Xdu kvs k))) s'→Q () s') :
   wpAny (model X.prog X.w) A (delItem (.ref a) u) Q E s:=by
 obtain⟨z,hd,vs,rel,dd⟩:=Xqn I.hok e
 refine wpAny_delItem_slot dd.typeIs (by decide) PySem.F.slot_dict_delitem
   (call_meetsIn PySem.F.slot_dict_delitem dd.typeIs PySem.F.entry_dict_delitem (PySem.F.args_dict_delitem_2 _ _) (meets_dict_delitem_pairs (Xbo X.prog X.w) a (Xmn ry)) ⟨vs,dd,by rw[←rel.length];exact z,by rw[←(rel.val k).isSome_eq];exact l,fun h' dd' hs=>h _ ?_⟩)
 have he:∃q,h'.get? a=some q:=let ⟨q,_,_,hq,_⟩:=dd';⟨q,hq⟩
 exact Xhk I (by rw[e];exact True.intro) hs he (Xnx (Nat.le_trans (Xjx kvs k) z) hd (rel.drop k) dd')
theorem XRv {v:V}{more:List Value}{Q:Value→Shared→Prop}(I:Inv X pins σ H s)(e:H a=some (.dK kvs))(ry:RelV (kV k) u)(l:valV kvs k=some v)(hm:more=[]∨∃x,more=[x])
   (h:∀w' s',Inv X pins σ (upd H a (.dK (Xdu kvs k))) s'→RelV v w'→Q w' s'):wpAny (model X.prog X.w) A (call (.builtin "dict.pop") (.ref a::u::more)) Q E s:=by
 obtain⟨z,hd,vs,rel,dd⟩:=Xqn I.hok e
 obtain⟨w',hw,rw'⟩:=RelO.some_of (v:=v) (o:=valueAt vs k) (by rw[←l];exact rel.val k)
 have hp:(keyPart u).isSome=true:=by
   cases k with
   | inl i=>obtain⟨t,q⟩:=(show ∃t,u=Value.int i t from ry);subst q;rfl
   | inr x=>obtain⟨t,q⟩:=(show ∃t,u=Value.str x t from ry);subst q;rfl
 have ha:argsOk "dict.pop" ⟨.ref a::u::more,[]⟩:=by
   rcases hm with q | ⟨x,q⟩
   · subst q;exact PySem.F.args_dict_pop_2 _ _
   · subst q;exact PySem.F.args_dict_pop_3 _ _ _
 refine call_meetsIn PySem.F.slot_dict_pop dd.typeIs PySem.F.entry_dict_pop ha (meets_dict_pop_there (Xbo X.prog X.w) a (Xmn ry) more hm hp)
   ⟨vs,w',dd,by rw[←rel.length];exact z,hw,fun h' dd' hs=>h w' _ ?_ rw'⟩
 have he:∃q,h'.get? a=some q:=let ⟨q,_,_,hq,_⟩:=dd';⟨q,hq⟩
 exact Xhk I (by rw[e];exact True.intro) hs he (Xnx (Nat.le_trans (Xjx kvs k) z) hd (rel.drop k) dd')
theorem XIn {Q:Value→Shared→Prop}(I:Inv X pins σ H s)(e:H a=some (.dK kvs))(h:∀s',Inv X pins σ (upd H a (.dK [])) s'→Q .none s'):wpAny (model X.prog X.w) A (call (.builtin "dict.clear") [.ref a]) Q E s:=by
 obtain⟨z,hd,vs,rel,dd⟩:=Xqn I.hok e
 refine call_meetsIn PySem.F.slot_dict_clear dd.typeIs PySem.F.entry_dict_clear (PySem.F.args_dict_clear_1 _) (meets_dict_clear (Xbo X.prog X.w) a) ⟨vs,dd,by rw[←rel.length];exact z,fun h' dd' hs=>h _ ?_⟩
 have he:∃q,h'.get? a=some q:=let ⟨q,_,_,hq,_⟩:=dd';⟨q,hq⟩
 exact Xhk (t':=s.toks) I (by rw[e];exact True.intro) hs he (Xnx (Nat.zero_le _) hd .nil dd')
theorem XRo {Q:Value→Shared→Prop}(I:Inv X pins σ H s)(e:Rd H a (.dK kvs))(h:∀t s',Inv X pins σ H s'→Q (.int kvs.length t) s'):wpAny (model X.prog X.w) A (call (.builtin "len") [.ref a]) Q E s:=by
 obtain⟨z,hd,vs,rel,dd⟩:=Xli I.hok e
 refine call_len_dict hd dd (by rw[←rel.length];rw[sizeLine_eq] at z;omega) ?_
 rw[←rel.length]
 exact h _ _ (I.tok _)
theorem XDe {Q:Bool→Shared→Prop}(I:Inv X pins σ H s)(e:Rd H a (.dK kvs))(h:∀s',Inv X pins σ H s'→Q (!kvs.isEmpty) s'):wpAny (model X.prog X.w) A (truthy (.ref a)) Q E s:=by
 obtain⟨z,hd,vs,rel,dd⟩:=Xli I.hok e
 refine wpAny_truthy_dict hd dd (by rw[←rel.length];rw[sizeLine_eq] at z;omega) ?_
 have q:kvs.isEmpty=vs.isEmpty:=by cases rel <;> rfl
 rw[←q]
 exact h _ (I.tok _)
end
def NoSl (i:Expr):Prop:=∀ov iv,subscripted i false ov iv=operate [ov,iv] (getItem ov iv)
theorem XCj {prog:Program}{w:World}{A:Around}{E:Value→Shared→Prop}{s:Shared}{env:Env}{value slice:Expr}{pos:Pos}{T id:String}{Q:Value→Shared→Prop}
   (hl:typeLookup (.type T) "__getitem__"=pure (some (.builtin id))) (hs:NoSl slice)
   (h:wpAny (model prog w) A (eval value env) (fun o s₁=>wpAny (model prog w) A (eval slice env) (fun i s₂=>s₂.TypeIs o T∧wpAny (model prog w) A (getItem o i) Q E s₂) E s₁) E s) :
   wpAny (model prog w) A (eval (.Subscript value slice pos) env) Q E s:=by
 refine Subscript_ (wpAny_mono h (fun o s₁ h₁=>wpAny_mono h₁ (fun i s₂ h₂=>?_) fun _ _ x=>x) fun _ _ x=>x)
 obtain⟨hT,h₂⟩:=h₂
 unfold subscriptTail
 refine wpAny_bind ?_
 rw[getitemInPython_of_ne hT.not_modules]
 refine wpAny_bind (wpAny_specialOf hT hl ?_)
 have fin:wpAny (model prog w) A (subscripted slice false o i) (fun r s₃=>wpAny (model prog w) A (letTemporaryGo value o r >>= fun _=>pure r) Q E s₃) E s₂:=by
   rw[hs o i]
   exact wpAny_operating (wpAny_mono h₂ (fun r s₃ h₃=>wpAny_bind (wpAny_letTemporaryGo (wpAny_pure h₃))) fun _ _ x=>x)
 first
   | exact wpAny_pure (wpAny_bind fin)
   | exact wpAny_bind (wpAny_pure (wpAny_bind fin))
   | exact wpAny_bind fin
theorem Xml {X:Cx}{pins:List (Addr×Obj)}{σ:St}{H:Hp}{s:Shared}{a:Addr}{y:V}{o:Option V}(I:Inv X pins σ H s)(g:DGet H a y o):s.TypeIs (.ref a) "dict":=by
 rcases g with ⟨kvs,k,e,_,_⟩ | ⟨kvs,k,b,e,_,_,_⟩
 · obtain⟨_,_,vs,_,dd⟩:=Xli I.hok e
   exact dd.typeIs
 · obtain⟨_,_,xs,_,dd⟩:=Xpb I.hok e
   exact dd.typeIs
def XOp (td ty:TE):TE:=fun σ H Q=>td σ H fun x H1=>ty σ H1 fun y H2=>∃a v,x = .ref a∧DGet H2 a y (some v)∧Q v H2
def tDIn (ty td:TE):TE:=fun σ H Q=>ty σ H fun y H1=>td σ H1 fun x H2=>∃a o,x = .ref a∧DGet H2 a y o∧Q (.bl o.isSome) H2
def XPn (td ty tv:TE):TS:=fun D σ H=>tv σ H fun v H1=>td σ H1 fun x H2=>ty σ H2 fun y H3=>∃a H4,x = .ref a∧DPut H3 a y v H4∧D.nx σ H4
section
variable {X:Cx}{o i e value:Expr}{pos pos' tpos:Pos}{td ty tv:TE}
theorem Xif (hu:X.A.units+1<cLine)(ho:PE X o td)(hi:PE X i ty)(hs:NoSl i):PE X (.Subscript o i pos) (XOp td ty):=by
 intro pins s σ H Q I h
 refine XCj PySem.F.slot_dict_getitem.lookup hs (thn (ho pins s σ H _ I h) fun u s1 ⟨x,H1,I1,rx,q1⟩=>thn (hi pins s1 σ H1 _ I1 q1) fun iv s2 ⟨y,H2,I2,ry,a,v,ex,g,q2⟩=>?_)
 subst ex
 obtain rfl:u=Value.ref a:=rx
 exact⟨Xml I2 g,Xro hu I2 g ry fun w' s3 I3 rw'=>⟨v,H2,I3,rw',q2⟩⟩
theorem XJn (hu:X.A.units+1<cLine)(hi:PE X i ty)(ho:PE X o td):PC X .In i o (tDIn ty td):=by
 intro pins s σ H Q I h
 refine thn (hi pins s σ H _ I h) fun iv s1 ⟨y,H1,I1,ry,q1⟩=>thn (ho pins s1 σ H1 _ I1 q1) fun u s2 ⟨x,H2,I2,rx,a,ov,ex,g,q2⟩=>?_
 subst ex
 obtain rfl:u=Value.ref a:=rx
 exact d_in hu I2 g ry fun s3 I3=>⟨.bl ov.isSome,H2,I3,rfl,q2⟩
theorem Xtw (hu:X.A.units+1<cLine)(ho:PE X o td)(hi:PE X i ty)(hv:PE X value tv)(hs:swapsWith value (some (.Subscript o i pos')) pos.line X.env=pure false) :
   PS X (.Assign [.Subscript o i pos'] value pos) (XPn td ty tv):=by
 intro pins s σ H D I h
 refine wpAny_Assign_Subscript (thn (hv pins s σ H _ I h) fun r s1 ⟨v,H1,I1,rv,q1⟩=>thn (ho pins s1 σ H1 _ I1 q1) fun u s2 ⟨x,H2,I2,rx,q2⟩=>thn (hi pins s2 σ H2 _ I2 q2) fun iv s3 ⟨y,H3,I3,ry,a,H4,ex,g,q3⟩=>?_) hs
 subst ex
 obtain rfl:u=Value.ref a:=rx
 exact Xrr hu I3 g ry rv fun s4 I4=>⟨σ,H4,I4,q3⟩
end
theorem XAb {P:Program}{w:World}{H:Hp}(h:Heap)(hb:sysModules<h.objs.size):Xcj P w H (h.push { cls:=.type "dict",data:=.dict #[] }) h.objs.size (.dK []) :=
 ⟨Nat.zero_le _,beq_eq_false_iff_ne.mpr (Ne.symm (Nat.ne_of_lt hb)),[],.nil,Heap.DictOf.new h⟩
def XAl:TE:=fun _ H Q=>∀p,H p=none→Q (.ref p) (upd H p (.dK []))
section
variable {X:Cx}{pos:Pos}
theorem Xjs:PE X (.Dict [] [] pos) XAl:=fun pins s σ H Q I h =>
 wpAny_Dict_empty ⟨.ref s.heap.objs.size,_,I.laid (a:=s.heap.objs.size) (o:=.dK []) (t':=s.toks) (fun _ _ q=>Heap.get?_push_of_some _ q) (Nat.le_refl _) (XAb s.heap I.big),rfl,h _ (I.hok.fresh (Nat.le_refl _))⟩
end
structure M1 (X:Cx)(o:Expr)(m:Str)(apos:Pos)(e:Expr)(cpos:Pos):Prop where
 base:attributeBase o m X.env (eval o X.env)=eval o X.env
 few:((backTo cpos (starEach [e] X.env)).all (fun x=>!x.1)&&(backToKw cpos (keywordEach [] X.env)).all (fun x=>x.1.isSome)
   && decide (([e]:List Expr).length+([]:List Keyword).length+(if ([]:List Keyword).isEmpty then 0 else 1)<30))=true
 line:(apos.endLine==cpos.line)=true
 trees:backTo cpos (starEach [e] X.env)=[(false,eval e X.env)]
structure M2 (X:Cx)(o:Expr)(m:Str)(apos:Pos)(e f:Expr)(cpos:Pos):Prop where
 base:attributeBase o m X.env (eval o X.env)=eval o X.env
 few:((backTo cpos (starEach [e,f] X.env)).all (fun x=>!x.1)&&(backToKw cpos (keywordEach [] X.env)).all (fun x=>x.1.isSome)
   && decide (([e,f]:List Expr).length+([]:List Keyword).length+(if ([]:List Keyword).isEmpty then 0 else 1)<30))=true
 line:(apos.endLine==cpos.line)=true
 trees:backTo cpos (starEach [e,f] X.env)=[(false,eval e X.env),(false,eval f X.env)]
def IsD (H:Hp)(a:Addr):Prop:=(∃kvs,Rd H a (.dK kvs))∨∃kvs,Rd H a (.dT kvs)
theorem XBc {X:Cx}{pins:List (Addr×Obj)}{σ:St}{H:Hp}{s:Shared}{a:Addr}(I:Inv X pins σ H s)(d:IsD H a) :
   s.TypeIs (.ref a) "dict"∧(∀b,Value.ref a = .ref b→∃ob,s.heap.get? b=some ob∧ob.dict=none)∧(a==sysModules)=false:=by
 rcases d with ⟨kvs,e⟩ | ⟨kvs,e⟩
 · obtain⟨_,hd,vs,_,dd⟩:=Xli I.hok e
   refine⟨dd.typeIs,fun b q=>?_,hd⟩
   cases q
   obtain⟨ob,_,_,h1,h2,_⟩:=dd
   exact⟨ob,h1,h2.2.1⟩
 · obtain⟨_,hd,xs,_,dd⟩:=Xpb I.hok e
   refine⟨dd.typeIs,fun b q=>?_,hd⟩
   cases q
   obtain⟨ob,_,_,h1,h2,_⟩:=dd
   exact⟨ob,h1,h2.2.1⟩
section
variable {X:Cx}{pins:List (Addr×Obj)}{σ:St}{H:Hp}{s:Shared}{a:Addr}{y d:V}{u r:Value}{o:Option V}{A:Around}{E:Value→Shared→Prop}
theorem XMi {Q:Value→Shared→Prop}(hu:A.units+1<cLine)(I:Inv X pins σ H s)(g:DGet H a y o)(ry:RelV y u)(h:∀w' s',Inv X pins σ H s'→RelV (o.getD .non) w'→Q w' s') :
   wpAny (model X.prog X.w) A (call (.builtin "dict.get") [.ref a,u]) Q E s:=by
 rcases g with ⟨kvs,k,e,ey,l⟩ | ⟨kvs,k,b,e,ey,eb,l⟩
 · subst ey
   obtain⟨z,hd,vs,rel,dd⟩:=Xli I.hok e
   refine call_meetsIn PySem.F.slot_dict_get dd.typeIs PySem.F.entry_dict_get (PySem.F.args_dict_get_2 _ _) (meets_dict_get (Xbo X.prog X.w) a (Xmn ry) hd) ⟨_,dd.mapOf,h _ _ (I.tok _) ?_⟩
   rw[l]
   exact(rel.val k).getD rfl
 · subst ey
   cases (show u=Value.ref b from ry)
   obtain⟨z,hd,xs,rel,dd⟩:=Xpb I.hok e
   refine call_meetsIn PySem.F.slot_dict_get dd.typeIs PySem.F.entry_dict_get (PySem.F.args_dict_get_2 _ _) (meetsH_dict_get (tupleKind (Xbo X.prog X.w)) a b hd) ⟨tupleKind_room_in1 hu,k,xs,Xlv I.hok eb,dd,h _ _ (I.tok _) ?_⟩
   rw[l]
   exact(rel.val k).getD rfl
end
def XAg (td ty:TE):TE:=fun σ H Q=>td σ H fun x H1=>∃a,x = .ref a∧IsD H1 a∧ty σ H1 fun y H2=>∃o,DGet H2 a y o∧Q (o.getD .non) H2
def XAn (td ty:TE):TE:=fun σ H Q=>td σ H fun x H1=>∃a,x = .ref a∧IsD H1 a∧ty σ H1 fun y H2=>∃kvs k v,H2 a=some (.dK kvs)∧y=kV k∧valV kvs k=some v∧Q v (upd H2 a (.dK (Xdu kvs k)))
section
variable {X:Cx}{o e f:Expr}{apos cpos:Pos}{td ty tx:TE}
theorem Xyt (hu:X.A.units+1<cLine)(ho:PE X o td)(he:PE X e ty)(m:M1 X o "get" apos e cpos):PE X (.Call (.Attribute o "get" apos) [e] [] cpos) (XAg td ty):=by
 intro pins s σ H Q I h
 refine wpAny_Call_method m.base m.few m.line PySem.F.plainAttrs_dict PySem.F.slot_dict_get PySem.F.type_dict_get (thn (ho pins s σ H _ I h) fun u s1 ⟨x,H1,I1,rx,a,ex,d,q1⟩=>?_)
 subst ex
 obtain rfl:u=Value.ref a:=rx
 obtain⟨t1,t2,_⟩:=XBc I1 d
 refine⟨t1,t2,?_⟩
 rw[m.trees]
 refine Calls.callWith_builtin rfl (Calls.evalArgs_plain (Calls.spliced_cons (thn (he pins s1 σ H1 _ I1 q1) fun iv s2 ⟨y,H2,I2,ry,ov,g,q2⟩=>Calls.spliced_nil ?_)))
 exact XMi hu I2 g ry fun w' s3 I3 rw'=>⟨_,H2,I3,rw',q2⟩
theorem Xok (ho:PE X o td)(he:PE X e ty)(m:M1 X o "pop" apos e cpos):PE X (.Call (.Attribute o "pop" apos) [e] [] cpos) (XAn td ty):=by
 intro pins s σ H Q I h
 refine wpAny_Call_method m.base m.few m.line PySem.F.plainAttrs_dict PySem.F.slot_dict_pop PySem.F.type_dict_pop (thn (ho pins s σ H _ I h) fun u s1 ⟨x,H1,I1,rx,a,ex,d,q1⟩=>?_)
 subst ex
 obtain rfl:u=Value.ref a:=rx
 obtain⟨t1,t2,_⟩:=XBc I1 d
 refine⟨t1,t2,?_⟩
 rw[m.trees]
 refine Calls.callWith_builtin rfl (Calls.evalArgs_plain (Calls.spliced_cons (thn (he pins s1 σ H1 _ I1 q1) fun iv s2 ⟨y,H2,I2,ry,kvs,k,v,ea,ey,l,q2⟩=>Calls.spliced_nil ?_)))
 subst ey
 exact XRv I2 ea ry l (.inl rfl) fun w' s3 I3 rw'=>⟨v,_,I3,rw',q2⟩
end
section
variable {X:Cx}{pins:List (Addr×Obj)}{σ:St}{H:Hp}{s:Shared}{a:Addr}{kvs:List (Key×V)}{A:Around}{E:Value→Shared→Prop}
end
section
variable {X:Cx}{pins:List (Addr×Obj)}{σ:St}{H:Hp}{s:Shared}{a:Addr}{y:V}{u:Value}{A:Around}{E:Value→Shared→Prop}
end
end L2
namespace L2
open PySem PySem.Spec PyProof.Rows
section
variable {X:Cx}
theorem Xii:Xit X (.builtin "len") (fun xs H Q=>∃a kvs,xs=[V.ref a]∧H a=some (.dK kvs)∧Q (.int kvs.length) H):=by
 intro pins s σ H xs us Q I r h
 obtain⟨a,kvs,rfl,ha,q⟩:=h
 obtain⟨u,rfl,ru⟩:=Xvp r
 cases ru
 exact XRo I (.inl ha) fun t s' I'=>⟨.int kvs.length,H,I',⟨t,rfl⟩,q⟩
end
section
variable {κ:Type}[DecidableEq κ]
theorem Xsy:∀{l:List κ} {k:κ},l.Nodup→¬k∈l→(l++[k]).Nodup
 | [],k,_,_=>by simp
 | a::r,k,h,hk=>by
   obtain⟨h1,h2⟩:=List.nodup_cons.mp h
   show (a::(r++[k])).Nodup
   refine List.nodup_cons.mpr ⟨fun m=>?_,Xsy h2 fun m=>hk (List.mem_cons.mpr (Or.inr m))⟩
   rcases List.mem_append.mp m with q | q
   · exact h1 q
   · exact hk (List.mem_cons.mpr (Or.inl (List.mem_singleton.mp q).symm))
theorem Xry {p:κ×V}{r:List (κ×V)}{k:κ}(e:p.1=k):Xdu (p::r) k=Xdu r k:=by
 unfold Xdu
 rw[List.filter_cons,if_neg (by simp [e])]
theorem Xrs {p:κ×V}{r:List (κ×V)}{k:κ}(e:¬p.1=k):Xdu (p::r) k=p::Xdu r k:=by
 unfold Xdu
 rw[List.filter_cons,if_pos (by simp [e])]
theorem Xtu {kvs:List (κ×V)}{k:κ}{p:κ×V}(h:p∈Xdu kvs k):p∈kvs:=(List.mem_filter.mp h).1
theorem Xkc:∀{kvs:List (κ×V)} {k:κ},(kvs.map (·.1)).Nodup→((Xdu kvs k).map (·.1)).Nodup
 | [],_,_=>List.nodup_nil
 | p::r,k,h=>by
   have h:(p.1::r.map (·.1)).Nodup:=h
   obtain⟨h1,h2⟩:=List.nodup_cons.mp h
   by_cases e:p.1=k
   · rw[Xry e]
     exact Xkc h2
   · rw[Xrs e]
     show (p.1::(Xdu r k).map (·.1)).Nodup
     refine List.nodup_cons.mpr ⟨fun m=>h1 ?_,Xkc h2⟩
     obtain⟨q,hq,eq⟩:=List.mem_map.mp m
     exact List.mem_map.mpr ⟨q,Xtu hq,eq⟩
end
end L2
set_option Elab.async false
set_option linter.all false
set_option maxRecDepth 100000
set_option maxHeartbeats 4000000
namespace Stow
open PySem L2 PyProof.Rows
def CShl (i j:Int):Prop:=0≤j∧j≤1000∧i.natAbs<2^220
section
variable {X:Cx}
theorem Xso:OpR X (binaryOp .LShift) (rI CShl fun i j=>.int (i*2^j.toNat)):=opI fun i j _ _ _ _ _ hc q =>
 lshift_int hc.1 (by
   obtain⟨h0,h1,h2⟩:=hc
   have:=PyProof.Rows.intBits_le h2
   omega) q
end
theorem Xqe (n:Int):Builtin.bitOr (n*2) 1=n*2+1:=by
 rw[PyProof.Rows.bitOr_and]
 have e:Builtin.bitAnd (n*2) 1=(n*2)%2:=by rw[bitAnd_m1]
 rw[e]
 omega
end Stow
set_option Elab.async false
set_option linter.all false
set_option maxRecDepth 100000
set_option maxHeartbeats 4000000
namespace Stow
open PySem L2 PyProof.Rows
section
variable {prog:Program}{w:World}{A:Around}{R:Result→Shared→Prop}{s:Shared}
theorem Xoy {elt tgt src:Expr}{cs:List Expr}{sc:Scope}{ps:Pos}{itv accv:Value}{ev:Env}(J:Nat→Shared→Prop)
   (step:∀k t,J k t→wpAny (model prog w) A (pyNext itv) (fun r t1=>match r with
     | none=>R (.ok .next) t1
     | some x=>wpAny (model prog w) A (letOwnedTupleGo tgt itv x) (fun _ t2=>wpAny (model prog w) A (assign tgt ev x) (fun _ t3 =>
         wpAny (model prog w) A (forIn cs true fun c r=>if r=true then do let ok ←isTrue c ev (eval c ev);pure (ForInStep.yield ok) else pure (ForInStep.yield r)) (fun good t4 =>
           if good=true then wpAny (model prog w) A (eval elt ev) (fun y t5=>wpAny (model prog w) A (call (.builtin "list.append") [accv,y]) (fun _ t6=>∃j,j<k∧J j t6) (notedBy (model prog w) A ev fun e t'=>R (.error e) t') t5) (notedBy (model prog w) A ev fun e t'=>R (.error e) t') t4
           else ∃j,j<k∧J j t4) (notedBy (model prog w) A ev fun e t'=>R (.error e) t') t3) (notedBy (model prog w) A ev fun e t'=>R (.error e) t') t2) (notedBy (model prog w) A ev fun e t'=>R (.error e) t') t1) (notedBy (model prog w) A ev fun e t'=>R (.error e) t') t)
   (k0:Nat) (j0:J k0 s):codeAny (model prog w) A (.compLoop (.ListComp elt [⟨tgt,src,cs,0⟩] sc ps) 0 itv accv ev) R s:=by
 refine codeAny_loop rfl J (fun k t hJ=>?_) k0 j0
 show wpAny _ A ((compTurn (.ListComp elt [⟨tgt,src,cs,0⟩] sc ps) 0 itv accv ev).onRaise (fun x=>do noteFrame x ev;theTreesLotGoes x)) _ _ t
 refine wpAny_noted ?_
 rw[compTurn_list]
 refine wpAny_bind (wpAny_standAt (wpAny_bind (wpAny_mono (step k t hJ) (fun r t1 g1=>?_) fun _ _ z=>z)))
 cases r with
 | none=>exact wpAny_pure g1
 | some x =>
   refine wpAny_bind (wpAny_mono g1 (fun _ t2 g2=>?_) fun _ _ z=>z)
   refine wpAny_bind (wpAny_mono g2 (fun _ t3 g3=>?_) fun _ _ z=>z)
   refine wpAny_bind (wpAny_mono g3 (fun good t4 g4=>?_) fun _ _ z=>z)
   cases good with
   | false=>exact wpAny_pure ⟨rfl,g4⟩
   | true=>exact wpAny_bind (wpAny_bind (wpAny_mono g4 (fun y t5 g5=>wpAny_bind (wpAny_mono g5 (fun _ t6 g6=>wpAny_pure (wpAny_pure ⟨rfl,g6⟩)) fun _ _ z=>z)) fun _ _ z=>z))
end
theorem Xgm {env:Env}:∀(names:List (Str×NameKind)) (acc:List (Str×Addr)),(∀y∈names,y.2 = .free→∃c,env.cells.lookup y.1=some c)→(∀x c,acc.lookup x=some c→env.cells.lookup x=some c) →
   ∃cl,(forIn names acc fun x r=>(do let (name,kind):=x;if (kind==NameKind.free)=true then do let c ←cellOf env name;pure (ForInStep.yield ((name,c)::r)) else pure (ForInStep.yield r)):Sem (List (Str×Addr)))=pure cl ∧
     (∀x c,cl.lookup x=some c→env.cells.lookup x=some c)∧(∀y∈names,y.2 = .free→∃c,cl.lookup y.1=some c)∧(∀x c,acc.lookup x=some c→∃c',cl.lookup x=some c')
 | [],acc,_,ha=>⟨acc,by simp,ha,fun y hy=>by simp at hy,fun x c e=>⟨c,e⟩⟩
 | (n,k)::r,acc,h,ha=>by
   by_cases hk:k = .free
   · obtain⟨c,hc⟩:=h (n,k) List.mem_cons_self hk
     obtain⟨cl,e1,e2,e3,e4⟩:=Xgm r ((n,c)::acc) (fun y hy=>h y (List.mem_cons_of_mem _ hy)) (fun x d e=>by
       by_cases hx:x=n
       · subst hx
         rw[List.lookup_cons_self] at e
         cases e
         exact hc
       · rw[List.lookup_cons,show (x==n)=false by simpa using hx] at e
         exact ha x d e)
     refine⟨cl,?_,e2,fun y hy hf=>?_,fun x d e=>?_⟩
     · rw[List.forIn_cons]
       subst hk
       have ec:cellOf env n=pure c:=by unfold cellOf;rw[hc]
       simp only [beq_self_eq_true,if_true,ec,pure_bind]
       exact e1
     · rcases List.mem_cons.mp hy with z | z
       · subst z
         exact e4 n c (by rw[List.lookup_cons_self])
       · exact e3 y z hf
     · by_cases hx:x=n
       · subst hx
         exact e4 x c (by rw[List.lookup_cons_self])
       · exact e4 x d (by rw[List.lookup_cons,show (x==n)=false by simpa using hx];exact e)
   · obtain⟨cl,e1,e2,e3,e4⟩:=Xgm r acc (fun y hy=>h y (List.mem_cons_of_mem _ hy)) ha
     refine⟨cl,?_,e2,fun y hy hf=>?_,e4⟩
     · rw[List.forIn_cons]
       have:(k==NameKind.free)=false:=by simpa using hk
       simp only [this,Bool.false_eq_true,if_false,pure_bind]
       exact e1
     · rcases List.mem_cons.mp hy with z | z
       · subst z
         exact absurd hf hk
       · exact e3 y z hf
theorem Xja {scope:Scope}{env:Env}(h:∀y∈scope.names,y.2 = .free→∃c,env.cells.lookup y.1=some c) :
   ∃cl,closureFor scope env=pure cl∧(∀x c,cl.lookup x=some c→env.cells.lookup x=some c)∧(∀y∈scope.names,y.2 = .free→∃c,cl.lookup y.1=some c):=by
 obtain⟨cl,e1,e2,e3,_⟩:=Xgm scope.names [] h (fun x c e=>by simp at e)
 refine⟨cl,?_,e2,e3⟩
 unfold closureFor
 simp only [bind_pure] at *
 exact e1
section
variable {X:Cx}
abbrev Cx.blockG (X:Cx)(scope:Scope)(cl:List (Str×Addr))(C:Addr)(N:List Str)(s₀:Shared)(H₀:Hp)(ex:List Addr):Cx :=
 { X with N:=N,s₀:=s₀,H₀:=H₀,env:=compEnvC scope cl C X.env,outer:=X.stack,stack:=X.stack,ex:=ex,fn:=fun _=>false,pn:=[],xe:=fun _ _=>False }
theorem Xqs {pins:List (Addr×Obj)}{σ:L2.St}{H:Hp}{s:Shared}{scope:Scope}{cl:List (Str×Addr)}{C:Addr}{N:List Str}{fp:List Addr}(I:Inv X pins σ H s)(hk:scope.kind = .function)(hC:s.heap.objs.size≤C)
   (hcl:∀x c,cl.lookup x=some c→X.env.cells.lookup x=some c) (hhas:∀y,(relabel scope X.env).names.lookup y=some .cell∨(relabel scope X.env).names.lookup y=some .free→∃c,cl.lookup y=some c)
   (ho:∀b∈fp,∃o,s.heap.get? b=some o∧∀v,o.data≠.cell v) (hf:∀b∈fp,FpOk X pins H b) :
   (Cx.blockG X scope cl C N s H fp).Ok where
 mod:=I.ok.mod
 kind:=hk
 glob:=I.ok.glob
 blt:=I.ok.blt
 above:=hC
 inj:=fun x y c e1 e2=>I.ok.inj x y c (hcl x c e1) (hcl y c e2)
 has:=fun y e=>hhas y e
 cab:=fun _ _ e=>nomatch e
 hd:=I.ok.hd
 frames:=I.ok.frames
 stk:=.inl rfl
 exf:=fun b hb=>⟨fun z=>by
   obtain⟨o,e,_⟩:=ho b hb
   have:=Nat.lt_of_lt_of_le (Heap.lt_size e) hC
   rw[z] at this
   exact Nat.lt_irrefl _ this,fun x c e=>(hf b hb).2.2.2.2.1 x c (hcl x c e)⟩
 bs:=I.bs
 bsz:=Nat.le_trans I.ok.bsz I.sz
 noex:=fun b o e hb=>by
   rcases(hf b hb).2.2.2.1 with z | z
   · exact I.ok.noex b o e z
   · exact absurd (Nat.lt_of_lt_of_le (Heap.lt_size (I.ok.bs b o e).1) z) (Nat.lt_irrefl _)
 exfs:=fun b hb z=>by
   rcases List.mem_cons.mp (I.stkSub b z) with e | e
   · exact(hf b hb).2.1 e
   · exact(hf b hb).2.2.1 e
 funs:=I.stack
 frf:=I.stkFree
def Xvh (n:Nat)(fs:L2.St)(J:It)(g:TG)(tt:TT)(te:TE)(Q:VK)(H1:Hp):Prop:=∀D,H1 D=none→∃W:Nat→Nat→List V→Hp→Prop,(∃m,W 0 m [] (upd H1 D (.lst [])))∧∀i m ys H2,W i m ys H2 →
 (J.stop i H2∧Q (.ref D) H2)∨(J.go i H2∧∀x H3,J.yld i H2 x H3→∀τ:L2.St,τ.length=n→g x (τ++fs) H3 fun σ1 H4=>(∃τ':L2.St,τ'.length=n∧σ1=τ'++fs)∧tt σ1 H4 fun b H5 =>
   if b=true then te σ1 H5 fun y H6=>H6 D=some (.lst ys)∧ys.length<sizeLine∧∃m',m'<m∧W (i+1) m' (ys++[y]) (upd H6 D (.lst (ys++[y]))) else ∃m',m'<m∧W (i+1) m' ys H5)
def Xlj (n:Nat)(is:List Nat)(wi:TI)(g:TG)(tt:TT)(te:TE):TE:=fun σ H Q=>wi σ H fun J H1=>Xvh n (is.map fun k=>σ.getD k none) J g tt te Q H1
def Xld (X:Cx)(scope:Scope)(F:List Str)(is:List Nat):Prop:=F.length=is.length∧∀(j:Nat) (y:Str) (k:Nat),F[j]?=some y→is[j]?=some k→X.N[k]?=some y∧X.env.kindOf y=some .cell∧(relabel scope X.env).names.lookup y=some .cell
theorem Xid {elt iter tg:Expr}{pos:Pos}{ifs:List Expr}{scope:Scope}{O F:List Str}{is:List Nat}{cl:List (Str×Addr)}{g:TG}{tt:TT}{te:TE}{pins:List (Addr×Obj)}{σ:L2.St}{s2:Shared}{H2:Hp}{it:Addr}{fp:List Addr}{tn:Nat→Heap→Prop}{J:It}{Q:VK}{RR:Value→Addr→Result→Shared→Prop}
   (hc:X.calm=true) (hkind:scope.kind = .function) (hcell:∀y∈scope.names,y.2≠.cell)
   (hcl:∀x c,cl.lookup x=some c→X.env.cells.lookup x=some c) (hhas:∀y,(relabel scope X.env).names.lookup y=some .cell∨(relabel scope X.env).names.lookup y=some .free→∃c,cl.lookup y=some c) (hF:Xld X scope F is)
   (hG:∀cl C s₀ H₀ ex,PG (Cx.blockG X scope cl C (O++F) s₀ H₀ ex) tg g) (hT:∀cl C s₀ H₀ ex,PTs (Cx.blockG X scope cl C (O++F) s₀ H₀ ex) ifs tt) (hE:∀cl C s₀ H₀ ex,PE (Cx.blockG X scope cl C (O++F) s₀ H₀ ex) elt te)
   (I2:Inv X pins σ H2 s2) (T:Turn X.prog X.w X.K tg J fp it tn) (st2:tn 0 s2.heap) (f2:∀b∈fp,FpOk X pins H2 b)
   (h:Xvh O.length (is.map fun k=>σ.getD k none) J g tt te Q H2)
   (hRR:∀D C H' s',Inv X pins σ H' s'→FpOk X pins H' C→(∃m,s'.heap.Ns C m)→Q (.ref D) H'→RR (.ref D) C (.ok .next) s') :
   wpAny (model X.prog X.w) X.A (newList []) (fun acc s₃=>wpAny (model X.prog X.w) X.A (newFunctionEnv scope X.env.globals cl [] X.env.qual none .none (some X.env)) (fun cenv s₄ =>
     codeAny (model X.prog X.w) X.A (.compStart (.ListComp elt [⟨tg,iter,ifs,0⟩] scope pos) 0 (.ref it) acc { cenv with scope:=relabel scope X.env }) (RR acc cenv.locals) s₄) X.xe s₃) X.xe s2:=by
 refine wpAny_newObj_type (wpAny_newFunctionEnv hcell (by intro y hy;simp at hy) (fun h₁ hns₁ hsb₁=>?_) hkind)
 dsimp only at hns₁ hsb₁ ⊢
 generalize hG0:s2.heap.push { cls:=.type "list",dict:=none,data:=.seq ([]:List Value).toArray }=G at hns₁ hsb₁ ⊢
 have hCs:G.objs.size=s2.heap.objs.size+1:=by rw[←hG0,Heap.size_push]
 have hDC:s2.heap.objs.size≠G.objs.size:=by rw[hCs];exact Nat.ne_of_lt (Nat.lt_succ_self _)
 have hCle:s2.heap.objs.size≤G.objs.size:=by rw[hCs];exact Nat.le_succ _
 have old:∀b o,s2.heap.get? b=some o→h₁.get? b=some o:=fun b o e=>hsb₁.extBut b o (by rw[hCs];exact Nat.ne_of_lt (Nat.lt_succ_of_lt (Heap.lt_size e))) (Heap.get?_push_of_some _ (hG0▸Heap.get?_push_of_some _ e))
 have eD:h₁.get? s2.heap.objs.size=some { cls:=.type "list",dict:=none,data:=.seq ([]:List Value).toArray }:=hsb₁.extBut _ _ hDC (Heap.get?_push_of_some _ (hG0▸Heap.get?_push_size _ rfl))
 have nD:H2 s2.heap.objs.size=none:=I2.hok.fresh (Nat.le_refl _)
 have nC:H2 G.objs.size=none:=I2.hok.fresh hCle
 obtain⟨W,⟨m0,w0⟩,turn⟩:=h s2.heap.objs.size nD
 generalize efs:(is.map fun k=>σ.getD k none)=fs at turn
 have fre:∀b∈fp,upd H2 s2.heap.objs.size (.lst []) b=none:=fun b hb=>by
   obtain⟨o,e,_⟩:=T.obj _ _ st2 b hb
   rw[Xam (Nat.ne_of_lt (Heap.lt_size e))]
   exact(f2 b hb).1
 have loop:∀s4:Shared,s4={ s2 with heap:=h₁,toks:=s2.toks+([]:List (Str×Value)).length } →
     codeAny (model X.prog X.w) X.A (.compLoop (.ListComp elt [⟨tg,iter,ifs,0⟩] scope pos) 0 (.ref it) (.ref s2.heap.objs.size) (compEnvC scope cl G.objs.size X.env)) (RR (.ref s2.heap.objs.size) G.objs.size) s4:=by
   rintro s4 rfl
   have ok:=Xqs (N:=O++F) I2 hkind hCle hcl hhas (T.obj _ _ st2) f2
   have IB:Inv (Cx.blockG X scope cl G.objs.size (O++F) s2 H2 fp) [] (List.replicate O.length none++fs) (upd H2 s2.heap.objs.size (.lst [])) { s2 with heap:=h₁,toks:=s2.toks+([]:List (Str×Value)).length }:=by
     refine⟨ok,rfl,I2.bare,Un.laid old (Nat.le_refl _) nD,⟨_,hns₁,fun i y v e1 e2 _=>?_⟩,(fun x c e=>?_),?_,(fun x c e=>?_),(fun p hp=>nomatch hp),I2.hok.laid old (Nat.le_refl _) ⟨Nat.zero_le _,[],0,.nil,eD⟩,?_⟩
     · have e1:(O++F)[i]?=some y:=e1
       by_cases hi:i<O.length
       · rw[List.getElem?_append_left (by rw[List.length_replicate];exact hi),List.getElem?_replicate,if_pos hi] at e2
         cases e2
       · rw[List.getElem?_append_right (by omega)] at e1
         rw[List.getElem?_append_right (by rw[List.length_replicate];omega),List.length_replicate,←efs,List.getElem?_map] at e2
         obtain⟨k,ek,ev⟩:=Option.map_eq_some_iff.mp e2
         obtain⟨g1,g2,g3⟩:=hF.2 _ _ _ e1 ek
         have es:σ[k]?=some (some v):=by
           rw[List.getD_eq_getElem?_getD] at ev
           cases q:σ[k]? with
           | none=>rw[q] at ev;cases ev
           | some z=>rw[q] at ev;exact congrArg some ev
         obtain⟨m,hm,hl⟩:=I2.loc
         obtain⟨u,ru,lk⟩:=hl k y v g1 es (.inr (.inl g2))
         refine⟨u,ru,.inr ⟨.inl g3,?_⟩⟩
         rcases lk with ⟨z,_⟩ | ⟨_,c,c1,o,c2,c3⟩
         · rw[g2] at z;cases z
         · obtain⟨c',e'⟩:=hhas y (.inl g3)
           have:=hcl y c' e'
           rw[c1] at this
           cases this
           exact⟨c,e',o,old c o c2,c3⟩
     · obtain⟨v,o,c2,c3⟩:=I2.cell x c (hcl x c e)
       exact⟨v,o,old c o c2,c3⟩
     · show upd H2 s2.heap.objs.size (.lst []) G.objs.size=none
       rw[Xam (Ne.symm hDC)]
       exact nC
     · obtain⟨v,o,c2,c3⟩:=I2.cell x c (hcl x c e)
       show upd H2 s2.heap.objs.size (.lst []) c=none
       rw[Xam (Nat.ne_of_lt (Heap.lt_size c2))]
       exact I2.freeC x c (hcl x c e)
     · show (List.replicate O.length none++fs).length=(O++F).length
       rw[List.length_append,List.length_append,List.length_replicate,←efs,List.length_map,hF.1]
   have stat:∀{H':Hp},(∀b∈fp,H' b=none)→∀b∈fp,FpOk (Cx.blockG X scope cl G.objs.size (O++F) s2 H2 fp) [] H' b:=fun hn b hb =>
     ⟨hn b hb,(ok.exf b hb).1,ok.exfs b hb,.inl hb,(ok.exf b hb).2,(fun p hp=>nomatch hp)⟩
   refine Xoy (fun n s'=>∃i ys τ H',Inv (Cx.blockG X scope cl G.objs.size (O++F) s2 H2 fp) [] (τ++fs) H' s'∧τ.length=O.length∧tn i s'.heap∧(∀b∈fp,H' b=none)∧W i n ys H') ?_ m0
     ⟨0,[],_,_,IB,List.length_replicate,T.keep _ _ _ st2 fun b _ o e=>old b o e,fre,w0⟩
   rintro n s3 ⟨i,ys,τ,H3,I3,hτ,st3,fr3,w3⟩
   rcases turn i n ys H3 w3 with ⟨stop,q⟩ | ⟨go,step⟩
   · refine wpAny_mono (T.done (Cx.blockG X scope cl G.objs.size (O++F) s2 H2 fp) rfl rfl rfl hc i [] s3 (τ++fs) H3 (fun _ _=>False) I3 (stat fr3) st3 stop) (fun r s4 ⟨hr,I4⟩=>?_) (fun _ _ z=>z.elim)
     subst hr
     obtain⟨m,hn,_⟩:=I4.loc
     refine hRR _ G.objs.size H3 s4 (I2.call' (ch:=fp) I4.os I4.base I4.hok I4.bare fun b hb=>?_) (I2.fpOk hCle I4.free) ⟨m,hn⟩ q
     obtain⟨g0,g1,g2,g3,g4,g5⟩:=f2 b hb
     exact⟨g3,g1,g4,g5⟩
   · refine wpAny_mono (T.item (Cx.blockG X scope cl G.objs.size (O++F) s2 H2 fp) rfl rfl rfl hc i [] s3 (τ++fs) H3 (fun _ _=>False) I3 (stat fr3) st3 go) (fun r s4 ⟨u,hr,h4⟩=>?_) (fun _ _ z=>z.elim)
     subst hr
     refine wpAny_mono h4 (fun _ s5 ⟨v,H5,I5,r5,y5,st5,fr5⟩=>?_) (fun _ _ z=>z.elim)
     have I5':=I5.pinned (stat fr5) (T.obj _ _ st5)
     refine wpAny_mono (hG _ _ _ _ _ _ s5 (τ++fs) H5 v u _ I5' r5 (step v H5 y5 τ hτ)) (fun _ s6 ⟨σ6,H6,I6,⟨τ',hτ',e6⟩,q6⟩=>?_) (fun _ _ z=>z.elim)
     subst e6
     have again:∀{s7:Shared} {H7:Hp} {ys':List V} {m':Nat},Inv (Cx.blockG X scope cl G.objs.size (O++F) s2 H2 fp) ([]++Xku fp s5.heap) (τ'++fs) H7 s7→m'<n→W (i+1) m' ys' H7 →
         ∃m,m<n∧∃i ys τ H',Inv (Cx.blockG X scope cl G.objs.size (O++F) s2 H2 fp) [] (τ++fs) H' s7∧τ.length=O.length∧tn i s7.heap∧(∀b∈fp,H' b=none)∧W i m ys H':=fun {s7 H7 ys' m'} I7 hm w7=>by
       refine⟨m',hm,i+1,ys',τ',H7,I7.unpinned,hτ',T.keep _ _ _ st5 fun b hb o e=>(I7.pin (b,o) (List.mem_append_right _ (List.mem_append_right _ (Xez hb e)))).1,fun b hb=>?_,w7⟩
       obtain⟨o,e,_⟩:=T.obj _ _ st5 b hb
       exact(I7.pin (b,o) (List.mem_append_right _ (List.mem_append_right _ (Xez hb e)))).2.1
     refine wpAny_mono (hT _ _ _ _ _ _ s6 (τ'++fs) H6 _ I6 q6) (fun b s7 ⟨H7,I7,q7⟩=>?_) (fun _ _ z=>z.elim)
     cases b with
     | false =>
       obtain⟨m',hm,w7⟩:=q7
       exact again I7 hm w7
     | true =>
       rw[if_pos rfl]
       refine wpAny_mono (hE _ _ _ _ _ _ s7 (τ'++fs) H7 _ I7 q7) (fun y' s8 ⟨y,H8,I8,ry,hD,hz,m',hm,w8⟩=>?_) (fun _ _ z=>z.elim)
       refine wpAny_mono (Xdy (X:=Cx.blockG X scope cl G.objs.size (O++F) s2 H2 fp) _ s8 (τ'++fs) H8 (.ref s2.heap.objs.size) [y] (.ref s2.heap.objs.size) [y'] (fun _ H9=>H9=upd H8 s2.heap.objs.size (.lst (ys++[y]))) I8 rfl (.cons ry .nil) ⟨s2.heap.objs.size,ys,y,rfl,rfl,hD,hz,rfl⟩) (fun _ s9 ⟨_,H9,I9,_,e9⟩=>?_) (fun _ _ z=>z.elim)
       subst e9
       exact again I9 hm w8
 exact codeAny_compStart_list (loop _ rfl) (T.self _ 0 _ _ _ (T.keep _ _ _ st2 fun b _ o e=>old b o e) (loop _ rfl))
theorem Xha {elt iter tg:Expr}{pos:Pos}{ifs:List Expr}{scope:Scope}{wi:TI}{g:TG}{tt:TT}{te:TE}(O F:List Str)(is:List Nat)(hc:X.calm=true)(hi:PI X tg iter wi)
   (hG:∀cl C s₀ H₀ ex,PG (Cx.blockG X scope cl C (O++F) s₀ H₀ ex) tg g) (hT:∀cl C s₀ H₀ ex,PTs (Cx.blockG X scope cl C (O++F) s₀ H₀ ex) ifs tt) (hE:∀cl C s₀ H₀ ex,PE (Cx.blockG X scope cl C (O++F) s₀ H₀ ex) elt te)
   (hF:Xld X scope F is) (hfc:∀y∈scope.names,y.2 = .free→X.env.kindOf y.1=some .cell) (hrl:∀y,(relabel scope X.env).names.lookup y=some .cell∨(relabel scope X.env).names.lookup y=some .free→∃z∈scope.names,z.1=y∧z.2 = .free)
   (hkind:scope.kind = .function:=by rfl) (hcell:∀y∈scope.names,y.2≠.cell:=by decide +kernel)
   (hnames:∀y∈scope.names,y.2 = .local→scope.names.lookup y.1=some .local:=by decide +kernel) (hs:∀y,foldedSetIterable iter X.env y=pure y:=by intro _;rfl) :
   PE X (.ListComp elt [⟨tg,iter,ifs,0⟩] scope pos) (Xlj O.length is wi g tt te):=by
 intro pins s σ H Q I h
 rw[eval_ListComp]
 obtain⟨cl,hcf,hcl,hca⟩:=Xja (scope:=scope) (env:=X.env) fun y hy hf=>I.ok.has y.1 (.inl (hfc y hy hf))
 refine wpAny_comprehension_free (use:=none) (cl:=cl) rfl hs hcf hkind hnames (wpAny_mono (hi pins s σ H _ I h) (fun v s1 h1=>wpAny_mono h1 (fun itv s2 h2=>?_) fun _ _ e=>e) fun _ _ e=>e)
 obtain⟨it,fp,tn,J,H2,e,I2,T,st2,f2,R2⟩:=h2
 subst e
 refine Xid (O:=O) (F:=F) (is:=is) (Q:=Q) (RR:=fun acc C=>compPost (model X.prog X.w) X.A X.xe none (EP X pins σ Q) acc C) hc hkind hcell hcl (fun y hy=>?_) hF hG hT hE I2 T st2 f2 R2 ?_
 · obtain⟨z,hz,e1,e2⟩:=hrl y hy
   subst e1
   exact hca z hz e2
 · rintro D C H' s' I' f' ⟨m,hn⟩ q
   obtain⟨f0,f1,f2',f3,f4,f5⟩:=f'
   refine⟨m,hn,fun h' sb=>⟨.ref D,H',I'.turned (t':=s'.toks) (fun b o hb e=>(sb.2 b hb).trans e) f0 f1 f3 f4 f5,rfl,q⟩⟩
theorem Xhw {elt iter tg:Expr}{y:Str}{py pos spos:Pos}{ifs:List Expr}{scope:Scope}{wi:TI}{g:TG}{tt:TT}{te:TE}{i:Nat}(O F:List Str)(is:List Nat)(hN:X.N.Nodup)(hi0:X.N[i]?=some y)(hy:Loc X.env.scope y)(hc:X.calm=true)(hi:PI X tg iter wi)
   (hG:∀cl C s₀ H₀ ex,PG (Cx.blockG X scope cl C (O++F) s₀ H₀ ex) tg g) (hT:∀cl C s₀ H₀ ex,PTs (Cx.blockG X scope cl C (O++F) s₀ H₀ ex) ifs tt) (hE:∀cl C s₀ H₀ ex,PE (Cx.blockG X scope cl C (O++F) s₀ H₀ ex) elt te)
   (hF:Xld X scope F is) (hfc:∀y∈scope.names,y.2 = .free→X.env.kindOf y.1=some .cell) (hrl:∀y,(relabel scope X.env).names.lookup y=some .cell∨(relabel scope X.env).names.lookup y=some .free→∃z∈scope.names,z.1=y∧z.2 = .free)
   (hsw:swapsWith (.ListComp elt [⟨tg,iter,ifs,0⟩] scope pos) (some (.Name y py)) spos.line X.env=pure true:=by rfl)
   (hkind:scope.kind = .function:=by rfl) (hcell:∀y∈scope.names,y.2≠.cell:=by decide +kernel)
   (hnames:∀y∈scope.names,y.2 = .local→scope.names.lookup y.1=some .local:=by decide +kernel) (hs:∀y,foldedSetIterable iter X.env y=pure y:=by intro _;rfl)
   (hf:X.fn y=true∨X.env.scope.names.lookup y=some .local:=by first | exact .inl rfl | exact .inr rfl | assumption) :
   PS X (.Assign [.Name y py] (.ListComp elt [⟨tg,iter,ifs,0⟩] scope pos) spos) (tAsg (Xlj O.length is wi g tt te) (Xmh i)):=by
 intro pins s σ H D I h
 rw[exec_Assign_Name_used _ _ _ _ hsw]
 obtain⟨cl,hcf,hcl,hca⟩:=Xja (scope:=scope) (env:=X.env) fun y hy hf=>I.ok.has y.1 (.inl (hfc y hy hf))
 refine wpAny_bind (wpAny_standAt (wpAny_bind ?_))
 show wpAny _ X.A (do let _ ←comprehension (.ListComp elt [⟨tg,iter,ifs,0⟩] scope pos) scope X.env _ (newList []) false (eval iter X.env) (some (assign (.Name y py) X.env))) _ _ s
 refine wpAny_bind (wpAny_mono (wpAny_comprehension_free (use:=some (assign (.Name y py) X.env)) (cl:=cl) (Q:=fun _ s'=>SP X pins D .next s') rfl hs hcf hkind hnames
   (wpAny_mono (hi pins s σ H _ I h) (fun v s1 h1=>wpAny_mono h1 (fun itv s2 h2=>?_) fun _ _ e=>e) fun _ _ e=>e)) (fun _ s' hq=>wpAny_pure (wpAny_pure hq)) fun _ _ e=>e)
 obtain⟨it,fp,tn,J,H2,e,I2,T,st2,f2,R2⟩:=h2
 subst e
 refine Xid (O:=O) (F:=F) (is:=is) (Q:=fun v H1=>Xmh i v σ H1 D.nx) (RR:=fun acc C=>compPost (model X.prog X.w) X.A X.xe (some (assign (.Name y py) X.env)) (fun _ s'=>SP X pins D .next s') acc C) hc hkind hcell hcl (fun y hy=>?_) hF hG hT hE I2 T st2 f2 R2 ?_
 · obtain⟨z,hz,e1,e2⟩:=hrl y hy
   subst e1
   exact hca z hz e2
 · rintro D' C H' s' I' f' ⟨m,hn⟩ q
   obtain⟨f0,f1,f2',f3,f4,f5⟩:=f'
   show wpAny _ X.A (assign (.Name y py) X.env (.ref D')) _ _ _
   refine wpAny_assign_Name (Xln I' hN hi0 hy (v:=.ref D') rfl (fun s'' I'' ⟨a,sb,ha⟩=>?_) hf)
   have ne:C≠a:=by
     rcases ha with e | e
     · rw[e];exact f1
     · exact fun z=>f4 _ _ e z.symm
   exact⟨m,hn.sameBut sb ne,fun h' sb'=>⟨_,H',I''.turned (t':=s''.toks) (fun b o hb e=>(sb'.2 b hb).trans e) f0 f1 f3 f4 f5,q⟩⟩
theorem XJd {K:PySem.W.Frag}(hK:X.K=K):IxR X (rIxT K):=hK▸Xci
theorem Xom {K:PySem.W.Frag}(hK:X.K=K):IxR X (rIxL K):=hK▸Xat
theorem Xig {K:PySem.W.Frag}{es:List Expr}{k:Nat}{t:TGs}{n:Nat}{pos:Pos}(hK:X.K=K)(hc:X.calm=true)(h:PGs X es t)
   (hn:(assignEach es X.env).length=n:=by rfl) (hst:(assignEach es X.env).findIdx? (·.1)=none:=by rfl):PG X (.Tuple es k pos) (gTup K n t):=hK▸Xgv hc h hn hst
theorem Xrv {K:PySem.W.Frag}{a:Expr}{ta:TE}(hK:X.K=K)(ha:PE X a ta)(he:∀whole,isTrue a X.env whole=(do let v ←whole;standAt a.pos;holding [v] (truthy v))):PT X a (fun σ H Q=>ta σ H fun x H'=>∃k,TruV K x H' k∧Q k H'):=by
 subst hK
 exact Xcd ha he
theorem Xck {scope:Scope}{env:Env}{y:Str}(hcell:∀z∈scope.names,z.2≠.cell)(h:(relabel scope env).names.lookup y=some .cell∨(relabel scope env).names.lookup y=some .free):∃z∈scope.names,z.1=y∧z.2 = .free:=by
 have key:∀(l:List (Str×NameKind)) (k:NameKind),l.lookup y=some k→(y,k)∈l:=by
   intro l k
   induction l with
   | nil=>intro e;cases e
   | cons p r ih =>
     intro e
     obtain⟨n,k'⟩:=p
     rw[List.lookup_cons] at e
     cases hb:y==n with
     | true =>
       rw[hb] at e
       cases e
       rw[eq_of_beq hb]
       exact List.mem_cons_self
     | false=>rw[hb] at e;exact List.mem_cons_of_mem _ (ih e)
 have fin:∀k,(relabel scope env).names.lookup y=some k→k = .cell∨k = .free→∃z∈scope.names,z.1=y∧z.2 = .free:=fun k e hk=>by
   obtain⟨z,hz,ez⟩:=List.mem_map.mp (key _ _ e)
   obtain⟨n,k0⟩:=z
   dsimp only at ez
   split at ez
   · rename_i hc
     simp only [Bool.and_eq_true,beq_iff_eq] at hc
     cases ez
     exact⟨(y,k0),hz,rfl,hc.1.1⟩
   · cases ez
     rcases hk with rfl | rfl
     · exact absurd rfl (hcell _ hz)
     · exact⟨_,hz,rfl,rfl⟩
 rcases h with h | h
 · exact fin _ h (.inl rfl)
 · exact fin _ h (.inr rfl)
theorem Xjb {scope:Scope}:Xld X scope [] []:=⟨rfl,fun j y k e=>by simp at e⟩
theorem Xfd {scope:Scope}{y:Str}{k:Nat}(h1:X.N[k]?=some y)(h2:X.env.kindOf y=some .cell)(h3:(relabel scope X.env).names.lookup y=some .cell):Xld X scope [y] [k]:=⟨rfl,fun j z i e1 e2=>by
 cases j with
 | zero =>
   have g1:y=z:=by simpa using e1
   have g2:k=i:=by simpa using e2
   subst g1 g2
   exact⟨h1,h2,h3⟩
 | succ j=>simp at e1⟩
theorem Xhi {scope:Scope}{n:Str}(h:∀y∈scope.names,y.2 = .free→y.1=n)(k:X.env.kindOf n=some .cell):∀y∈scope.names,y.2 = .free→X.env.kindOf y.1=some .cell:=fun y hy hf=>by rw[h y hy hf];exact k
theorem Xyu {elt iter tg:Expr}{pos:Pos}{ifs:List Expr}{scope:Scope}{wi:TI}{g:TG}{tt:TT}{te:TE}(O:List Str)(hc:X.calm=true)(hi:PI X tg iter wi)
   (hG:∀cl C s₀ H₀ ex,PG (Cx.blockG X scope cl C (O++[]) s₀ H₀ ex) tg g) (hT:∀cl C s₀ H₀ ex,PTs (Cx.blockG X scope cl C (O++[]) s₀ H₀ ex) ifs tt) (hE:∀cl C s₀ H₀ ex,PE (Cx.blockG X scope cl C (O++[]) s₀ H₀ ex) elt te)
   (hfree:∀y∈scope.names,y.2≠.free:=by decide +kernel) (hkind:scope.kind = .function:=by rfl) (hcell:∀y∈scope.names,y.2≠.cell:=by decide +kernel)
   (hnames:∀y∈scope.names,y.2 = .local→scope.names.lookup y.1=some .local:=by decide +kernel) (hs:∀y,foldedSetIterable iter X.env y=pure y:=by intro _;rfl) :
   PE X (.ListComp elt [⟨tg,iter,ifs,0⟩] scope pos) (Xlj O.length [] wi g tt te) :=
 Xha O [] [] hc hi hG hT hE Xjb (fun y hy hf=>absurd hf (hfree y hy)) (fun y h=>Xck hcell h) hkind hcell hnames hs
theorem Xmp {elt iter tg:Expr}{y:Str}{py pos spos:Pos}{ifs:List Expr}{scope:Scope}{wi:TI}{g:TG}{tt:TT}{te:TE}{i:Nat}(O:List Str)(hN:X.N.Nodup)(hi0:X.N[i]?=some y)(hy:Loc X.env.scope y)(hc:X.calm=true)(hi:PI X tg iter wi)
   (hG:∀cl C s₀ H₀ ex,PG (Cx.blockG X scope cl C (O++[]) s₀ H₀ ex) tg g) (hT:∀cl C s₀ H₀ ex,PTs (Cx.blockG X scope cl C (O++[]) s₀ H₀ ex) ifs tt) (hE:∀cl C s₀ H₀ ex,PE (Cx.blockG X scope cl C (O++[]) s₀ H₀ ex) elt te)
   (hsw:swapsWith (.ListComp elt [⟨tg,iter,ifs,0⟩] scope pos) (some (.Name y py)) spos.line X.env=pure true:=by rfl)
   (hfree:∀y∈scope.names,y.2≠.free:=by decide +kernel) (hkind:scope.kind = .function:=by rfl) (hcell:∀y∈scope.names,y.2≠.cell:=by decide +kernel)
   (hnames:∀y∈scope.names,y.2 = .local→scope.names.lookup y.1=some .local:=by decide +kernel) (hs:∀y,foldedSetIterable iter X.env y=pure y:=by intro _;rfl)
   (hf:X.fn y=true∨X.env.scope.names.lookup y=some .local:=by first | exact .inl rfl | exact .inr rfl | assumption) :
   PS X (.Assign [.Name y py] (.ListComp elt [⟨tg,iter,ifs,0⟩] scope pos) spos) (tAsg (Xlj O.length [] wi g tt te) (Xmh i)) :=
 Xhw O [] [] hN hi0 hy hc hi hG hT hE Xjb (fun y hy hf=>absurd hf (hfree y hy)) (fun y h=>Xck hcell h) hsw hkind hcell hnames hs hf
end
section
variable {K:PySem.W.Frag}{σ:L2.St}{H:Hp}{Q:VK}
theorem r_compG {n:Nat}{is:List Nat}{wi:TI}{g:TG}{tt:TT}{te:TE}(h:wi σ H fun J H1=>Xvh n (is.map fun k=>σ.getD k none) J g tt te Q H1):Xlj n is wi g tt te σ H Q:=h
def Nx (n:Nat)(Pv:Addr→Nat→List V→Hp→Prop)(D:Addr)(i:Nat)(ys:List V)(H2:Hp):Prop:=∃m',m'<n-i∧m'=n-(i+1)∧i+1≤n∧Pv D (i+1) ys H2
theorem Xkq {n:Nat}{Pv:Addr→Nat→List V→Hp→Prop}{D:Addr}{i:Nat}{ys:List V}{H2:Hp}(hi:i<n)(p:Pv D (i+1) ys H2):Nx n Pv D i ys H2:=⟨_,by omega,rfl,hi,p⟩
theorem Xde {a:Addr}{xs:List V}{n:Nat}{fs:L2.St}{g:TG}{tt:TT}{te:TE}(Pv:Addr→Nat→List V→Hp→Prop)(h0:∀D,H D=none→Pv D 0 [] (upd H D (.lst [])))
   (hl:∀D i ys H2,i≤xs.length→Pv D i ys H2→SqL K H2 a xs)
   (hs:∀D i x ys H2,H D=none→xs[i]?=some x→Pv D i ys H2→∀τ:L2.St,τ.length=n→g x (τ++fs) H2 fun σ1 H4=>(∃τ':L2.St,τ'.length=n∧σ1=τ'++fs)∧tt σ1 H4 fun b H5 =>
     if b=true then te σ1 H5 fun y H6=>H6 D=some (.lst ys)∧ys.length<sizeLine∧Nx xs.length Pv D i (ys++[y]) (upd H6 D (.lst (ys++[y]))) else Nx xs.length Pv D i ys H5)
   (hd:∀D ys H2,H D=none→Pv D xs.length ys H2→Q (.ref D) H2):Xvh n fs (Itl K a) g tt te Q H:=by
 intro D hD
 refine⟨fun i m ys H2=>m=xs.length-i∧i≤xs.length∧Pv D i ys H2,⟨_,rfl,Nat.zero_le _,h0 D hD⟩,?_⟩
 rintro i m ys H2 ⟨rfl,hi,p⟩
 have q:=hl D i ys H2 hi p
 by_cases hlt:i<xs.length
 · refine .inr ⟨⟨xs,xs[i],q,by simp [hlt]⟩,fun x H3 y τ hτ=>?_⟩
   obtain⟨e,y⟩:=y
   subst e
   have ex:=y xs q
   exact hs D i x ys _ hD ex p τ hτ
 · have e:i=xs.length:=by omega
   subst e
   exact .inl ⟨⟨xs,q,Nat.le_refl _⟩,hd D ys H2 hD p⟩
end
end Stow
namespace Stow
open PySem L2 PyProof.Rows
section
variable {prog:Program}{w:World}{A:Around}{R:Result→Shared→Prop}{I:Addr}{fp wr:List Addr}{n:Nat}{P:Nat→Value→Prop}{St:Nat→Heap→Prop}
def XCl (prog:Program)(w:World)(A:Around)(Kp:Heap→Prop)(P:Nat→Value→Prop)(bt:Nat→Nat→Bool):Prop :=
 ∀i j x y (t:Shared) (Q:Value→Shared→Prop) (E:Value→Shared→Prop),Kp t.heap→P i x→P j y→Q (.bool (bt i j)) t→wpAny (model prog w) A (richCompare .Lt x y) Q E t
theorem Xsm (W:Walks prog w A.in1 I fp wr n P St)(bt:Nat→Nat→Bool)(Kp:Heap→Prop)(cmp:XCl prog w A.in1 Kp P bt)(S:Addr)(sf:S ∉ fp)
   (kpk:∀h h',Kp h→(∀b o,b ∉ wr→b≠S→h.get? b=some o→h'.get? b=some o)→Kp h') :
   ∀(k j:Nat) (t:Shared) (vb:Value) (c:Nat),n-(j+1)=k→j+1≤n→St (j+1) t.heap→Kp t.heap→P (argBest bt j) vb →
   t.heap.get? S=some { cls:=.type "list",dict:=none,data:=.seq #[vb,vb] c,slots:=#[] } →
   (∀v h' tk,P (argBest bt (n-1)) v→(∀b o,b ∉ wr→b≠S→t.heap.get? b=some o→h'.get? b=some o)→R (.ok (.ret v)) { t with heap:=h',toks:=tk }) →
   codeAny (model prog w) A (.builtin "min.loop" ⟨[.ref I,.none,.ref S],[]⟩) R t:=by
 have sw:S ∉ wr:=fun h=>sf (W.sub _ h)
 have nm:(toString "min"++toString ".loop":String)="min.loop":=by decide
 intro k
 induction k with
 | zero =>
   intro j t vb c hk hj st kp pb hS fin
   have en:j+1=n:=by omega
   refine codeAny_builtin F.entry_min_loop ?_
   rw[Around.under_plainId F.plain_min_loop _]
   show wpAny _ A.in1 (seqItems? (.ref S) >>= _) _ _ t
   refine wpAny_bind (wpAny_seqItems hS rfl ?_)
   show wpAny _ A.in1 (tryCatch (pyNext (.ref I)) _ >>= _) _ _ t
   refine wpAny_bind (wpAny_tryCatch (W.done t _ _ (en▸st) fun h' tk kk=>?_))
   have hS1:=kk S _ sw hS
   show wpAny _ A.in1 (updateSeq S (fun _=>#[]) >>= _) _ _ _
   refine wpAny_bind ?_
   refine wpAny_updateSeq hS1 rfl (wpAny_bind (wpAny_letGo (wpAny_pure ?_)))
   exact fin vb _ tk (by rw[←en];exact pb) fun b o bw bS e=>(Heap.get?_update_other _ _ (Ne.symm bS)).trans (kk b o bw e)
 | succ k ih =>
   intro j t vb c hk hj st kp pb hS fin
   have lt:j+1<n:=by omega
   refine codeAny_builtin F.entry_min_loop ?_
   rw[Around.under_plainId F.plain_min_loop _]
   show wpAny _ A.in1 (seqItems? (.ref S) >>= _) _ _ t
   refine wpAny_bind (wpAny_seqItems hS rfl ?_)
   show wpAny _ A.in1 (tryCatch (pyNext (.ref I)) _ >>= _) _ _ t
   refine wpAny_bind (wpAny_tryCatch (W.item (j+1) t _ _ lt st fun v h' tk pv st1 kk=>?_))
   have hS1:=kk S _ sw hS
   have kp1:Kp h':=kpk _ _ kp fun b o bw _ e=>kk b o bw e
   show wpAny _ A.in1 (tryCatch (holding [v,v] (richCompare .Lt v vb >>= _)) _ >>= _) _ _ _
   refine wpAny_bind (wpAny_tryCatch (wpAny_holding (wpAny_bind (cmp (j+1) (argBest bt j) v vb _ _ _ kp1 pv pb ?_))))
   refine wpAny_bind (wpAny_holding (wpAny_truthy_bool ?_))
   refine wpAny_bind (wpAny_letGo (wpAny_pure ?_))
   cases hb:bt (j+1) (argBest bt j) with
   | true =>
     simp only [if_true]
     refine wpAny_bind ?_
     refine wpAny_updateSeq hS1 rfl (wpAny_bind (wpAny_letGo ?_))
     rw[nm]
     refine wpAny_pure ⟨plainId_quiet F.plain_min_loop _,ih (j+1) _ v _ (by omega) lt (W.frame _ _ _ st1 fun b bf o e=>?_) (kpk _ _ kp1 fun b o _ bS e=>(Heap.get?_update_other _ _ (Ne.symm bS)).trans e) (by simp only [argBest,hb,if_true];exact pv) (Heap.get?_update_self _ hS1 rfl)
       fun v' h2 tk2 pv2 kk2=>?_⟩
     · exact(Heap.get?_update_other _ _ (fun z:S=b=>sf (by rw[z];exact bf))).trans e
     · exact fin v' h2 tk2 pv2 fun b o bw bS e=>kk2 b o bw bS ((Heap.get?_update_other _ _ (Ne.symm bS)).trans (kk b o bw e))
   | false =>
     simp only [Bool.false_eq_true,if_false]
     refine wpAny_bind (wpAny_letGo ?_)
     rw[nm]
     refine wpAny_pure ⟨plainId_quiet F.plain_min_loop _,ih (j+1) _ vb c (by omega) lt st1 kp1 (by simp only [argBest,hb,Bool.false_eq_true,if_false];exact pb) hS1 fun v' h2 tk2 pv2 kk2=>?_⟩
     exact fin v' h2 tk2 pv2 fun b o bw bS e=>kk2 b o bw bS (kk b o bw e)
theorem Xpz (W:Walks prog w A.in1 I fp wr n P St)(bt:Nat→Nat→Bool)(Kp:Heap→Prop)(cmp:XCl prog w A.in1 Kp P bt)(S:Addr)(sf:S ∉ fp)
   (kpk:∀h h',Kp h→(∀b o,b ∉ wr→b≠S→h.get? b=some o→h'.get? b=some o)→Kp h') (hn:0<n) {t:Shared} {c:Nat} (st:St 0 t.heap) (kp:Kp t.heap)
   (hS:t.heap.get? S=some { cls:=.type "list",dict:=none,data:=.seq #[] c,slots:=#[] })
   (fin:∀v h' tk,P (argBest bt (n-1)) v→(∀b o,b ∉ wr→b≠S→t.heap.get? b=some o→h'.get? b=some o)→R (.ok (.ret v)) { t with heap:=h',toks:=tk }) :
   codeAny (model prog w) A (.builtin "min.loop" ⟨[.ref I,.none,.ref S],[]⟩) R t:=by
 have sw:S ∉ wr:=fun h=>sf (W.sub _ h)
 have nm:(toString "min"++toString ".loop":String)="min.loop":=by decide
 refine codeAny_builtin F.entry_min_loop ?_
 rw[Around.under_plainId F.plain_min_loop _]
 show wpAny _ A.in1 (seqItems? (.ref S) >>= _) _ _ t
 refine wpAny_bind (wpAny_seqItems hS rfl ?_)
 show wpAny _ A.in1 (tryCatch (pyNext (.ref I)) _ >>= _) _ _ t
 refine wpAny_bind (wpAny_tryCatch (W.item 0 t _ _ hn st fun v h' tk pv st1 kk=>?_))
 have hS1:=kk S _ sw hS
 have kp1:Kp h':=kpk _ _ kp fun b o bw _ e=>kk b o bw e
 show wpAny _ A.in1 (updateSeq S (fun _=>#[v,v]) >>= _) _ _ _
 refine wpAny_bind ?_
 refine wpAny_updateSeq hS1 rfl ?_
 rw[nm]
 refine wpAny_pure ⟨plainId_quiet F.plain_min_loop _,Xsm W bt Kp cmp S sf kpk _ 0 _ v _ rfl hn (W.frame _ _ _ st1 fun b bf o e=>?_) (kpk _ _ kp1 fun b o _ bS e=>(Heap.get?_update_other _ _ (Ne.symm bS)).trans e) pv (Heap.get?_update_self _ hS1 rfl) fun v' h2 tk2 pv2 kk2=>?_⟩
 · exact(Heap.get?_update_other _ _ (fun z:S=b=>sf (by rw[z];exact bf))).trans e
 · exact fin v' h2 tk2 pv2 fun b o bw bS e=>kk2 b o bw bS ((Heap.get?_update_other _ _ (Ne.symm bS)).trans (kk b o bw e))
end
section
variable {prog:Program}{w:World}{A:Around}{E:Value→Shared→Prop}{s:Shared}
theorem Xow {x:Value}{Q:Value→Shared→Prop}
   (h:wpAny (model prog w) A.in1 (pyIter x) (fun itv t=>∃I fp wr n P St bt Kp,itv = .ref I∧Walks prog w A.in1 I fp wr n P St∧St 0 t.heap∧Kp t.heap∧(∀b∈fp,b<t.heap.objs.size)∧0<n∧XCl prog w A.in1 Kp P bt ∧
     (∀h h',Kp h→(∀b o,b ∉ wr→b≠t.heap.objs.size→h.get? b=some o→h'.get? b=some o)→Kp h') ∧
     ∀v h' tk,P (argBest bt (n-1)) v→(∀b o,b ∉ wr→t.heap.get? b=some o→h'.get? b=some o)→Q v { t with heap:=h',toks:=tk }) E s) :
   wpAny (model prog w) A (call (.builtin "min") [x]) Q E s:=by
 have nm:(toString "min"++toString ".loop":String)="min.loop":=by decide
 refine call_function_tree F.kind_min F.plain_min F.entry_min (F.args_min1 _) ?_
 show wpAny _ A.in1 (Builtin.Builtins.bindParams "min" ["key","default"] 0 ⟨[],[]⟩ >>= _) _ _ s
 refine wpAny_bind (wpAny_of_eq (show Builtin.Builtins.bindParams "min" ["key","default"] 0 ⟨[],[]⟩=pure [none,none] from rfl) ?_)
 refine wpAny_bind (wpAny_pure ?_)
 refine wpAny_bind (wpAny_mono h (fun itv t ht=>?_) fun _ _ e=>e)
 obtain⟨I,fp,wr,n,P,St,bt,Kp,rfl,W,st,kp,hfp,hn,cmp,kpk,hQ⟩:=ht
 refine wpAny_bind (wpAny_newObj_type ?_)
 have sf:t.heap.objs.size ∉ fp:=fun hm=>Nat.lt_irrefl _ (hfp _ hm)
 rw[nm]
 refine wpAny_pure ⟨plainId_quiet F.plain_min_loop _,Xpz W bt Kp cmp t.heap.objs.size sf kpk hn (W.frame _ _ _ st fun b _ o e=>Heap.get?_push_of_some _ e) (kpk _ _ kp fun b o _ _ e=>Heap.get?_push_of_some _ e) (Heap.get?_push_size _ rfl) fun v h' tk pv kk=>?_⟩
 exact hQ v h' tk pv fun b o bw e=>kk b o bw (Nat.ne_of_lt (Heap.lt_size e)) (Heap.get?_push_of_some _ e)
end
def Xej (xs:List (List Int)):Nat→Nat
 | 0=>0
 | k+1=>if HT.lexLt (xs.getD (k+1) []) (xs.getD (Xej xs k) []) then k+1 else Xej xs k
theorem Xjc (xs:List (List Int)):∀k,argBest (fun i j=>HT.lexLt (xs.getD i []) (xs.getD j [])) k=Xej xs k
 | 0=>rfl
 | k+1=>by
   unfold argBest Xej
   rw[Xjc xs k]
theorem Xhg (xs:List (List Int)):∀k,Xej xs k≤k
 | 0=>Nat.le_refl 0
 | k+1=>by
   unfold Xej
   have:=Xhg xs k
   split <;> omega
section
variable {X:Cx}
theorem Xqg (hc:X.calm=true)(hu:X.A.units+64<cLine):Xit X (.builtin "min") (fun vs H Q=>∃p us,∃xs:List (List Int),vs=[.ref p]∧H p=some (.lst us)∧Xcc H us (xs.map fun x=>x.map V.int)∧0<xs.length ∧
   ∀t,us[Xej xs (xs.length-1)]?=some (.ref t)→H t=some (.tup ((xs.getD (Xej xs (xs.length-1)) []).map V.int))→Q (.ref t) H):=by
 intro pins s σ H vs us' Q I r h
 obtain⟨p,us,xs,rfl,hp,ta,hn,q⟩:=h
 obtain⟨u,rfl,rx⟩:∃u,us'=[u]∧RelV (.ref p) u:=by
   cases r with
   | cons a b=>cases b;exact⟨_,rfl,a⟩
 cases rx
 obtain⟨its,r1,p1,_⟩:=I.list (SqL.of hp)
 have l1:=r1.length
 have l2:=ta.1
 rw[List.length_map] at l2
 have tups:∀i,i<xs.length→∃t its2,its[i]?=some (.ref t)∧us[i]?=some (.ref t)∧H t=some (.tup ((xs.getD i []).map V.int))∧s.heap.IsTuple t (List.toArray its2)∧IntsAre its2 (xs.getD i []):=fun i hi=>by
   obtain⟨t,e1,e2⟩:=ta.2 i ((xs[i]).map V.int) (by simp [hi])
   obtain⟨u1,g1,q1⟩:=r1.get e1
   cases q1
   obtain⟨its2,r2,p2,_⟩:=I.tuple (SqT.of e2)
   have ex:xs.getD i []=xs[i]:=by simp [hi]
   rw[ex]
   exact⟨t,its2,g1,e1,e2,p2,Xdr r2⟩
 have lt:p<s.heap.objs.size:=by obtain⟨_,e,_⟩:=p1.isList;exact Heap.lt_size e
 refine Xow (wpAny_pyIter_list p1.isList ?_)
 refine⟨s.heap.objs.size,[s.heap.objs.size,p],[s.heap.objs.size],its.toArray.size,fun i v=>its.toArray[i]?=some v,_,fun i j=>HT.lexLt (xs.getD i []) (xs.getD j []),fun (hh:Heap)=>∀(i:Nat) (t:Addr) (its2:List Value),its[i]?=some (Value.ref t)→s.heap.IsTuple t (List.toArray its2)→hh.IsTuple t (List.toArray its2),rfl,Walks.list (A:=X.A.in1) (I.ok.hd hc) _ p (Nat.ne_of_lt lt) its.toArray,
   ⟨⟨_,Heap.get?_push_size _ rfl,rfl,rfl⟩,p1.isList.push _⟩,?_,?_,?_,?_,?_,?_⟩
 · intro i t its2 _ ht
   exact ht.push _
 · intro b hb
   show b<(s.heap.push _).objs.size
   rw[Heap.size_push]
   rcases List.mem_cons.mp hb with z | z
   · rw[z];exact Nat.lt_succ_self _
   · have:b=p:=by simpa using z
     rw[this];exact Nat.lt_succ_of_lt lt
 · rw[List.size_toArray];omega
 · intro i j x y t Q' E' kp pi pj hq
   rw[List.getElem?_toArray] at pi pj
   have hi:i<xs.length:=by have:=(List.getElem?_eq_some_iff.mp pi).1;omega
   have hj:j<xs.length:=by have:=(List.getElem?_eq_some_iff.mp pj).1;omega
   obtain⟨t1,s1,a1,_,_,b1,c1⟩:=tups i hi
   obtain⟨t2,s2,a2,_,_,b2,c2⟩:=tups j hj
   rw[a1] at pi
   rw[a2] at pj
   cases pi
   cases pj
   exact HT.lt_tupInts (kp i t1 s1 a1 b1) (kp j t2 s2 a2 b2) c1 c2 (by show X.A.units+1<cLine;omega) hq
 · intro h h' kp kk i t its2 g ht
   have e0:=kp i t its2 g ht
   obtain⟨o,e,hcl,hd⟩:=ht
   obtain⟨o',e',r'⟩:=e0
   have lt':=Heap.lt_size e
   refine⟨o',kk t o' (fun z=>?_) (Nat.ne_of_lt ?_) e',r'⟩
   · have z':t=s.heap.objs.size:=by simpa using z
     rw[z'] at lt'
     exact Nat.lt_irrefl _ lt'
   · show t<(s.heap.push _).objs.size
     rw[Heap.size_push]
     exact Nat.lt_succ_of_lt lt'
 · intro v h' tk pv kk
   rw[List.size_toArray,←l1,l2,Xjc,List.getElem?_toArray] at pv
   have hm:Xej xs (xs.length-1)<xs.length:=by have:=Xhg xs (xs.length-1);omega
   obtain⟨t,its2,a1,a2,a3,_,_⟩:=tups _ hm
   rw[a1] at pv
   cases pv
   refine⟨.ref t,H,?_,rfl,q t a2 a3⟩
   refine I.kept (t':=tk) fun b o e=>kk b o (fun z=>?_) (Heap.get?_push_of_some _ e)
   have:=Heap.lt_size e
   have z':b=s.heap.objs.size:=by simpa using z
   rw[z'] at this
   exact Nat.lt_irrefl _ this
end
end Stow
namespace Stow
open PySem L2 PyProof.Rows
structure InsK (K:PySem.W.Frag)(C:Addr):Prop where
 cl:Cls K C
 ha:PySem.W.findIn K (.ref C) "__class__"=some (some (.builtin "object.__class__"))
 hn:PySem.W.specialIn K (.builtin "object.__class__") "__get__"=some (some (.builtin "getset_descriptor.__get__"))
 htk:PySem.W.takesIn K (.builtin "object.__class__")=some true
 hm:PySem.W.mroIn K C (.type "object")=some true
section
variable {X:Cx}
theorem Xlt:Xit X (.builtin "isinstance") (fun xs H Q=>∃a C dx fs C' b,xs=[.ref a,.ref C']∧H a=some (.ins C dx fs)∧InsK X.K C∧PySem.W.kitOne X.K (.ref C) (.ref C')=some b∧Q (.bl b) H):=by
 intro pins s σ H xs us Q I r h
 obtain⟨a,C,dx,fs,C',b,rfl,ha,Z,e,q⟩:=h
 obtain⟨u,u',rfl,rx,ry⟩:=XHh r
 cases (show u'=Value.ref C' from ry)
 exact Xly I rx (TyOf.ins ha Z.cl Z.ha Z.hn Z.htk Z.hm) e fun tk=>⟨.bl b,H,I.tok tk,rfl,q⟩
end
section
variable {K:PySem.W.Frag}{σ:L2.St}{H:Hp}{Q:VK}{D:Ends}
theorem r_isiO {a C dx C':Addr}{fs:List (Str×V)}{b:Bool}{P:Bool→Prop}(h:H a=some (.ins C dx fs))(z:InsK K C)(e:PySem.W.kitOne K (.ref C) (.ref C')=some b)(q:P b) :
   ∃a' C1 dx' fs' C2 b',[V.ref a,V.ref C']=[V.ref a',V.ref C2]∧H a'=some (.ins C1 dx' fs')∧InsK K C1∧PySem.W.kitOne K (.ref C1) (.ref C2)=some b'∧P b':=⟨a,C,dx,fs,C',b,rfl,h,z,e,q⟩
theorem r_sat {a C dx:Addr}{fs:List (Str×V)}{f:Str}{R:Addr→Addr→Addr→List (Str×V)→Prop}(h:H a=some (.ins C dx fs))(c:Cls K C)(n:Xcp K C f)(l:fs.length<1000)(q:R a C dx fs) :
   ∃a' C' dx' fs',V.ref a=V.ref a'∧H a'=some (.ins C' dx' fs')∧Cls K C'∧Xcp K C' f∧fs'.length<1000∧R a' C' dx' fs':=⟨a,C,dx,fs,rfl,h,c,n,l,q⟩
theorem r_make {C:Addr}{sp:Sp}{E:XK}{t:TA}(h:t σ H fun vs H1=>∀x dx,H1 x=none→H1 dx=none→dx≠x→sp (.ref x::vs) (upd (upd H1 dx (.own x)) x (.ins C dx [])) (fun v H2=>v = .non∧Q (.ref x) H2) E):Xwj C sp [] E t σ H Q:=by
 unfold Xwj
 simp only [List.append_nil]
 exact h
end
section
variable {X:Cx}
end
def Xaz (x:Addr)(H H':Hp):Prop:=∀b o,b≠x→H b=some o→H' b=some o
theorem Xaz.refl {x:Addr}{H:Hp}:Xaz x H H:=fun _ _ _ h=>h
theorem Xaz.of {x:Addr}{H H':Hp}(s:Same H H'):Xaz x H H':=fun b o _ h=>s b o h
theorem Xaz.trans {x:Addr}{H H' H'':Hp}(s:Xaz x H H')(t:Xaz x H' H''):Xaz x H H'':=fun b o n h=>t b o n (s b o n h)
theorem Xaz.put {x:Addr}{H H':Hp}{o:HO}(s:Xaz x H H'):Xaz x H (upd H' x o):=fun b o' n h=>look_ne n (s b o' n h)
end Stow
set_option Elab.async false
set_option linter.all false
set_option maxRecDepth 100000
set_option maxHeartbeats 4000000
namespace Stow
end Stow
namespace Stow
open PySem L2 PyProof.Rows
structure MethD (P:Program)(w:World)(K:PySem.W.Frag)(mg:Str→Option Value)(base:Heap)(C:Addr)(m:Str)(j:Nat)(ps:List Str)(dvs:List V)(sp:Sp):Prop where
 all:Methx P w K mg base C m j ps [] sp
 less:Methx P w K mg base C m j ps dvs sp
theorem MethD.made {P:Program}{w:World}{K:PySem.W.Frag}{mg:Str→Option Value}{base:Heap}{C:Addr}{m:Str}{j:Nat}{ps:List Str}{dvs:List V}{sp:Sp}{f:Addr}{fd:FuncData}{ds:List Value}
   (F:FnOk P w K mg base (CXe P w) j f fd ps sp) (M:Meth K C m f) (b:Xcy K fd ps []) (b':Xcy K fd ps ds) (v:Vals dvs ds) (c:Cls K C):MethD P w K mg base C m j ps dvs sp :=
 ⟨⟨⟨f,fd,[],F,M,b,.nil⟩,c⟩,⟨⟨f,fd,ds,F,M,b',v⟩,c⟩⟩
theorem FunD.bindsA {K:PySem.W.Frag}{x qual:Str}{st:Stmt}{T:Addr}{f:Addr}{fd:FuncData}{ps:List Str}{ds:List Value}{tc:Value}{td:Option Addr}{tn:Nat}{tsl:Array (Option Value)}(F:FunD K x qual st (.ref T) f fd)
   (lt:K.lookup T=some ⟨tc,td,.seq ds.toArray tn,tsl⟩)
   (h:∀(kV doc pm:Value) (an:Option Addr) (cdv ct:Value) (us:List Value),us.length=ps.length→∃k:Option (Array Value)→Sem (List (Str×Value)),
     bindArgs (PySem.W.fnOf x qual (Xbr st) (Xbe st) (Xae st) (.ref T) kV doc pm an cdv ct) ⟨us,[]⟩=seqItems? (.ref T) >>= k∧k (some ds.toArray)=pure (ps.zip us)):Xcy K fd ps []:=by
 obtain⟨oc,od,kV,doc,pm,an,cdv,ct,osl,rfl,lk,hcd⟩:=F.ex
 intro s us X hl
 rw[List.append_nil] at hl ⊢
 obtain⟨k,h1,h2⟩:=h kV doc pm an cdv ct us hl
 exact .of_defaults rfl (X _ _ lt) rfl h1 h2
abbrev TXS:=Ends→XK→L2.St→Hp→Prop
def PXS (X:Cx)(ss:List Stmt)(t:TXS):Prop:=∀(pins:List (Addr×Obj)) (s:Shared) (σ:L2.St) (H:Hp) (D:Ends) (EX:XK) (Qp:Flow→Shared→Prop) (W:Value→Shared→Prop),Inv X pins σ H s→t D EX σ H→(∀f s',SP X pins D f s'→Qp f s') →
 (∀H1 s1 y s',Inv X pins σ H1 s1→CXe X.prog X.w X.stack H1 s1 EX y s'→W y s')→wpAny (model X.prog X.w) X.A (execs ss X.env) Qp W s
def xSet (i:Nat)(t:TX):TXS:=fun D EX σ H=>t σ H (fun v H2=>D.nx (σ.set i (some v)) H2) EX
def xIf (c:TT)(t u:TXS):TXS:=fun D EX σ H=>c σ H fun b H1=>if b=true then t D EX σ H1 else u D EX σ H1
def XNj (t:TXS)(th:TH):TS:=fun D σ H=>t D (fun c od H2=>∃C,c = .ref C∧∀x,H2 x=none→th x C D σ (upd H2 x (ExcO x C od))) σ H
section
variable {X:Cx}{e c:Expr}{t:TX}{tc:TT}{ta tb ts:TXS}{a b ss:List Stmt}{pos epos:Pos}{hs:List ExceptHandler}{th:TH}
theorem Xsg {i:Nat}{y:Str}{py:Pos}(hN:X.N.Nodup)(hi:X.N[i]?=some y)(hy:Loc X.env.scope y)(he:PX X e t)(hsw:swapsWith e (some (.Name y py)) epos.line X.env=pure false:=by rfl)
   (hf:X.fn y=true∨X.env.scope.names.lookup y=some .local:=by first | exact .inl rfl | exact .inr rfl | assumption):PXS X [.Assign [.Name y py] e epos] (xSet i t):=by
 intro pins s σ H D EX Qp W I h hv hx
 exact wpAny_execs_cons (wpAny_Assign_Name (he pins s σ H _ _ _ _ I h (fun u s' ⟨v,H2,I2,r2,q2⟩=>Xjt I2 hN hi hy r2 (fun s3 I3=>wpAny_execs_nil (hv .next s3 ⟨_,H2,I3,q2⟩)) hf) hx) hsw)
theorem XNz (hc:PT X.nox c tc)(ha:PXS X a ta)(hb:PXS X b tb):PXS X [.If c a b pos] (xIf tc ta tb):=by
 intro pins s σ H D EX Qp W I h hv hx
 refine wpAny_execs_cons (wpAny_If (wpAny_mono (hc pins s σ H _ (I.wish _) h) (fun d s1 ⟨H1,I1',q1⟩=>?_) (fun _ _ z=>z.elim)))
 have I1:=I1'.unwish
 have hv':∀f s',SP X pins D f s'→(match f with | .next=>wpAny (model X.prog X.w) X.A (execs [] X.env) Qp W s' | f=>Qp f s'):=fun f s' z=>by
   cases f with
   | next=>exact wpAny_execs_nil (hv .next s' z)
   | brk=>exact hv .brk s' z
   | cont=>exact hv .cont s' z
   | ret u=>exact hv (.ret u) s' z
 cases d with
 | true=>exact ha pins s1 σ H1 D EX _ W I1 q1 hv' hx
 | false=>exact hb pins s1 σ H1 D EX _ W I1 q1 hv' hx
theorem XGi {h₀:ExceptHandler}(he:PXS X ss ts)(hst:X.stack=X.env::X.outer∧X.env.frame=some X.env.locals)(hh:PH X (h₀::hs) th):PS X (.Try ss (h₀::hs) [] [] pos) (XNj ts th):=by
 intro pins s σ H D I h
 refine wpAny_Try_except (he pins s σ H D _ _ _ I h (fun f s' z=>?_) (fun H1 s1 y s' I1 hq=>?_))
 · cases f with
   | next=>exact wpAny_execs_nil z
   | brk=>exact z
   | cont=>exact z
   | ret u=>exact z
 · refine XKd I1 hst hq fun x C od T h2 H2 ex ⟨C',ec,q⟩ t2 J2 again=>?_
   subst ex
   cases ec
   exact hh pins _ σ _ D x C T od I.ok J2 t2 (fun h3 u3 t3=>(again h3 u3 t3).2) (q x (again h2 (Upto.refl _ _ _) t2).1)
end
section
variable {K:PySem.W.Frag}{σ:L2.St}{H:Hp}{Q:VK}{D:Ends}{EX:XK}
theorem r_tryS {t:TXS}{th:TH}(h:t D (fun c od H2=>∃C,c = .ref C∧∀x,H2 x=none→th x C D σ (upd H2 x (ExcO x C od))) σ H):XNj t th D σ H:=h
theorem r_xSet {i:Nat}{t:TX}(h:t σ H (fun v H2=>D.nx (σ.set i (some v)) H2) EX):xSet i t D EX σ H:=h
theorem r_xIf {c:TT}{t u:TXS}(h:c σ H fun b H1=>if b=true then t D EX σ H1 else u D EX σ H1):xIf c t u D EX σ H:=h
end
end Stow
set_option Elab.async false
set_option linter.all false
set_option maxRecDepth 100000
set_option maxHeartbeats 4000000
namespace Stow
theorem Xbc.app {cs ds:List Int}{ps qs:List Pc}(h0:Xfs ps cs.length)(m:Xbc cs ps)(h1:Xma qs 0)(k:Xbc ds qs) :
   Xbc (cs++ds) (ps++qs.map fun q=>⟨q.a+cs.length,q.l,q.v⟩):=by
 intro p hp
 rcases List.mem_append.mp hp with h | h
 · obtain⟨a0,a1,a2⟩:=h0 p h
   obtain⟨m1,m2⟩:=m p h
   exact⟨by rw[List.getElem?_append_left (by omega)];exact m1,by rw[List.getElem?_append_left (by omega)];exact m2⟩
 · obtain⟨q,hq,rfl⟩:=List.mem_map.mp h
   obtain⟨b0,b1⟩:=h1 q hq
   obtain⟨m1,m2⟩:=k q hq
   constructor
   · show (cs++ds)[(q.a+cs.length).toNat]?=some (mkOf q.l q.v)
     rw[List.getElem?_append_right (by omega),show (q.a+cs.length).toNat-cs.length=q.a.toNat by omega]
     exact m1
   · show (cs++ds)[(q.a+cs.length+q.l-1).toNat]?=some (mkOf q.l q.v)
     rw[List.getElem?_append_right (by omega),show (q.a+cs.length+q.l-1).toNat-cs.length=(q.a+q.l-1).toNat by omega]
     exact m2
end Stow
namespace Stow
open PySem L2 PyProof.Rows
section
variable {X:Cx}
end
section
variable {X:Cx}{tg:Expr}
end
end Stow
set_option Elab.async false
set_option linter.all false
set_option maxRecDepth 100000
set_option maxHeartbeats 4000000
namespace Stow
open PySem L2 PyProof.Rows
section
variable {prog:Program}{w:World}{A:Around}{R:Result→Shared→Prop}{I:Addr}{fp wr:List Addr}{n:Nat}{P:Nat→Value→Prop}{St:Nat→Heap→Prop}{kw:List (Str×Value)}
end
section
variable {prog:Program}{w:World}{A:Around}{E:Value→Shared→Prop}{s:Shared}
end
section
variable {X:Cx}
end
end Stow
namespace Stow
open PySem L2 PyProof.Rows
section
variable {K:PySem.W.Frag}{σ:L2.St}{H:Hp}{Q:VK}
theorem XFs {us:List V}{ps:List Pc}(h:Xbh H us ps){i:Nat}{v:V}(hv:us[i]?=some v):∃t z,v = .ref t∧ps[i]?=some z∧H t=some (.tup [.int z.a,.int z.l,.bl z.v]):=by
 have hi:i<ps.length:=by rw[←h.1];exact(List.getElem?_eq_some_iff.mp hv).1
 obtain⟨t,e1,e2⟩:=h.2 i ps[i] (by simp [hi])
 exact⟨t,ps[i],Option.some.inj (hv.symm.trans e1),by simp [hi],e2⟩
end
def Xox (H:Hp)(v:V)(o:Option (List Int)):Prop:=match o with
 | none=>v = .non
 | some x=>∃t,v = .ref t∧H t=some (.tup (x.map V.int))
theorem Xox.same {H H':Hp}{v:V}{o:Option (List Int)}(h:Xox H v o)(s:Same H H'):Xox H' v o:=by
 cases o with
 | none=>exact h
 | some x=>obtain⟨t,e1,e2⟩:=h;exact⟨t,e1,s t _ e2⟩
theorem Xox.mono {H H':Hp}{v:V}{o:Option (List Int)}(h:Xox H v o)(k:∀b xs,H b=some (.tup xs)→H' b=some (.tup xs)):Xox H' v o:=by
 cases o with
 | none=>exact h
 | some x=>obtain⟨t,e1,e2⟩:=h;exact⟨t,e1,k t _ e2⟩
end Stow
namespace Stow
open PySem L2 PyProof.Rows
theorem Xaz.new {x t:Addr}{H H':Hp}{o:HO}(s:Xaz x H H')(ht:H' t=none):Xaz x H (upd H' t o):=fun b o' n h=>look_put ht (s b o' n h)
theorem Xaz.tups {x:Addr}{H H':Hp}{l us:List V}{xs:List (List V)}(s:Xaz x H H')(hx:H x=some (.lst l))(h:Xcc H us xs):Xcc H' us xs:=h.mono fun b ys e=>s b _ (fun z=>by rw[z,hx] at e;cases e) e
end Stow
set_option Elab.async false
set_option linter.all false
set_option maxRecDepth 100000
set_option maxHeartbeats 4000000
namespace Stow
open PySem L2 PyProof.Rows
theorem XJe (xs:List V)(j:Nat)(h:j≤xs.length):cutV xs none (some (j:Int))=xs.take j:=by
 unfold cutV
 have e1:=HT.sIx_nat xs.length xs.length j
 rw[e1,HT.sIx_none,Nat.min_eq_left h]
 rfl
end Stow
namespace Stow
open PySem L2 PyProof.Rows
theorem Xax.app {X Y:List Pc}(hX:Xax X)(hY:Xax Y)(hj:∀x y,X.getLast?=some x→Y[0]?=some y→x.v=true∨y.v=true):Xax (X++Y):=fun j y z h1 h2=>by
 by_cases e1:j+1<X.length
 · rw[List.getElem?_append_left (by omega)] at h1
   rw[List.getElem?_append_left e1] at h2
   exact hX j y z h1 h2
 · by_cases e2:j+1=X.length
   · rw[List.getElem?_append_left (by omega)] at h1
     rw[List.getElem?_append_right (by omega),show j+1-X.length=0 by omega] at h2
     refine hj y z ?_ h2
     rw[List.getLast?_eq_getElem?,show X.length-1=j by omega]
     exact h1
   · rw[List.getElem?_append_right (by omega)] at h1 h2
     rw[show j+1-X.length=(j-X.length)+1 by omega] at h2
     exact hY _ y z h1 h2
theorem Xax.left {X Y:List Pc}(h:Xax (X++Y)):Xax X:=fun j y z h1 h2=>by
 have l1:=(List.getElem?_eq_some_iff.mp h1).1
 have l2:=(List.getElem?_eq_some_iff.mp h2).1
 exact h j y z (by rw[List.getElem?_append_left l1];exact h1) (by rw[List.getElem?_append_left l2];exact h2)
theorem Xax.right {X Y:List Pc}(h:Xax (X++Y)):Xax Y:=fun j y z h1 h2=>h (X.length+j) y z (by rw[List.getElem?_append_right (by omega),show X.length+j-X.length=j by omega];exact h1) (by rw[List.getElem?_append_right (by omega),show X.length+j+1-X.length=j+1 by omega];exact h2)
theorem Xax.mid {X Y:List Pc}{x y:Pc}(h:Xax (X++Y))(hx:X.getLast?=some x)(hy:Y[0]?=some y):x.v=true∨y.v=true:=by
 rw[List.getLast?_eq_getElem?] at hx
 have l1:=(List.getElem?_eq_some_iff.mp hx).1
 refine h (X.length-1) x y (by rw[List.getElem?_append_left l1];exact hx) ?_
 rw[List.getElem?_append_right (by omega),show X.length-1+1-X.length=0 by omega]
 exact hy
theorem Xct (z:Pc):Xax [z]:=fun j y x h1 h2=>by
 have:=(List.getElem?_eq_some_iff.mp h2).1
 simp at this
theorem Xor:Xax []:=fun j y x h1 h2=>by simp at h1
theorem Xfo:∀(R X:List Pc),Xax (X++R)→R.foldl Xav X=X++R
 | [],X,_=>by simp
 | w::R,X,h=>by
   rw[List.foldl_cons]
   have e:Xav X w=X++[w]:=by
     rcases Xbk X with e0 | ⟨D,y,e0⟩
     · subst e0;rfl
     · subst e0
       have:=h.mid (x:=y) (y:=w) (by simp) (by simp)
       rcases this with hv | hv
       · exact Xce hv
       · exact Xbs hv
   rw[e,Xfo R (X++[w]) (by rw[List.append_assoc];exact h),List.append_assoc]
   rfl
def Xft (ds:List Pc):List Pc:=match ds.getLast? with
 | some y=>if y.v=true then ds else ds.dropLast
 | none=>ds
def Xeo:List Pc→List Pc
 | []=>[]
 | w::R=>if w.v=true then w::R else R
theorem Xdw {w:Pc}{R:List Pc}(h:w.v=true):Xeo (w::R)=w::R:=by show (if w.v=true then w::R else R)=_;rw[if_pos h]
theorem Xdx {w:Pc}{R:List Pc}(h:w.v=false):Xeo (w::R)=R:=by show (if w.v=true then w::R else R)=_;rw[h,if_neg Bool.false_ne_true]
theorem Xdz {D:List Pc}{y:Pc}(h:y.v=true):Xft (D++[y])=D++[y]:=by unfold Xft;rw[List.getLast?_concat];simp only;rw[if_pos h]
theorem Xds {D:List Pc}{y:Pc}(h:y.v=false):Xft (D++[y])=D:=by unfold Xft;rw[List.getLast?_concat];simp only;rw[h,if_neg Bool.false_ne_true,List.dropLast_concat]
theorem Xpm {ds rs:List Pc}{z:Pc}{s e:Int}(c:Xai s (ds++z::rs) e):Xai s (Xft ds) (fbeg (ds++z::rs) ds.length z)∧fbeg (ds++z::rs) ds.length z≤z.a∧s≤fbeg (ds++z::rs) ds.length z:=by
 obtain⟨mm,c1,⟨ea,h1,h3,c2⟩⟩:∃mm,Xai s ds mm∧Xai mm (z::rs) e:=by
   have key:∀{A B:List Pc} {s e:Int},Xai s (A++B) e→∃m,Xai s A m∧Xai m B e:=by
     intro A
     induction A with
     | nil=>intro B s e c;exact⟨s,rfl,c⟩
     | cons y r ih =>
       rintro B s e ⟨g1,g2,g3,g4⟩
       obtain⟨m,k1,k2⟩:=ih g4
       exact⟨m,⟨g1,g2,g3,k1⟩,k2⟩
   exact key c
 rw[←ea] at c1
 have hl:=c1.le
 rcases Xbk ds with e0 | ⟨D,y,e0⟩
 · subst e0
   exact⟨c1,Int.le_refl _,by show s≤z.a;rw[List.length_nil] at hl;omega⟩
 · subst e0
   obtain⟨k1,k2,k3,k4⟩:=c1.unsnoc
   have hy:(D++[y]++z::rs)[D.length]?=some y:=by rw[List.append_assoc,List.getElem?_append_right (Nat.le_refl _),Nat.sub_self];rfl
   rw[List.length_append,List.length_singleton]
   have kl:=k1.le
   cases hv:y.v with
   | true=>rw[Xfy hy hv,Xdz hv];exact⟨c1,Int.le_refl _,by omega⟩
   | false=>rw[Xge hy hv,Xds hv];exact⟨k1,by omega,by omega⟩
theorem Xgj {ds rs:List Pc}{z:Pc}{s e:Int}(c:Xai s (ds++z::rs) e):Xai (fend (ds++z::rs) ds.length z) (Xeo rs) e∧z.a+z.l≤fend (ds++z::rs) ds.length z∧fend (ds++z::rs) ds.length z≤e:=by
 have key:∀{A B:List Pc} {s e:Int},Xai s (A++B) e→∃m,Xai s A m∧Xai m B e:=by
   intro A
   induction A with
   | nil=>intro B s e c;exact⟨s,rfl,c⟩
   | cons y r ih =>
     rintro B s e ⟨g1,g2,g3,g4⟩
     obtain⟨m,k1,k2⟩:=ih g4
     exact⟨m,⟨g1,g2,g3,k1⟩,k2⟩
 obtain⟨mm,c1,⟨ea,h1,h3,c2⟩⟩:=key c
 rw[←ea] at c2
 cases rs with
 | nil =>
   have hn:(ds++[z])[ds.length+1]?=none:=List.getElem?_eq_none (by simp)
   have c2:z.a+z.l=e:=c2
   rw[Xfw hn]
   exact⟨c2,Int.le_refl _,by omega⟩
 | cons w R =>
   have hw:(ds++z::w::R)[ds.length+1]?=some w:=by rw[List.getElem?_append_right (by omega),show ds.length+1-ds.length=1 by omega];rfl
   have hl:=c2.le
   rw[List.length_cons] at hl
   cases hv:w.v with
   | true =>
     rw[Xeu hw hv,Xdw hv]
     exact⟨c2,Int.le_refl _,by omega⟩
   | false =>
     rw[Xev hw hv,Xdx hv]
     obtain⟨g1,g2,g3,g4⟩:=c2
     have hl2:=g4.le
     refine⟨?_,by omega,by omega⟩
     rw[g1]
     exact g4
theorem Xsf {ds:List Pc}{p:Pc}(h:p∈Xft ds):p∈ds:=by
 rcases Xbk ds with e0 | ⟨D,y,e0⟩
 · subst e0;exact h
 · subst e0
   cases hv:y.v with
   | true=>rw[Xdz hv] at h;exact h
   | false=>rw[Xds hv] at h;exact List.mem_append.mpr (.inl h)
theorem Xlb {rs:List Pc}{p:Pc}(h:p∈Xeo rs):p∈rs:=by
 cases rs with
 | nil=>cases h
 | cons w R =>
   cases hv:w.v with
   | true=>rw[Xdw hv] at h;exact h
   | false=>rw[Xdx hv] at h;exact List.mem_cons_of_mem _ h
def modF (ps:List Pc)(k:Int):List Pc:=ps.map fun p=>(⟨p.a,p.l,p.v&&!decide (p.a=k)⟩:Pc)
theorem Xjk {ds rs:List Pc}{z:Pc}{s e:Int}(c:Xai s (ds++z::rs) e):modF (ds++z::rs) z.a=ds++⟨z.a,z.l,false⟩::rs:=by
 have hid:∀p∈ds++rs,(⟨p.a,p.l,p.v&&!decide (p.a=z.a)⟩:Pc)=p:=fun p hp=>by
   have hne:p.a≠z.a:=fun h=>by
     have hp2:p∈ds++z::rs:=by
       rcases List.mem_append.mp hp with g | g
       · exact List.mem_append.mpr (.inl g)
       · exact List.mem_append.mpr (.inr (List.mem_cons_of_mem _ g))
     obtain⟨i,hi⟩:=List.getElem?_of_mem hp2
     have hz:(ds++z::rs)[ds.length]?=some z:=by rw[List.getElem?_append_right (Nat.le_refl _),Nat.sub_self];rfl
     have:=Xgb c hi hz h
     subst this
     -- p stands where z stands,so p is not elsewhere
     rcases List.mem_append.mp hp with g | g
     · obtain⟨j,hj⟩:=List.getElem?_of_mem g
       have hjl:=(List.getElem?_eq_some_iff.mp hj).1
       have:=Xgb c (show (ds++z::rs)[j]?=some p by rw[List.getElem?_append_left hjl];exact hj) hz h
       omega
     · obtain⟨j,hj⟩:=List.getElem?_of_mem g
       have:=Xgb c (show (ds++z::rs)[ds.length+1+j]?=some p by rw[List.getElem?_append_right (by omega),show ds.length+1+j-ds.length=j+1 by omega,List.getElem?_cons_succ];exact hj) hz h
       omega
   rw[decide_eq_false hne]
   simp
 unfold modF
 rw[List.map_append,List.map_cons]
 have e1:ds.map (fun p=>(⟨p.a,p.l,p.v&&!decide (p.a=z.a)⟩:Pc))=ds:=by
   have:ds.map (fun p=>(⟨p.a,p.l,p.v&&!decide (p.a=z.a)⟩:Pc))=ds.map id:=List.map_congr_left fun p hp=>hid p (List.mem_append.mpr (.inl hp))
   rw[this,List.map_id]
 have e2:rs.map (fun p=>(⟨p.a,p.l,p.v&&!decide (p.a=z.a)⟩:Pc))=rs:=by
   have:rs.map (fun p=>(⟨p.a,p.l,p.v&&!decide (p.a=z.a)⟩:Pc))=rs.map id:=List.map_congr_left fun p hp=>hid p (List.mem_append.mpr (.inr hp))
   rw[this,List.map_id]
 rw[e1,e2]
 simp
theorem Xik {w:List Pc}(h:Xax w):Xax (Xeo w)∧∀y,(Xeo w)[0]?=some y→y.v=true:=by
 cases w with
 | nil=>exact⟨h,fun y hy=>by simp [Xeo] at hy⟩
 | cons z R =>
   cases hv:z.v with
   | true =>
     rw[Xdw hv]
     refine⟨h,fun y hy=>?_⟩
     have ey:y=z:=by simpa using hy.symm
     rw[ey]
     exact hv
   | false =>
     rw[Xdx hv]
     refine⟨Xax.right (X:=[z]) h,fun y hy=>?_⟩
     have:=Xax.mid (X:=[z]) (Y:=R) (x:=z) (y:=y) h rfl hy
     exact this.resolve_left (by rw[hv];exact Bool.false_ne_true)
theorem Xzw {cs:List Int}{ds rs:List Pc}{z:Pc}(c:Xai 0 (ds++z::rs) cs.length)(m:Xbc cs (ds++z::rs))(na:Xax (ds++z::rs))(hv:z.v=true) :
   Xai 0 (Xcr (modF (ds++z::rs) z.a)) cs.length∧Xax (Xcr (modF (ds++z::rs) z.a))∧Xbc (lfI cs (fbeg (ds++z::rs) ds.length z) (fend (ds++z::rs) ds.length z)) (Xcr (modF (ds++z::rs) z.a)):=by
 obtain⟨b1,b2,b3⟩:=Xpm c
 obtain⟨e1,e2,e3⟩:=Xgj c
 have zl:1≤z.l:=(c.mem z (by simp)).2.1
 have hj:Xcr (modF (ds++z::rs) z.a)=Xft ds++(fr (fbeg (ds++z::rs) ds.length z) (fend (ds++z::rs) ds.length z)++Xeo rs):=by
   rw[Xjk c]
   unfold fr
   rw[if_neg (by omega)]
   have hds:Xax ds:=na.left
   have hrs:Xax rs:=Xax.right (X:=ds++[z]) (by rw[List.append_assoc];exact na)
   obtain⟨hR1,hR2⟩:=Xik hrs
   unfold Xcr
   rw[List.foldl_append,List.foldl_cons]
   have h0:ds.foldl Xav []=ds:=by
     have:=Xfo ds [] (by simpa using hds)
     simpa using this
   rw[h0]
   -- the step at the piece itself
   have h1:∃l1,Xav ds ⟨z.a,z.l,false⟩=Xft ds++[⟨fbeg (ds++z::rs) ds.length z,l1,false⟩]∧fbeg (ds++z::rs) ds.length z+l1=z.a+z.l:=by
     rcases Xbk ds with e0 | ⟨D,y,e0⟩
     · subst e0
       exact⟨z.l,rfl,rfl⟩
     · subst e0
       have hy:(D++[y]++z::rs)[D.length]?=some y:=by rw[List.append_assoc,List.getElem?_append_right (Nat.le_refl _),Nat.sub_self];rfl
       have hn:=Xcg c hy (show (D++[y]++z::rs)[D.length+1]?=some z by rw[List.getElem?_append_right (by simp),show D.length+1-(D++[y]).length=0 by simp];rfl)
       rw[List.length_append,List.length_singleton]
       cases hvy:y.v with
       | true=>exact⟨z.l,by rw[Xfy hy hvy,Xdz hvy];exact Xce hvy,by rw[Xfy hy hvy]⟩
       | false=>exact⟨y.l+z.l,by rw[Xge hy hvy,Xds hvy];exact Xbz hvy rfl,by rw[Xge hy hvy];omega⟩
   obtain⟨l1,h1,h1'⟩:=h1
   rw[h1]
   have hfl:∀x y,(Xft ds).getLast?=some x→[(⟨fbeg (ds++z::rs) ds.length z,fend (ds++z::rs) ds.length z-fbeg (ds++z::rs) ds.length z,false⟩:Pc)][0]?=some y→x.v=true∨y.v=true:=fun x y hx hy=>by
     left
     rcases Xbk ds with e0 | ⟨D,w,e0⟩
     · subst e0;simp [Xft] at hx
     · subst e0
       cases hvy:w.v with
       | true =>
         rw[Xdz hvy] at hx
         have ex:x=w:=by simpa using hx.symm
         rw[ex]
         exact hvy
       | false =>
         rw[Xds hvy] at hx
         have h2:Xax (D++[w]):=hds
         exact(h2.mid hx (by rfl)).resolve_right (by rw[hvy];exact Bool.false_ne_true)
   have hflN:Xax (Xft ds):=by
     rcases Xbk ds with e0 | ⟨D,w,e0⟩
     · subst e0;exact hds
     · subst e0
       cases hvy:w.v with
       | true=>rw[Xdz hvy];exact hds
       | false=>rw[Xds hvy];exact hds.left
   have hall:Xax ((Xft ds++[(⟨fbeg (ds++z::rs) ds.length z,fend (ds++z::rs) ds.length z-fbeg (ds++z::rs) ds.length z,false⟩:Pc)])++Xeo rs) :=
     Xax.app (hflN.app (Xct _) hfl) hR1 fun x y hx hy=>.inr (hR2 y hy)
   cases rs with
   | nil =>
     have hn:(ds++[z])[ds.length+1]?=none:=List.getElem?_eq_none (by simp)
     rw[Xfw hn] at *
     have el:l1=z.a+z.l-fbeg (ds++[z]) ds.length z:=by omega
     rw[el]
     simp [Xeo]
   | cons w R =>
     have hw:(ds++z::w::R)[ds.length+1]?=some w:=by rw[List.getElem?_append_right (by omega),show ds.length+1-ds.length=1 by omega];rfl
     have hnx:=Xcg c (show (ds++z::w::R)[ds.length]?=some z by rw[List.getElem?_append_right (Nat.le_refl _),Nat.sub_self];rfl) hw
     cases hvw:w.v with
     | true =>
       rw[Xeu hw hvw] at *
       have el:l1=z.a+z.l-fbeg (ds++z::w::R) ds.length z:=by omega
       rw[el]
       have eR:Xeo (w::R)=w::R:=Xdw hvw
       rw[eR] at hall ⊢
       rw[Xfo (w::R) _ hall,List.append_assoc]
     | false =>
       rw[Xev hw hvw] at *
       have eR:Xeo (w::R)=R:=Xdx hvw
       rw[eR] at hall ⊢
       rw[List.foldl_cons,Xbz rfl hvw]
       have el:l1+w.l=w.a+w.l-fbeg (ds++z::w::R) ds.length z:=by omega
       show List.foldl Xav (Xft ds++[⟨fbeg (ds++z::w::R) ds.length z,l1+w.l,false⟩]) R=_
       rw[el,Xfo R _ hall,List.append_assoc]
 refine⟨Xim ?_,Xnb _,?_⟩
 · rw[Xjk c]
   obtain⟨i1,i2⟩:=(show Xai 0 (Xft ds) _∧True from ⟨b1,trivial⟩)
   have key:∀(A:List Pc) (s:Int),Xai s (A++z::rs) cs.length→Xai s (A++⟨z.a,z.l,false⟩::rs) cs.length:=by
     intro A
     induction A with
     | nil=>rintro s ⟨g1,g2,g3,g4⟩;exact⟨g1,g2,(fun h=>by cases h),g4⟩
     | cons y r ih=>rintro s ⟨g1,g2,g3,g4⟩;exact⟨g1,g2,g3,ih _ g4⟩
   exact key ds 0 c
 · rw[hj]
   refine Xbc.layF b3 (by omega) e3 (b1.endBy (Int.le_refl _)) e1.fromOn (m.sub fun p hp=>?_)
   rcases List.mem_append.mp hp with g | g
   · exact List.mem_append.mpr (.inl (Xsf g))
   · exact List.mem_append.mpr (.inr (List.mem_cons_of_mem _ (Xlb g)))
def rg1 (k L e:Int)(p:Pc):List Pc:=(if p.a<k∨e≤p.a then [p] else [])++(if p.a=k then [⟨k,L,true⟩] else [])++(if p.a=k∧k+L<e then [⟨k+L,e-k-L,false⟩] else [])
def regF (ps:List Pc)(k L e:Int):List Pc:=(ps.map (rg1 k L e)).flatten
theorem Xhh (A B:List Pc)(k L e:Int):regF (A++B) k L e=regF A k L e++regF B k L e:=by unfold regF;rw[List.map_append,List.flatten_append]
theorem Xkd {A:List Pc}{k L e:Int}(h:∀p∈A,p.a≠k∧(p.a<k∨e≤p.a)):regF A k L e=A:=by
 induction A with
 | nil=>rfl
 | cons p r ih =>
   have h1:=h p List.mem_cons_self
   have e1:rg1 k L e p=[p]:=by
     unfold rg1
     rw[if_pos h1.2,if_neg h1.1,if_neg (fun z=>h1.1 z.1)]
     rfl
   rw[show p::r=[p]++r from rfl,Xhh,ih fun q hq=>h q (List.mem_cons_of_mem _ hq)]
   congr 1
   unfold regF
   simp [e1]
theorem Xex:∀{A B:List Pc} {s e:Int},Xai s (A++B) e→∃m,Xai s A m∧Xai m B e
 | [],B,s,e,c=>⟨s,rfl,c⟩
 | z::r,B,s,e,c=>by
   obtain⟨h1,h2,h3,h4⟩:=c
   obtain⟨m,g1,g2⟩:=Xex h4
   exact⟨m,⟨h1,h2,h3,g1⟩,g2⟩
theorem Xpq {ds rs:List Pc}{z:Pc}{n L:Int}(c:Xai 0 (ds++z::rs) n)(na:Xax (ds++z::rs))(hL:z.a+L≤fend (ds++z::rs) ds.length z) :
   regF (ds++z::rs) z.a L (fend (ds++z::rs) ds.length z)=(ds++[⟨z.a,L,true⟩])++(fr (z.a+L) (fend (ds++z::rs) ds.length z)++Xeo rs):=by
 obtain⟨e1,e2,e3⟩:=Xgj c
 obtain⟨mm,c1,⟨ea,h1,h3,c2⟩⟩:=Xex c
 rw[←ea] at c1 c2
 have hz:rg1 z.a L (fend (ds++z::rs) ds.length z) z=[⟨z.a,L,true⟩]++fr (z.a+L) (fend (ds++z::rs) ds.length z):=by
   unfold rg1 fr
   rw[if_neg (by omega),if_pos rfl,List.nil_append]
   congr 1
   by_cases he:z.a+L=fend (ds++z::rs) ds.length z
   · rw[if_pos he,if_neg (by omega)]
   · rw[if_neg he,if_pos ⟨rfl,by omega⟩,show fend (ds++z::rs) ds.length z-z.a-L=fend (ds++z::rs) ds.length z-(z.a+L) by omega]
 have hr:regF rs z.a L (fend (ds++z::rs) ds.length z)=Xeo rs:=by
   cases rs with
   | nil=>rfl
   | cons w R =>
     have hw:(ds++z::w::R)[ds.length+1]?=some w:=by rw[List.getElem?_append_right (by omega),show ds.length+1-ds.length=1 by omega];rfl
     cases hv:w.v with
     | true =>
       rw[Xdw hv]
       refine Xkd fun p hp=>?_
       have:=c2.mem p hp
       rw[Xeu hw hv]
       exact⟨by omega,.inr (by omega)⟩
     | false =>
       rw[Xdx hv] at e1 ⊢
       obtain⟨g1,g2,g3,g4⟩:=c2
       have hf:=Xev (z:=z) hw hv
       rw[show w::R=[w]++R from rfl,Xhh]
       have e0:regF [w] z.a L (fend (ds++z::w::R) ds.length z)=[]:=by
         unfold regF rg1
         rw[List.map_cons,List.map_nil,List.flatten_cons,List.flatten_nil,if_neg (by omega),if_neg (by omega),if_neg (by omega)]
         rfl
       have e0':regF [w] z.a L (fend (ds++z::([w]++R)) ds.length z)=[]:=e0
       rw[e0',List.nil_append]
       refine Xkd fun p hp=>?_
       have hm:=e1.mem p hp
       show p.a≠z.a∧(p.a<z.a∨fend (ds++z::w::R) ds.length z≤p.a)
       exact⟨by omega,.inr (by omega)⟩
 rw[Xhh,Xkd (A:=ds) (fun p hp=>by have:=c1.mem p hp;exact⟨by omega,.inl (by omega)⟩),show z::rs=[z]++rs from rfl,Xhh]
 have e9:regF [z] z.a L (fend (ds++([z]++rs)) ds.length z)=[⟨z.a,L,true⟩]++fr (z.a+L) (fend (ds++z::rs) ds.length z):=by
   unfold regF
   rw[List.map_cons,List.map_nil,List.flatten_cons,List.flatten_nil,List.append_nil]
   exact hz
 have e8:regF rs z.a L (fend (ds++([z]++rs)) ds.length z)=Xeo rs:=hr
 rw[e9,e8]
 simp
theorem Xxa {cs:List Int}{ds rs:List Pc}{z:Pc}{L:Int}(c:Xai 0 (ds++z::rs) cs.length)(m:Xbc cs (ds++z::rs))(na:Xax (ds++z::rs))(hL3:3≤L)(hL:z.a+L≤fend (ds++z::rs) ds.length z) :
   Xai 0 (regF (ds++z::rs) z.a L (fend (ds++z::rs) ds.length z)) cs.length∧Xax (regF (ds++z::rs) z.a L (fend (ds++z::rs) ds.length z)) ∧
   Xbc (lfI (Xch cs z.a L true) (z.a+L) (fend (ds++z::rs) ds.length z)) (regF (ds++z::rs) z.a L (fend (ds++z::rs) ds.length z)):=by
 obtain⟨e1,e2,e3⟩:=Xgj c
 obtain⟨mm,c1,⟨ea,h1,h3,c2⟩⟩:=Xex c
 rw[←ea] at c1 c2
 have hl1:=c1.le
 have hrs:Xax rs:=Xax.right (X:=ds++[z]) (by rw[List.append_assoc];exact na)
 obtain⟨hR1,hR2⟩:=Xik hrs
 rw[Xpq c na hL]
 have cz:Xai 0 (ds++[⟨z.a,L,true⟩]) (z.a+L):=Xai.snoc (p:=⟨z.a,L,true⟩) c1 (show 1≤L by omega) (fun _=>hL3)
 refine⟨cz.app ((Xhc hL).app e1),?_,?_⟩
 · have n1:Xax (ds++[⟨z.a,L,true⟩]):=by
     refine na.left.app (Xct _) fun x y _ hy=>.inr ?_
     have ey:y=⟨z.a,L,true⟩:=by simpa using hy.symm
     rw[ey]
   have n2:Xax (fr (z.a+L) (fend (ds++z::rs) ds.length z)++Xeo rs):=by
     unfold fr
     split
     · exact hR1
     · exact(Xct _).app hR1 fun x y _ hy=>.inr (hR2 y hy)
   refine n1.app n2 fun x y hx _=>.inl ?_
   have:x=⟨z.a,L,true⟩:=by simpa using hx.symm
   rw[this]
 · have ml:Xbc (Xch cs z.a L true) (ds++⟨z.a,L,true⟩::Xeo rs):=Xbc.lay (by omega) (by omega) (by omega) (c1.endBy (Int.le_refl _)) (fun p hp=>by have:=e1.fromOn p hp;omega) (m.sub fun p hp=>by
     rcases List.mem_append.mp hp with g | g
     · exact List.mem_append.mpr (.inl g)
     · exact List.mem_append.mpr (.inr (List.mem_cons_of_mem _ (Xlb g))))
   exact Xbc.layF (by omega) hL (by rw[Xbp];exact e3) (cz.endBy (Int.le_refl _)) e1.fromOn (by rw[List.append_assoc];exact ml)
def en1 (k:Int)(e:Int)(p:Pc):Int:=if p.a=k∨(p.a=e∧p.v=false∧k<e) then p.a+p.l else e
def enF (ps:List Pc)(k:Int):Int:=ps.foldl (en1 k) k
theorem Xnm {k:Int}:∀{R:List Pc} {e f n:Int},k<f→Xai f R n→e≤f→(e=f→∀y,R[0]?=some y→y.v=true)→R.foldl (en1 k) e=e
 | [],e,f,n,_,_,_,_=>rfl
 | p::r,e,f,n,hk,c,hef,hy=>by
   obtain⟨h1,h2,h3,h4⟩:=c
   rw[List.foldl_cons]
   have e1:en1 k e p=e:=by
     unfold en1
     rw[if_neg]
     rintro(g | ⟨g1,g2,g3⟩)
     · omega
     · have:=hy (by omega) p rfl
       rw[this] at g2
       cases g2
   rw[e1]
   exact Xnm (show k<f+p.l by omega) h4 (by omega) fun h=>by omega
theorem en_is {ds rs:List Pc}{z:Pc}{n:Int}(c:Xai 0 (ds++z::rs) n)(na:Xax (ds++z::rs)):enF (ds++z::rs) z.a=fend (ds++z::rs) ds.length z:=by
 obtain⟨mm,c1,⟨ea,h1,h3,c2⟩⟩:=Xex c
 rw[←ea] at c1 c2
 have hrs:Xax rs:=Xax.right (X:=ds++[z]) (by rw[List.append_assoc];exact na)
 unfold enF
 rw[List.foldl_append,List.foldl_cons]
 have e0:ds.foldl (en1 z.a) z.a=z.a:=by
   have key:∀(A:List Pc),(∀p∈A,p.a<z.a)→A.foldl (en1 z.a) z.a=z.a:=by
     intro A
     induction A with
     | nil=>intro _;rfl
     | cons p r ih =>
       intro h
       have:=h p List.mem_cons_self
       rw[List.foldl_cons]
       have e1:en1 z.a z.a p=z.a:=by unfold en1;rw[if_neg (by omega)]
       rw[e1]
       exact ih fun q hq=>h q (List.mem_cons_of_mem _ hq)
   exact key ds fun p hp=>by have:=c1.mem p hp;omega
 have e1:en1 z.a z.a z=z.a+z.l:=by unfold en1;rw[if_pos (.inl rfl)]
 rw[e0,e1]
 cases rs with
 | nil =>
   rw[Xfw (List.getElem?_eq_none (by simp))]
   rfl
 | cons w R =>
   have hw:(ds++z::w::R)[ds.length+1]?=some w:=by rw[List.getElem?_append_right (by omega),show ds.length+1-ds.length=1 by omega];rfl
   obtain⟨g1,g2,g3,g4⟩:=id c2
   cases hv:w.v with
   | true =>
     rw[Xeu hw hv]
     refine Xnm (show z.a<z.a+z.l by omega) c2 (Int.le_refl _) fun _ y hy=>?_
     have ey:y=w:=by simpa using hy.symm
     rw[ey]
     exact hv
   | false =>
     rw[Xev hw hv,List.foldl_cons]
     have e2:en1 z.a (z.a+z.l) w=w.a+w.l:=by unfold en1;rw[if_pos (.inr ⟨g1,hv,by omega⟩)]
     rw[e2]
     rw[←g1] at g4
     refine Xnm (show z.a<w.a+w.l by omega) g4 (Int.le_refl _) fun _ y hy=>?_
     have:=Xax.mid (X:=[w]) (Y:=R) (x:=w) (y:=y) hrs rfl hy
     exact this.resolve_left (by rw[hv];exact Bool.false_ne_true)
end Stow
set_option Elab.async false
set_option linter.all false
set_option maxRecDepth 100000
set_option maxHeartbeats 4000000
namespace Stow
open PySem L2 PyProof.Rows
theorem Xcl {ps:List Pc}{s e p:Int}{y z:Pc}(c:Xai s ps e)(hy:y∈ps)(hz:z∈ps)(h1:y.a≤p)(h2:p<y.a+y.l)(h3:z.a≤p)(h4:p<z.a+z.l):y=z:=by
 obtain⟨i,hi⟩:=List.getElem?_of_mem hy
 obtain⟨j,hj⟩:=List.getElem?_of_mem hz
 rcases Nat.lt_trichotomy i j with g | g | g
 · exfalso
   obtain⟨ds,rs,e1,e2,c1,c2⟩:=Xaw c hj
   subst e1 e2
   rw[List.getElem?_append_left (by omega)] at hi
   have:=(c1.mem y (List.mem_of_getElem? hi)).2.2.2
   omega
 · subst g
   exact Option.some.inj (hi.symm.trans hj)
 · exfalso
   obtain⟨ds,rs,e1,e2,c1,c2⟩:=Xaw c hi
   subst e1 e2
   rw[List.getElem?_append_left (by omega)] at hj
   have:=(c1.mem z (List.mem_of_getElem? hj)).2.2.2
   omega
def ct1 (s L:Int)(p:Pc):List Pc:=if p.v=true∨s<p.a∨p.a+p.l≤s then [p] else (if p.a<s then [⟨p.a,s-p.a,false⟩] else [])++[⟨s,L,true⟩]++(if s+L<p.a+p.l then [⟨s+L,p.a+p.l-s-L,false⟩] else [])
def cutL (ps:List Pc)(s L:Int):List Pc:=(ps.map (ct1 s L)).flatten
theorem Xny {A:List Pc}{s L:Int}(h:∀p∈A,s<p.a∨p.a+p.l≤s):cutL A s L=A:=by
 induction A with
 | nil=>rfl
 | cons p r ih =>
   have e:cutL (p::r) s L=ct1 s L p++cutL r s L:=rfl
   rw[e,ih fun q hq=>h q (.tail _ hq)]
   unfold ct1
   rw[if_pos (.inr (h p (.head _)))]
   rfl
theorem Xya (A B:List Pc)(s L:Int):cutL (A++B) s L=cutL A s L++cutL B s L:=by unfold cutL;rw[List.map_append,List.flatten_append]
theorem XBj {ds rs:List Pc}{z:Pc}{s L n:Int}(c:Xai 0 (ds++z::rs) n)(hv:z.v=false)(hL:1≤L)(h1:z.a≤s)(h2:s+L≤z.a+z.l):cutL (ds++z::rs) s L=cutP ds rs z.a z.l s L:=by
 obtain⟨ds',rs',e1,e2,c1,c2⟩:=Xaw c (XGc ds rs z)
 have e3:ds'=ds∧rs'=rs:=by
   have:=List.append_inj e1 e2.symm
   exact⟨this.1.symm,by have:=this.2;injection this with _ h;exact h.symm⟩
 obtain⟨rfl,rfl⟩:=e3
 have e:cutL (ds'++z::rs') s L=cutL ds' s L++(ct1 s L z++cutL rs' s L):=by rw[Xya];rfl
 rw[e,Xny fun p hp=>?_,Xny fun p hp=>?_]
 · unfold ct1 cutP fr
   rw[if_neg (by rw[hv];simp;omega)]
   have x1:(if z.a<s then [(⟨z.a,s-z.a,false⟩:Pc)] else [])=if z.a=s then [] else [⟨z.a,s-z.a,false⟩]:=by
     by_cases h:z.a=s
     · rw[if_neg (by omega),if_pos h]
     · rw[if_pos (by omega),if_neg h]
   have x2:(if s+L<z.a+z.l then [(⟨s+L,z.a+z.l-s-L,false⟩:Pc)] else [])=if s+L=z.a+z.l then [] else [⟨s+L,z.a+z.l-(s+L),false⟩]:=by
     by_cases h:s+L=z.a+z.l
     · rw[if_neg (by omega),if_pos h]
     · rw[if_pos (by omega),if_neg h,show z.a+z.l-s-L=z.a+z.l-(s+L) by omega]
   rw[x1,x2]
   simp
 · have:=(c2.fromOn) p hp
   omega
 · have:=(c1.endBy (Int.le_refl 0)) p hp
   omega
theorem Xpn {ds rs:List Pc}{z:Pc}{s L:Int}(na:Xax (ds++z::rs))(hv:z.v=false):Xax (cutP ds rs z.a z.l s L):=by
 have hd:Xax ds:=na.left
 have hr:Xax rs:=Xax.right (X:=[z]) na.right
 have lastd:∀x,ds.getLast?=some x→x.v=true:=fun x hx=>by
   rcases na.mid hx (y:=z) rfl with h | h
   · exact h
   · rw[hv] at h;cases h
 have firstr:∀y,rs[0]?=some y→y.v=true:=fun y hy=>by
   rcases(na.right).mid (X:=[z]) (Y:=rs) (x:=z) rfl hy with h | h
   · rw[hv] at h;cases h
   · exact h
 have hf:∀b e,Xax (fr b e):=fun b e=>by
   unfold fr
   split
   · exact Xor
   · exact Xct _
 have frl:∀b e x,(fr b e).getLast?=some x→x.v=false:=fun b e x hx=>by
   unfold fr at hx
   split at hx
   · simp at hx
   · have:(⟨b,e-b,false⟩:Pc)=x:=by simpa using hx
     rw[←this]
 unfold cutP
 refine hd.app ((hf _ _).app (Xax.app (X:=[⟨s,L,true⟩]) (Xct _) ((hf _ _).app hr fun x y hx hy=>.inr (firstr y hy)) fun x y hx hy=>.inl ?_) fun x y hx hy=>.inr ?_) fun x y hx hy=>.inl (lastd x hx)
 · have:(⟨s,L,true⟩:Pc)=x:=by simpa using hx
   rw[←this]
 · have:(⟨s,L,true⟩:Pc)=y:=by simpa using hy
   rw[←this]
def carI (cs:List Int)(s g c:Nat):List Int:=cs.take g++(cs.drop s).take c++cs.drop (g+c)
theorem Xvb {cs:List Int}{s g c:Nat}(h1:s+c≤cs.length)(h2:g+c≤cs.length):(carI cs s g c).length=cs.length:=by
 unfold carI
 simp
 omega
theorem Xnv {cs:List Int}{s g c j:Nat}(h1:s+c≤cs.length)(h2:g+c≤cs.length)(h:j<g∨g+c≤j):(carI cs s g c)[j]?=cs[j]?:=by
 unfold carI
 have l1:(cs.take g).length=g:=by rw[List.length_take];omega
 have l2:((cs.drop s).take c).length=c:=by rw[List.length_take,List.length_drop];omega
 rcases h with h | h
 · rw[List.append_assoc,List.getElem?_append_left (by omega),List.getElem?_take,if_pos h]
 · rw[List.getElem?_append_right (by rw[List.length_append];omega),List.length_append,l1,l2,List.getElem?_drop,show g+c+(j-(g+c))=j by omega]
theorem Xnd {cs:List Int}{ps:List Pc}{z:Pc}{s c n:Nat}(hc:Xai 0 ps n)(hn:cs.length=n)(m:Xbc cs ps)(hz:z∈ps)(hv:z.v=true)(h1:s+c≤n)(h2:(c:Int)≤z.l-2):Xbc (carI cs s (z.a+1).toNat c) ps:=fun p hp=>by
 obtain⟨z0,z1,z3,z4⟩:=hc.mem z hz
 have z3:=z3 hv
 obtain⟨p0,p1,p3,p4⟩:=hc.mem p hp
 obtain⟨m1,m2⟩:=m p hp
 have h2':(z.a+1).toNat+c≤cs.length:=by omega
 have out:∀j:Int,0≤j→(j≤z.a∨z.a+z.l-1≤j)→(carI cs s (z.a+1).toNat c)[j.toNat]?=cs[j.toNat]?:=fun j j0 hj=>Xnv (by omega) h2' (by omega)
 by_cases e:p=z
 · subst e
   exact⟨by rw[out _ p0 (.inl (Int.le_refl _))];exact m1,by rw[out _ (by omega) (.inr (Int.le_refl _))];exact m2⟩
 · have far:p.a+p.l≤z.a∨z.a+z.l≤p.a:=by
     rcases Int.lt_or_le p.a z.a with h | h
     · left
       rcases Int.lt_or_le z.a (p.a+p.l) with g | g
       · exact absurd (Xcl hc hp hz (Int.le_of_lt h) g (Int.le_refl _) (by omega)) e
       · exact g
     · right
       rcases Int.lt_or_le p.a (z.a+z.l) with g | g
       · exact absurd (Xcl hc hp hz (Int.le_refl _) (by omega) h g) e
       · exact g
   exact⟨by rw[out _ p0 (by omega)];exact m1,by rw[out _ (by omega) (by omega)];exact m2⟩
theorem Xnw {n d:Nat}{k:Int}(h0:0≤k)(h:k≤n):HT.sIx n d (some k)=k.toNat:=by
 have:=HT.sIx_nat n d k.toNat
 rw[Int.toNat_of_nonneg h0] at this
 rw[this]
 omega
theorem XGn {ns:List Int}{k:Int}(h0:0≤k)(h:k≤ns.length):cutI ns none (some k)=ns.take k.toNat:=by
 unfold cutI
 rw[Xnw h0 h,HT.sIx_none]
 rfl
theorem Xyr {ns:List Int}{k l:Int}(h0:0≤k)(h1:0≤l)(h:k+l≤ns.length):cutI ns (some k) (some (k+l))=(ns.drop k.toNat).take l.toNat:=by
 unfold cutI
 rw[Xnw h0 (by omega),Xnw (by omega) h,show (k+l).toNat-k.toNat=l.toNat by omega]
theorem Xpw {ns:List Int}{k:Int}(h0:0≤k)(h:k≤ns.length):cutI ns (some k) none=ns.drop k.toNat:=by
 unfold cutI
 rw[Xnw h0 h,HT.sIx_none]
 exact List.take_of_length_le (by rw[List.length_drop];omega)
section
variable {X:Cx}{e:Expr}{t:TX}{epos:Pos}
end
end Stow
set_option Elab.async false
set_option linter.all false
set_option maxRecDepth 100000
set_option maxHeartbeats 4000000
namespace Stow
open PySem L2 PyProof.Rows
theorem Xfn {n m:Nat}(h:n+64<m):n+1<m:=by omega
theorem XOr {H:Hp}{a:Addr}{o:Obj}{kvs:List (Key×V)}{k:Key}(e:H a=some (.frz o (.dK kvs))):DGet H a (kV k) (valV kvs k):=.inl ⟨kvs,k,.inr ⟨o,e⟩,rfl,rfl⟩
def Itd (d:Addr)(o:Obj)(kvs:List (Key×V)):It :=
 ⟨fun i H=>H d=some (.frz o (.dK kvs))∧∃k v,kvs[i]?=some (k,v),fun i H x H'=>H'=H∧∃k v,kvs[i]?=some (k,v)∧x=kV k,fun i H=>H d=some (.frz o (.dK kvs))∧kvs.length≤i⟩
theorem XAr {P:Program}{w:World}{H:Hp}{h:Heap}{d:Addr}{o:Obj}{kvs:List (Key×V)}{es:Array DictEntry}{ep:Nat}(ok:HOk P w H h)(e:H d=some (.frz o (.dK kvs)))(ho:o.data = .dict es ep) :
   ∃vs,KV kvs vs∧h.DictAt (Xbo P w) d vs ep:=by
 obtain⟨h1,_,_,vs,r,o',es',ep',g1,g2,g3,g4⟩:=(show Xcj P w H h d (.frz o (.dK kvs)) from ok d _ e)
 rw[h1] at g1
 cases g1
 rw[ho] at g3
 cases g3
 exact⟨vs,r,o,es,h1,g2,ho,g4⟩
theorem Xjh {α β:Type}{F:α→β→Prop}:∀{xs:List α} {us:List β} {i:Nat} {x:α},Paired F xs us→xs[i]?=some x→∃u,us[i]?=some u∧F x u
 | _,_,_,_,.nil,e=>by simp at e
 | _,_,0,_,.cons r _,e=>by simp at e;subst e;exact⟨_,rfl,r⟩
 | _,_,i+1,x,.cons _ t,e=>by
   obtain⟨u,h1,h2⟩:=Xjh (i:=i) (x:=x) t (by simpa using e)
   exact⟨u,by simpa using h1,h2⟩
theorem XAm {kvs:List (Key×V)}{vs:List (Key×Value)}(r:KV kvs vs){i:Nat}{k:Key}{v:V}(e:kvs[i]?=some (k,v)):∃u,vs[i]?=some (k,u):=by
 obtain⟨⟨k',u⟩,hq,h1,_⟩:=Xjh (show Paired _ kvs vs from r) e
 have h1:k=k':=h1
 subst h1
 exact⟨u,hq⟩
theorem Xsa {P:Program}{w:World}{k:Key}{u:Value}(h:(Xbo P w).is k u=true):RelV (kV k) u:=by
 rcases Xbt (show Xmy k u=true from h) with ⟨i,t,rfl,rfl⟩ | ⟨x,t,rfl,rfl⟩
 · exact⟨t,rfl⟩
 · exact⟨t,rfl⟩
theorem Xuc {P:Program}{w:World}{K:PySem.W.Frag}{tg:Expr}(d it:Addr)(o:Obj)(kvs:List (Key×V)){es:Array DictEntry}{ep:Nat}(ho:o.data = .dict es ep) :
   Turn P w K tg (Itd d o kvs) [it] it (fun i h=>h.IsKeyIter it d i kvs.length ep) where
 mem:=by simp
 obj:=fun i h st b hb=>by
   have e:b=it:=by simpa using hb
   subst e
   obtain⟨o,e,c,d⟩:=st
   exact⟨o,e,fun v z=>by rw[d] at z;cases z⟩
 keep:=fun i h h' st k=>st.at fun o e=>k it (by simp) o e
 item:=by
   intro X hP hw hK hc i pins s σ H E I hf st hg
   subst hP hw hK
   obtain⟨hd,k,v,hx⟩:=hg
   obtain⟨vs,r,m⟩:=XAr I.hok hd ho
   obtain⟨u,hu⟩:=XAm r hx
   have hl:=KV.length r
   obtain⟨f0,f1,f2,f3,f4,f5⟩:=hf it (by simp)
   have st:s.heap.IsKeyIter it d i vs.length ep:=hl▸st
   refine wpAny_pyNext_dict_item st m hu fun key h' hkey st' sb=>?_
   have I1:Inv X pins σ H { s with heap:=h' }:=I.turned (t':=s.toks) (fun b o hb e=>(sb.2 b hb).trans e) f0 f1 f3 f4 f5
   have st':h'.IsKeyIter it d (i+1) kvs.length ep:=hl▸st'
   obtain⟨o2,e2,c2,d2⟩:=id st'
   exact⟨key,rfl,XIt (s:={ s with heap:=h' }) e2 c2 d2 (by decide) ⟨kV k,H,I1,Xsa hkey,⟨rfl,k,v,hx,rfl⟩,st',fun b hb=>(hf b hb).1⟩⟩
 done:=by
   intro X hP hw hK hc i pins s σ H E I hf st hg
   subst hP hw hK
   obtain⟨hd,hx⟩:=hg
   obtain⟨vs,r,m⟩:=XAr I.hok hd ho
   have hl:=KV.length r
   have st:s.heap.IsKeyIter it d i vs.length ep:=hl▸st
   obtain⟨f0,f1,f2,f3,f4,f5⟩:=hf it (by simp)
   exact wpAny_pyNext_dict_end (I.ok.hd hc) st m (List.getElem?_eq_none (by omega)) fun h' eb=>⟨rfl,I.turned (t':=s.toks) (fun b o hb e=>eb b o hb e) f0 f1 f3 f4 f5⟩
 self:=fun _ _ _ _ _ st h=>wpAny_pyIter_keyiter st h
section
variable {X:Cx}{pins:List (Addr×Obj)}{σ:L2.St}{H:Hp}{s:Shared}{d:Addr}{kvs:List (Key×V)}{o:Obj}
theorem XQc (I:Inv X pins σ H s)(e:H d=some (.dK kvs)):∃(o:Obj) (es:Array DictEntry) (ep:Nat) (vs:List (Key×Value)),o.data = .dict es ep∧(d==sysModules)=false∧KV kvs vs∧s.heap.DictAt (Xbo X.prog X.w) d vs ep∧Inv X pins σ (upd H d (.frz o (.dK kvs))) s:=by
 obtain⟨z,y,vs,r,o,es,ep,g1,g2,g3,g4⟩:=(show Xcj X.prog X.w H s.heap d (.dK kvs) from I.hok d _ e)
 refine⟨o,es,ep,vs,g3,y,r,⟨o,es,g1,g2,g3,g4⟩,?_⟩
 exact I.write (x:=d) (e:=d) (h':=s.heap) (t':=s.toks) (by rw[e];exact trivial) (.inl rfl) (fun _ _ _ q=>q) ⟨o,g1⟩ ⟨g1,z,y,vs,r,o,es,ep,g1,g2,g3,g4⟩
theorem thaw (I:Inv X pins σ H s)(nf:∀ob u,X.H₀ d≠some (.frz ob u))(e:H d=some (.frz o (.dK kvs))):Inv X pins σ (upd H d (.dK kvs)) s:=by
 have nn:∀b,H b=none→b≠d:=fun b n z=>by rw[z,e] at n;cases n
 have nu:∀b u,H b=some u→(∀ob w,u≠.frz ob w)→b≠d:=fun b u q hn z=>by
   rw[z,e] at q
   exact hn _ _ (Option.some.inj q).symm
 refine⟨I.ok,I.os,I.bare,⟨I.base.keep,I.base.slot,fun b o q n hx=>?_,I.base.there,fun b xs q=>?_,fun b ob u q=>?_,fun b ps q=>?_⟩,I.loc,I.cell,?_,fun x c q=>?_,fun p hp=>?_,fun b u q=>?_,I.len⟩
 · have:=I.base.free b o q n hx
   rw[Xam (nn b this)]
   exact this
 · have:=I.base.tups b xs q
   rw[Xam (nu b _ this fun _ _ z=>by cases z)]
   exact this
 · rw[Xam (fun z=>nf ob u (by rw[←z];exact q))]
   exact I.base.frzs b ob u q
 · obtain⟨more,this⟩:=I.base.tbls b ps q
   rw[Xam (nu b _ this fun _ _ z=>by cases z)]
   exact⟨more,this⟩
 · rw[Xam (nn _ I.free)]
   exact I.free
 · have:=I.freeC x c q
   rw[Xam (nn c this)]
   exact this
 · obtain⟨h1,h2,h3⟩:=I.pin p hp
   exact⟨h1,by rw[Xam (nn _ h2)];exact h2,h3⟩
 · by_cases hb:b=d
   · subst hb
     rw[upd_same] at q
     cases q
     exact(show Xcj X.prog X.w H s.heap b (.frz o (.dK kvs)) from I.hok b _ e).2
   · rw[Xam hb] at q
     refine(I.hok b u q).stay (fun _ _ _ g=>g) (fun c g=>?_) fun c xs g=>?_
     · rw[Xam (nu c _ g fun _ _ z=>by cases z)]
       exact g
     · rw[Xam (nu c _ g fun _ _ z=>by cases z)]
       exact g
end
section
variable {X:Cx}{tg:Expr}
def XOb (NF:Addr→Prop)(tl:TE):TI:=fun σ H R=>tl σ H fun x H1=>∃d kvs,x = .ref d∧H1 d=some (.dK kvs)∧∀o,NF d→R (Itd d o kvs) (upd H1 d (.frz o (.dK kvs)))
theorem XHp {l:Expr}{tl:TE}(hl:PE X l tl):PI X tg l (XOb (fun d=>∀ob u,X.H₀ d≠some (.frz ob u)) tl):=by
 intro pins s σ H R I h
 refine thn (hl pins s σ H _ I h) fun v s1 ⟨x,H1,I1,r1,q1⟩=>?_
 obtain⟨d,kvs,e,hd,q⟩:=q1
 subst e
 cases r1
 obtain⟨o,es,ep,vs,g2,y,kvl,m,I2⟩:=XQc I1 hd
 have nf:∀ob u,X.H₀ d≠some (.frz ob u):=fun ob u z=>by
   have:=I1.base.frzs d ob u z
   rw[hd] at this
   cases this
 refine wpAny_pyIter_dict y m ?_
 refine⟨s1.heap.objs.size,[s1.heap.objs.size],_,_,_,rfl,I2.kept (t':=s1.toks) fun b o e=>Heap.get?_push_of_some _ e,Xuc d _ o kvs g2,?_,fun b hb=>?_,q o nf⟩
 · refine⟨_,Heap.get?_push_size _ rfl,rfl,?_⟩
   rw[KV.length kvl]
   rfl
 have e:b=s1.heap.objs.size:=by simpa using hb
 subst e
 exact I2.fpOk (Nat.le_refl _) (I2.hok.fresh (Nat.le_refl _))
def XPm (tl:TE)(g:TG)(tb:TS):TS:=fun D σ H=>∀NF:Addr→Prop,tFor (XOb NF tl) g tb { D with nx:=fun σ' H'=>∃d o kvs,NF d∧H' d=some (.frz o (.dK kvs))∧D.nx σ' (upd H' d (.dK kvs)) } σ H
theorem XEe {iter:Expr}{body:List Stmt}{tl:TE}{g:TG}{tb:TS}{pos:Pos}(hp:PassesOwn (model X.prog X.w) X.A X.env X.xe)(hc:X.calm=true)(hl:PE X iter tl)(hg:PG X tg g)(hb:PSs X body tb)
   (hs:∀x,foldedSetIterable iter X.env x=pure x:=by intro _;rfl):PS X (.For tg iter body [] pos) (XPm tl g tb):=by
 intro pins s σ H D I h
 refine thn (Xel hp hc (XHp hl) hg hb hs pins s σ H _ I (h _)) fun f s' q=>?_
 cases f with
 | next =>
   obtain⟨σ',H',I',d,o,kvs,nf,e,q⟩:=q
   exact⟨σ',_,thaw I' nf e,q⟩
 | brk=>exact q
 | cont=>exact q
 | ret v=>exact q
end
section
variable {K:PySem.W.Frag}{σ:L2.St}{H:Hp}{Q:VK}{D:Ends}
theorem r_forD {tl:TE}{g:TG}{tb:TS}(h:∀NF:Addr→Prop,tl σ H fun x H1=>∃d kvs,x = .ref d∧H1 d=some (.dK kvs)∧∀o,NF d→∃W:Nat→Nat→L2.St→Hp→Prop,(∃m,W 0 m σ (upd H1 d (.frz o (.dK kvs))))∧∀i m σ H,W i m σ H →
   ((Itd d o kvs).stop i H∧(∃d o kvs,NF d∧H d=some (.frz o (.dK kvs))∧D.nx σ (upd H d (.dK kvs))))∨((Itd d o kvs).go i H∧∃N:L2.St→Hp→Prop,(∀σ' H',N σ' H'→∃m',m'<m∧W (i+1) m' σ' H')∧∀x H',(Itd d o kvs).yld i H x H'→g x σ H' fun σ2 H2=>tb { D with nx:=N,ct:=N,bk:=fun σ' H'=>∃d o kvs,NF d∧H' d=some (.frz o (.dK kvs))∧D.nx σ' (upd H' d (.dK kvs)) } σ2 H2)):XPm tl g tb D σ H:=h
theorem Xxz {d:Addr}{o:Obj}{kvs:List (Key×V)}{NF:Addr→Prop}{g:TG}{tb:TS}(nf:NF d)(Pv:Nat→L2.St→Hp→Prop)(h0:Pv 0 σ H)(hl:∀i σ H,Pv i σ H→H d=some (.frz o (.dK kvs)))
   (hs:∀i k v σ H,kvs[i]?=some (k,v)→Pv i σ H→g (kV k) σ H fun σ2 H2=>tb { D with nx:=Pv (i+1),ct:=Pv (i+1),bk:=fun σ' H'=>∃d o kvs,NF d∧H' d=some (.frz o (.dK kvs))∧D.nx σ' (upd H' d (.dK kvs)) } σ2 H2)
   (hd:∀σ H,Pv kvs.length σ H→D.nx σ (upd H d (.dK kvs))) :
   ∃W:Nat→Nat→L2.St→Hp→Prop,(∃m,W 0 m σ H)∧∀i m σ H,W i m σ H →
   ((Itd d o kvs).stop i H∧(∃d o kvs,NF d∧H d=some (.frz o (.dK kvs))∧D.nx σ (upd H d (.dK kvs))))∨((Itd d o kvs).go i H∧∃N:L2.St→Hp→Prop,(∀σ' H',N σ' H'→∃m',m'<m∧W (i+1) m' σ' H')∧∀x H',(Itd d o kvs).yld i H x H'→g x σ H' fun σ2 H2=>tb { D with nx:=N,ct:=N,bk:=fun σ' H'=>∃d o kvs,NF d∧H' d=some (.frz o (.dK kvs))∧D.nx σ' (upd H' d (.dK kvs)) } σ2 H2):=by
 refine⟨fun i m σ H=>m=kvs.length-i∧i≤kvs.length∧Pv i σ H,⟨kvs.length,by simp,Nat.zero_le _,h0⟩,?_⟩
 rintro i m σ H ⟨rfl,hi,p⟩
 have q:=hl i σ H p
 by_cases hlt:i<kvs.length
 · obtain⟨k,v,ekv⟩:∃k v,kvs[i]?=some (k,v):=⟨kvs[i].1,kvs[i].2,by simp [hlt]⟩
   refine .inr ⟨⟨q,k,v,ekv⟩,Pv (i+1),fun σ' H' p'=>⟨kvs.length-(i+1),by omega,rfl,hlt,p'⟩,fun x H' y=>?_⟩
   obtain⟨e,k',v',e',ex⟩:=y
   subst e ex
   exact hs i k' v' σ _ e' p
 · have e:i=kvs.length:=by omega
   subst e
   exact .inl ⟨⟨q,Nat.le_refl _⟩,d,o,kvs,nf,q,hd σ H p⟩
theorem r_dget {td ty:TE}(h:td σ H fun x H1=>ty σ H1 fun y H2=>∃a v,x = .ref a∧DGet H2 a y (some v)∧Q v H2):XOp td ty σ H Q:=h
theorem r_dput {td ty tv:TE}(h:tv σ H fun v H1=>td σ H1 fun x H2=>ty σ H2 fun y H3=>∃a H4,x = .ref a∧DPut H3 a y v H4∧D.nx σ H4):XPn td ty tv D σ H:=h
theorem r_dnew (h:∀p,H p=none→Q (.ref p) (upd H p (.dK []))):XAl σ H Q:=h
theorem r_tyD {p:Addr}{kvs:List (Key×V)}{P:Prop}(h:H p=some (.dK kvs))(q:P):tyV K "dict" (.ref p) H∧P:=⟨.inr (.inr (.inl ⟨rfl,.inl ⟨_,h⟩⟩)),q⟩
end
def Xsu:V→List V→Hp→VK→Prop:=fun x vs H Q=>∃a kvs,x = .ref a∧vs=[]∧H a=some (.dK kvs)∧Q .non (upd H a (.dK []))
theorem Xrm {X:Cx}:MtM X "dict.clear" Xsu:=by
 intro pins s σ H x vs v us Q I rx rv h
 obtain⟨a,kvs,rfl,rfl,hH,q⟩:=h
 cases rx
 have hus:=rv.zero
 subst hus
 exact XIn I hH fun s' I'=>⟨.non,_,I',rfl,q⟩
theorem Xvv {H:Hp}{Q:VK}{a:Addr}{kvs:List (Key×V)}(h:H a=some (.dK kvs))(q:Q .non (upd H a (.dK []))):Xsu (.ref a) [] H Q:=⟨a,kvs,rfl,rfl,h,q⟩
end Stow
namespace Stow
open PySem L2 PyProof.Rows
inductive W4
 | first | best | next | likes
def cF (C1 C2 C3 C4:Addr):W4→Addr
 | .first=>C1
 | .best=>C2
 | .next=>C3
 | .likes=>C4
def fsF:W4→Addr→Int→List (Str×V)
 | .next,a,r=>[("room_cells",.ref a),("room_rover",.int r)]
 | .first,a,_=>[("room_cells",.ref a)]
 | .best,a,_=>[("room_cells",.ref a)]
 | .likes,a,_=>[("room_cells",.ref a)]
theorem fsF_cells {i:W4}{a:Addr}{r:Int}:(fsF i a r).lookup ("room_cells":Str)=some (.ref a):=by cases i <;> rfl
theorem fsF_few {i:W4}{a:Addr}{r:Int}:(fsF i a r).length<1000:=by cases i <;> (simp only [fsF,List.length_cons,List.length_nil];omega)
theorem fsF_none {i:W4}{a:Addr}{r:Int}{m:Str}(h1:(m==("room_cells":Str))=false)(h2:(m==("room_rover":Str))=false):(fsF i a r).lookup m=none:=by
 cases i <;> simp only [fsF,List.lookup,h1,h2]
theorem Xfz {i:W4}{a b:Addr}{r:Int}:putF ("room_cells":Str) (.ref b) (fsF i a r)=fsF i b r:=by cases i <;> rfl
theorem four {C1 C2 C3 C4:Addr}{Q:Addr→Prop}(h1:Q C1)(h2:Q C2)(h3:Q C3)(h4:Q C4):∀i,Q (cF C1 C2 C3 C4 i):=fun i=>by
 cases i
 · exact h1
 · exact h2
 · exact h3
 · exact h4
def Xgy (P:Program)(w:World)(K:PySem.W.Frag)(mg:Str→Option Value)(base:Heap)(ok:W4→Prop)(C:W4→Addr)(m:Str)(j:Nat)(ps:List Str)(dvs:List V)(sp:W4→Sp):Prop:=∀i,ok i→Methx P w K mg base (C i) m j ps dvs (sp i)
def Xbj (P:Program)(w:World)(K:PySem.W.Frag)(mg:Str→Option Value)(base:Heap)(C:W4→Addr)(m:Str)(j:Nat)(ps:List Str)(dvs:List V)(sp:W4→Sp):Prop:=∀i,Methx P w K mg base (C i) m j ps dvs (sp i)
structure MethFD (P:Program)(w:World)(K:PySem.W.Frag)(mg:Str→Option Value)(base:Heap)(C:W4→Addr)(m:Str)(j:Nat)(ps:List Str)(dvs:List V)(sp:W4→Sp):Prop where
 all:Xbj P w K mg base C m j ps [] sp
 less:Xbj P w K mg base C m j ps dvs sp
section
variable {P:Program}{w:World}{K:PySem.W.Frag}{mg:Str→Option Value}{base:Heap}{C:W4→Addr}{m:Str}{j k:Nat}{ps:List Str}{dvs:List V}{sp:W4→Sp}{ok ok':W4→Prop}{f:Addr}{fd:FuncData}{ds:List Value}
theorem Xgy.made (F:FnOk P w K mg base (CXe P w) j f fd ps (fun vs H Q E=>∃i,ok i∧sp i vs H Q E))(M:∀i,ok i→Meth K (C i) m f)(b:Xcy K fd ps [])(c:∀i,Cls K (C i)):Xgy P w K mg base ok C m j ps [] sp :=
 fun i hi=>⟨⟨f,fd,[],F.imp fun _ _ _ _ h=>⟨i,hi,h⟩,M i hi,b,.nil⟩,c i⟩
theorem Xbj.made (F:FnOk P w K mg base (CXe P w) j f fd ps (fun vs H Q E=>∃i,sp i vs H Q E))(M:∀i,Meth K (C i) m f)(b:Xcy K fd ps [])(c:∀i,Cls K (C i)):Xbj P w K mg base C m j ps [] sp :=
 fun i=>⟨⟨f,fd,[],F.imp fun _ _ _ _ h=>⟨i,h⟩,M i,b,.nil⟩,c i⟩
theorem MethFD.made (F:FnOk P w K mg base (CXe P w) j f fd ps (fun vs H Q E=>∃i,sp i vs H Q E))(M:∀i,Meth K (C i) m f)(b:Xcy K fd ps [])(b':Xcy K fd ps ds)(v:Vals dvs ds)(c:∀i,Cls K (C i)):MethFD P w K mg base C m j ps dvs sp :=
 ⟨fun i=>⟨⟨f,fd,[],F.imp fun _ _ _ _ h=>⟨i,h⟩,M i,b,.nil⟩,c i⟩,fun i=>⟨⟨f,fd,ds,F.imp fun _ _ _ _ h=>⟨i,h⟩,M i,b',v⟩,c i⟩⟩
theorem Methx.up {C₀:Addr}{sp₀:Sp}(D:Methx P w K mg base C₀ m j ps dvs sp₀)(h:j≤k):Methx P w K mg base C₀ m k ps dvs sp₀:=by
 obtain⟨f,fd,ds,F,M,b,v⟩:=D.ex
 exact⟨⟨f,fd,ds,F.mono h,M,b,v⟩,D.cl⟩
theorem Xsw {j1 j2:Nat}(D1:Xgy P w K mg base ok C m j1 ps dvs sp)(D2:Xgy P w K mg base ok' C m j2 ps dvs sp)(h1:j1≤k)(h2:j2≤k)(h:∀i,ok i∨ok' i):Xbj P w K mg base C m k ps dvs sp:=fun i=>by
 rcases h i with h | h
 · exact(D1 i h).up h1
 · exact(D2 i h).up h2
theorem Xzk {C1 C2 C3 C4:Addr}{j1 j2 j3 j4:Nat}(D1:Methx P w K mg base C1 m j1 ps dvs (sp .first))(D2:Methx P w K mg base C2 m j2 ps dvs (sp .best))(D3:Methx P w K mg base C3 m j3 ps dvs (sp .next))(D4:Methx P w K mg base C4 m j4 ps dvs (sp .likes))
   (h1:j1≤k) (h2:j2≤k) (h3:j3≤k) (h4:j4≤k):Xbj P w K mg base (cF C1 C2 C3 C4) m k ps dvs sp:=fun i=>by
 cases i
 · exact D1.up h1
 · exact D2.up h2
 · exact D3.up h3
 · exact D4.up h4
end
def Xoi (C:W4→Addr)(m:Str)(sp:W4→Sp)(dvs:List V)(E:XK)(ta:TE)(t:TA):TE:=fun σ H Q=>ta σ H fun x H1=>∃i a dx fs,x = .ref a∧H1 a=some (.ins (C i) dx fs)∧fs.lookup m=none∧t σ H1 fun vs H2=>sp i (x::(vs++dvs)) H2 Q E
def Xtz (C:W4→Addr)(m:Str)(sp:W4→Sp)(dvs:List V)(to:TE)(ta:TA):TX:=fun σ H QV EX=>to σ H fun x H1=>∃i a dx fs,x = .ref a∧H1 a=some (.ins (C i) dx fs)∧fs.lookup m=none∧ta σ H1 fun vs H2=>sp i (x::(vs++dvs)) H2 QV EX
section
variable {X:Cx}{j k:Nat}{C:W4→Addr}{ps:List Str}{sp:W4→Sp}{dvs:List V}{m:Str}{pos apos:Pos}{e o:Expr}{es:List Expr}{to:TE}{t:TA}{E:XK}
theorem Xby {pl:Sem Bool}(D:Xbj X.prog X.w X.K X.mg X.base C m j ps dvs sp)(hx:Xff (CXe X.prog X.w) X E)(hr:Room k X.A)(ho:PE X o to)(ha:PA X (e::es) t)(hk:j≤k:=by decide)
   (hst:starEach (e::es) X.env=(false,eval e X.env)::starEach es X.env:=by rfl) (hpl:(backTo pos (starEach es X.env)).any (·.1)=false:=by rfl)
   (ht:eval (.Call (.Attribute o m apos) (e::es) [] pos) X.env=(do
     let ov ←eval o X.env
     standAt apos.atName
     let (f,first) ←holding [ov] (getMethod ov m pl)
     callWith pos f first (backTo pos (starEach (e::es) X.env)) (backToKw pos (keywordEach [] X.env))):=by rfl) :
   PE X (.Call (.Attribute o m apos) (e::es) [] pos) (Xoi C m sp dvs E to t):=by
 intro pins s σ H Q I h
 refine PySem.W.methodCall_KW (pl:=pl) (thn (ho pins s σ H _ I h) fun u s1 ⟨x,H1,I1,rx,i,a,dx,fs,ex,ea,l,q⟩=>?_) ht
 subst ex
 obtain rfl:u=Value.ref a:=rx
 obtain⟨f,fd,ds,F,hm,hb,hd⟩:=(D i).ex
 refine Xfb I1 ea (D i).cl hm l ?_
 refine PySem.W.callWith_K (first:=[.ref a]) (h₀:=X.base) I.ok.mod.kin hm.kp (thn (ha pos pins s1 σ H1 _ I1 q) fun us s2 ⟨vs,H2,I2,r,q2⟩=>⟨I2.kIn,?_⟩) hst hpl
 exact Xoc (us:=.ref a::us) (vs:=.ref a::vs) F (hr.mono hk) hb hd hx I2 (.cons rfl r) q2
theorem Xda {pl:Sem Bool}(D:Xbj X.prog X.w X.K X.mg X.base C m j ps dvs sp)(hx:Xff (CXe X.prog X.w) X E)(hr:Room k X.A)(ho:PE X o to)(hk:j≤k:=by decide)
   (ht:eval (.Call (.Attribute o m apos) [] [] pos) X.env=(do
     let ov ←eval o X.env
     standAt apos.atName
     let (f,first) ←holding [ov] (getMethod ov m pl)
     callWith pos f first (backTo pos (starEach [] X.env)) (backToKw pos (keywordEach [] X.env))):=by rfl) :
   PE X (.Call (.Attribute o m apos) [] [] pos) (Xoi C m sp dvs E to tNil):=by
 intro pins s σ H Q I h
 refine PySem.W.methodCall_KW (pl:=pl) (thn (ho pins s σ H _ I h) fun u s1 ⟨x,H1,I1,rx,i,a,dx,fs,ex,ea,l,q⟩=>?_) ht
 subst ex
 obtain rfl:u=Value.ref a:=rx
 obtain⟨f,fd,ds,F,hm,hb,hd⟩:=(D i).ex
 refine Xfb I1 ea (D i).cl hm l ?_
 exact PySem.W.callWith_K0 (first:=[.ref a]) I1.kIn hm.kp (Xoc (us:=[.ref a]) (vs:=[.ref a]) F (hr.mono hk) hb hd hx I1 (.cons rfl .nil) q)
theorem Xnt {pl:Sem Bool}(D:Xbj X.prog X.w X.K X.mg X.base C m j ps dvs sp)(hr:Room k X.A)(ho:PE X.nox o to)(ha:PA X.nox (e::es) t)(hk:j≤k:=by decide)
   (hst:starEach (e::es) X.env=(false,eval e X.env)::starEach es X.env:=by rfl) (hpl:(backTo pos (starEach es X.env)).any (·.1)=false:=by rfl)
   (ht:eval (.Call (.Attribute o m apos) (e::es) [] pos) X.env=(do
     let ov ←eval o X.env
     standAt apos.atName
     let (f,first) ←holding [ov] (getMethod ov m pl)
     callWith pos f first (backTo pos (starEach (e::es) X.env)) (backToKw pos (keywordEach [] X.env))):=by rfl) :
   PX X (.Call (.Attribute o m apos) (e::es) [] pos) (Xtz C m sp dvs to t):=by
 intro pins s σ H QV EX Qp W I h hv hx
 refine PySem.W.methodCall_KW (pl:=pl) (wpAny_mono (ho pins s σ H _ (I.wish _) h) (fun u s1 ⟨x,H1,I1',rx,i,a,dx,fs,ex,ea,l,q⟩=>?_) (fun _ _ z=>z.elim)) ht
 have I1:=I1'.unwish
 subst ex
 obtain rfl:u=Value.ref a:=rx
 obtain⟨f,fd,ds,F,hm,hb,hd⟩:=(D i).ex
 refine Xfb I1 ea (D i).cl hm l ?_
 refine PySem.W.callWith_K (first:=[.ref a]) (h₀:=X.base) I.ok.mod.kin hm.kp (wpAny_mono (ha pos pins s1 σ H1 _ (I1.wish _) q) (fun us s2 ⟨vs,H2,I2',r,q2⟩=>?_) (fun _ _ z=>z.elim)) hst hpl
 have I2:=I2'.unwish
 exact⟨I2.kIn,XNe (us:=.ref a::us) (vs:=.ref a::vs) F (hr.mono hk) hb hd I2 (.cons rfl r) q2 hv fun y s' hq=>hx H2 s2 y s' I2 hq⟩
end
section
variable {K:PySem.W.Frag}{σ:L2.St}{H:Hp}{Q:VK}{EX:XK}{C:W4→Addr}{m:Str}{sp:W4→Sp}{E:XK}{ta:TE}{t:TA}{dvs:List V}
theorem r_methF (h:ta σ H fun x H1=>∃i a dx fs,x = .ref a∧H1 a=some (.ins (C i) dx fs)∧fs.lookup m=none∧t σ H1 fun vs H2=>sp i (x::vs) H2 Q E):Xoi C m sp [] E ta t σ H Q:=by
 unfold Xoi
 simp only [List.append_nil]
 exact h
theorem r_xMethF (h:ta σ H fun x H1=>∃i a dx fs,x = .ref a∧H1 a=some (.ins (C i) dx fs)∧fs.lookup m=none∧t σ H1 fun vs H2=>sp i (x::vs) H2 Q EX):Xtz C m sp [] ta t σ H Q EX:=by
 unfold Xtz
 simp only [List.append_nil]
 exact h
theorem r_matF {a dx:Addr}{i:W4}{fs:List (Str×V)}{R:W4→Prop}(h:H a=some (.ins (C i) dx fs))(l:fs.lookup m=none)(q:R i) :
   ∃i' a' dx' fs',V.ref a=V.ref a'∧H a'=some (.ins (C i') dx' fs')∧fs'.lookup m=none∧R i':=⟨i,a,dx,fs,rfl,h,l,q⟩
end
theorem decS {i j:Str}:decide (V.str i=V.str j)=decide (i=j):=by
 rw[Xno,Bool.eq_iff_iff]
 simp
section
variable {H:Hp}{Q:VK}
theorem r_eqSt {i j:Str}(h:Q (.bl (decide (i=j))) H):rEq (.str i) (.str j) H Q:=⟨rfl,by rw[decS];exact h⟩
end
end Stow
namespace Stow
open PySem L2 PyProof.Rows
theorem Xqf:∀{xs:List V} {us:List Value},us.length=xs.length→(∀(j:Nat) (v:V) (u:Value),xs[j]?=some v→us[j]?=some u→RelV v u)→Vals xs us
 | [],[],_,_=>.nil
 | x::xs,u::us,hl,h=>.cons (h 0 x u rfl rfl) (Xqf (by simpa using hl) fun j v u' h1 h2=>h (j+1) v u' (by simpa using h1) (by simpa using h2))
theorem Xpk {X:Cx}(hc:X.calm=true):Xit X (.type "list") (fun xs H Q=>∃a,∃kvs:List (Key×V),xs=[.ref a]∧H a=some (.dK kvs)∧∀l,H l=none→Q (.ref l) (upd H l (.lst (kvs.map fun kv=>kV kv.1)))):=by
 intro pins s σ H xs us Q I r h
 obtain⟨a,kvs,rfl,e,q⟩:=h
 obtain⟨u,rfl,rx⟩:=Xvp r
 cases rx
 obtain⟨hz,lo,vs,rk,hd⟩:=Xqn I.hok e
 obtain⟨ep,hat⟩:=hd.dictAt
 have hlen:=KV.length rk
 refine PySem.W.kdl_call (PySem.W.kdl_dict (knd:=Xbo X.prog X.w) (kvs:=vs) (ep:=ep) lo) (I.ok.hd hc) hat (by rw[←hlen];exact hz) fun h' tk acc' c' hk hD hacc=>?_
 have hv:Vals (kvs.map fun kv=>kV kv.1) acc'.toList:=Xqf (by rw[List.length_map,Array.length_toList,hacc.1,hlen]) fun j v u h1 h2=>by
   obtain⟨k,x,hx,hkk⟩:=hacc.2 j u (by rw[←Array.getElem?_toList];exact h2)
   rw[List.getElem?_map] at h1
   obtain⟨kv,hkv,rfl⟩:=Option.map_eq_some_iff.mp h1
   obtain⟨u',hu'⟩:=XAm rk (i:=j) (k:=kv.1) (v:=kv.2) (by rw[hkv])
   rw[hu'] at hx
   cases hx
   exact Xsa hkk
 exact⟨.ref s.heap.objs.size,_,I.laid (t':=tk) hk (Nat.le_refl _) (show Xcj X.prog X.w _ h' _ (.lst (kvs.map fun kv=>kV kv.1)) from ⟨by rw[List.length_map];exact hz,acc'.toList,c',hv,by rw[Array.toArray_toList];exact hD⟩),rfl,q _ (I.hok.fresh (Nat.le_refl _))⟩
section
variable {X:Cx}{a:Expr}{ta:TE}
theorem Xsd (ha:PE X a ta)(he:∀whole,isTrue a X.env whole=(do let v ←whole;standAt a.pos;holding [v] (truthy v))) :
   PT X a (fun σ H Q=>ta σ H fun x H'=>∃p,∃kvs:List (Key×V),x = .ref p∧H' p=some (.dK kvs)∧Q (!kvs.isEmpty) H'):=by
 intro pins s σ H Q I h
 refine isTrue_plain (thn (ha pins s σ H _ I h) fun v s1 ⟨x,H1,I1,r1,p,kvs,ex,e,q1⟩=>?_) (he _)
 subst ex
 obtain rfl:v=Value.ref p:=r1
 exact XDe I1 (.inl e) fun s' I'=>⟨H1,I',q1⟩
end
section
variable {K:PySem.W.Frag}{σ:L2.St}{H:Hp}{Q:VK}
theorem r_dIn {ty td:TE}(h:ty σ H fun y H1=>td σ H1 fun x H2=>∃a o,x = .ref a∧DGet H2 a y o∧Q (.bl o.isSome) H2):tDIn ty td σ H Q:=h
theorem r_dPop {td ty:TE}(h:td σ H fun x H1=>∃a,x = .ref a∧IsD H1 a∧ty σ H1 fun y H2=>∃kvs k v,H2 a=some (.dK kvs)∧y=kV k∧valV kvs k=some v∧Q v (upd H2 a (.dK (Xdu kvs k)))):XAn td ty σ H Q:=h
end
end Stow
namespace Stow
def Inn (z:Pc)(i:Nat):Prop:=z.a+1≤i∧(i:Int)<z.a+z.l-1
theorem apart {ps:List Pc}{s e:Int}{y z:Pc}{i:Int}(c:Xai s ps e)(hy:y∈ps)(hz:z∈ps)(hne:y≠z)(h1:z.a≤i)(h2:i<z.a+z.l):i<y.a∨y.a+y.l≤i:=by
 rcases Int.lt_or_le i y.a with g | g
 · exact .inl g
 · rcases Int.lt_or_le i (y.a+y.l) with g2 | g2
   · exact absurd (Xcl c hy hz g g2 h1 h2) hne
   · exact .inr g2
theorem XGx {ps:List Pc}{i:Nat}{z:Pc}(h:ps[i]?=some z):∃p∈ps,(p=z∨p.v=false)∧fbeg ps i z=p.a:=by
 have hz:=List.mem_of_getElem? h
 unfold fbeg
 split
 · exact⟨z,hz,.inl rfl,rfl⟩
 · split
   · rename_i j y hy
     split
     · exact⟨z,hz,.inl rfl,rfl⟩
     · rename_i hv
       exact⟨y,List.mem_of_getElem? hy,.inr (by simpa using hv),rfl⟩
   · exact⟨z,hz,.inl rfl,rfl⟩
theorem Xmo {ps:List Pc}{s e:Int}{i:Nat}{z:Pc}(c:Xai s ps e)(h:ps[i]?=some z):fend ps i z=z.a+z.l∨∃p∈ps,p.v=false∧p.a=z.a+z.l∧fend ps i z=p.a+p.l:=by
 unfold fend
 split
 · rename_i y hy
   split
   · exact .inl rfl
   · rename_i hv
     refine .inr ⟨y,List.mem_of_getElem? hy,by simpa using hv,?_,rfl⟩
     exact Xcg c h hy
 · exact .inl rfl
theorem XKr {cs:List Int}{b e:Int}{j:Nat}(h0:0≤b)(h1:b≤e)(n1:(j:Int)≠b)(n2:(j:Int)≠e-1):(lfI cs b e)[j]?=cs[j]?:=by
 unfold lfI
 split
 · rfl
 · unfold Xch
   rw[List.getElem?_set_ne (by omega),List.getElem?_set_ne (by omega)]
theorem Xxy {cs:List Int}{ps:List Pc}{n:Int}{i:Nat}{y z:Pc}{j:Nat}(c:Xai 0 ps n)(hi:ps[i]?=some z)(hy:y∈ps)(hv:y.v=true)(hne:y≠z)(hj:Inn y j):(lfI cs (fbeg ps i z) (fend ps i z))[j]?=cs[j]?:=by
 obtain⟨j1,j2⟩:=hj
 obtain⟨b1,b2⟩:=Xsn c hi
 obtain⟨e1,e2⟩:=Xng c hi
 have hzm:=List.mem_of_getElem? hi
 obtain⟨z0,z1,_,_⟩:=c.mem z hzm
 refine XKr (by omega) (by omega) ?_ ?_
 · obtain⟨p,hp,hpz,e⟩:=XGx hi
   have:y≠p:=fun w=>by
     rcases hpz with g | g
     · exact hne (w.trans g)
     · rw[←w,hv] at g;cases g
   have:=apart c hy hp this (i:=p.a) (Int.le_refl _) (by have:=(c.mem p hp).2.1;omega)
   omega
 · rcases Xmo c hi with e | ⟨p,hp,hpv,hpa,e⟩
   · have:=apart c hy hzm hne (i:=z.a+z.l-1) (by omega) (by omega)
     omega
   · have hyp:y≠p:=fun w=>by rw[←w,hv] at hpv;cases hpv
     have hl:=(c.mem p hp).2.1
     have:=apart c hy hp hyp (i:=p.a+p.l-1) (by omega) (by omega)
     omega
theorem XCw {cs:List Int}{ps:List Pc}{n s L:Int}{y z:Pc}{j:Nat}(c:Xai 0 ps n)(hz:z∈ps)(hzv:z.v=false)(hL:1≤L)(h1:z.a≤s)(h2:s+L≤z.a+z.l)(hy:y∈ps)(hv:y.v=true)(hj:Inn y j):(cutO cs z.a z.l s L)[j]?=cs[j]?:=by
 obtain⟨j1,j2⟩:=hj
 have hne:z≠y:=fun w=>by rw[w,hv] at hzv;cases hzv
 obtain⟨z0,_,_,_⟩:=c.mem z hz
 have:=apart c hz hy hne (i:=(j:Int)) (by omega) (by omega)
 exact Xzr z0 hL h1 h2 this
theorem Xxw {cs:List Int}{ps:List Pc}{n L:Int}{i:Nat}{y z:Pc}{j:Nat}(c:Xai 0 ps n)(hi:ps[i]?=some z)(hL:3≤L)(hf:z.a+L≤fend ps i z)(hy:y∈ps)(hv:y.v=true)(hne:y≠z)(hj:Inn y j):(lfI (Xch cs z.a L true) (z.a+L) (fend ps i z))[j]?=cs[j]?:=by
 obtain⟨j1,j2⟩:=hj
 have hzm:=List.mem_of_getElem? hi
 obtain⟨z0,z1,_,_⟩:=c.mem z hzm
 have a1:=apart c hzm hy (Ne.symm hne) (i:=(j:Int)) (by omega) (by omega)
 have out:(j:Int)<z.a∨fend ps i z≤j:=by
   rcases Xmo c hi with e | ⟨p,hp,hpv,hpa,e⟩
   · omega
   · have hyp:p≠y:=fun w=>by rw[w,hv] at hpv;cases hpv
     have hl:=(c.mem p hp).2.1
     have:=apart c hp hy hyp (i:=(j:Int)) (by omega) (by omega)
     omega
 rw[Xkg (by omega) hf (by omega),Xdg z0 (by omega) (by omega)]
theorem Xwp {cs:List Int}{a L e:Int}{j:Nat}(h0:0≤a)(h1:a+1≤j)(h2:(j:Int)<a+L-1)(he:a+L≤e):(lfI (Xch cs a L true) (a+L) e)[j]?=cs[j]?:=by
 rw[Xkg (by omega) he (by omega)]
 unfold Xch
 rw[List.getElem?_set_ne (by omega),List.getElem?_set_ne (by omega)]
theorem Xkx:∀{ps:List Pc} {cs:List Int},Xbc cs ps→(∀z∈ps,0≤z.a∧1≤z.l)→Xdj cs ps=cs
 | [],_,_,_=>rfl
 | z::r,cs,m,h=>by
   obtain⟨m1,m2⟩:=m z List.mem_cons_self
   have e:Xch cs z.a z.l z.v=cs:=by
     unfold Xch
     have e1:cs.set z.a.toNat (z.l*2+if z.v then 1 else 0)=cs:=by
       obtain⟨g1,g2⟩:=List.getElem?_eq_some_iff.mp m1
       rw[show (z.l*2+if z.v then 1 else 0)=cs[z.a.toNat] from g2.symm]
       exact List.set_getElem_self g1
     have e2:cs.set (z.a+z.l-1).toNat (z.l*2+if z.v then 1 else 0)=cs:=by
       obtain⟨g1,g2⟩:=List.getElem?_eq_some_iff.mp m2
       rw[show (z.l*2+if z.v then 1 else 0)=cs[(z.a+z.l-1).toNat] from g2.symm]
       exact List.set_getElem_self g1
     rw[e1,e2]
   show Xdj (Xch cs z.a z.l z.v) r=cs
   rw[e]
   exact Xkx (fun p hp=>m p (List.mem_cons_of_mem _ hp)) fun p hp=>h p (List.mem_cons_of_mem _ hp)
theorem XHb {cs:List Int}{s g c j:Nat}(h1:s+c≤cs.length)(h2:g+c≤cs.length)(hj:j<c):(carI cs s g c)[g+j]?=cs[s+j]?:=by
 unfold carI
 have lt:(cs.take g).length=g:=by rw[List.length_take];omega
 have lm:((cs.drop s).take c).length=c:=by rw[List.length_take,List.length_drop];omega
 rw[List.append_assoc,List.getElem?_append_right (by omega),lt,List.getElem?_append_left (by omega),show g+j-g=j by omega,List.getElem?_take,if_pos hj,List.getElem?_drop]
theorem Xui {ps:List Pc}{y:Pc}{k L e:Int}(h:y∈ps)(g:y.a<k∨e≤y.a):y∈regF ps k L e:=by
 unfold regF
 refine List.mem_flatten.mpr ⟨rg1 k L e y,List.mem_map.mpr ⟨y,h,rfl⟩,?_⟩
 unfold rg1
 rw[if_pos g]
 exact List.mem_append_left _ (List.mem_append_left _ (List.mem_singleton.mpr rfl))
end Stow
set_option Elab.async false
set_option linter.all false
set_option maxRecDepth 100000
set_option maxHeartbeats 4000000
namespace Stow
open PySem L2 PyProof.Rows
theorem Xlq {ps:List Pc}{p:Pc}{s L:Int}(hp:p∈cutL ps s L)(hv:p.v=true):p=⟨s,L,true⟩∨p∈ps:=by
 unfold cutL at hp
 obtain⟨l,hl,hp⟩:=List.mem_flatten.mp hp
 obtain⟨y,hy,rfl⟩:=List.mem_map.mp hl
 unfold ct1 at hp
 split at hp
 · rw[List.mem_singleton.mp hp]
   exact .inr hy
 · rcases List.mem_append.mp hp with g | g
   · rcases List.mem_append.mp g with g | g
     · split at g
       · rw[List.mem_singleton.mp g] at hv
         cases hv
       · cases g
     · exact .inl (List.mem_singleton.mp g)
   · split at g
     · rw[List.mem_singleton.mp g] at hv
       cases hv
     · cases g
theorem Xll {ps:List Pc}{y:Pc}{k:Int}(h:y∈modF ps k)(hv:y.v=true):y∈ps∧y.a≠k:=by
 unfold modF at h
 obtain⟨p,hp,rfl⟩:=List.mem_map.mp h
 obtain⟨h1,h2⟩:=Bool.and_eq_true_iff.mp (show (p.v&&!decide (p.a=k))=true from hv)
 have h3:p.a≠k:=by simpa using h2
 refine⟨?_,h3⟩
 have:(⟨p.a,p.l,p.v&&!decide (p.a=k)⟩:Pc)=p:=by
   obtain⟨a,l,v⟩:=p
   have h1:v=true:=h1
   have h3:a≠k:=h3
   subst h1
   show (⟨a,l,true&&!decide (a=k)⟩:Pc)=_
   rw[decide_eq_false h3]
   rfl
 rw[this]
 exact hp
theorem Xjl {y:Pc}(hv:y.v=true):∀{ps acc:List Pc},y∈ps.foldl Xav acc→y∈acc∨y∈ps
 | [],_,h=>.inl h
 | z::r,acc,h=>by
   rcases Xjl hv (ps:=r) (acc:=Xav acc z) h with g | g
   · unfold Xav at g
     split at g
     · split at g
       · rcases List.mem_append.mp g with e | e
         · exact .inl (List.dropLast_subset _ e)
         · rw[List.mem_singleton.mp e] at hv
           cases hv
       · rcases List.mem_append.mp g with e | e
         · exact .inl e
         · rw[List.mem_singleton.mp e]
           exact .inr List.mem_cons_self
     · rcases List.mem_append.mp g with e | e
       · exact .inl e
       · rw[List.mem_singleton.mp e]
         exact .inr List.mem_cons_self
   · exact .inr (List.mem_cons_of_mem _ g)
theorem Xjj {ps:List Pc}{y:Pc}(h:y∈Xcr ps)(hv:y.v=true):y∈ps:=by
 rcases Xjl hv (ps:=ps) (acc:=[]) h with g | g
 · cases g
 · exact g
theorem Xre {ps:List Pc}{y:Pc}{k L e:Int}(h:y∈regF ps k L e)(hv:y.v=true):y=⟨k,L,true⟩∨(y∈ps∧(y.a<k∨e≤y.a)):=by
 unfold regF at h
 obtain⟨l,hl,hp⟩:=List.mem_flatten.mp h
 obtain⟨p,hq,rfl⟩:=List.mem_map.mp hl
 unfold rg1 at hp
 rcases List.mem_append.mp hp with g | g
 · rcases List.mem_append.mp g with g | g
   · split at g
     · rename_i c
       rw[List.mem_singleton.mp g]
       exact .inr ⟨hq,c⟩
     · cases g
   · split at g
     · exact .inl (List.mem_singleton.mp g)
     · cases g
 · split at g
   · rw[List.mem_singleton.mp g] at hv
     cases hv
   · cases g
theorem Xjw {α:Type}[DecidableEq α]:∀(l m:List α),l.Nodup→(∀x∈l,x∈m)→l.length≤m.length
 | [],_,_,_=>Nat.zero_le _
 | x::r,m,hn,h=>by
   obtain⟨h1,h2⟩:=List.nodup_cons.mp hn
   have hx:=h x List.mem_cons_self
   have ih:=Xjw r (m.erase x) h2 fun y hy=>(List.mem_erase_of_ne (fun e=>h1 (by rw[←e];exact hy))).mpr (h y (List.mem_cons_of_mem _ hy))
   rw[List.length_erase_of_mem hx] at ih
   have:0<m.length:=List.length_pos_of_mem hx
   rw[List.length_cons]
   omega
theorem Xho:∀{ps:List Pc} {s e:Int},Xai s ps e→(ps.map fun z=>z.a).Nodup
 | [],_,_,_=>List.nodup_nil
 | p::r,s,e,c=>by
   obtain⟨h0,h1,_,h3⟩:=c
   rw[List.map_cons]
   refine List.nodup_cons.mpr ⟨fun h=>?_,Xho h3⟩
   obtain⟨y,hy,ey⟩:=List.mem_map.mp h
   have:=h3.mem y hy
   have ey:y.a=p.a:=ey
   omega
theorem Xeh {α β:Type}{f:α→β}{g:α→Bool}:∀{l:List α},(l.map f).Nodup→((l.filter g).map f).Nodup
 | [],_=>List.nodup_nil
 | x::r,h=>by
   rw[List.map_cons] at h
   obtain⟨h1,h2⟩:=List.nodup_cons.mp h
   have ih:=Xeh (g:=g) h2
   rw[List.filter_cons]
   split
   · rw[List.map_cons]
     refine List.nodup_cons.mpr ⟨fun h=>h1 ?_,ih⟩
     obtain⟨y,hy,ey⟩:=List.mem_map.mp h
     exact List.mem_map.mpr ⟨y,(List.mem_filter.mp hy).1,ey⟩
   · exact ih
theorem Xgc {α β:Type}{f:α→β}(hf:∀x y,f x=f y→x=y):∀{l:List α},l.Nodup→(l.map f).Nodup
 | [],_=>List.nodup_nil
 | x::r,h=>by
   obtain⟨h1,h2⟩:=List.nodup_cons.mp h
   rw[List.map_cons]
   refine List.nodup_cons.mpr ⟨fun g=>h1 ?_,Xgc hf h2⟩
   obtain⟨y,hy,ey⟩:=List.mem_map.mp g
   rw[hf x y ey.symm]
   exact hy
theorem Xqt {ps:List Pc}{n:Int}{kvs:List (Key×V)}(c:Xai 0 ps n)(nd:(kvs.map (·.1)).Nodup)(h1:∀kv∈kvs,∃z∈ps,z.v=true∧kv.1 = .inl (z.a+1))(h2:∀z∈ps,z.v=true→∃kv∈kvs,kv.1 = .inl (z.a+1)):(ps.filter fun z=>z.v).length=kvs.length:=by
 have n1:(((ps.filter fun z=>z.v).map fun z=>z.a).map fun a:Int=>(Sum.inl (a+1):Key)).Nodup:=Xgc (fun x y e=>by have:=Sum.inl.inj e;omega) (Xeh (Xho c))
 have le1:=Xjw _ (kvs.map (·.1)) n1 fun k hk=>by
   obtain⟨a,ha,rfl⟩:=List.mem_map.mp hk
   obtain⟨z,hz,rfl⟩:=List.mem_map.mp ha
   obtain⟨hz1,hz2⟩:=List.mem_filter.mp hz
   obtain⟨kv,hkv,e⟩:=h2 z hz1 hz2
   exact List.mem_map.mpr ⟨kv,hkv,e⟩
 have le2:=Xjw _ (((ps.filter fun z=>z.v).map fun z=>z.a).map fun a:Int=>(Sum.inl (a+1):Key)) nd fun k hk=>by
   obtain⟨kv,hkv,rfl⟩:=List.mem_map.mp hk
   obtain⟨z,hz,hv,e⟩:=h1 kv hkv
   exact List.mem_map.mpr ⟨z.a,List.mem_map.mpr ⟨z,List.mem_filter.mpr ⟨hz,hv⟩,rfl⟩,e.symm⟩
 rw[List.length_map,List.length_map,List.length_map] at le1
 rw[List.length_map,List.length_map,List.length_map] at le2
 omega
theorem XCi {a b:Int}(hb:1≤b):(0-a-1)%b=b-1-a%b:=by
 have e:=Int.emod_add_mul_ediv a b
 have h0:=Int.emod_nonneg a (show b≠0 by omega)
 have h1:=Int.emod_lt_of_pos a (show 0<b by omega)
 have e2:0-a-1=(b-1-a%b)+b*(-(a/b)-1):=by
   rw[Int.mul_sub,Int.mul_neg,Int.mul_one]
   omega
 rw[e2,Int.add_mul_emod_self_left]
 exact Int.emod_eq_of_lt (by omega) (by omega)
def XIy (ps ps':List Pc)(cs cs':List Int)(w:Pc)(gone:Pc→Prop):Prop:=w∈ps'∧w.v=true∧(∀y∈ps,y.v=true→¬gone y→y∈ps'∧y.a≠w.a∧∀j:Nat,Inn y j→cs'[j]?=cs[j]?)∧∀y∈ps',y.v=true→y=w∨(y∈ps∧¬gone y)
end Stow
local macro_rules
 | `(tactic| walk_at "set")=>`(tactic| first
   | exact Stow.set0_c
   | exact Stow.set0_1
   | exact Stow.set0_0
   | ((refine Stow.setS_c (r:=?r) ?h);(case h=>walk_at "set"))
   | ((refine Stow.setS_1 (r:=?r) ?h);(case h=>walk_at "set"))
   | ((refine Stow.setS_0 (r:=?r) ?h);(case h=>walk_at "set")))
local macro_rules
 | `(tactic| walk_at "look")=>`(tactic| first
   | with_reducible assumption
   | exact L2.upd_same
   | ((with_reducible refine Stow.look_ne ?a ?b);(case a=>(first | assumption | exact Ne.symm (by assumption)));(case b=>walk_at "look"))
   | ((with_reducible refine Stow.look_put ?a ?b);(case a=>(first | assumption | walk_at "look"));(case b=>walk_at "look"))
   | ((with_reducible refine Stow.look_tup (ys:=?ys) ?a ?b);(case a=>walk_at "look");(case b=>walk_at "look"))
   | assumption)
local macro_rules
 | `(tactic| walk_at "seq")=>`(tactic| first
   | with_reducible assumption
   | exact L2.SqL.of (by walk_at "look")
   | ((with_reducible refine Stow.seq_put ?a ?b);(case a=>assumption);(case b=>walk_at "seq"))
   | assumption)
local macro_rules
 | `(tactic| walk_at "num")=>`(tactic| first | assumption | omega | (simp only [List.length_map,List.length_set,List.length_append,List.length_cons,List.length_nil] <;> omega))
local macro_rules
 | `(tactic| walk_at "size")=>`(tactic| first | exact Stow.small4000 (by first | omega | (simp only [List.length_map,List.length_set,List.length_append,List.length_cons,List.length_nil] <;> omega)))
local macro_rules
 | `(tactic| walk_at "side")=>`(tactic| first
   | (show (0:Int)<_;first | decide | omega)
   | (show (0:Int)≤_;first | decide | omega)
   | exact Or.inr ⟨by decide,by decide⟩
   | exact Or.inl ⟨by decide,by decide⟩
   | exact⟨by decide,by decide⟩
   | exact⟨by decide,by decide,by decide⟩
   | exact⟨by decide,by decide,by assumption⟩
   | exact⟨by decide,by decide,by omega⟩
   | exact⟨by omega,by omega,by decide⟩
   | exact Or.inr ⟨by omega,by omega⟩
   | exact Or.inl ⟨by omega,by omega⟩
   | exact⟨by omega,by omega⟩)
local macro_rules
 | `(tactic| walk_at "ty")=>`(tactic| first | exact L2.TyOf.int _ | exact L2.TyOf.bl _ | exact L2.TyOf.non | ((refine L2.TyOf.lst (xs:=?xs) ?h);(case h=>walk_at "look")) | ((refine L2.TyOf.tup (xs:=?xs) ?h);(case h=>walk_at "look")) | exact L2.TyOf.str _)
local macro_rules
 | `(tactic| walk_at "kit")=>`(tactic| first | exact Stow.kit_ii | exact Stow.kit_ib | exact Stow.kit_bb | exact Stow.kit_ll | exact Stow.kit_tt)
local macro_rules
 | `(tactic| walk_at "sp")=>`(tactic| fail "no promise")
local macro_rules
 | `(tactic| walk_at "st")=>`(tactic| first
   | ((with_reducible refine Stow.r_var (v:=?v) ?e ?_);(case e=>exact rfl))
   | (with_reducible refine Stow.r_seq ?_)
   | (with_reducible refine Stow.r_nx ?_)
   | (with_reducible refine Stow.r_asg ?_)
   | ((with_reducible refine Stow.r_gnameN (σ':=?s) ?e ?_);(case e=>with_reducible (walk_at "set")))
   | (with_reducible refine Stow.r_gname ?_)
   | (with_reducible refine Stow.r_op ?_)
   | (with_reducible refine Stow.r_cons ?_)
   | (with_reducible refine Stow.r_nil ?_)
   | (with_reducible refine Stow.r_c ?_)
   | (with_reducible refine Stow.r_rI0 ?_)
   | (with_reducible refine Stow.r_call ?_)
   | (with_reducible refine Stow.r_cb ?_)
   | (with_reducible refine Stow.r_test ?_)
   | (with_reducible refine Stow.r_tB ?_)
   | (with_reducible refine Stow.r_bl ?_)
   | (with_reducible refine Stow.r_ifS ?_)
   | (with_reducible refine Stow.r_ret ?_)
   | (with_reducible refine Stow.r_rt ?_)
   | (with_reducible refine Stow.r_drop ?_)
   | (with_reducible refine Stow.r_next ?_)
   | (with_reducible refine Stow.r_not ?_)
   | (with_reducible refine Stow.r_and ?_)
   | (with_reducible refine Stow.r_or ?_)
   | (with_reducible refine Stow.r_andV ?_)
   | (with_reducible refine Stow.r_orV ?_)
   | (with_reducible refine Stow.r_notV ?_)
   | (with_reducible refine Stow.r_ifE ?_)
   | (with_reducible refine Stow.r_ifN ?_)
   | (with_reducible refine Stow.r_eqI ?_)
   | (with_reducible refine Stow.r_neI ?_)
   | (with_reducible refine Stow.r_isN ?_)
   | (with_reducible refine Stow.r_int ?_)
   | (with_reducible refine Stow.r_eqB ?_)
   | (with_reducible refine Stow.r_neB ?_)
   | (with_reducible refine Stow.r_tup ?_)
   | (with_reducible refine Stow.r_lst ?_)
   | (with_reducible refine Stow.r_bm ?_)
   | (with_reducible refine Stow.r_bm0 ?_)
   | (with_reducible refine Stow.r_sl ?_)
   | (with_reducible refine Stow.r_part ?_)
   | (with_reducible refine Stow.r_nopart ?_)
   | (with_reducible refine Stow.r_un ?_)
   | (with_reducible refine Stow.r_rU ?_)
   | (with_reducible refine Stow.r_intB ?_)
   | (with_reducible refine Stow.r_intI ?_)
   | (with_reducible refine Stow.r_truB ?_)
   | (with_reducible refine Stow.r_gsub ?_)
   | (with_reducible refine Stow.r_retN ?_)
   | (with_reducible refine Stow.r_ct ?_)
   | (with_reducible refine Stow.r_bk ?_)
   | (with_reducible refine Stow.r_break ?_)
   | (with_reducible refine Stow.r_cont ?_)
   | (with_reducible refine L2.iteT ?_)
   | (with_reducible refine L2.iteF ?_)
   | ((with_reducible refine Stow.r_rI ?c ?_);(case c=>walk_at "side"))
   | ((with_reducible refine Stow.r_tyL (xs:=?xs) ?h ?_);(case h=>walk_at "look"))
   | ((with_reducible refine Stow.r_appendI (ns:=?ns) ?h ?z ?_);(case h=>walk_at "look");(case z=>walk_at "size"))
   | ((with_reducible refine Stow.r_append (xs:=?xs) ?h ?z ?_);(case h=>walk_at "look");(case z=>walk_at "size"))
   | ((with_reducible refine Stow.r_gtup (xs:=?xs) ?h ?l ?_);(case h=>walk_at "look");(case l=>exact rfl))
   | (with_reducible refine Stow.r_gcons ?_)
   | (with_reducible refine Stow.r_gnil ?_)
   | ((with_reducible refine Stow.r_ixI (ns:=?ns) ?h ?a ?b ?_);(case h=>walk_at "seq");(case a=>walk_at "num");(case b=>walk_at "num"))
   | ((with_reducible refine Stow.r_ixT (xs:=?xs) (v:=?v) ?h ?e ?_);(case h=>walk_at "look");(case e=>exact rfl))
   | ((with_reducible refine Stow.r_setI (ns:=?ns) ?h ?a ?b ?_);(case h=>walk_at "look");(case a=>walk_at "num");(case b=>walk_at "num"))
   | ((with_reducible refine Stow.r_sllG (ns:=?ns) ?h ?_);(case h=>walk_at "seq"))
   | ((with_reducible refine Stow.r_sll (xs:=?xs) ?h ?_);(case h=>walk_at "seq"))
   | ((with_reducible refine Stow.r_lenI (ns:=?ns) ?h ?_);(case h=>walk_at "seq");(try rw[List.length_map]))
   | ((with_reducible refine Stow.r_lenL (xs:=?xs) ?h ?_);(case h=>walk_at "look"))
   | ((with_reducible refine Stow.r_lenT (xs:=?xs) ?h ?_);(case h=>walk_at "look"))
   | ((with_reducible refine Stow.r_listI (xs:=?xs) ?h ?_);(case h=>walk_at "seq"))
   | ((with_reducible refine Stow.r_isi (t:=?t) (b:=?b) ?y ?e ?_);(case y=>walk_at "ty");(case e=>walk_at "kit"))
   | ((with_reducible refine Stow.r_new ?h ?_);(case h=>(first | exact Nat.zero_le _ | simp)))
   | ((with_reducible refine Stow.r_truL (xs:=?xs) ?h ?_);(case h=>walk_at "seq"))
   | ((with_reducible refine Stow.r_ifdT ?c ?_);(case c=>(first | omega | exact rfl)))
   | ((with_reducible refine Stow.r_ifdF ?c ?_);(case c=>(first | omega | (intro h;cases h;done))))
   | (with_reducible refine Stow.r_raise ?_)
   | (with_reducible refine Stow.r_raiseI ?_)
   | (with_reducible refine Stow.r_tryAs ?_)
   | (with_reducible refine Stow.r_try ?_)
   | (with_reducible refine Stow.r_fldX ?_)
   | (with_reducible refine Stow.r_for ?_)
   | (with_reducible refine Stow.r_iL ?_)
   | (with_reducible refine Stow.r_iR1 ?_)
   | (with_reducible refine Stow.r_iR2 ?_)
   | (with_reducible refine Stow.r_comp ?_)
   | ((with_reducible refine Stow.r_isiX (C:=?C) (od:=?od) (b:=?b) ?h ?z ?e ?_);(case h=>walk_at "look");(case z=>assumption);(case e=>assumption))
   | ((with_reducible refine Stow.r_isiN (C:=?C) (od:=?od) (b:=?b) ?h ?z ?n ?e ?_);(case h=>walk_at "look");(case z=>assumption);(case n=>exact fun z=>nomatch z);(case e=>assumption))
   | (with_reducible refine Stow.r_makeX ?_)
   | (with_reducible refine Stow.r_makeI ?_)
   | (with_reducible refine Stow.r_fldN ?_)
   | ((with_reducible refine Stow.r_catG (xs:=?xs) (zs:=?zs) ?h ?g ?z ?_);(case h=>walk_at "look");(case g=>walk_at "look");(case z=>walk_at "num"))
   | ((with_reducible refine Stow.r_cat (xs:=?xs) (zs:=?zs) ?h ?g ?z ?_);(case h=>walk_at "look");(case g=>walk_at "look");(case z=>(refine Nat.le_of_lt (L2.small1000 ?_);first | omega | simp)))
   | ((with_reducible refine Stow.r_slS ?h ?_);(case h=>decide))
   | (with_reducible refine Stow.r_max ?_)
   | (with_reducible refine Stow.r_fld ?_)
   | ((with_reducible refine Stow.r_at (C:=?C) (dx:=?dx) (fs:=?fs) (v:=?v) ?h ?c ?n ?l ?_);(case h=>walk_at "look");(case c=>assumption);(case n=>assumption);(case l=>exact rfl))
   | (with_reducible refine Stow.r_sfld ?_)
   | ((with_reducible refine Stow.r_sat (C:=?C) (dx:=?dx) (fs:=?fs) ?h ?c ?n ?l ?_);(case h=>walk_at "look");(case c=>assumption);(case n=>assumption);(case l=>(first | decide | simp)))
   | (with_reducible refine Stow.r_meth ?_)
   | ((with_reducible refine Stow.r_mat (dx:=?dx) (fs:=?fs) ?h ?l ?_);(case h=>walk_at "look");(case l=>exact rfl))
   | (with_reducible refine Stow.r_make ?_)
   | (with_reducible refine Stow.r_compG ?_)
   | ((with_reducible refine Stow.r_isiO (C:=?C) (dx:=?dx) (fs:=?fs) (b:=?b) ?h ?z ?e ?_);(case h=>walk_at "look");(case z=>assumption);(case e=>assumption))
   | (with_reducible refine Stow.r_tryE ?_)
   | (with_reducible refine Stow.r_tryA ?_)
   | (with_reducible refine Stow.r_xCall ?_)
   | (with_reducible refine Stow.r_tryS ?_)
   | (with_reducible refine Stow.r_xSet ?_)
   | (with_reducible refine Stow.r_xIf ?_)
   | (with_reducible refine Stow.r_xMeth ?_)
   | (with_reducible refine Stow.r_xMethD ?_)
   | (with_reducible refine Stow.r_xMake ?_)
   | (with_reducible refine Stow.r_methD ?_)
   | (with_reducible refine Stow.r_isB ?_)
   | ((with_reducible refine Stow.r_notIn (xs:=?xs) ?h ?f ?g ?_);(case h=>walk_at "look");(case f=>exact rfl);(case g=>exact rfl))
   | walk_at "sp")
local macro_rules
 | `(tactic| walk_at "go")=>`(tactic| repeat walk_at "st")
local macro_rules
 | `(tactic| walk_at "len")=>`(tactic| first
   | (rintro⟨e,_⟩;exact congrArg List.length e)
   | (rintro⟨_,e,_⟩;exact congrArg List.length e)
   | (rintro⟨_,_,e,_⟩;exact congrArg List.length e)
   | (rintro⟨_,_,_,e,_⟩;exact congrArg List.length e)
   | (rintro⟨_,_,_,_,e,_⟩;exact congrArg List.length e)
   | (rintro⟨_,_,_,_,_,e,_⟩;exact congrArg List.length e)
   | (rintro⟨_,_,_,_,_,_,e,_⟩;exact congrArg List.length e)
   | (rintro⟨_,_,_,_,_,_,_,e,_⟩;exact congrArg List.length e)
   | (rintro⟨_,_,_,_,_,_,_,_,e,_⟩;exact congrArg List.length e)
   | (rintro⟨_,_,_,_,_,_,_,_,_,e,_⟩;exact congrArg List.length e)
   | (rintro⟨_,_,_,_,_,_,_,_,_,_,e,_⟩;exact congrArg List.length e)
   | (rintro⟨_,_,_,_,_,_,_,_,_,_,_,e,_⟩;exact congrArg List.length e)
   | (rintro⟨_,_,_,_,_,_,_,_,_,_,_,_,e,_⟩;exact congrArg List.length e)
   | (rintro⟨_,_,_,_,_,_,_,_,_,_,_,_,_,e,_⟩;exact congrArg List.length e)
   | (rintro⟨_,_,_,_,_,_,_,_,_,_,_,_,_,_,e,_⟩;exact congrArg List.length e)
   | (rintro⟨_,_,_,_,_,_,_,_,_,_,_,_,_,_,_,e,_⟩;exact congrArg List.length e)
   | (rintro⟨_,_,_,_,_,_,_,_,_,_,_,_,_,_,_,_,e,_⟩;exact congrArg List.length e)
   | (rintro⟨_,_,_,_,_,_,_,_,_,_,_,_,_,_,_,_,_,e,_⟩;exact congrArg List.length e))
local macro_rules
 | `(tactic| walk_at "gs")=>`(tactic| repeat (first | (with_reducible refine Stow.r_nx ?_) | ((fail_if_success (with_reducible refine Stow.r_isIf ?_));walk_at "st")))
local macro_rules
 | `(tactic| walk_at "ga")=>`(tactic| repeat ((fail_if_success (with_reducible refine Stow.r_isAnd ?_));(fail_if_success (with_reducible refine Stow.r_isOr ?_));walk_at "st"))
local macro_rules
 | `(tactic| walk_at "ge")=>`(tactic| repeat (first | (with_reducible refine Stow.r_nx ?_) | ((fail_if_success (with_reducible refine Stow.r_isSeq ?_));walk_at "st")))
local macro_rules
 | `(tactic| walk_at "g1")=>`(tactic| ((with_reducible refine Stow.r_seq ?_);walk_at "ge"))
local macro_rules
 | `(tactic| walk_at "st")=>`(tactic| first
   | (with_reducible refine Stow.r_dget ?_)
   | (with_reducible refine Stow.r_dput ?_)
   | (with_reducible refine Stow.r_forD ?_)
   | (with_reducible refine Stow.r_dnew ?_)
   | (with_reducible refine Stow.r_xExp ?_)
   | ((with_reducible refine Stow.r_tyD (kvs:=?kvs) ?h ?_);(case h=>walk_at "look")))
local macro_rules
 | `(tactic| walk_at "st")=>`(tactic| first
   | (with_reducible refine Stow.r_dIn ?_)
   | (with_reducible refine Stow.r_dPop ?_)
   | ((with_reducible refine Stow.r_truD (kvs:=?kvs) ?h ?_);(case h=>walk_at "look"))
   | (with_reducible refine Stow.r_eqSS ?_)
   | (with_reducible refine Stow.r_neSS ?_)
   | (with_reducible refine Stow.r_eqSt ?_)
   | (with_reducible refine Stow.r_neSt ?_)
   | (with_reducible refine Stow.r_methF ?_)
   | (with_reducible refine Stow.r_methFD ?_)
   | (with_reducible refine Stow.r_xMethF ?_)
   | (with_reducible refine Stow.r_xMethFD ?_)
   | ((with_reducible refine Stow.r_matF (i:=?i) (dx:=?dx) (fs:=?fs) ?h ?l ?_);(case h=>walk_at "look");(case l=>(first | exact Stow.fsF_none (by decide) (by decide) | exact rfl)))
   | ((with_reducible refine Stow.r_at (C:=?C) (dx:=?dx) (fs:=?fs) (v:=?v) ?h ?c ?n ?l ?_);(case h=>walk_at "look");(case c=>assumption);(case n=>assumption);(case l=>exact Stow.fsF_cells))
   | ((with_reducible refine Stow.r_sat (C:=?C) (dx:=?dx) (fs:=?fs) ?h ?c ?n ?l ?_);(case h=>walk_at "look");(case c=>assumption);(case n=>assumption);(case l=>exact Stow.fsF_few)))
local macro_rules
 | `(tactic| walk_at "sp")=>`(tactic| first
   | (with_reducible refine Stow.i_long ?_)
   | (with_reducible refine Stow.i_live ?_)
   | (with_reducible refine Stow.i_whole ?_)
   | ((with_reducible refine Stow.i_cell (ns:=?ns) ?h ?a ?_);(case h=>walk_at "seq");(case a=>walk_at "nn"))
   | ((with_reducible refine Stow.i_can (ns:=?ns) ?h ?a ?b ?_);(case h=>walk_at "seq");(case a=>walk_at "num");(case b=>walk_at "num"))
   | ((with_reducible refine Stow.i_bad (ns:=?ns) ?h ?a ?b ?_);(case h=>walk_at "seq");(case a=>walk_at "num");(case b=>walk_at "num")))
local macro_rules
 | `(tactic| walk_at "nn")=>`(tactic| first | decide | omega | exact Int.emod_nonneg _ (by decide) | exact Int.emod_nonneg _ (by omega))
--GEN
namespace Stow
open PySem L2 PyProof.Rows
theorem fS {N Q:List Str}{sc:Scope}(a:sc.kind = .function:=by rfl)(b:sc.isCoroutine=false:=by rfl)(c:sc.isGenerator=false:=by rfl)(d:N.Nodup:=by decide +kernel)(e:N.take Q.length=Q:=by rfl)(f:∀x∈Q,sc.names.lookup x=some .local∨sc.names.lookup x=some .cell:=by decide +kernel)(g:∀y∈sc.names,y.2≠.free:=by decide +kernel):FnScope N Q sc:=⟨a,b,c,d,e,f,g⟩
abbrev Xzb:Stmt:=top 0
theorem sc_Z60:FnScope ["k"] ["k"] (Xae Xzb):=fS
abbrev BiS (x q:Str)(s:Stmt)(ps:List Str):Prop:=∀(kV doc pm:Value) (an:Option Addr) (cdv ct:Value) (us:List Value),us.length=ps.length→bindArgs (PySem.W.fnOf x q (Xbr s) (Xbe s) (Xae s) .none kV doc pm an cdv ct) ⟨us,[]⟩=pure (ps.zip us)
theorem bi_Z60:BiS "_wall" "_wall" Xzb ["k"]:=fun _ _ _ _ _ _ us hl=>match us,hl with | [_],_=>rfl
abbrev Xqh:Stmt:=top 13
theorem XPu:FnScope ["count","bound"] ["count","bound"] (Xae Xqh):=fS
theorem XOo:BiS "check_ask" "check_ask" Xqh ["count","bound"]:=fun _ _ _ _ _ _ us hl=>match us,hl with | [_,_],_=>rfl
abbrev s_Z5:Stmt:=top 14
theorem sc_Z5:FnScope ["count","bound"] ["count","bound"] (Xae s_Z5):=fS
theorem bi_Z5:BiS "check_plain_ask" "check_plain_ask" s_Z5 ["count","bound"]:=fun _ _ _ _ _ _ us hl=>match us,hl with | [_,_],_=>rfl
abbrev Xuo:Stmt:=top 16
theorem XMz:FnScope ["long","live"] ["long","live"] (Xae Xuo):=fS
theorem XLm:BiS "mark_of" "mark_of" Xuo ["long","live"]:=fun _ _ _ _ _ _ us hl=>match us,hl with | [_,_],_=>rfl
abbrev Xpx:Stmt:=top 17
theorem XPb:FnScope ["number"] ["number"] (Xae Xpx):=fS
theorem XKp:BiS "long_of" "long_of" Xpx ["number"]:=fun _ _ _ _ _ _ us hl=>match us,hl with | [_],_=>rfl
abbrev Xrd:Stmt:=top 18
theorem XJy:FnScope ["number"] ["number"] (Xae Xrd):=fS
theorem XNq:BiS "live_of" "live_of" Xrd ["number"]:=fun _ _ _ _ _ _ us hl=>match us,hl with | [_],_=>rfl
abbrev Xuk:Stmt:=top 21
theorem XAw:FnScope ["cells","at","long"] ["cells","at"] (Xae Xuk):=fS
theorem XJp:BiS "can_begin" "can_begin" Xuk ["cells","at"]:=fun _ _ _ _ _ _ us hl=>match us,hl with | [_,_],_=>rfl
abbrev Xqu:Stmt:=top 22
theorem XAo:FnScope ["cells","at","last"] ["cells","at"] (Xae Xqu):=fS
theorem XOw:BiS "bad_of_piece" "bad_of_piece" Xqu ["cells","at"]:=fun _ _ _ _ _ _ us hl=>match us,hl with | [_,_],_=>rfl
abbrev Xqq:Stmt:=top 23
theorem Xje:FnScope ["cells","pieces","at","bad","long"] ["cells"] (Xae Xqq):=fS
theorem XQf:BiS "looked" "looked" Xqq ["cells"]:=fun _ _ _ _ _ _ us hl=>match us,hl with | [_],_=>rfl
abbrev Xts:Stmt:=top 24
theorem XAt:FnScope ["count","cells"] ["count"] (Xae Xts):=fS
theorem XLp:BiS "fresh_room" "fresh_room" Xts ["count"]:=fun _ _ _ _ _ _ us hl=>match us,hl with | [_],_=>rfl
abbrev Xqc:Stmt:=top 26
theorem XBb:FnScope ["cells","at","long","live","row"] ["cells","at","long","live"] (Xae Xqc):=fS
theorem XPq:BiS "laid" "laid" Xqc ["cells","at","long","live"]:=fun _ _ _ _ _ _ us hl=>match us,hl with | [_,_,_,_],_=>rfl
abbrev Xsr:Stmt:=top 27
theorem XNv:FnScope ["cells","begin","end"] ["cells","begin","end"] (Xae Xsr):=fS
theorem XOm:BiS "laid_free" "laid_free" Xsr ["cells","begin","end"]:=fun _ _ _ _ _ _ us hl=>match us,hl with | [_,_,_],_=>rfl
abbrev Xrq:Stmt:=top 28
theorem XAi:FnScope ["cells","at","piece"] ["cells","at"] (Xae Xrq):=fS
theorem XLl:BiS "piece_at" "piece_at" Xrq ["cells","at"]:=fun _ _ _ _ _ _ us hl=>match us,hl with | [_,_],_=>rfl
abbrev Xuf:Stmt:=top 29
theorem XBg:FnScope ["cells","at","piece"] ["cells","at"] (Xae Xuf):=fS
theorem XNm:BiS "live_at" "live_at" Xuf ["cells","at"]:=fun _ _ _ _ _ _ us hl=>match us,hl with | [_,_],_=>rfl
abbrev Xtc:Stmt:=top 30
theorem XAp:FnScope ["cells","at","piece"] ["cells","at"] (Xae Xtc):=fS
theorem XMu:BiS "free_at" "free_at" Xtc ["cells","at"]:=fun _ _ _ _ _ _ us hl=>match us,hl with | [_,_],_=>rfl
abbrev Xtk:Stmt:=top 31
theorem XAu:FnScope ["cells","cell","begins"] ["cells","cell"] (Xae Xtk):=fS
theorem XQv:BiS "begin_around" "begin_around" Xtk ["cells","cell"]:=fun _ _ _ _ _ _ us hl=>match us,hl with | [_,_],_=>rfl
abbrev Xrf:Stmt:=top 32
theorem XKw:FnScope ["cells","at"] ["cells","at"] (Xae Xrf):=fS
theorem XNy:BiS "free_begin" "free_begin" Xrf ["cells","at"]:=fun _ _ _ _ _ _ us hl=>match us,hl with | [_,_],_=>rfl
abbrev Xru:Stmt:=top 33
theorem XNf:FnScope ["cells","end"] ["cells","end"] (Xae Xru):=fS
theorem XPz:BiS "free_end" "free_end" Xru ["cells","end"]:=fun _ _ _ _ _ _ us hl=>match us,hl with | [_,_],_=>rfl
abbrev Xuh:Stmt:=top 34
theorem Xhp:FnScope ["cells","at","place","long","begin","free_long","live","end","row"] ["cells","at","place","long"] (Xae Xuh):=fS
theorem XNl:BiS "cut_out" "cut_out" Xuh ["cells","at","place","long"]:=fun _ _ _ _ _ _ us hl=>match us,hl with | [_,_,_,_],_=>rfl
abbrev Xsv:Stmt:=top 35
theorem Xob:FnScope ["cells","at","begin","long","live"] ["cells","at"] (Xae Xsv):=fS
theorem XLz:BiS "freed" "freed" Xsv ["cells","at"]:=fun _ _ _ _ _ _ us hl=>match us,hl with | [_,_],_=>rfl
abbrev s_Z9:Stmt:=top 36
theorem Xrh:FnScope ["pieces","row","at","long","live"] ["pieces"] (Xae s_Z9):=fS
theorem XSf:BiS "joined_pieces" "joined_pieces" s_Z9 ["pieces"]:=fun _ _ _ _ _ _ us hl=>match us,hl with | [_],_=>rfl
abbrev Xul:Stmt:=top 37
theorem Xjg:FnScope ["cells","row","at","long","live"] ["cells"] (Xae Xul):=fS
theorem XPw:BiS "joined" "joined" Xul ["cells"]:=fun _ _ _ _ _ _ us hl=>match us,hl with | [_],_=>rfl
abbrev Xtn:Stmt:=top 38
theorem XBd:FnScope ["cells","source","goal","count","row"] ["cells","source","goal","count"] (Xae Xtn):=fS
theorem XNh:BiS "carried" "carried" Xtn ["cells","source","goal","count"]:=fun _ _ _ _ _ _ us hl=>match us,hl with | [_,_,_,_],_=>rfl
abbrev Xrw:Stmt:=top 42
theorem Xlr:FnScope ["piece","long","bound","at","piece_long","live","place"] ["piece","long","bound"] (Xae Xrw):=fS
theorem XLn:BiS "first_place" "first_place" Xrw ["piece","long","bound"]:=fun _ _ _ _ _ _ us hl=>match us,hl with | [_,_,_],_=>rfl
abbrev Xqr:Stmt:=top 43
theorem Xoq:FnScope ["cells","long","bound","spots","piece","place"] ["cells","long","bound"] (Xae Xqr):=fS
theorem XLf:BiS "spots_for" "spots_for" Xqr ["cells","long","bound"]:=fun _ _ _ _ _ _ us hl=>match us,hl with | [_,_,_],_=>rfl
abbrev Xpu:Stmt:=top 45
theorem XOs:FnScope ["ranked"] ["ranked"] (Xae Xpu):=fS
theorem XNb:BiS "least_place" "least_place" Xpu ["ranked"]:=fun _ _ _ _ _ _ us hl=>match us,hl with | [_],_=>rfl
abbrev Xud:Stmt:=top 51
theorem XJi:FnScope ["word","size"] ["word","size"] (Xae Xud):=fS
theorem XMy:BiS "stretches_of" "stretches_of" Xud ["word","size"]:=fun _ _ _ _ _ _ us hl=>match us,hl with | [_,_],_=>rfl
abbrev Xsx:Stmt:=top 53
theorem XJo:FnScope ["_law_script","_law_k"] ["_law_script","_law_k"] (Xae Xsx):=fS
theorem XQh:BiS "_law_cell_at" "_law_cell_at" Xsx ["_law_script","_law_k"]:=fun _ _ _ _ _ _ us hl=>match us,hl with | [_,_],_=>rfl
abbrev Xti:Stmt:=top 54
theorem XQo:FnScope ["_law_found"] ["_law_found"] (Xae Xti):=fS
theorem XPi:BiS "_law_whole" "_law_whole" Xti ["_law_found"]:=fun _ _ _ _ _ _ us hl=>match us,hl with | [_],_=>rfl
abbrev Xse:Stmt:=top 55
theorem Xjf:FnScope ["_law_cells","_law_size","_law_pieces","_law_at","_law_long","_law_live"] ["_law_cells","_law_size"] (Xae Xse):=fS
theorem XJl:BiS "_law_walk" "_law_walk" Xse ["_law_cells","_law_size"]:=fun _ _ _ _ _ _ us hl=>match us,hl with | [_,_],_=>rfl
abbrev Xrj:Stmt:=top 56
theorem Xmd:FnScope ["_law_keeper","_law_way","_law_place","_law_count","_law_bound","_law_told_here"] ["_law_keeper","_law_way","_law_place","_law_count","_law_bound"] (Xae Xrj):=fS
theorem XNw:BiS "_law_told" "_law_told" Xrj ["_law_keeper","_law_way","_law_place","_law_count","_law_bound"]:=fun _ _ _ _ _ _ us hl=>match us,hl with | [_,_,_,_,_],_=>rfl
abbrev Xqx:Stmt:=top 57
theorem Xsp:FnScope ["_law_pieces","_law_long","_law_bound","_law_piece","_law_spot"] ["_law_pieces","_law_long","_law_bound"] (Xae Xqx):=fS
theorem XLh:BiS "_law_narrow" "_law_narrow" Xqx ["_law_pieces","_law_long","_law_bound"]:=fun _ _ _ _ _ _ us hl=>match us,hl with | [_,_,_],_=>rfl
abbrev Xsq:Stmt:=top 58
theorem Xgu:FnScope ["_law_keeper","_law_held","_law_way","_law_place","_law_c","_law_count","_law_bound","_law_before","_law_found","_law_pieces","_law_row"] ["_law_keeper","_law_held","_law_way","_law_place","_law_c"] (Xae Xsq):=fS
theorem XJr:BiS "_law_new" "_law_new" Xsq ["_law_keeper","_law_held","_law_way","_law_place","_law_c"]:=fun _ _ _ _ _ _ us hl=>match us,hl with | [_,_,_,_,_],_=>rfl
abbrev Xsl:Stmt:=top 59
theorem Xhx:FnScope ["_law_keeper","_law_held","_law_size","_law_cells","_law_pieces","_law_lives","_law_piece","_law_row","_law_k"] ["_law_keeper","_law_held","_law_size"] (Xae Xsl):=fS
theorem XMq:BiS "_law_right" "_law_right" Xsl ["_law_keeper","_law_held","_law_size"]:=fun _ _ _ _ _ _ us hl=>match us,hl with | [_,_,_],_=>rfl
abbrev Xtx:Stmt:=top 60
theorem Xlg:FnScope ["_law_keeper","_law_other","_law_held","_law_c","_law_kept","_law_way","_law_place","_law_row","_law_k"] ["_law_keeper","_law_other","_law_held","_law_c","_law_kept"] (Xae Xtx):=fS
theorem XOj:BiS "_law_step" "_law_step" Xtx ["_law_keeper","_law_other","_law_held","_law_c","_law_kept"]:=fun _ _ _ _ _ _ us hl=>match us,hl with | [_,_,_,_,_],_=>rfl
abbrev Xnn:Stmt:=top 61
theorem Xdq:FnScope ["_law_script","_law_size","_law_words","_law_left","_law_right_here","_law_mine","_law_yours","_law_kept","_law_c","_law_stood","_law_place","_law_pair"] ["_law_script"] (Xae Xnn):=fS
theorem bi_law:BiS "law" "law" Xnn ["_law_script"]:=fun _ _ _ _ _ _ us hl=>match us,hl with | [_],_=>rfl
abbrev Xdd:Stmt:=Xag (top 5) 0
theorem Xiz:FnScope ["self","cell"] ["self","cell"] (Xae Xdd):=fS
theorem Xiy:BiS "__init__" "Broken.__init__" Xdd ["self","cell"]:=fun _ _ _ _ _ _ us hl=>match us,hl with | [_,_],_=>rfl
abbrev Xbx:Stmt:=Xag (top 40) 0
theorem Xcu:FnScope ["self","size"] ["self","size"] (Xae Xbx):=fS
theorem Xcv:BiS "__init__" "Keeper.__init__" Xbx ["self","size"]:=fun _ _ _ _ _ _ us hl=>match us,hl with | [_,_],_=>rfl
abbrev Xeb:Stmt:=Xag (top 49) 0
theorem Xlu:FnScope ["self","size"] ["self","size"] (Xae Xeb):=fS
theorem Xlf:BiS "__init__" "Next.__init__" Xeb ["self","size"]:=fun _ _ _ _ _ _ us hl=>match us,hl with | [_,_],_=>rfl
abbrev s_Z1:Stmt:=Xag (top 46) 4
theorem sc_Z1:FnScope ["self","cells"] ["self","cells"] (Xae s_Z1):=fS
theorem XUd:BiS "room_begin" "Stretches.room_begin" s_Z1 ["self","cells"]:=fun _ _ _ _ _ _ us hl=>match us,hl with | [_,_],_=>rfl
abbrev s_Z6:Stmt:=Xag (top 49) 3
theorem XTz:FnScope ["self","cells"] ["self","cells"] (Xae s_Z6):=fS
theorem XTl:BiS "room_begin" "Next.room_begin" s_Z6 ["self","cells"]:=fun _ _ _ _ _ _ us hl=>match us,hl with | [_,_],_=>rfl
abbrev Xwe:Stmt:=Xag (top 40) 4
theorem XMt:FnScope ["self"] ["self"] (Xae Xwe):=fS
theorem XMc:BiS "clear" "Keeper.clear" Xwe ["self"]:=fun _ _ _ _ _ _ us hl=>match us,hl with | [_],_=>rfl
abbrev Xws:Stmt:=Xag (top 40) 2
theorem XMn:FnScope ["self"] ["self"] (Xae Xws):=fS
theorem XKu:BiS "pieces" "Keeper.pieces" Xws ["self"]:=fun _ _ _ _ _ _ us hl=>match us,hl with | [_],_=>rfl
abbrev Xxb:Stmt:=Xag (top 40) 5
theorem Xoh:FnScope ["self","place","at","long","live"] ["self","place"] (Xae Xxb):=fS
theorem XNp:BiS "many" "Keeper.many" Xxb ["self","place"]:=fun _ _ _ _ _ _ us hl=>match us,hl with | [_,_],_=>rfl
abbrev s_Z0:Stmt:=Xag (top 46) 5
theorem XUa:FnScope ["self","behind"] ["self","behind"] (Xae s_Z0):=fS
theorem bi_Z0:BiS "room_granted" "Stretches.room_granted" s_Z0 ["self","behind"]:=fun _ _ _ _ _ _ us hl=>match us,hl with | [_,_],_=>rfl
abbrev s_Z4:Stmt:=Xag (top 49) 4
theorem sc_Z4:FnScope ["self","behind"] ["self","behind"] (Xae s_Z4):=fS
theorem bi_Z4:BiS "room_granted" "Next.room_granted" s_Z4 ["self","behind"]:=fun _ _ _ _ _ _ us hl=>match us,hl with | [_,_],_=>rfl
abbrev Xzs:Stmt:=Xag (top 40) 1
theorem XPp:FnScope ["self"] ["self"] (Xae Xzs):=fS
theorem XMk:BiS "cells" "Keeper.cells" Xzs ["self"]:=fun _ _ _ _ _ _ us hl=>match us,hl with | [_],_=>rfl
abbrev Xuz:Stmt:=Xag (top 40) 3
theorem XRa:FnScope ["self","cells"] ["self","cells"] (Xae Xuz):=fS
theorem XMr:BiS "lay" "Keeper.lay" Xuz ["self","cells"]:=fun _ _ _ _ _ _ us hl=>match us,hl with | [_,_],_=>rfl
abbrev s_Z2:Stmt:=Xag (top 40) 12
theorem XMv:FnScope ["self","place","k","many"] ["self","place","k"] (Xae s_Z2):=fS
theorem XRm:BiS "room_cell_of" "Keeper.room_cell_of" s_Z2 ["self","place","k"]:=fun _ _ _ _ _ _ us hl=>match us,hl with | [_,_,_],_=>rfl
abbrev Xwc:Stmt:=Xag (top 40) 7
theorem XAc:FnScope ["self","place","k","number","cell"] ["self","place","k","number"] (Xae Xwc):=fS
theorem XJu:BiS "put" "Keeper.put" Xwc ["self","place","k","number"]:=fun _ _ _ _ _ _ us hl=>match us,hl with | [_,_,_,_],_=>rfl
abbrev Xvn:Stmt:=Xag (top 40) 6
theorem XPy:FnScope ["self","place","k"] ["self","place","k"] (Xae Xvn):=fS
theorem XQt:BiS "get" "Keeper.get" Xvn ["self","place","k"]:=fun _ _ _ _ _ _ us hl=>match us,hl with | [_,_,_],_=>rfl
abbrev Xyq:Stmt:=Xag (top 47) 0
theorem XAk:FnScope ["self","long","bound","spots"] ["self","long","bound"] (Xae Xyq):=fS
theorem XPo:BiS "chosen" "First.chosen" Xyq ["self","long","bound"]:=fun _ _ _ _ _ _ us hl=>match us,hl with | [_,_,_],_=>rfl
abbrev Xzo:Stmt:=Xag (top 48) 0
theorem Xrp:FnScope ["self","long","bound","cells","spots"] ["self","long","bound"] (Xae Xzo):=fS
theorem XMx:BiS "chosen" "Best.chosen" Xzo ["self","long","bound"]:=fun _ _ _ _ _ _ us hl=>match us,hl with | [_,_,_],_=>rfl
abbrev Xwk:Stmt:=Xag (top 49) 2
theorem XAx:FnScope ["self","long","bound","spots"] ["self","long","bound"] (Xae Xwk):=fS
theorem XNa:BiS "chosen" "Next.chosen" Xwk ["self","long","bound"]:=fun _ _ _ _ _ _ us hl=>match us,hl with | [_,_,_],_=>rfl
abbrev Xzv:Stmt:=Xag (top 50) 0
theorem Xst:FnScope ["self","long","bound","cells","spots"] ["self","long","bound"] (Xae Xzv):=fS
theorem XMa:BiS "chosen" "Likes.chosen" Xzv ["self","long","bound"]:=fun _ _ _ _ _ _ us hl=>match us,hl with | [_,_,_],_=>rfl
abbrev Xjz:Stmt:=Xag (top 46) 1
theorem Xqv:FnScope ["self","count","bound","long","at"] ["self","count","bound"] (Xae Xjz):=fS
theorem XMj (T:Addr)(d1:Value)(kV doc pm:Value)(an:Option Addr)(cdv ct:Value)(us:List Value)(hl:us.length=["self","count","bound"].length):∃k:Option (Array Value)→Sem (List (Str×Value)),bindArgs (PySem.W.fnOf "ask" "Stretches.ask" (Xbr Xjz) (Xbe Xjz) (Xae Xjz) (.ref T) kV doc pm an cdv ct) ⟨us,[]⟩=seqItems? (.ref T) >>= k∧k (some [d1].toArray)=pure ((["self","count","bound"]:List Str).zip us):=match us,hl with | [_,_,_],_=>⟨_,rfl,rfl⟩
theorem XLw (T:Addr)(d1:Value)(kV doc pm:Value)(an:Option Addr)(cdv ct:Value)(us:List Value)(hl:(us++[d1]).length=["self","count","bound"].length):∃k:Option (Array Value)→Sem (List (Str×Value)),bindArgs (PySem.W.fnOf "ask" "Stretches.ask" (Xbr Xjz) (Xbe Xjz) (Xae Xjz) (.ref T) kV doc pm an cdv ct) ⟨us,[]⟩=seqItems? (.ref T) >>= k∧k (some [d1].toArray)=pure ((["self","count","bound"]:List Str).zip (us++[d1])):=match us,(show us.length=2 by simpa using hl) with | [_,_],_=>⟨_,rfl,rfl⟩
abbrev s_Z8:Stmt:=Xag (top 46) 2
theorem XTh:FnScope ["self","place"] ["self","place"] (Xae s_Z8):=fS
theorem XRu:BiS "give" "Stretches.give" s_Z8 ["self","place"]:=fun _ _ _ _ _ _ us hl=>match us,hl with | [_,_],_=>rfl
abbrev s_Z3:Stmt:=Xag (top 40) 13
theorem XQy:FnScope ["self","place","count","bound","goal"] ["self","place","count","bound"] (Xae s_Z3):=fS
theorem XSb:BiS "room_moved" "Keeper.room_moved" s_Z3 ["self","place","count","bound"]:=fun _ _ _ _ _ _ us hl=>match us,hl with | [_,_,_,_],_=>rfl
abbrev s_Z7:Stmt:=Xag (top 46) 3
theorem Xoz:FnScope ["self","place","count","bound","at","had","live","long","end"] ["self","place","count","bound"] (Xae s_Z7):=fS
theorem XTp (T:Addr)(d1:Value)(kV doc pm:Value)(an:Option Addr)(cdv ct:Value)(us:List Value)(hl:us.length=["self","place","count","bound"].length):∃k:Option (Array Value)→Sem (List (Str×Value)),bindArgs (PySem.W.fnOf "grow" "Stretches.grow" (Xbr s_Z7) (Xbe s_Z7) (Xae s_Z7) (.ref T) kV doc pm an cdv ct) ⟨us,[]⟩=seqItems? (.ref T) >>= k∧k (some [d1].toArray)=pure ((["self","place","count","bound"]:List Str).zip us):=match us,hl with | [_,_,_,_],_=>⟨_,rfl,rfl⟩
theorem XSp (T:Addr)(d1:Value)(kV doc pm:Value)(an:Option Addr)(cdv ct:Value)(us:List Value)(hl:(us++[d1]).length=["self","place","count","bound"].length):∃k:Option (Array Value)→Sem (List (Str×Value)),bindArgs (PySem.W.fnOf "grow" "Stretches.grow" (Xbr s_Z7) (Xbe s_Z7) (Xae s_Z7) (.ref T) kV doc pm an cdv ct) ⟨us,[]⟩=seqItems? (.ref T) >>= k∧k (some [d1].toArray)=pure ((["self","place","count","bound"]:List Str).zip (us++[d1])):=match us,(show us.length=3 by simpa using hl) with | [_,_,_],_=>⟨_,rfl,rfl⟩
structure Txt (K:PySem.W.Frag)(mg:Str→Option Value)(Y0 Y7 Y9 Y4 Y3 Y6 Y12 Y2 Y8 Y5 Y1 Y10 Y13 Y14 Y11:Addr)(W0_:Tok)(W1_:Tok):Prop where
 n_bool:mg "bool"=none
 n_int:mg "int"=none
 n_isinstance:mg "isinstance"=none
 n_len:mg "len"=none
 n_list:mg "list"=none
 n_min:mg "min"=none
 n_range:mg "range"=none
 g_LEAST_LIVE:mg "LEAST_LIVE"=some (.int 3 W0_)
 g_MARKS:mg "MARKS"=some (.int 2 W1_)
 c_StowError:mg "StowError"=some (.ref Y0)
 c_NoName:mg "NoName"=some (.ref Y7)
 c_NoSize:mg "NoSize"=some (.ref Y9)
 c_Broken:mg "Broken"=some (.ref Y4)
 c_NoPiece:mg "NoPiece"=some (.ref Y3)
 c_NoCell:mg "NoCell"=some (.ref Y6)
 c_NoAsk:mg "NoAsk"=some (.ref Y12)
 c_NoBound:mg "NoBound"=some (.ref Y2)
 c_NoRoom:mg "NoRoom"=some (.ref Y8)
 c_Keeper:mg "Keeper"=some (.ref Y5)
 c_Stretches:mg "Stretches"=some (.ref Y1)
 c_First:mg "First"=some (.ref Y10)
 c_Best:mg "Best"=some (.ref Y13)
 c_Next:mg "Next"=some (.ref Y14)
 c_Likes:mg "Likes"=some (.ref Y11)
 s_Broken:XSet K Y4 "cell"
 x_NoSize:XCls K mg "NoSize" Y9
 x_NoPiece:XCls K mg "NoPiece" Y3
 x_NoRoom:XCls K mg "NoRoom" Y8
 x_NoName:XCls K mg "NoName" Y7
 cl_First:Cls K Y10
 na_First_room_cells:Xcp K Y10 "room_cells"
 cl_Best:Cls K Y13
 na_Best_room_cells:Xcp K Y13 "room_cells"
 cl_Next:Cls K Y14
 na_Next_room_cells:Xcp K Y14 "room_cells"
 na_Next_room_rover:Xcp K Y14 "room_rover"
 cl_Likes:Cls K Y11
 na_Likes_room_cells:Xcp K Y11 "room_cells"
 ik_First:InsK K Y10
 ik_Best:InsK K Y13
 ik_Next:InsK K Y14
 ik_Likes:InsK K Y11
 i_First_Keeper:PySem.W.kitOne K (.ref Y10) (.ref Y5)=some true
 i_Best_Keeper:PySem.W.kitOne K (.ref Y13) (.ref Y5)=some true
 i_Next_Keeper:PySem.W.kitOne K (.ref Y14) (.ref Y5)=some true
 i_Likes_Keeper:PySem.W.kitOne K (.ref Y11) (.ref Y5)=some true
 f_NoRoom_NoRoom:Fits K Y8 Y8 true
section
variable {K:PySem.W.Frag}{mg:Str→Option Value}{Y0 Y7 Y9 Y4 Y3 Y6 Y12 Y2 Y8 Y5 Y1 Y10 Y13 Y14 Y11:Addr}{W0_:Tok}{W1_:Tok}
theorem T_cl (T:Txt K mg Y0 Y7 Y9 Y4 Y3 Y6 Y12 Y2 Y8 Y5 Y1 Y10 Y13 Y14 Y11 W0_ W1_):∀i,Cls K ((cF Y10 Y13 Y14 Y11) i):=four T.cl_First T.cl_Best T.cl_Next T.cl_Likes
theorem T_na (T:Txt K mg Y0 Y7 Y9 Y4 Y3 Y6 Y12 Y2 Y8 Y5 Y1 Y10 Y13 Y14 Y11 W0_ W1_):∀i,Xcp K ((cF Y10 Y13 Y14 Y11) i) "room_cells":=four (Q:=fun C=>Xcp K C "room_cells") T.na_First_room_cells T.na_Best_room_cells T.na_Next_room_cells T.na_Likes_room_cells
theorem T_ik (T:Txt K mg Y0 Y7 Y9 Y4 Y3 Y6 Y12 Y2 Y8 Y5 Y1 Y10 Y13 Y14 Y11 W0_ W1_):∀i,InsK K ((cF Y10 Y13 Y14 Y11) i):=four T.ik_First T.ik_Best T.ik_Next T.ik_Likes
theorem T_is (T:Txt K mg Y0 Y7 Y9 Y4 Y3 Y6 Y12 Y2 Y8 Y5 Y1 Y10 Y13 Y14 Y11 W0_ W1_):∀i,PySem.W.kitOne K (.ref ((cF Y10 Y13 Y14 Y11) i)) (.ref Y5)=some true:=four (Q:=fun C=>PySem.W.kitOne K (.ref C) (.ref Y5)=some true) T.i_First_Keeper T.i_Best_Keeper T.i_Next_Keeper T.i_Likes_Keeper
end
def Xrn:Sp:=fun vs H Q _=>∃(n:Int) (v:Bool),vs=[.int n,.bl v]∧n.natAbs<2^220∧Q (.int (n*2+if v then 1 else 0)) H
section
variable {P:Program}{w:World}{base:Heap}{K:PySem.W.Frag}{mg:Str→Option Value}{Y0 Y7 Y9 Y4 Y3 Y6 Y12 Y2 Y8 Y5 Y1 Y10 Y13 Y14 Y11:Addr}{W0_:Tok}{W1_:Tok}
theorem XTv (S:Src K mg "mark_of" Xuo)(T:Txt K mg Y0 Y7 Y9 Y4 Y3 Y6 Y12 Y2 Y8 Y5 Y1 Y10 Y13 Y14 Y11 W0_ W1_) :Defx P w K mg base "mark_of" 1 ["long","live"] (Xrn):=by
 refine S.okx XMz XLm (fun vs H Q E h=>by revert h;walk_at "len") (fun f cdv A outer s H vs Q E hr h=>?_)
 refine⟨_,PSs.nox (Xab (Xbi (Xcd (pv 1) (fun _=>rfl)) (Xac (Xak (Xal XSs (Xal Xso (pv 0) Xaf) Xaf))) Xap) (Xac (Xak (Xal Xso (pv 0) Xaf)))),?_⟩
 obtain⟨n,v,rfl,hn,q⟩:=h
 walk_at "go"
 refine Xgw (fun hv=>?_) (fun hv=>?_)
 · walk_at "go"
   rw[two1,Xqe]
   subst hv
   exact q
 · walk_at "go"
   rw[two1]
   subst hv
   rw[if_neg Bool.false_ne_true,Int.add_zero] at q
   exact q
theorem d_Z44 (S:Src K mg "long_of" Xpx)(T:Txt K mg Y0 Y7 Y9 Y4 Y3 Y6 Y12 Y2 Y8 Y5 Y1 Y10 Y13 Y14 Y11 W0_ W1_) :Defx P w K mg base "long_of" 1 ["number"] (Xfp):=by
 refine S.okx XPb XKp (fun vs H Q E h=>by revert h;walk_at "len") (fun f cdv A outer s H vs Q E hr h=>?_)
 refine⟨_,PSs.nox (Xac (Xak (Xal XPa (pv 0) Xaf))),?_⟩
 obtain⟨n,rfl,q⟩:=h
 walk_at "go"
 rw[two1]
 exact q
theorem XRd (S:Src K mg "live_of" Xrd)(T:Txt K mg Y0 Y7 Y9 Y4 Y3 Y6 Y12 Y2 Y8 Y5 Y1 Y10 Y13 Y14 Y11 W0_ W1_) :Defx P w K mg base "live_of" 1 ["number"] (Xjn):=by
 refine S.okx XJy XNq (fun vs H Q E h=>by revert h;walk_at "len") (fun f cdv A outer s H vs Q E hr h=>?_)
 refine⟨_,PSs.nox (Xac (Xak (Xih Xfl (Xal XLs (pv 0) Xaf) Xaf (Xao _)))),?_⟩
 obtain⟨n,rfl,q⟩:=h
 walk_at "go"
 rw[Xvd]
 exact q
theorem XRy (S:Src K mg "can_begin" Xuk)(T:Txt K mg Y0 Y7 Y9 Y4 Y3 Y6 Y12 Y2 Y8 Y5 Y1 Y10 Y13 Y14 Y11 W0_ W1_)(D_Z44:Defx P w K mg base "long_of" 1 ["number"] (Xfp))(D_Z46:Defx P w K mg base "live_of" 1 ["number"] (Xjn)):Defx P w K mg base "can_begin" 2 ["cells","at"] (XEq K):=by
 refine S.okx XAw XJp (fun vs H Q E h=>by revert h;walk_at "len") (fun f cdv A outer s H vs Q E hr h=>?_)
 refine⟨_,PSs.nox (Xab (Xan (i:=2) XAw.nd rfl (Or.inl rfl) (Xah D_Z44 hr (by rfl) (Xaa (Xbd Xat (pv 0) (pv 1) (fun _ _=>rfl)) Xad))) (Xab (Xbi (PW.pt (Xek (Xaj Xfk (pv 2) Xaf (Xao _)) (Xdk (Xaj Xke (Xal Xbb (pv 1) (pv 2)) (Xba Xay (by rfl) T.n_len PySem.boot_len (Xaa (pv 0) Xad)) (Xao _))))) (Xac (Xak Xdh)) Xap) (Xac (Xak (XTn (Xih XDi (pv 2) (Xgh (v:=.int 3) (by rfl) T.g_LEAST_LIVE ⟨_,rfl⟩) (Xao _)) (Xsj (XBh (Xah D_Z46 hr (by rfl) (Xaa (Xbd Xat (pv 0) (pv 1) (fun _ _=>rfl)) Xad))))))))),?_⟩
 obtain⟨a,ns,k,rfl,hS,h0,h1,q⟩:=h
 have q':∀c,Xbv ns k=c→Q (.bl c) H:=fun c e=>e▸q
 walk_at "go"
 refine Xdl (fun hc=>?_) (fun hc=>?_)
 · walk_at "go"
   exact q' false (by unfold Xbv;rw[if_pos (Or.inl hc)])
 · walk_at "go"
   refine Xdl (fun hd=>?_) (fun hd=>?_)
   · walk_at "go"
     exact q' false (by unfold Xbv;rw[if_pos (Or.inr hd)])
   · walk_at "go"
     have ec:Xbv ns k=(decide (3≤ns.getD k.toNat 0/2)||!decide (ns.getD k.toNat 0%2=1)):=by
       unfold Xbv
       rw[if_neg (by omega)]
     refine Xgw (fun he=>?_) (fun he=>?_)
     · walk_at "go"
       exact q' true (by rw[ec,he,Bool.true_or])
     · walk_at "go"
       exact q' _ (by rw[ec,he,Bool.false_or])
theorem XRk (S:Src K mg "bad_of_piece" Xqu)(T:Txt K mg Y0 Y7 Y9 Y4 Y3 Y6 Y12 Y2 Y8 Y5 Y1 Y10 Y13 Y14 Y11 W0_ W1_)(D_Z44:Defx P w K mg base "long_of" 1 ["number"] (Xfp))(D_Z35:Defx P w K mg base "can_begin" 2 ["cells","at"] (XEq K)):Defx P w K mg base "bad_of_piece" 3 ["cells","at"] (XGk K):=by
 refine S.okx XAo XOw (fun vs H Q E h=>by revert h;walk_at "len") (fun f cdv A outer s H vs Q E hr h=>?_)
 refine⟨_,PSs.nox (Xab (Xbi (Xco (Xeg (Xah D_Z35 hr (by rfl) (Xaa (pv 0) (Xaa (pv 1) Xad))))) (Xac (Xak (pv 1))) Xap) (Xab (Xan (i:=2) XAo.nd rfl (Or.inl rfl) (Xal Xcx (Xal Xbb (pv 1) (Xah D_Z44 hr (by rfl) (Xaa (Xbd Xat (pv 0) (pv 1) (fun _ _=>rfl)) Xad))) Xaf)) (Xab (Xbi (Xaj Xkn (Xbd Xat (pv 0) (pv 2) (fun _ _=>rfl)) (Xbd Xat (pv 0) (pv 1) (fun _ _=>rfl)) (Xao _)) (Xac (Xak (pv 2))) Xap) (Xac (Xak Xcs))))),?_⟩
 obtain⟨a,ns,k,rfl,hS,h0,h1,q⟩:=h
 have q':∀c,Xdm ns k=c→Q (optV c) H:=fun c e=>e▸q
 walk_at "go"
 refine Xgw (fun hc=>?_) (fun hc=>?_)
 · obtain⟨b1,b2,_⟩:=(Xgr ns k).mp hc
   walk_at "go"
   refine Xdl (fun hd=>?_) (fun hd=>?_)
   · walk_at "go"
     exact q' none (Xwq hc hd)
   · walk_at "go"
     exact q' (some _) (Xwh hc hd)
 · walk_at "go"
   exact q' (some k) (XLb hc)
theorem Xzl {P:Program}{w:World}{base:Heap}{K:PySem.W.Frag}{mg:Str→Option Value}{Y4 Y0:Addr}{fI:Addr}{fd:FuncData}(F:Fun K "__init__" "Broken.__init__" Xdd fI fd)(XI:XIni K mg "Broken" Y4 Y0 fI)(Z:XSet K Y4 "cell"):DefI P w K mg base "Broken" Y4 Y0 1 ["self","cell"] (Xrx Y4 "cell"):=by
 refine⟨fI,fd,XI,Xbf F Xiz (fun vs H Q E h=>?_) (fun cdv A outer s H vs Q E hr h=>?_),F.binds Xiy⟩
 · obtain⟨y,v,rfl,_⟩:=h
   rfl
 · obtain⟨y,v,rfl,hy,q⟩:=h
   exact⟨_,PSs.nox (Xac (XDf (pv 0) (pv 1))),_,rfl,_,rfl,y,_,rfl,hy,Z,fun dx hd=>q dx hd⟩
def LkW (H:Hp)(a p:Addr)(ns:List Int)(m:Nat)(σ:L2.St)(H':Hp):Prop :=
 ∃(ds:List Pc) (us:List V) (k:Int) (x y:Option V),σ=[some (.ref a),some (.ref p),some (.int k),x,y]∧m=(ns.length-k).toNat∧0≤k∧k≤ns.length∧(ds.length:Int)≤k∧WPre ns ds k∧Same H H'∧H' p=some (.lst us)∧Xbh H' us ds
theorem XTj (S:Src K mg "looked" Xqq)(T:Txt K mg Y0 Y7 Y9 Y4 Y3 Y6 Y12 Y2 Y8 Y5 Y1 Y10 Y13 Y14 Y11 W0_ W1_)(D_Z44:Defx P w K mg base "long_of" 1 ["number"] (Xfp))(D_Z46:Defx P w K mg base "live_of" 1 ["number"] (Xjn))(D_Z18:Defx P w K mg base "bad_of_piece" 3 ["cells","at"] (XGk K))(D_Broken:DefI P w K mg base "Broken" Y4 Y0 1 ["self","cell"] (Xrx Y4 "cell")):Defx P w K mg base "looked" 4 ["cells"] (Xed K Y4):=by
 refine S.okx Xje XQf (fun vs H Q E h=>by revert h;walk_at "len") (fun f cdv A outer s H vs Q E hr h=>?_)
 refine⟨_,(Xab (Xan (i:=1) Xje.nd rfl (Or.inl rfl) (Xer Xad)) (Xab (Xan (i:=2) Xje.nd rfl (Or.inl rfl) Xaf) (Xab (Xoa PassesOwn.leaving (Xaj Xfk (pv 2) (Xba Xay (by rfl) T.n_len PySem.boot_len (Xaa (pv 0) Xad)) (Xao _)) (Xab (Xan (i:=3) Xje.nd rfl (Or.inl rfl) (Xah D_Z18 hr (by rfl) (Xaa (pv 0) (Xaa (pv 2) Xad)))) (Xab (Xbi (Xaj Xkj (pv 3) Xcs (Xao _)) (Xac (Xps D_Broken hr rfl (Xaa (pv 3) Xad))) Xap) (Xab (Xan (i:=4) Xje.nd rfl (Or.inl rfl) (Xah D_Z44 hr (by rfl) (Xaa (Xbd Xat (pv 0) (pv 2) (fun _ _=>rfl)) Xad))) (Xab (Xca (Xrg PySem.F.plainAttrs_list PySem.F.slot_list_append PySem.F.type_list_append Xdy (pv 1) (Xaa (Xew (Xaa (pv 2) (Xaa (pv 4) (Xaa (Xah D_Z46 hr (by rfl) (Xaa (Xbd Xat (pv 0) (pv 2) (fun _ _=>rfl)) Xad)) Xad)))) Xad))) (Xac (Xan (i:=2) Xje.nd rfl (Or.inl rfl) (Xal Xbb (pv 2) (pv 4))))))))) (Xac (Xak (pv 1)))))),?_⟩
 obtain⟨a,ns,rfl,hS,hz,qe,q⟩:=h
 walk_at "go"
 intro p hp
 walk_at "go"
 refine⟨LkW H a p ns,⟨_,[],[],0,none,none,rfl,rfl,by omega,by omega,by decide,WPre.nil ns,Same.new hp,upd_same,Xbh.nil⟩,?_⟩
 rintro m σ H' ⟨ds,us,k,x,y,rfl,rfl,h0,hkl,hdl,w,s1,hp',pa⟩
 have hul:=pa.1
 have hS':SqL K H' a (ns.map V.int):=s1.seq hS
 walk_at "go"
 refine Xdl (fun hlt=>?_) (fun hlt=>?_)
 · refine⟨fun σ' H''=>∃m',m'<(ns.length-k).toNat∧LkW H a p ns m' σ' H'',fun σ' H'' hw=>hw,?_⟩
   walk_at "go"
   cases hb:Xdm ns k with
   | some b =>
     walk_at "go"
     refine XPl (fun dx hd=>?_)
     exact qe b (by rw[w.bad hlt hb]) dx _ (s1.put (s1.free hd)) upd_same
   | none =>
     obtain⟨b1,b2,b3⟩:=Xnj hb
     walk_at "go"
     intro t ht
     have hpt:p≠t:=Xaq hp' ht
     walk_at "go"
     obtain⟨g1,g2⟩:=Xbh.push (z:=pcAt ns k) pa hp' ht
     dsimp only [pcAt] at g1 g2
     refine⟨_,?_,ds++[pcAt ns k],us++[.ref t],k+ns.getD k.toNat 0/2,_,_,rfl,rfl,by omega,by omega,?_,w.step hlt hb,(s1.put (s1.free ht)).put hp,g1,g2⟩
     · omega
     · rw[List.length_append,List.length_singleton]
       omega
 · walk_at "go"
   exact q (by rw[w.fin hlt]) p us H' hp s1 hp' (by rw[w.fin hlt];exact pa)
def Xcz (n:Int):List Int:=Xch (List.replicate n.toNat 0) 0 n false
theorem Xdt {n:Int}(h:0≤n):((Xcz n).length:Int)=n:=by
 unfold Xcz
 rw[Xbp,List.length_replicate]
 omega
theorem Xxe (n:Nat):(List.replicate n [V.int 0]).flatten=(List.replicate n (0:Int)).map V.int:=by
 induction n with
 | zero=>rfl
 | succ n ih=>rw[List.replicate_succ,List.flatten_cons,ih,List.replicate_succ,List.map_cons];rfl
def Xgf (C:Addr):Sp:=fun vs H Q E=>∃n:Int,vs=[.int n]∧n≤4000∧(n<1→E (.ref C) none H)∧(1≤n→∀(p:Addr) (H':Hp),H p=none→Same H H'→H' p=some (.lst ((Xcz n).map V.int))→Q (.ref p) H')
theorem XUc (S:Src K mg "fresh_room" Xts)(T:Txt K mg Y0 Y7 Y9 Y4 Y3 Y6 Y12 Y2 Y8 Y5 Y1 Y10 Y13 Y14 Y11 W0_ W1_)(D_Z45:Defx P w K mg base "mark_of" 1 ["long","live"] (Xrn)):Defx P w K mg base "fresh_room" 2 ["count"] (Xgf Y9):=by
 refine S.okx XAt XLp (fun vs H Q E h=>by revert h;walk_at "len") (fun f cdv A outer s H vs Q E hr h=>?_)
 refine⟨_,(Xab (Xbi (Xaj Xfk (pv 0) Xaf (Xao _)) (Xac (Xef T.x_NoSize hr.hd rfl (Xaa Xdi Xad))) Xap) (Xab (Xan (i:=1) XAt.nd rfl (Or.inl rfl) (Xal XAv (Xer (Xaa Xaf Xad)) (pv 0))) (Xab (Xei (Xah D_Z45 hr (by rfl) (Xaa (pv 0) (Xaa Xdh Xad))) (Xhv (pv 1) Xaf Xea)) (Xab (Xei (Xah D_Z45 hr (by rfl) (Xaa (pv 0) (Xaa Xdh Xad))) (Xhv (pv 1) (Xal Xcx (pv 0) Xaf) Xea)) (Xac (Xak (pv 1))))))),?_⟩
 obtain⟨n,rfl,h4,qe,q⟩:=h
 walk_at "go"
 refine Xdl (fun hc=>?_) (fun hc=>?_)
 · walk_at "go"
   exact qe hc
 · have hn:n.natAbs<2^220:=Nat.lt_of_le_of_lt (show n.natAbs≤4000 by omega) (by decide)
   walk_at "go"
   intro l hl
   walk_at "go"
   refine⟨l,n,_,rfl,rfl,upd_same,by omega,by omega,(by show 1*n.toNat≤sizeLine;exact Nat.le_of_lt (small4000 (by omega))),fun p hp=>?_⟩
   rw[Xxe]
   have np:=(Same.new hl).free hp
   have s1:Same H (upd (upd H l (.lst [.int 0])) p (.lst ((List.replicate n.toNat (0:Int)).map V.int))):=(Same.new hl).put np
   have e1:upd (upd H l (.lst [.int 0])) p (.lst ((List.replicate n.toNat (0:Int)).map V.int)) p=some (.lst ((List.replicate n.toNat (0:Int)).map V.int)):=upd_same
   generalize upd (upd H l (.lst [.int 0])) p (.lst ((List.replicate n.toNat (0:Int)).map V.int))=H1 at s1 e1 ⊢
   have hlr:(List.replicate n.toNat (0:Int)).length=n.toNat:=List.length_replicate
   walk_at "go"
   refine⟨n,false,rfl,hn,?_⟩
   walk_at "go"
   refine⟨n,false,rfl,hn,?_⟩
   walk_at "go"
   refine q (by omega) p _ np ((s1.put np).put np) ?_
   unfold Xcz Xch
   rw[show (0:Int)+n-1=n-1 by omega]
   exact upd_same
def Xmg (K:PySem.W.Frag):Sp:=fun vs H Q _=>∃(a:Addr) (cs:List Int) (k l:Int) (v:Bool),vs=[.ref a,.int k,.int l,.bl v]∧SqL K H a (cs.map V.int)∧cs.length≤4000∧0≤k∧1≤l∧k+l≤cs.length ∧
 ∀(p:Addr) (H':Hp),H p=none→Same H H'→H' p=some (.lst ((Xch cs k l v).map V.int))→Q (.ref p) H'
theorem d_Z67 (S:Src K mg "laid" Xqc)(T:Txt K mg Y0 Y7 Y9 Y4 Y3 Y6 Y12 Y2 Y8 Y5 Y1 Y10 Y13 Y14 Y11 W0_ W1_)(D_Z45:Defx P w K mg base "mark_of" 1 ["long","live"] (Xrn)):Defx P w K mg base "laid" 2 ["cells","at","long","live"] (Xmg K):=by
 refine S.okx XBb XPq (fun vs H Q E h=>by revert h;walk_at "len") (fun f cdv A outer s H vs Q E hr h=>?_)
 refine⟨_,PSs.nox (Xab (Xan (i:=4) XBb.nd rfl (Or.inl rfl) (Xcw Xcf (by rfl) T.n_list PyProof.Rows.boot_list (Xaa (pv 0) Xad))) (Xab (Xei (Xah D_Z45 hr (by rfl) (Xaa (pv 2) (Xaa (pv 3) Xad))) (Xhv (pv 4) (pv 1) Xea)) (Xab (Xei (Xah D_Z45 hr (by rfl) (Xaa (pv 2) (Xaa (pv 3) Xad))) (Xhv (pv 4) (Xal Xcx (Xal Xbb (pv 1) (pv 2)) Xaf) Xea)) (Xac (Xak (pv 4)))))),?_⟩
 obtain⟨a,cs,k,l,v,rfl,hS,hz,h0,h1,hl,q⟩:=h
 have hn:l.natAbs<2^220:=Nat.lt_of_le_of_lt (show l.natAbs≤4000 by omega) (by decide)
 walk_at "go"
 intro p hp
 walk_at "go"
 refine⟨l,v,rfl,hn,?_⟩
 walk_at "go"
 refine⟨l,v,rfl,hn,?_⟩
 walk_at "go"
 refine q p _ hp (((Same.new hp).put hp).put hp) upd_same
def Xfc (K:PySem.W.Frag):Sp:=fun vs H Q _=>∃(a:Addr) (cs:List Int) (b e:Int),vs=[.ref a,.int b,.int e]∧SqL K H a (cs.map V.int)∧cs.length≤4000∧0≤b∧b≤e∧e≤cs.length ∧
 ∀(p:Addr) (H':Hp),H p=none→Same H H'→H' p=some (.lst ((lfI cs b e).map V.int))→Q (.ref p) H'
theorem XTr (S:Src K mg "laid_free" Xsr)(T:Txt K mg Y0 Y7 Y9 Y4 Y3 Y6 Y12 Y2 Y8 Y5 Y1 Y10 Y13 Y14 Y11 W0_ W1_)(D_Z67:Defx P w K mg base "laid" 2 ["cells","at","long","live"] (Xmg K)):Defx P w K mg base "laid_free" 3 ["cells","begin","end"] (Xfc K):=by
 refine S.okx XNv XOm (fun vs H Q E h=>by revert h;walk_at "len") (fun f cdv A outer s H vs Q E hr h=>?_)
 refine⟨_,PSs.nox (Xab (Xbi (Xaj Xfl (pv 1) (pv 2) (Xao _)) (Xac (Xak (Xcw Xcf (by rfl) T.n_list PyProof.Rows.boot_list (Xaa (pv 0) Xad)))) Xap) (Xac (Xak (Xah D_Z67 hr (by rfl) (Xaa (pv 0) (Xaa (pv 1) (Xaa (Xal Xcx (pv 2) (pv 1)) (Xaa Xdh Xad)))))))),?_⟩
 obtain⟨a,cs,b,e,rfl,hS,hz,h0,h1,hl,q⟩:=h
 walk_at "go"
 refine Xdl (fun he=>?_) (fun he=>?_)
 · walk_at "go"
   intro p hp
   walk_at "go"
   refine q p _ hp (Same.new hp) ?_
   unfold lfI
   rw[if_pos he]
   exact upd_same
 · walk_at "go"
   refine⟨a,cs,b,e-b,false,rfl,hS,hz,h0,by omega,by omega,fun p H' hp s1 g1=>?_⟩
   walk_at "go"
   refine q p H' hp s1 ?_
   unfold lfI
   rw[if_neg he]
   exact g1
def Xsb (K:PySem.W.Frag):Sp:=fun vs H Q _=>∃(b:Addr) (us:List V) (ps:List Pc),vs=[.ref b]∧H b=some (.lst us)∧Xbh H us ps∧ps.length≤4000 ∧
 ∀(p:Addr) (ws:List V) (H':Hp),H p=none→Same H H'→H' p=some (.lst ws)→Xbh H' ws (Xcr ps)→Q (.ref p) H'
def JpW (f0:Option V)(p:Addr)(ps:List Pc)(H:Hp)(i:Nat)(σ:L2.St)(H':Hp):Prop :=
 ∃(ws:List V) (x2 x3 x4:Option V),σ=[f0,some (.ref p),x2,x3,x4]∧Same H H'∧H' p=some (.lst ws)∧Xbh H' ws (Xcr (ps.take i))
theorem d_Z9 (S:Src K mg "joined_pieces" s_Z9)(T:Txt K mg Y0 Y7 Y9 Y4 Y3 Y6 Y12 Y2 Y8 Y5 Y1 Y10 Y13 Y14 Y11 W0_ W1_) :Defx P w K mg base "joined_pieces" 1 ["pieces"] (Xsb K):=by
 refine S.okx Xrh XSf (fun vs H Q E h=>by revert h;walk_at "len") (fun f cdv A outer s H vs Q E hr h=>?_)
 refine⟨_,PSs.nox (Xab (Xan (i:=1) Xrh.nd rfl (Or.inl rfl) (Xer Xad)) (Xab (Xel PassesOwn.never rfl (Xcq (pv 0)) (Xgv rfl (Xas (Xar (i:=2) Xrh.nd rfl (Or.inl rfl)) (Xas (Xar (i:=3) Xrh.nd rfl (Or.inl rfl)) (Xas (Xar (i:=4) Xrh.nd rfl (Or.inl rfl)) Xdb)))) (Xac (Xbi (PW.pt (Xep (Xcd (pv 1) (fun _=>rfl)) (Xep (Xco (Xcd (pv 4) (fun _=>rfl))) (Xem (Xco (Xcd (Xbd Xci (Xbd Xat (pv 1) (Xnl Xie Xaf) (fun _ _=>rfl)) Xaf (fun _ _=>rfl)) (fun _=>rfl))))))) (Xac (Xei (Xew (Xaa (Xbd Xci (Xbd Xat (pv 1) (Xnl Xie Xaf) (fun _ _=>rfl)) Xaf (fun _ _=>rfl)) (Xaa (Xal Xbb (Xbd Xci (Xbd Xat (pv 1) (Xnl Xie Xaf) (fun _ _=>rfl)) Xaf (fun _ _=>rfl)) (pv 3)) (Xaa Xdh Xad)))) (Xhv (pv 1) (Xnl Xie Xaf) Xea))) (Xac (Xca (Xrg PySem.F.plainAttrs_list PySem.F.slot_list_append PySem.F.type_list_append Xdy (pv 1) (Xaa (Xew (Xaa (pv 2) (Xaa (pv 3) (Xaa (pv 4) Xad)))) Xad))))))) (Xac (Xak (pv 1))))),?_⟩
 obtain⟨b,us,ps,rfl,hb,pa,hz,q⟩:=h
 have hul:=pa.1
 walk_at "go"
 intro p hp
 walk_at "go"
 refine⟨b,rfl,⟨_,SqL.of (Same.new hp b _ hb)⟩,Xdn (K:=K) (a:=b) (xs:=us) (JpW (some (.ref b)) p ps H) ⟨[],none,none,none,rfl,Same.new hp,upd_same,Xbh.nil⟩ (fun i σ H2 _ ⟨_,_,_,_,_,s2,_⟩=>SqL.of (s2 b _ hb)) ?_ ?_⟩
 · rintro i y σ H2 hi ⟨ws,x2,x3,x4,rfl,s2,hp2,pw⟩
   have hil:i<us.length:=(List.getElem?_eq_some_iff.mp hi).1
   have hip:i<ps.length:=by omega
   have hz1:ps[i]?=some ps[i]:=by simp [hip]
   obtain⟨t,et,hT⟩:=pa.2 i ps[i] hz1
   have ey:y = .ref t:=Option.some.inj (hi.symm.trans et)
   subst ey
   have hT2:=s2 t _ hT
   have hj:=Xfe hz1
   have hle:=Xgp ps i (by omega)
   generalize ps[i]=z at hT2 hj
   have hwl:=pw.1
   rcases Xbk (Xcr (ps.take i)) with e | ⟨D,w,e⟩
   · rw[e] at pw hj hwl
     have ew:ws=[]:=List.length_eq_zero_iff.mp hwl
     subst ew
     walk_at "go"
     refine iteT ?_
     walk_at "go"
     intro t2 ht2
     walk_at "go"
     obtain⟨g1,g2⟩:=Xbh.push (z:=z) pw hp2 ht2
     exact⟨_,_,_,_,rfl,(s2.put (s2.free ht2)).put hp,g1,by rw[hj];exact g2⟩
   · rw[e] at pw hj hle
     obtain⟨ui,t1,rfl,pi,h1⟩:=pw.unsnoc
     have hem:(ui++[V.ref t1]).isEmpty=false:=by simp
     rw[List.length_append,List.length_singleton] at hle
     have hpl:=pi.1
     have hsz:(ui++[V.ref t1]).length<4000:=by rw[List.length_append,List.length_singleton];omega
     walk_at "go"
     rw[hem]
     walk_at "go"
     refine Xgw (fun hv=>?_) (fun hv=>?_)
     · walk_at "go"
       intro t2 ht2
       walk_at "go"
       obtain⟨g1,g2⟩:=Xbh.push (z:=z) pw hp2 ht2
       exact⟨_,_,_,_,rfl,(s2.put (s2.free ht2)).put hp,g1,by rw[hj,Xbs hv];exact g2⟩
     · walk_at "go"
       refine Xga (SqL.of hp2) ?_
       walk_at "go"
       refine Xgw (fun hv2=>?_) (fun hv2=>?_)
       · walk_at "go"
         intro t2 ht2
         walk_at "go"
         obtain⟨g1,g2⟩:=Xbh.push (z:=z) pw hp2 ht2
         exact⟨_,_,_,_,rfl,(s2.put (s2.free ht2)).put hp,g1,by rw[hj,Xce hv2];exact g2⟩
       · walk_at "go"
         refine Xga (SqL.of hp2) ?_
         walk_at "go"
         refine Xga (SqL.of hp2) ?_
         walk_at "go"
         intro t2 ht2
         walk_at "go"
         refine Xsc (xs:=ui) (v:=.ref t1) (look_put ht2 hp2) ?_
         walk_at "go"
         have g:=Xbh.relast (z:=⟨w.a,w.l+z.l,false⟩) pi hp2 ht2
         exact⟨_,_,_,_,rfl,(s2.put (s2.free ht2)).put hp,upd_same,by rw[hj,Xbz hv2 hv];exact g⟩
 · rintro σ H2 ⟨ws,x2,x3,x4,rfl,s2,hp2,pw⟩
   walk_at "go"
   rw[List.take_of_length_le (by omega)] at pw
   exact q p ws H2 hp s2 hp2 pw
def Xjv (K:PySem.W.Frag):Sp:=fun vs H Q _=>∃(a:Addr) (cs:List Int) (ps:List Pc),vs=[.ref a]∧SqL K H a (cs.map V.int)∧cs.length≤4000∧Xai 0 ps cs.length∧Xdc cs 0=(ps,none) ∧
 ∀(p:Addr) (H':Hp),H p=none→Same H H'→H' p=some (.lst ((Xdj cs (Xcr ps)).map V.int))→Q (.ref p) H'
def JdW (f0:Option V)(lp:Addr)(us:List V)(js:List Pc)(cs:List Int)(H:Hp)(i:Nat)(σ:L2.St)(H':Hp):Prop :=
 ∃(r:Addr) (x2 x3 x4:Option V),σ=[f0,some (.ref r),x2,x3,x4]∧H r=none∧Same H H'∧H' r=some (.lst ((Xdj cs (js.take i)).map V.int))∧H' lp=some (.lst us)∧Xbh H' us js
theorem XTw (S:Src K mg "joined" Xul)(T:Txt K mg Y0 Y7 Y9 Y4 Y3 Y6 Y12 Y2 Y8 Y5 Y1 Y10 Y13 Y14 Y11 W0_ W1_)(D_Z53:Defx P w K mg base "looked" 4 ["cells"] (Xed K Y4))(D_Z9:Defx P w K mg base "joined_pieces" 1 ["pieces"] (Xsb K))(D_Z67:Defx P w K mg base "laid" 2 ["cells","at","long","live"] (Xmg K)):Defx P w K mg base "joined" 5 ["cells"] (Xjv K):=by
 refine S.okx Xjg XPw (fun vs H Q E h=>by revert h;walk_at "len") (fun f cdv A outer s H vs Q E hr h=>?_)
 refine⟨_,PSs.nox (Xab (Xan (i:=1) Xjg.nd rfl (Or.inl rfl) (Xcw Xcf (by rfl) T.n_list PyProof.Rows.boot_list (Xaa (pv 0) Xad))) (Xab (Xel PassesOwn.never rfl (Xcq (Xah D_Z9 hr (by rfl) (Xaa (Xah D_Z53 hr (by rfl) (Xaa (pv 0) Xad)) Xad))) (Xgv rfl (Xas (Xar (i:=2) Xjg.nd rfl (Or.inl rfl)) (Xas (Xar (i:=3) Xjg.nd rfl (Or.inl rfl)) (Xas (Xar (i:=4) Xjg.nd rfl (Or.inl rfl)) Xdb)))) (Xac (Xan (i:=1) Xjg.nd rfl (Or.inl rfl) (Xah D_Z67 hr (by rfl) (Xaa (pv 1) (Xaa (pv 2) (Xaa (pv 3) (Xaa (pv 4) Xad)))))))) (Xac (Xak (pv 1))))),?_⟩
 obtain⟨a,cs,ps,rfl,hS,hz,hc,hw,q⟩:=h
 walk_at "go"
 intro r0 hr0
 have s0:Same H (upd H r0 (.lst (cs.map V.int))):=Same.new hr0
 have e0:upd H r0 (.lst (cs.map V.int)) r0=some (.lst (cs.map V.int)):=upd_same
 generalize upd H r0 (.lst (cs.map V.int))=H0 at s0 e0 ⊢
 walk_at "go"
 refine⟨a,cs,rfl,s0.seq hS,hz,(fun c hc=>by rw[hw] at hc;cases hc),fun _ lp us H1 nlp s1 hlp pa=>?_⟩
 have pa:Xbh H1 us ps:=by rw[hw] at pa;exact pa
 have hps:(ps.length:Int)≤cs.length:=by have:=hc.le;omega
 walk_at "go"
 refine⟨lp,us,ps,rfl,hlp,pa,by omega,fun jp js H2 njp s2 hjp pj=>?_⟩
 have jc:=Xim hc
 generalize Xcr ps=qs at pj jc q
 have hjl:=pj.1
 have s02:=(s0.trans s1).trans s2
 refine⟨jp,rfl,⟨_,SqL.of hjp⟩,Xdn (K:=K) (a:=jp) (xs:=js) (JdW (some (.ref a)) jp js qs cs H) ⟨r0,none,none,none,rfl,hr0,s02,s2 _ _ (s1 _ _ e0),hjp,pj⟩ (fun i σ H2 _ ⟨_,_,_,_,_,_,_,_,h,_⟩=>SqL.of h) ?_ ?_⟩
 · rintro i y σ H3 hi ⟨r,x2,x3,x4,rfl,nr,s3,hr3,hj3,pj3⟩
   have hil:i<js.length:=(List.getElem?_eq_some_iff.mp hi).1
   have hip:i<qs.length:=by omega
   have hz1:qs[i]?=some qs[i]:=by simp [hip]
   obtain⟨t,et,hT⟩:=pj3.2 i qs[i] hz1
   have ey:y = .ref t:=Option.some.inj (hi.symm.trans et)
   subst ey
   have hj:=Xmq (cs:=cs) hz1
   obtain⟨z0,z1,_,z4⟩:=jc.mem qs[i] (by simp)
   generalize qs[i]=z at hT hj z0 z1 z4
   have hll:=Xdp (qs.take i) cs
   walk_at "go"
   refine⟨r,Xdj cs (qs.take i),z.a,z.l,z.v,rfl,SqL.of hr3,by omega,z0,z1,by omega,fun p H4 np s4 hp4=>?_⟩
   walk_at "go"
   exact⟨p,_,_,_,rfl,s3.free np,s3.trans s4,by rw[hj];exact hp4,s4 _ _ hj3,pj3.same s4⟩
 · rintro σ H3 ⟨r,x2,x3,x4,rfl,nr,s3,hr3,hj3,pj3⟩
   walk_at "go"
   rw[List.take_of_length_le (by omega)] at hr3
   exact q r H3 nr s3 hr3
def Xiq (K:PySem.W.Frag)(C:Addr):Sp:=fun vs H Q E=>∃(a:Addr) (cs:List Int) (ps:List Pc) (k:Int),vs=[.ref a,.int k]∧SqL K H a (cs.map V.int)∧cs.length≤4000∧Xdc cs 0=(ps,none) ∧
 (∀z∈ps,z.a=k→∀(t:Addr) (H':Hp),Same H H'→H' t=some (.tup [.int z.a,.int z.l,.bl z.v])→Q (.ref t) H') ∧
 ((∀z∈ps,z.a≠k)→∀(H':Hp),Same H H'→E (.ref C) none H')
def PaW (f0 f1:Option V)(H1:Hp)(ps:List Pc)(k:Int)(i:Nat)(σ:L2.St)(H':Hp):Prop:=H1=H'∧∃x2:Option V,σ=[f0,f1,x2]∧∀z∈ps.take i,z.a≠k
theorem XSe (S:Src K mg "piece_at" Xrq)(T:Txt K mg Y0 Y7 Y9 Y4 Y3 Y6 Y12 Y2 Y8 Y5 Y1 Y10 Y13 Y14 Y11 W0_ W1_)(D_Z53:Defx P w K mg base "looked" 4 ["cells"] (Xed K Y4)):Defx P w K mg base "piece_at" 5 ["cells","at"] (Xiq K Y3):=by
 refine S.okx XAi XLl (fun vs H Q E h=>by revert h;walk_at "len") (fun f cdv A outer s H vs Q E hr h=>?_)
 refine⟨_,(Xab (Xel PassesOwn.leaving rfl (Xcq (Xdf D_Z53 hr (by rfl) (Xaa (pv 0) Xad))) (Xar (i:=2) XAi.nd rfl (Or.inl rfl)) (Xac (Xbi (Xaj Xfl (Xbd Xci (pv 2) Xaf (fun _ _=>rfl)) (pv 1) (Xao _)) (Xac (Xak (pv 2))) Xap))) (Xac (Xef T.x_NoPiece hr.hd rfl (Xaa Xdi Xad)))),?_⟩
 obtain⟨a,cs,ps,k,rfl,hS,hz,hw,q,qe⟩:=h
 walk_at "go"
 refine⟨a,cs,rfl,hS,hz,(fun c hc=>by rw[hw] at hc;cases hc),fun _ lp us H1 nlp s1 hlp pa=>?_⟩
 have pa:Xbh H1 us ps:=by rw[hw] at pa;exact pa
 have hul:=pa.1
 refine⟨lp,rfl,⟨_,SqL.of hlp⟩,Xdn (K:=K) (a:=lp) (xs:=us) (PaW (some (.ref a)) (some (.int k)) H1 ps k) ⟨rfl,none,rfl,fun z hz=>by cases hz⟩ (fun i σ H2 _ ⟨h,_⟩=>h▸SqL.of hlp) ?_ ?_⟩
 · rintro i y σ H2 hi ⟨rfl,x2,rfl,hq⟩
   have hil:i<us.length:=(List.getElem?_eq_some_iff.mp hi).1
   have hip:i<ps.length:=by omega
   obtain⟨t,et,hT⟩:=pa.2 i ps[i] (by simp [hip])
   have ey:y = .ref t:=Option.some.inj (hi.symm.trans et)
   subst ey
   walk_at "go"
   refine Xdl (fun hk=>?_) (fun hk=>?_)
   · walk_at "go"
     exact q ps[i] (by simp) hk t _ s1 hT
   · walk_at "go"
     refine⟨rfl,_,rfl,fun z hz=>?_⟩
     rw[List.take_add_one,List.getElem?_eq_getElem hip] at hz
     rcases List.mem_append.mp hz with h | h
     · exact hq z h
     · have:z=ps[i]:=by simpa using h
       rw[this];exact hk
 · rintro σ H2 ⟨rfl,x2,rfl,hq⟩
   rw[List.take_of_length_le (by omega)] at hq
   walk_at "go"
   exact qe hq _ s1
def Xgg (K:PySem.W.Frag)(C:Addr)(v:Bool):Sp:=fun vs H Q E=>∃(a:Addr) (cs:List Int) (ps:List Pc) (k:Int),vs=[.ref a,.int k]∧SqL K H a (cs.map V.int)∧cs.length≤4000∧Xdc cs 0=(ps,none)∧Xai 0 ps cs.length ∧
 (∀z∈ps,z.a=k→z.v=v→∀(t:Addr) (H':Hp),Same H H'→H' t=some (.tup [.int z.a,.int z.l,.bl z.v])→Q (.ref t) H') ∧
 ((∀z∈ps,z.a=k→z.v≠v)→∀(H':Hp),Same H H'→E (.ref C) none H')
theorem d_Z52 (S:Src K mg "live_at" Xuf)(T:Txt K mg Y0 Y7 Y9 Y4 Y3 Y6 Y12 Y2 Y8 Y5 Y1 Y10 Y13 Y14 Y11 W0_ W1_)(D_Z38:Defx P w K mg base "piece_at" 5 ["cells","at"] (Xiq K Y3)):Defx P w K mg base "live_at" 6 ["cells","at"] (Xgg K Y3 true):=by
 refine S.okx XBg XNm (fun vs H Q E h=>by revert h;walk_at "len") (fun f cdv A outer s H vs Q E hr h=>?_)
 refine⟨_,(Xab (Xan (i:=2) XBg.nd rfl (Or.inl rfl) (Xdf D_Z38 hr (by rfl) (Xaa (pv 0) (Xaa (pv 1) Xad)))) (Xab (Xbi (Xco (Xcd (Xbd Xci (pv 2) Xaf (fun _ _=>rfl)) (fun _=>rfl))) (Xac (Xef T.x_NoPiece hr.hd rfl (Xaa Xdi Xad))) Xap) (Xac (Xak (pv 2))))),?_⟩
 obtain⟨a,cs,ps,k,rfl,hS,hz,hw,hc,q,qe⟩:=h
 walk_at "go"
 refine⟨a,cs,ps,k,rfl,hS,hz,hw,fun z hm hk t H1 s1 ht=>?_,fun hn H1 s1=>qe (fun z hz hk=>absurd hk (hn z hz)) _ s1⟩
 walk_at "go"
 refine Xgw (fun hv=>?_) (fun hv=>?_)
 · walk_at "go"
   exact q z hm hk hv t _ s1 ht
 · walk_at "go"
   refine qe (fun y hy hk2=>?_) _ s1
   rw[Xbn hc hy hm (by omega),hv]
   exact fun z=>nomatch z
theorem XRh (S:Src K mg "free_at" Xtc)(T:Txt K mg Y0 Y7 Y9 Y4 Y3 Y6 Y12 Y2 Y8 Y5 Y1 Y10 Y13 Y14 Y11 W0_ W1_)(D_Z38:Defx P w K mg base "piece_at" 5 ["cells","at"] (Xiq K Y3)):Defx P w K mg base "free_at" 6 ["cells","at"] (Xgg K Y3 false):=by
 refine S.okx XAp XMu (fun vs H Q E h=>by revert h;walk_at "len") (fun f cdv A outer s H vs Q E hr h=>?_)
 refine⟨_,(Xab (Xan (i:=2) XAp.nd rfl (Or.inl rfl) (Xdf D_Z38 hr (by rfl) (Xaa (pv 0) (Xaa (pv 1) Xad)))) (Xab (Xbi (Xcd (Xbd Xci (pv 2) Xaf (fun _ _=>rfl)) (fun _=>rfl)) (Xac (Xef T.x_NoPiece hr.hd rfl (Xaa Xdi Xad))) Xap) (Xac (Xak (pv 2))))),?_⟩
 obtain⟨a,cs,ps,k,rfl,hS,hz,hw,hc,q,qe⟩:=h
 walk_at "go"
 refine⟨a,cs,ps,k,rfl,hS,hz,hw,fun z hm hk t H1 s1 ht=>?_,fun hn H1 s1=>qe (fun z hz hk=>absurd hk (hn z hz)) _ s1⟩
 walk_at "go"
 refine Xgw (fun hv=>?_) (fun hv=>?_)
 · walk_at "go"
   refine qe (fun y hy hk2=>?_) _ s1
   rw[Xbn hc hy hm (by omega),hv]
   exact fun z=>nomatch z
 · walk_at "go"
   exact q z hm hk hv t _ s1 ht
def XQw (K:PySem.W.Frag)(CP CR:Addr):Sp:=fun vs H Q E=>∃(a:Addr) (cs:List Int) (ps:List Pc) (k s L:Int),vs=[.ref a,.int k,.int s,.int L]∧SqL K H a (cs.map V.int)∧cs.length≤4000∧Xai 0 ps cs.length∧Xbc cs ps∧1≤L ∧
 (∀z∈ps,z.a=k→z.v=false→z.a≤s→s+L≤z.a+z.l→∀(p:Addr) (H':Hp),H p=none→Same H H'→H' p=some (.lst ((cutO cs z.a z.l s L).map V.int))→Q (.ref p) H') ∧
 (∀z∈ps,z.a=k→z.v=false→¬(z.a≤s∧s+L≤z.a+z.l)→∀(H':Hp),Same H H'→E (.ref CR) none H') ∧
 ((∀z∈ps,z.a=k→z.v≠false)→∀(H':Hp),Same H H'→E (.ref CP) none H')
theorem XRr (S:Src K mg "cut_out" Xuh)(T:Txt K mg Y0 Y7 Y9 Y4 Y3 Y6 Y12 Y2 Y8 Y5 Y1 Y10 Y13 Y14 Y11 W0_ W1_)(D_Z49:Defx P w K mg base "free_at" 6 ["cells","at"] (Xgg K Y3 false))(D_Z33:Defx P w K mg base "laid_free" 3 ["cells","begin","end"] (Xfc K))(D_Z67:Defx P w K mg base "laid" 2 ["cells","at","long","live"] (Xmg K)):Defx P w K mg base "cut_out" 7 ["cells","at","place","long"] (XQw K Y3 Y8):=by
 refine S.okx Xhp XNl (fun vs H Q E h=>by revert h;walk_at "len") (fun f cdv A outer s H vs Q E hr h=>?_)
 refine⟨_,(Xab (Xei (Xdf D_Z49 hr (by rfl) (Xaa (pv 0) (Xaa (pv 1) Xad))) (Xgv rfl (Xas (Xar (i:=4) Xhp.nd rfl (Or.inl rfl)) (Xas (Xar (i:=5) Xhp.nd rfl (Or.inl rfl)) (Xas (Xar (i:=6) Xhp.nd rfl (Or.inl rfl)) Xdb))))) (Xab (Xan (i:=7) Xhp.nd rfl (Or.inl rfl) (Xal Xbb (pv 4) (pv 5))) (Xab (Xbi (PW.pt (Xek (Xaj Xfk (pv 2) (pv 4) (Xao _)) (Xdk (Xaj Xke (Xal Xbb (pv 2) (pv 3)) (pv 7) (Xao _))))) (Xac (Xef T.x_NoRoom hr.hd rfl (Xaa Xdi Xad))) Xap) (Xab (Xan (i:=8) Xhp.nd rfl (Or.inl rfl) (Xah D_Z33 hr (by rfl) (Xaa (pv 0) (Xaa (pv 4) (Xaa (pv 2) Xad))))) (Xab (Xan (i:=8) Xhp.nd rfl (Or.inl rfl) (Xah D_Z67 hr (by rfl) (Xaa (pv 8) (Xaa (pv 2) (Xaa (pv 3) (Xaa Xdh Xad)))))) (Xac (Xak (Xah D_Z33 hr (by rfl) (Xaa (pv 8) (Xaa (Xal Xbb (pv 2) (pv 3)) (Xaa (pv 7) Xad))))))))))),?_⟩
 obtain⟨a,cs,ps,k,s,L,rfl,hS,hz,hc,mk,hL,q,qr,qe⟩:=h
 have hw:=Xau hc mk
 walk_at "go"
 refine⟨a,cs,ps,k,rfl,hS,by omega,hw,hc,fun z hm hk hv t H1 s1 ht=>?_,fun hn H1 s1=>qe hn _ s1⟩
 obtain⟨z0,z1,_,z4⟩:=hc.mem z hm
 walk_at "go"
 refine Xdl (fun h1=>?_) (fun h1=>?_)
 · walk_at "go"
   exact qr z hm hk hv (by omega) _ s1
 · walk_at "go"
   refine Xdl (fun h2=>?_) (fun h2=>?_)
   · walk_at "go"
     exact qr z hm hk hv (by omega) _ s1
   · walk_at "go"
     refine⟨a,cs,z.a,s,rfl,s1.seq hS,hz,z0,by omega,by omega,fun p2 H2 n2 s2 g2=>?_⟩
     walk_at "go"
     refine⟨p2,lfI cs z.a s,s,L,true,rfl,SqL.of g2,by rw[Xcn];exact hz,by omega,hL,by rw[Xcn];omega,fun p3 H3 n3 s3 g3=>?_⟩
     walk_at "go"
     refine⟨p3,Xch (lfI cs z.a s) s L true,s+L,z.a+z.l,rfl,SqL.of g3,by rw[Xbp,Xcn];exact hz,by omega,by omega,by rw[Xbp,Xcn];omega,fun p4 H4 n4 s4 g4=>?_⟩
     walk_at "go"
     have s13:=(s1.trans s2).trans s3
     exact q z hm hk hv (by omega) (by omega) p4 H4 (s13.free n4) (s13.trans s4) g4
def XBa (K:PySem.W.Frag):Sp:=fun vs H Q _=>∃(a:Addr) (cs:List Int) (ps:List Pc) (i:Nat) (z:Pc),vs=[.ref a,.int z.a]∧SqL K H a (cs.map V.int)∧Xai 0 ps cs.length∧Xbc cs ps∧ps[i]?=some z∧Q (.int (fbeg ps i z)) H
def Xtr (K:PySem.W.Frag):Sp:=fun vs H Q _=>∃(a:Addr) (cs:List Int) (ps:List Pc) (i:Nat) (z:Pc),vs=[.ref a,.int (z.a+z.l)]∧SqL K H a (cs.map V.int)∧Xai 0 ps cs.length∧Xbc cs ps∧ps[i]?=some z∧Q (.int (fend ps i z)) H
theorem XRw (S:Src K mg "free_begin" Xrf)(T:Txt K mg Y0 Y7 Y9 Y4 Y3 Y6 Y12 Y2 Y8 Y5 Y1 Y10 Y13 Y14 Y11 W0_ W1_)(D_Z46:Defx P w K mg base "live_of" 1 ["number"] (Xjn))(D_Z44:Defx P w K mg base "long_of" 1 ["number"] (Xfp)):Defx P w K mg base "free_begin" 2 ["cells","at"] (XBa K):=by
 refine S.okx XKw XNy (fun vs H Q E h=>by revert h;walk_at "len") (fun f cdv A outer s H vs Q E hr h=>?_)
 refine⟨_,PSs.nox (Xab (Xbi (PW.pt (Xek (Xaj Xfl (pv 1) Xaf (Xao _)) (Xdk (Xeg (Xah D_Z46 hr (by rfl) (Xaa (Xbd Xat (pv 0) (Xal Xcx (pv 1) Xaf) (fun _ _=>rfl)) Xad)))))) (Xac (Xak (pv 1))) Xap) (Xac (Xak (Xal Xcx (pv 1) (Xah D_Z44 hr (by rfl) (Xaa (Xbd Xat (pv 0) (Xal Xcx (pv 1) Xaf) (fun _ _=>rfl)) Xad)))))),?_⟩
 obtain⟨a,cs,ps,i,z,rfl,hS,hc,mk,hi,q⟩:=h
 obtain⟨z0,z1,_,z4⟩:=hc.mem z (List.mem_of_getElem? hi)
 cases i with
 | zero =>
   have e:=Xmu hc hi
   walk_at "go"
   exact q
 | succ j =>
   have hp:=Xhy hc hi
   have hj:j<ps.length:=by have:=(List.getElem?_eq_some_iff.mp hi).1;omega
   have hy:ps[j]?=some ps[j]:=by simp [hj]
   have hm:=Xpf hc mk hy hi
   have hn:=Xcg hc hy hi
   generalize ps[j]=y at hy hm hn
   have hm':cs.getD (z.a-1).toNat 0=mkOf y.l y.v:=hm
   walk_at "go"
   rw[hm',Xhm]
   refine Xgw (fun hv=>?_) (fun hv=>?_)
   · walk_at "go"
     rw[Xfy hy hv] at q
     exact q
   · walk_at "go"
     rw[hm',Xgn,show z.a-y.l=y.a by omega]
     rw[Xge hy hv] at q
     exact q
theorem XTq (S:Src K mg "free_end" Xru)(T:Txt K mg Y0 Y7 Y9 Y4 Y3 Y6 Y12 Y2 Y8 Y5 Y1 Y10 Y13 Y14 Y11 W0_ W1_)(D_Z46:Defx P w K mg base "live_of" 1 ["number"] (Xjn))(D_Z44:Defx P w K mg base "long_of" 1 ["number"] (Xfp)):Defx P w K mg base "free_end" 2 ["cells","end"] (Xtr K):=by
 refine S.okx XNf XPz (fun vs H Q E h=>by revert h;walk_at "len") (fun f cdv A outer s H vs Q E hr h=>?_)
 refine⟨_,PSs.nox (Xab (Xbi (PW.pt (Xek (Xaj Xfl (pv 1) (Xba Xay (by rfl) T.n_len PySem.boot_len (Xaa (pv 0) Xad)) (Xao _)) (Xdk (Xeg (Xah D_Z46 hr (by rfl) (Xaa (Xbd Xat (pv 0) (pv 1) (fun _ _=>rfl)) Xad)))))) (Xac (Xak (pv 1))) Xap) (Xac (Xak (Xal Xbb (pv 1) (Xah D_Z44 hr (by rfl) (Xaa (Xbd Xat (pv 0) (pv 1) (fun _ _=>rfl)) Xad)))))),?_⟩
 obtain⟨a,cs,ps,i,z,rfl,hS,hc,mk,hi,q⟩:=h
 obtain⟨z0,z1,_,z4⟩:=hc.mem z (List.mem_of_getElem? hi)
 by_cases hl:ps.length=i+1
 · have e:=Xpe hc hi hl
   walk_at "go"
   rw[Xfw (List.getElem?_eq_none (by omega))] at q
   exact q
 · have hj:i+1<ps.length:=by have:=(List.getElem?_eq_some_iff.mp hi).1;omega
   have hy:ps[i+1]?=some ps[i+1]:=by simp [hj]
   have hm:=Xmx hc mk hi hy
   have hn:=Xcg hc hi hy
   generalize ps[i+1]=y at hy hm hn
   obtain⟨y0,y1,_,y4⟩:=hc.mem y (List.mem_of_getElem? hy)
   have hm':cs.getD (z.a+z.l).toNat 0=mkOf y.l y.v:=hm
   walk_at "go"
   rw[hm',Xhm]
   refine Xgw (fun hv=>?_) (fun hv=>?_)
   · walk_at "go"
     rw[Xeu hy hv] at q
     exact q
   · walk_at "go"
     rw[hm',Xgn,←hn]
     rw[Xev hy hv] at q
     exact q
def Xuq (K:PySem.W.Frag)(C:Addr):Sp:=fun vs H Q E=>∃(a:Addr) (cs:List Int) (ps:List Pc) (k:Int),vs=[.ref a,.int k]∧SqL K H a (cs.map V.int)∧cs.length≤4000∧Xai 0 ps cs.length∧Xbc cs ps ∧
 (∀i z,ps[i]?=some z→z.a=k→z.v=true→∀(p:Addr) (H':Hp),H p=none→Same H H'→H' p=some (.lst ((lfI cs (fbeg ps i z) (fend ps i z)).map V.int))→Q (.ref p) H') ∧
 ((∀z∈ps,z.a=k→z.v≠true)→∀(H':Hp),Same H H'→E (.ref C) none H')
theorem XTo (S:Src K mg "freed" Xsv)(T:Txt K mg Y0 Y7 Y9 Y4 Y3 Y6 Y12 Y2 Y8 Y5 Y1 Y10 Y13 Y14 Y11 W0_ W1_)(D_Z52:Defx P w K mg base "live_at" 6 ["cells","at"] (Xgg K Y3 true))(D_Z27:Defx P w K mg base "free_begin" 2 ["cells","at"] (XBa K))(D_Z39:Defx P w K mg base "free_end" 2 ["cells","end"] (Xtr K))(D_Z33:Defx P w K mg base "laid_free" 3 ["cells","begin","end"] (Xfc K)):Defx P w K mg base "freed" 7 ["cells","at"] (Xuq K Y3):=by
 refine S.okx Xob XLz (fun vs H Q E h=>by revert h;walk_at "len") (fun f cdv A outer s H vs Q E hr h=>?_)
 refine⟨_,(Xab (Xei (Xdf D_Z52 hr (by rfl) (Xaa (pv 0) (Xaa (pv 1) Xad))) (Xgv rfl (Xas (Xar (i:=2) Xob.nd rfl (Or.inl rfl)) (Xas (Xar (i:=3) Xob.nd rfl (Or.inl rfl)) (Xas (Xar (i:=4) Xob.nd rfl (Or.inl rfl)) Xdb))))) (Xac (Xak (Xah D_Z33 hr (by rfl) (Xaa (pv 0) (Xaa (Xah D_Z27 hr (by rfl) (Xaa (pv 0) (Xaa (pv 2) Xad))) (Xaa (Xah D_Z39 hr (by rfl) (Xaa (pv 0) (Xaa (Xal Xbb (pv 2) (pv 3)) Xad))) Xad))))))),?_⟩
 obtain⟨a,cs,ps,k,rfl,hS,hz,hc,mk,q,qe⟩:=h
 have hw:=Xau hc mk
 walk_at "go"
 refine⟨a,cs,ps,k,rfl,hS,hz,hw,hc,fun z hm hk hv t H1 s1 ht=>?_,fun hn H1 s1=>qe hn _ s1⟩
 obtain⟨i,hi⟩:=List.getElem?_of_mem hm
 have b1:=Xsn hc hi
 have b2:=Xng hc hi
 have hS1:=s1.seq hS
 obtain⟨z0,z1,_,z4⟩:=hc.mem z hm
 walk_at "go"
 refine⟨a,cs,ps,i,z,rfl,hS1,hc,mk,hi,?_⟩
 walk_at "go"
 refine⟨a,cs,ps,i,z,rfl,hS1,hc,mk,hi,?_⟩
 walk_at "go"
 refine⟨a,cs,_,_,rfl,hS1,hz,b1.1,by omega,by omega,fun p H2 n2 s2 g2=>?_⟩
 walk_at "go"
 exact q i z hi hk hv p H2 (s1.free n2) (s1.trans s2) g2
def Xfh (L b:Int)(z:Pc):Option (List V):=if z.v=true then none else (fp z.a z.l L b).map fun p=>[V.int z.a,V.int p]
def Xet (ps:List Pc)(L b:Int):List (List V):=ps.filterMap (Xfh L b)
theorem Xls {ps:List Pc}{L b:Int}{i:Nat}{z:Pc}(h:ps[i]?=some z):Xet (ps.take (i+1)) L b=Xet (ps.take i) L b++(Xfh L b z).toList:=by
 unfold Xet
 rw[List.take_add_one,h,List.filterMap_append]
 cases e:Xfh L b z <;> simp [e]
theorem Xnk (ps:List Pc)(L b:Int):(Xet ps L b).length≤ps.length:=List.length_filterMap_le _ _
def Xqo:Sp:=fun vs H Q _=>∃(t:Addr) (a n L b:Int) (v:Bool),vs=[.ref t,.int L,.int b]∧H t=some (.tup [.int a,.int n,.bl v])∧1≤b∧Q (optV (fp a n L b)) H
def Xhs (K:PySem.W.Frag):Sp:=fun vs H Q _=>∃(a:Addr) (cs:List Int) (ps:List Pc) (L b:Int),vs=[.ref a,.int L,.int b]∧SqL K H a (cs.map V.int)∧cs.length≤4000∧Xdc cs 0=(ps,none)∧1≤b ∧
 ∀(p:Addr) (us:List V) (H':Hp),H p=none→Same H H'→H' p=some (.lst us)→Xcc H' us (Xet ps L b)→Q (.ref p) H'
theorem XSl (S:Src K mg "first_place" Xrw)(T:Txt K mg Y0 Y7 Y9 Y4 Y3 Y6 Y12 Y2 Y8 Y5 Y1 Y10 Y13 Y14 Y11 W0_ W1_) :Defx P w K mg base "first_place" 1 ["piece","long","bound"] (Xqo):=by
 refine S.okx Xlr XLn (fun vs H Q E h=>by revert h;walk_at "len") (fun f cdv A outer s H vs Q E hr h=>?_)
 refine⟨_,PSs.nox (Xab (Xei (pv 0) (Xgv rfl (Xas (Xar (i:=3) Xlr.nd rfl (Or.inl rfl)) (Xas (Xar (i:=4) Xlr.nd rfl (Or.inl rfl)) (Xas (Xar (i:=5) Xlr.nd rfl (Or.inl rfl)) Xdb))))) (Xab (Xan (i:=6) Xlr.nd rfl (Or.inl rfl) (Xal Xbb (pv 3) (Xal Xbu (Xnl Xie (Xal Xbb (pv 3) Xaf)) (pv 2)))) (Xab (Xbi (Xaj Xke (Xal Xbb (pv 6) (pv 1)) (Xal Xbb (pv 3) (pv 4)) (Xao _)) (Xac (Xak Xcs)) Xap) (Xac (Xak (pv 6)))))),?_⟩
 obtain⟨t,a,n,L,b,v,rfl,ht,hb,q⟩:=h
 have e:a + -(a+1)%b=fpl a b:=by unfold fpl;rw[Xkr hb]
 walk_at "go"
 rw[e]
 refine Xdl (fun hc=>?_) (fun hc=>?_)
 · walk_at "go"
   unfold fp at q
   rw[if_neg (by omega)] at q
   exact q
 · walk_at "go"
   unfold fp at q
   rw[if_pos (by omega)] at q
   exact q
def SfW (f0 f1 f2:Option V)(sp lp:Addr)(us:List V)(ps:List Pc)(L b:Int)(H:Hp)(i:Nat)(σ:L2.St)(H':Hp):Prop :=
 ∃(ws:List V) (x4 x5:Option V),σ=[f0,f1,f2,some (.ref sp),x4,x5]∧Same H H'∧H' lp=some (.lst us)∧Xbh H' us ps∧H' sp=some (.lst ws)∧Xcc H' ws (Xet (ps.take i) L b)
theorem XSh (S:Src K mg "spots_for" Xqr)(T:Txt K mg Y0 Y7 Y9 Y4 Y3 Y6 Y12 Y2 Y8 Y5 Y1 Y10 Y13 Y14 Y11 W0_ W1_)(D_Z20:Defx P w K mg base "first_place" 1 ["piece","long","bound"] (Xqo))(D_Z53:Defx P w K mg base "looked" 4 ["cells"] (Xed K Y4)):Defx P w K mg base "spots_for" 5 ["cells","long","bound"] (Xhs K):=by
 refine S.okx Xoq XLf (fun vs H Q E h=>by revert h;walk_at "len") (fun f cdv A outer s H vs Q E hr h=>?_)
 refine⟨_,PSs.nox (Xab (Xan (i:=3) Xoq.nd rfl (Or.inl rfl) (Xer Xad)) (Xab (Xel PassesOwn.never rfl (Xcq (Xah D_Z53 hr (by rfl) (Xaa (pv 0) Xad))) (Xar (i:=4) Xoq.nd rfl (Or.inl rfl)) (Xab (Xan (i:=5) Xoq.nd rfl (Or.inl rfl) (Xah D_Z20 hr (by rfl) (Xaa (pv 4) (Xaa (pv 1) (Xaa (pv 2) Xad))))) (Xac (Xbi (PW.pt (Xep (Xco (Xcd (Xbd Xci (pv 4) Xaf (fun _ _=>rfl)) (fun _=>rfl))) (Xem (Xaj Xkj (pv 5) Xcs (Xao _))))) (Xac (Xca (Xrg PySem.F.plainAttrs_list PySem.F.slot_list_append PySem.F.type_list_append Xdy (pv 3) (Xaa (Xew (Xaa (Xbd Xci (pv 4) Xaf (fun _ _=>rfl)) (Xaa (pv 5) Xad))) Xad)))) Xap)))) (Xac (Xak (pv 3))))),?_⟩
 obtain⟨a,cs,ps,L,b,rfl,hS,hz,hw,hb,q⟩:=h
 walk_at "go"
 intro sp hsp
 walk_at "go"
 refine⟨a,cs,rfl,(Same.new hsp).seq hS,hz,(fun c hc=>by rw[hw] at hc;cases hc),fun _ lp us H1 nlp s1 hlp pa=>?_⟩
 have pa:Xbh H1 us ps:=by rw[hw] at pa;exact pa
 have hps:(ps.length:Int)≤cs.length:=by
   have:=Xlo cs cs.length 0 (by omega) (by omega)
   rw[hw] at this
   exact this
 have hul:=pa.1
 have hsp1:=s1 sp _ upd_same
 have hne:lp≠sp:=fun z=>by rw[z,upd_same] at nlp;cases nlp
 have s01:Same H H1:=(Same.new hsp).trans s1
 refine⟨lp,rfl,⟨_,SqL.of hlp⟩,Xdn (K:=K) (a:=lp) (xs:=us) (SfW (some (.ref a)) (some (.int L)) (some (.int b)) sp lp us ps L b H) ⟨[],none,none,rfl,s01,hlp,pa,hsp1,Xcc.nil⟩ (fun i σ H2 _ ⟨_,_,_,_,_,h,_⟩=>SqL.of h) ?_ ?_⟩
 · rintro i y σ H2 hi ⟨ws,x4,x5,rfl,s2,hlp2,pa2,hsp2,ta⟩
   have hil:i<us.length:=(List.getElem?_eq_some_iff.mp hi).1
   have hip:i<ps.length:=by omega
   obtain⟨t,et,hT⟩:=pa2.2 i ps[i] (by simp [hip])
   have ey:y = .ref t:=Option.some.inj (hi.symm.trans et)
   subst ey
   have ht:=Xls (L:=L) (b:=b) (show ps[i]?=some ps[i] by simp [hip])
   have hwl:ws.length≤4000:=by
     have h1:=ta.1
     have h2:=Xnk (ps.take i) L b
     rw[List.length_take] at h2
     omega
   generalize ps[i]=z at hT ht
   walk_at "go"
   refine⟨t,z.a,z.l,L,b,z.v,rfl,hT,hb,?_⟩
   cases ef:fp z.a z.l L b with
   | none =>
     walk_at "go"
     have e:Xfh L b z=none:=by
       unfold Xfh
       split
       · rfl
       · rw[ef];rfl
     rw[e,Option.toList_none,List.append_nil] at ht
     refine Xgw (fun hv=>?_) (fun hv=>?_)
     · walk_at "go"
       exact⟨ws,_,_,rfl,s2,hlp2,pa2,hsp2,by rw[ht];exact ta⟩
     · walk_at "go"
       exact⟨ws,_,_,rfl,s2,hlp2,pa2,hsp2,by rw[ht];exact ta⟩
   | some p =>
     walk_at "go"
     refine Xgw (fun hv=>?_) (fun hv=>?_)
     · walk_at "go"
       have e:Xfh L b z=none:=by unfold Xfh;rw[if_pos hv]
       rw[e,Option.toList_none,List.append_nil] at ht
       exact⟨ws,_,_,rfl,s2,hlp2,pa2,hsp2,by rw[ht];exact ta⟩
     · walk_at "go"
       intro t2 ht2
       have hst:sp≠t2:=Xaq hsp2 ht2
       have hlt:lp≠t2:=Xaq hlp2 ht2
       walk_at "go"
       have e:Xfh L b z=some [V.int z.a,V.int p]:=by unfold Xfh;rw[hv,if_neg Bool.false_ne_true,ef];rfl
       rw[e] at ht
       exact⟨ws++[.ref t2],_,_,rfl,(s2.put (s2.free ht2)).put hsp,look_ne hne (look_ne hlt hlp2),(pa2.mono (Xgz (.inl ht2))).mono (Xgz (.inr ⟨ws,look_ne hst hsp2⟩)),upd_same,by rw[ht];exact ta.push hsp2 ht2⟩
 · rintro σ H2 ⟨ws,x4,x5,rfl,s2,hlp2,pa2,hsp2,ta⟩
   walk_at "go"
   rw[List.take_of_length_le (by omega)] at ta
   exact q sp ws H2 hsp s2 hsp2 ta
/-! the spots by numbers -/
def Xlm (L b:Int)(z:Pc):Option (Int×Int):=if z.v=true then none else (fp z.a z.l L b).map fun p=>(z.a,p)
def Xbl (ps:List Pc)(L b:Int):List (Int×Int):=ps.filterMap (Xlm L b)
theorem Xfm (ps:List Pc)(L b:Int):Xet ps L b=(Xbl ps L b).map fun q=>[V.int q.1,V.int q.2]:=by
 unfold Xet Xbl
 rw[List.map_filterMap]
 congr 1
 funext z
 unfold Xfh Xlm
 split
 · rfl
 · cases fp z.a z.l L b <;> rfl
theorem Xmr:∀{ps:List Pc} {s e L b:Int},Xai s ps e→∀q∈Xbl ps L b,s≤q.1
 | [],s,e,L,b,_,q,hq=>by simp [Xbl] at hq
 | z::r,s,e,L,b,c,q,hq=>by
   obtain⟨h0,h1,h2,h3⟩:=c
   unfold Xbl at hq
   rw[List.filterMap_cons] at hq
   have rest:∀q∈r.filterMap (Xlm L b),s≤q.1:=fun q hq=>by
     have:=Xmr h3 q hq
     omega
   split at hq
   · exact rest q hq
   · rename_i q0 e0
     rcases List.mem_cons.mp hq with g | g
     · subst g
       unfold Xlm at e0
       split at e0
       · cases e0
       · obtain⟨p,_,e1⟩:=Option.map_eq_some_iff.mp e0
         rw[←e1]
         show s≤z.a
         omega
     · exact rest q g
def Xic:Sp:=fun vs H Q _=>∃(p:Addr) (us:List V) (xs:List (List Int)),vs=[.ref p]∧H p=some (.lst us)∧Xcc H us (xs.map fun x=>x.map V.int)∧(∀x∈xs,x.length=3) ∧
 (xs=[]→Q .non H)∧(0<xs.length→Q (.int ((xs.getD (Xej xs (xs.length-1)) []).getD 2 0)) H)
theorem d_Z24 (S:Src K mg "least_place" Xpu)(T:Txt K mg Y0 Y7 Y9 Y4 Y3 Y6 Y12 Y2 Y8 Y5 Y1 Y10 Y13 Y14 Y11 W0_ W1_) :Defx P w K mg base "least_place" 1 ["ranked"] (Xic):=by
 refine S.okx XOs XNb (fun vs H Q E h=>by revert h;walk_at "len") (fun f cdv A outer s H vs Q E hr h=>?_)
 refine⟨_,PSs.nox (Xab (Xbi (Xco (Xcd (pv 0) (fun _=>rfl))) (Xac (Xak Xcs)) Xap) (Xac (Xak (Xbd Xci (Xba (Xqg rfl hr.units) (by rfl) T.n_min PyProof.Rows.boot_min (Xaa (pv 0) Xad)) Xaf (fun _ _=>rfl))))),?_⟩
 obtain⟨p,us,xs,rfl,hp,ta,h3,q0,q⟩:=h
 have hl:=ta.1
 rw[List.length_map] at hl
 cases hx:us with
 | nil =>
   rw[hx] at hp hl
   walk_at "go"
   refine iteT ?_
   walk_at "go"
   exact q0 (List.length_eq_zero_iff.mp hl.symm)
 | cons u r =>
   have hpos:0<xs.length:=by rw[←hl,hx,List.length_cons];omega
   have hm:Xej xs (xs.length-1)<xs.length:=by have:=Xhg xs (xs.length-1);omega
   rw[hx] at hp ta
   walk_at "go"
   refine iteF ?_
   walk_at "go"
   refine⟨p,_,xs,rfl,hp,ta,hpos,fun t _ ht=>?_⟩
   have q1:=q hpos
   have hm3:(xs.getD (Xej xs (xs.length-1)) []).length=3:=by
     have:xs.getD (Xej xs (xs.length-1)) []=xs[Xej xs (xs.length-1)]:=by simp [hm]
     rw[this]
     exact h3 _ (List.getElem_mem hm)
   generalize xs.getD (Xej xs (xs.length-1)) []=m at ht q1 hm3
   match m,hm3 with
   | [m0,m1,m2],_ =>
     walk_at "go"
     exact q1
def Xtq (K:PySem.W.Frag):Sp:=fun vs H Q _=>∃(a:Addr) (cs:List Int) (s g c:Int),vs=[.ref a,.int s,.int g,.int c]∧SqL K H a (cs.map V.int)∧cs.length≤1200∧0≤s∧0≤g∧0≤c∧s+c≤cs.length∧g+c≤cs.length ∧
 ∀(p:Addr) (H':Hp),H p=none→Same H H'→H' p=some (.lst ((carI cs s.toNat g.toNat c.toNat).map V.int))→Q (.ref p) H'
theorem XSm (S:Src K mg "carried" Xtn)(T:Txt K mg Y0 Y7 Y9 Y4 Y3 Y6 Y12 Y2 Y8 Y5 Y1 Y10 Y13 Y14 Y11 W0_ W1_) :Defx P w K mg base "carried" 1 ["cells","source","goal","count"] (Xtq K):=by
 refine S.okx XBd XNh (fun vs H Q E h=>by revert h;walk_at "len") (fun f cdv A outer s H vs Q E hr h=>?_)
 refine⟨_,PSs.nox (Xab (Xan (i:=4) XBd.nd rfl (Or.inl rfl) (Xcw Xcf (by rfl) T.n_list PyProof.Rows.boot_list (Xaa (pv 0) Xad))) (Xac (Xak (Xal Xum (Xal Xum (Xgd Xhq (pv 4) Xnf (Xfj (pv 2))) (Xgd Xhq (pv 4) (Xfj (pv 1)) (Xfj (Xal Xbb (pv 1) (pv 3))))) (Xgd Xhq (pv 4) (Xfj (Xal Xbb (pv 2) (pv 3))) Xnf))))),?_⟩
 obtain⟨a,cs,s,g,c,rfl,hS,hz,h0,h1,h2,h3,h4,q⟩:=h
 have n1:=Xjq cs none (some g)
 have n2:=Xjq cs (some s) (some (s+c))
 have n3:=Xjq cs (some (g+c)) none
 walk_at "go"
 intro p0 m0
 have s0:Same H (upd H p0 (.lst (cs.map V.int))):=Same.new m0
 have e0:upd H p0 (.lst (cs.map V.int)) p0=some (.lst (cs.map V.int)):=upd_same
 generalize upd H p0 (.lst (cs.map V.int))=H0 at s0 e0 ⊢
 have hS0:SqL K H0 p0 (cs.map V.int):=SqL.of e0
 clear hS
 walk_at "go"
 intro p1 H1 m1 s1 hh1
 have hS1:=s1.seq hS0
 walk_at "go"
 intro p2 H2 m2 s2 hh2
 have h1':=s2 p1 _ hh1
 have hS2:=s2.seq hS1
 walk_at "go"
 intro p3 H3 m3 s3 hh3
 have hS3:=s3.seq hS2
 walk_at "go"
 intro p4 H4 m4 s4 hh4
 have h3':=s4 p3 _ hh3
 have n4:(cutI cs none (some g)++cutI cs (some s) (some (s+c))).length+(cutI cs (some (g+c)) none).length≤4000:=by rw[List.length_append];omega
 walk_at "go"
 intro p5 H5 m5 s5 h5
 walk_at "go"
 have s14:=(((s0.trans s1).trans s2).trans s3).trans s4
 refine q p5 H5 (s14.free m5) (s14.trans s5) ?_
 rw[h5,XGn h1 (by omega),Xyr h0 h2 h3,Xpw (by omega) h4]
 unfold carI
 rw[show (g+c).toNat=g.toNat+c.toNat by omega]
def Xmz:Sp:=fun vs H Q _=>∃c b:Int,vs=[.int c,.int b]∧1≤c∧1≤b∧Q .non H
theorem XRp (S:Src K mg "check_ask" Xqh)(T:Txt K mg Y0 Y7 Y9 Y4 Y3 Y6 Y12 Y2 Y8 Y5 Y1 Y10 Y13 Y14 Y11 W0_ W1_) :Defx P w K mg base "check_ask" 1 ["count","bound"] (Xmz):=by
 refine S.okx XPu XOo (fun vs H Q E h=>by revert h;walk_at "len") (fun f cdv A outer s H vs Q E hr h=>?_)
 refine⟨_,PSs.nox (Xac (Xbi (PW.pt (Xek (Xaj Xfk (pv 0) Xaf (Xao _)) (Xdk (Xaj Xfk (pv 1) Xaf (Xao _))))) (Xac Xks) Xap)),?_⟩
 obtain⟨c,b,rfl,h1,h2,q⟩:=h
 walk_at "go"
 exact q
def BgW (H1:Hp)(ps:List Pc)(s:Int)(D:Addr)(i:Nat)(ys:List V)(H2:Hp):Prop:=Same H1 H2∧H2 D=some (.lst ys)∧ys=(((ps.take i).filter fun z=>decide (z.a≤s)).map fun z=>V.int z.a)
def Xof (K:PySem.W.Frag):Sp:=fun vs H Q _=>∃(a:Addr) (cs:List Int) (ps:List Pc) (i:Nat) (z:Pc) (s:Int),vs=[.ref a,.int s]∧SqL K H a (cs.map V.int)∧cs.length≤4000∧Xai 0 ps cs.length∧Xbc cs ps∧ps[i]?=some z∧z.a≤s∧s<z.a+z.l∧∀(H':Hp),Same H H'→Q (.int z.a) H'
theorem Xty {ps:List Pc}{n s:Int}{i:Nat}{z:Pc}(hc:Xai 0 ps n)(hi:ps[i]?=some z)(h1:z.a≤s)(h2:s<z.a+z.l):∃D,(ps.filter fun z=>decide (z.a≤s))=D++[z]:=by
 obtain⟨ds,rs,e1,e2,k1,k2⟩:=Xaw hc hi
 subst e1
 refine⟨ds.filter fun z=>decide (z.a≤s),?_⟩
 have e:(rs.filter fun z=>decide (z.a≤s))=[]:=List.filter_eq_nil_iff.mpr fun p hp=>by
   have:=k2.fromOn p hp
   rw[decide_eq_false (by omega)]
   exact Bool.false_ne_true
 rw[List.filter_append,List.filter_cons,if_pos (decide_eq_true h1),e]
theorem d_Z12 (S:Src K mg "begin_around" Xtk)(T:Txt K mg Y0 Y7 Y9 Y4 Y3 Y6 Y12 Y2 Y8 Y5 Y1 Y10 Y13 Y14 Y11 W0_ W1_)(D_Z53:Defx P w K mg base "looked" 4 ["cells"] (Xed K Y4)):Defx P w K mg base "begin_around" 5 ["cells","cell"] (Xof K):=by
 refine S.okx XAu XQv (fun vs H Q E h=>by revert h;walk_at "len") (fun f cdv A outer s H vs Q E hr h=>?_)
 refine⟨_,PSs.nox (Xab (Xhw (i:=2) ["at","long","live"] ["cell"] [1] XAu.nd rfl (Or.inl rfl) rfl (Xcq (Xah D_Z53 hr (by rfl) (Xaa (pv 0) Xad))) (fun cl C s₀ H₀ ex=>(Xig (K:=K) (n:=3) rfl rfl (Xas (Xar (i:=0) (show ((["at","long","live"]:List Str)++(["cell"]:List Str)).Nodup by decide +kernel) rfl (Or.inl rfl)) (Xas (Xar (i:=1) (show ((["at","long","live"]:List Str)++(["cell"]:List Str)).Nodup by decide +kernel) rfl (Or.inl rfl)) (Xas (Xar (i:=2) (show ((["at","long","live"]:List Str)++(["cell"]:List Str)).Nodup by decide +kernel) rfl (Or.inl rfl)) Xdb))))) (fun cl C s₀ H₀ ex=>(Xtj (Xaj XOk (pv 0) (pv 3) (Xao _)))) (fun cl C s₀ H₀ ex=>(pv 0)) (Xfd rfl rfl rfl) (Xhi (n:="cell") (by decide +kernel) rfl) (fun y h=>Xck (by decide +kernel) h)) (Xac (Xak (Xbd Xat (pv 2) (Xnl Xie Xaf) (fun _ _=>rfl))))),?_⟩
 obtain⟨a,cs,ps,i,z,s,rfl,hS,hz,hc,mk,hi,h1,h2,q⟩:=h
 have hw:=Xau hc mk
 have hple:=hc.le
 walk_at "go"
 refine⟨a,cs,rfl,hS,hz,(fun c hc=>by rw[hw] at hc;cases hc),fun _ lp us H1 nlp s1 hlp pa=>?_⟩
 have pa:Xbh H1 us ps:=by rw[hw] at pa;exact pa
 have hul:=pa.1
 walk_at "go"
 refine⟨lp,rfl,⟨_,SqL.of hlp⟩,Xde (K:=K) (a:=lp) (xs:=us) (fs:=[some (.int s)]) (BgW H1 ps s) (fun D hD=>⟨Same.new hD,upd_same,rfl⟩) (fun D i ys H2 _ h=>SqL.of (h.1 lp _ hlp)) ?_ ?_⟩
 · rintro D i y ys H2 hD hi ⟨s2,hD2,hy⟩ τ hτ
   have hil:i<us.length:=(List.getElem?_eq_some_iff.mp hi).1
   obtain⟨t,w,rfl,hw1,hT⟩:=XFs (pa.same s2) hi
   have hfl:=take_succ_filter (fun p:Pc=>decide (p.a≤s)) ps i w hw1
   have hyl:ys.length≤i:=by
     rw[hy,List.length_map]
     refine Nat.le_trans (List.length_filter_le _ _) ?_
     rw[List.length_take]
     omega
   match τ,hτ with
   | [τ0,τ1,τ2],_ =>
     walk_at "go"
     refine⟨⟨[_,_,_],rfl,rfl⟩,?_⟩
     walk_at "go"
     refine Xdl (fun hle=>?_) (fun hle=>?_)
     · rw[if_pos (decide_eq_true hle)] at hfl
       walk_at "go"
       refine⟨hD2,small4000 (by omega),Xkq hil ⟨s2.put hD,upd_same,?_⟩⟩
       rw[hfl,List.map_append,←hy]
       rfl
     · rw[if_neg (by rw[decide_eq_false hle];exact Bool.false_ne_true),List.append_nil] at hfl
       exact Xkq hil ⟨s2,hD2,by rw[hfl];exact hy⟩
 · rintro D ys H2 hD ⟨s2,hD2,hy⟩
   rw[List.take_of_length_le (by omega)] at hy
   obtain⟨D0,e0⟩:=Xty hc hi h1 h2
   rw[e0,List.map_append] at hy
   subst hy
   walk_at "go"
   refine Xga (SqL.of hD2) ?_
   walk_at "go"
   exact q H2 (s1.trans s2)
/-! ### four classes: what is made,begun,cleared,looked at -/
structure StS (C:W4→Addr)(i:W4)(x dx a:Addr)(r:Int)(cs:List Int)(ps:List Pc)(H:Hp):Prop where
 hx:H x=some (.ins (C i) dx (fsF i a r))
 ha:H a=some (.lst (cs.map V.int))
 hz:cs.length≤1200
 hc:Xai 0 ps cs.length
 mm:Xbc cs ps
 nj:Xax ps
theorem StS.same {C:W4→Addr}{i:W4}{x dx a:Addr}{r:Int}{cs:List Int}{ps:List Pc}{H H':Hp}(h:StS C i x dx a r cs ps H)(s:Same H H'):StS C i x dx a r cs ps H':=⟨s x _ h.hx,s a _ h.ha,h.hz,h.hc,h.mm,h.nj⟩
theorem XQr {i:W4}{a:Addr}{r:Int}(r':Int)(h:i≠W4.next):fsF i a r=fsF i a r':=by
 cases i
 · rfl
 · rfl
 · exact absurd rfl h
 · rfl
def spMk (C CS:Addr):Sp:=fun vs H Q E=>∃(x dx:Addr) (n:Int),vs=[.ref x,.int n]∧H x=some (.ins C dx [])∧n≤4000∧(n<1→E (.ref CS) none H) ∧
 (1≤n→∀(a:Addr) (H':Hp),H a=none→Xaz x H H'→H' x=some (.ins C dx [("room_cells",.ref a)])→H' a=some (.lst ((Xcz n).map V.int))→Q .non H')
theorem XCf {f₀:Addr}{fd₀:FuncData}(F:Fun K "__init__" "Keeper.__init__" Xbx f₀ fd₀)(M:Mk K Y10 f₀)(T:Txt K mg Y0 Y7 Y9 Y4 Y3 Y6 Y12 Y2 Y8 Y5 Y1 Y10 Y13 Y14 Y11 W0_ W1_)(D_Z29:Defx P w K mg base "fresh_room" 2 ["count"] (Xgf Y9)):Makex P w K mg base "First" Y10 3 ["self","size"] [] (spMk Y10 Y9):=by
 refine⟨⟨f₀,fd₀,[],Xbf F Xcu (fun vs H Q E h=>by revert h;walk_at "len") (fun cdv A outer s H vs Q E hr h=>?_),M,F.binds Xcv,.nil⟩,T.c_First⟩
 refine⟨_,(Xac (Xdv (pv 0) (Xdf D_Z29 hr (by rfl) (Xaa (pv 1) Xad)) rfl)),?_⟩
 obtain⟨x,dx,n,rfl,hx,h4,qe,q⟩:=h
 have cl:=T.cl_First
 have na:=T.na_First_room_cells
 walk_at "go"
 refine⟨n,rfl,h4,fun z=>qe z,fun h1 p H1 np s1 hp=>?_⟩
 have hx1:=s1 x _ hx
 have hne:p≠x:=fun z=>by rw[z,hx] at np;cases np
 walk_at "go"
 exact q h1 p _ np (Xaz.of s1).put upd_same (look_ne hne hp)
theorem XLy {f₀:Addr}{fd₀:FuncData}(F:Fun K "__init__" "Keeper.__init__" Xbx f₀ fd₀)(M:Mk K Y13 f₀)(T:Txt K mg Y0 Y7 Y9 Y4 Y3 Y6 Y12 Y2 Y8 Y5 Y1 Y10 Y13 Y14 Y11 W0_ W1_)(D_Z29:Defx P w K mg base "fresh_room" 2 ["count"] (Xgf Y9)):Makex P w K mg base "Best" Y13 3 ["self","size"] [] (spMk Y13 Y9):=by
 refine⟨⟨f₀,fd₀,[],Xbf F Xcu (fun vs H Q E h=>by revert h;walk_at "len") (fun cdv A outer s H vs Q E hr h=>?_),M,F.binds Xcv,.nil⟩,T.c_Best⟩
 refine⟨_,(Xac (Xdv (pv 0) (Xdf D_Z29 hr (by rfl) (Xaa (pv 1) Xad)) rfl)),?_⟩
 obtain⟨x,dx,n,rfl,hx,h4,qe,q⟩:=h
 have cl:=T.cl_Best
 have na:=T.na_Best_room_cells
 walk_at "go"
 refine⟨n,rfl,h4,fun z=>qe z,fun h1 p H1 np s1 hp=>?_⟩
 have hx1:=s1 x _ hx
 have hne:p≠x:=fun z=>by rw[z,hx] at np;cases np
 walk_at "go"
 exact q h1 p _ np (Xaz.of s1).put upd_same (look_ne hne hp)
theorem XHa {f₀:Addr}{fd₀:FuncData}(F:Fun K "__init__" "Keeper.__init__" Xbx f₀ fd₀)(M:Mk K Y11 f₀)(T:Txt K mg Y0 Y7 Y9 Y4 Y3 Y6 Y12 Y2 Y8 Y5 Y1 Y10 Y13 Y14 Y11 W0_ W1_)(D_Z29:Defx P w K mg base "fresh_room" 2 ["count"] (Xgf Y9)):Makex P w K mg base "Likes" Y11 3 ["self","size"] [] (spMk Y11 Y9):=by
 refine⟨⟨f₀,fd₀,[],Xbf F Xcu (fun vs H Q E h=>by revert h;walk_at "len") (fun cdv A outer s H vs Q E hr h=>?_),M,F.binds Xcv,.nil⟩,T.c_Likes⟩
 refine⟨_,(Xac (Xdv (pv 0) (Xdf D_Z29 hr (by rfl) (Xaa (pv 1) Xad)) rfl)),?_⟩
 obtain⟨x,dx,n,rfl,hx,h4,qe,q⟩:=h
 have cl:=T.cl_Likes
 have na:=T.na_Likes_room_cells
 walk_at "go"
 refine⟨n,rfl,h4,fun z=>qe z,fun h1 p H1 np s1 hp=>?_⟩
 have hx1:=s1 x _ hx
 have hne:p≠x:=fun z=>by rw[z,hx] at np;cases np
 walk_at "go"
 exact q h1 p _ np (Xaz.of s1).put upd_same (look_ne hne hp)
theorem XUe {f₀:Addr}{fd₀:FuncData}(F:Fun K "__init__" "Keeper.__init__" Xbx f₀ fd₀)(M:ClsM K Y1 "__init__" f₀)(T:Txt K mg Y0 Y7 Y9 Y4 Y3 Y6 Y12 Y2 Y8 Y5 Y1 Y10 Y13 Y14 Y11 W0_ W1_)(D_Z29:Defx P w K mg base "fresh_room" 2 ["count"] (Xgf Y9)):Basex P w K mg base "Stretches" "__init__" 3 ["self","size"] (spMk Y14 Y9):=by
 refine⟨⟨Y1,f₀,fd₀,Xbf F Xcu (fun vs H Q E h=>by revert h;walk_at "len") (fun cdv A outer s H vs Q E hr h=>?_),M,F.binds Xcv,T.c_Stretches⟩⟩
 refine⟨_,(Xac (Xdv (pv 0) (Xdf D_Z29 hr (by rfl) (Xaa (pv 1) Xad)) rfl)),?_⟩
 obtain⟨x,dx,n,rfl,hx,h4,qe,q⟩:=h
 have cl:=T.cl_Next
 have na:=T.na_Next_room_cells
 walk_at "go"
 refine⟨n,rfl,h4,fun z=>qe z,fun h1 p H1 np s1 hp=>?_⟩
 have hx1:=s1 x _ hx
 have hne:p≠x:=fun z=>by rw[z,hx] at np;cases np
 walk_at "go"
 exact q h1 p _ np (Xaz.of s1).put upd_same (look_ne hne hp)
def XNn (C CS:Addr):Sp:=fun vs H Q E=>∃(x dx:Addr) (n:Int),vs=[.ref x,.int n]∧H x=some (.ins C dx [])∧n≤4000∧(n<1→E (.ref CS) none H) ∧
 (1≤n→∀(a:Addr) (H':Hp),H a=none→Xaz x H H'→H' x=some (.ins C dx [("room_cells",.ref a),("room_rover",.int 0)])→H' a=some (.lst ((Xcz n).map V.int))→Q .non H')
theorem XNc {f₀:Addr}{fd₀:FuncData}(F:Fun K "__init__" "Next.__init__" Xeb f₀ fd₀)(M:Mk K Y14 f₀)(T:Txt K mg Y0 Y7 Y9 Y4 Y3 Y6 Y12 Y2 Y8 Y5 Y1 Y10 Y13 Y14 Y11 W0_ W1_)(D_Z28:Basex P w K mg base "Stretches" "__init__" 3 ["self","size"] (spMk Y14 Y9)):Makex P w K mg base "Next" Y14 4 ["self","size"] [] (XNn Y14 Y9):=by
 refine⟨⟨f₀,fd₀,[],Xbf F Xlu (fun vs H Q E h=>by revert h;walk_at "len") (fun cdv A outer s H vs Q E hr h=>?_),M,F.binds Xlf,.nil⟩,T.c_Next⟩
 refine⟨_,(Xab (Xca (Xwz D_Z28 Xgt hr (by rfl) (Xaa (pv 0) (Xaa (pv 1) Xad)))) (Xac (Xdv (pv 0) Xaf rfl))),?_⟩
 obtain⟨x,dx,n,rfl,hx,h4,qe,q⟩:=h
 have cl:=T.cl_Next
 have na:=T.na_Next_room_cells
 have nr:=T.na_Next_room_rover
 walk_at "go"
 refine⟨x,dx,n,rfl,hx,h4,fun z=>qe z,fun h1 a H1 na1 k1 hx1 ha1=>?_⟩
 have hne:a≠x:=fun z=>by rw[z,hx1] at ha1;cases ha1
 walk_at "go"
 exact q h1 a _ na1 (k1.trans Xaz.refl.put) upd_same (look_ne hne ha1)
def Xhr (K:PySem.W.Frag)(C:W4→Addr)(i:W4):Sp:=fun vs H Q _=>∃(r:Int) (x h dx a:Addr) (cs:List Int) (ps:List Pc),vs=[.ref x,.ref h]∧H x=some (.ins (C i) dx (fsF i a r))∧SqL K H h (cs.map V.int)∧cs.length≤4000∧Xai 0 ps cs.length∧Xdc cs 0=(ps,none) ∧
 ∀(a':Addr) (H':Hp),H a'=none→Xaz x H H'→H' x=some (.ins (C i) dx (fsF i a' 0))→H' a'=some (.lst ((Xdj cs (Xcr ps)).map V.int))→Q .non H'
theorem XRl {f₀:Addr}{fd₀:FuncData}(F:Fun K "room_begin" "Stretches.room_begin" s_Z1 f₀ fd₀)(M:∀i,(fun i=>i≠W4.next) i→Meth K ((cF Y10 Y13 Y14 Y11) i) "room_begin" f₀)(T:Txt K mg Y0 Y7 Y9 Y4 Y3 Y6 Y12 Y2 Y8 Y5 Y1 Y10 Y13 Y14 Y11 W0_ W1_)(D_Z58:Defx P w K mg base "joined" 5 ["cells"] (Xjv K)):Xgy P w K mg base (fun i=>i≠W4.next) (cF Y10 Y13 Y14 Y11) "room_begin" 6 ["self","cells"] [] (Xhr K (cF Y10 Y13 Y14 Y11)):=by
 refine Xgy.made (Xbf F sc_Z1 (fun vs H Q E h=>by obtain⟨_,_,h⟩:=h;revert h;walk_at "len") (fun cdv A outer s H vs Q E hr h=>?_)) M (F.binds XUd) (T_cl T)
 refine⟨_,PSs.nox (Xac (Xdv (pv 0) (Xah D_Z58 hr (by rfl) (Xaa (pv 1) Xad)) rfl)),?_⟩
 obtain⟨i,hi,r,x,h,dx,a,cs,ps,rfl,hx,hS,hz,hc,hw,q⟩:=h
 have hi:i≠W4.next:=hi
 have cl:=T_cl T i
 have na:=T_na T i
 walk_at "go"
 refine⟨h,cs,ps,rfl,hS,hz,hc,hw,fun p H1 np s1 hp=>?_⟩
 have hx1:=s1 x _ hx
 have hne:p≠x:=fun z=>by rw[z,hx] at np;cases np
 walk_at "go"
 exact q p _ np (Xaz.of s1).put (by rw[upd_same,Xfz,XQr 0 hi]) (look_ne hne hp)
theorem XRj {f₀:Addr}{fd₀:FuncData}(F:Fun K "room_begin" "Next.room_begin" s_Z6 f₀ fd₀)(M:∀i,(fun i=>i=W4.next) i→Meth K ((cF Y10 Y13 Y14 Y11) i) "room_begin" f₀)(T:Txt K mg Y0 Y7 Y9 Y4 Y3 Y6 Y12 Y2 Y8 Y5 Y1 Y10 Y13 Y14 Y11 W0_ W1_)(D_Z58:Defx P w K mg base "joined" 5 ["cells"] (Xjv K)):Xgy P w K mg base (fun i=>i=W4.next) (cF Y10 Y13 Y14 Y11) "room_begin" 6 ["self","cells"] [] (Xhr K (cF Y10 Y13 Y14 Y11)):=by
 refine Xgy.made (Xbf F XTz (fun vs H Q E h=>by obtain⟨_,_,h⟩:=h;revert h;walk_at "len") (fun cdv A outer s H vs Q E hr h=>?_)) M (F.binds XTl) (T_cl T)
 refine⟨_,PSs.nox (Xab (Xdv (pv 0) (Xah D_Z58 hr (by rfl) (Xaa (pv 1) Xad)) rfl) (Xac (Xdv (pv 0) Xaf rfl))),?_⟩
 obtain⟨i,hi,r,x,h,dx,a,cs,ps,rfl,hx,hS,hz,hc,hw,q⟩:=h
 have hi:i=W4.next:=hi
 subst hi
 have hx:H x=some (.ins Y14 dx [("room_cells",.ref a),("room_rover",.int r)]):=hx
 have cl:=T.cl_Next
 have na:=T.na_Next_room_cells
 have nr:=T.na_Next_room_rover
 walk_at "go"
 refine⟨h,cs,ps,rfl,hS,hz,hc,hw,fun p H1 np s1 hp=>?_⟩
 have hx1:=s1 x _ hx
 have hne:p≠x:=fun z=>by rw[z,hx] at np;cases np
 walk_at "go"
 generalize hH:upd H1 x _=H2
 have hx2:H2 x=some (.ins Y14 dx [("room_cells",.ref p),("room_rover",.int r)]):=by rw[←hH];exact upd_same
 have hp2:H2 p=some (.lst ((Xdj cs (Xcr ps)).map V.int)):=by rw[←hH];exact look_ne hne hp
 have k2:Xaz x H H2:=by rw[←hH];exact(Xaz.of s1).put
 walk_at "go"
 exact q p _ np k2.put upd_same (look_ne hne hp2)
theorem Xhz {n:Int}(h:1≤n):Xai 0 [⟨0,n,false⟩] ((Xcz n).length:Int)∧Xbc (Xcz n) [⟨0,n,false⟩]:=by
 have hl:=Xdt (show 0≤n by omega)
 refine⟨⟨rfl,h,(fun h=>by cases h),?_⟩,fun p hp=>?_⟩
 · show (0:Int)+n=_
   rw[hl];omega
 · rw[List.mem_singleton.mp hp]
   unfold Xcz at hl ⊢
   rw[Xbp] at hl
   exact⟨Xio (Int.le_refl 0) h (by omega),Xjd (Int.le_refl 0) h (by omega)⟩
def Xtt (C:W4→Addr)(i:W4):Sp:=fun vs H Q _=>∃(r:Int) (x dx a:Addr) (cs:List Int),vs=[.ref x]∧H x=some (.ins (C i) dx (fsF i a r))∧H a=some (.lst (cs.map V.int))∧1≤cs.length∧cs.length≤1200 ∧
 ∀(a':Addr) (cs':List Int) (H':Hp),H a'=none→Xaz x H H'→cs'.length=cs.length→StS C i x dx a' 0 cs' [⟨0,cs.length,false⟩] H'→Q .non H'
theorem XTa {f₀:Addr}{fd₀:FuncData}(F:Fun K "clear" "Keeper.clear" Xwe f₀ fd₀)(M:∀i,Meth K ((cF Y10 Y13 Y14 Y11) i) "clear" f₀)(T:Txt K mg Y0 Y7 Y9 Y4 Y3 Y6 Y12 Y2 Y8 Y5 Y1 Y10 Y13 Y14 Y11 W0_ W1_)(D_Z29:Defx P w K mg base "fresh_room" 2 ["count"] (Xgf Y9))(D_room_begin:Xbj P w K mg base (cF Y10 Y13 Y14 Y11) "room_begin" 6 ["self","cells"] [] (Xhr K (cF Y10 Y13 Y14 Y11))):Xbj P w K mg base (cF Y10 Y13 Y14 Y11) "clear" 7 ["self"] [] (Xtt (cF Y10 Y13 Y14 Y11)):=by
 refine Xbj.made (Xbf F XMt (fun vs H Q E h=>by obtain⟨_,h⟩:=h;revert h;walk_at "len") (fun cdv A outer s H vs Q E hr h=>?_)) M (F.binds XMc) (T_cl T)
 refine⟨_,PSs.nox (Xac (Xca (Xby D_room_begin Xbq hr (pv 0) (Xaa (Xah D_Z29 hr (by rfl) (Xaa (Xba Xay (by rfl) T.n_len PySem.boot_len (Xaa (Xcm (pv 0) rfl) Xad)) Xad)) Xad)))),?_⟩
 obtain⟨i,r,x,dx,a,cs,rfl,hx,ha,h1,hz,q⟩:=h
 have cl:=T_cl T i
 have na:=T_na T i
 walk_at "go"
 refine⟨(cs.length:Int),rfl,by omega,fun z=>absurd z (by omega),fun _ p H1 np s1 hp=>?_⟩
 have hx1:=s1 x _ hx
 obtain⟨f1,f2⟩:=Xhz (n:=(cs.length:Int)) (by omega)
 have fl:=Xdt (show (0:Int)≤cs.length by omega)
 have fw:=Xau f1 f2
 have hj:Xcr [(⟨0,cs.length,false⟩:Pc)]=[⟨0,cs.length,false⟩]:=rfl
 have f3:=Xgs (ds:=[]) (rs:=[⟨0,cs.length,false⟩]) (m:=0) (cs:=Xcz cs.length) rfl f1 (Xbc.nil _)
 walk_at "go"
 refine⟨r,x,p,dx,a,Xcz cs.length,_,rfl,hx1,SqL.of hp,by omega,f1,fw,fun a' H2 na2 k2 hx2 ha2=>?_⟩
 walk_at "go"
 rw[hj] at ha2
 exact q a' _ H2 (s1.free na2) ((Xaz.of s1).trans k2) (by rw[Xdp];exact Int.ofNat.inj fl) ⟨hx2,ha2,by rw[Xdp];omega,by rw[Xdp];exact f1,f3,Xct _⟩
def Xlp (C:W4→Addr)(i:W4):Sp:=fun vs H Q _=>∃(r:Int) (x dx a:Addr) (cs:List Int) (ps:List Pc),vs=[.ref x]∧StS C i x dx a r cs ps H ∧
 ∀(p:Addr) (us:List V) (H':Hp),H p=none→Same H H'→H' p=some (.lst us)→Xbh H' us ps→Q (.ref p) H'
theorem XSg {f₀:Addr}{fd₀:FuncData}(F:Fun K "pieces" "Keeper.pieces" Xws f₀ fd₀)(M:∀i,Meth K ((cF Y10 Y13 Y14 Y11) i) "pieces" f₀)(T:Txt K mg Y0 Y7 Y9 Y4 Y3 Y6 Y12 Y2 Y8 Y5 Y1 Y10 Y13 Y14 Y11 W0_ W1_)(D_Z53:Defx P w K mg base "looked" 4 ["cells"] (Xed K Y4)):Xbj P w K mg base (cF Y10 Y13 Y14 Y11) "pieces" 5 ["self"] [] (Xlp (cF Y10 Y13 Y14 Y11)):=by
 refine Xbj.made (Xbf F XMn (fun vs H Q E h=>by obtain⟨_,h⟩:=h;revert h;walk_at "len") (fun cdv A outer s H vs Q E hr h=>?_)) M (F.binds XKu) (T_cl T)
 refine⟨_,PSs.nox (Xac (Xak (Xah D_Z53 hr (by rfl) (Xaa (Xcm (pv 0) rfl) Xad)))),?_⟩
 obtain⟨i,r,x,dx,a,cs,ps,rfl,⟨hx,ha,hz,hc,mk,nj⟩,q⟩:=h
 have cl:=T_cl T i
 have na:=T_na T i
 have hw:=Xau hc mk
 walk_at "go"
 refine⟨a,cs,rfl,SqL.of ha,by omega,(fun c hc=>by rw[hw] at hc;cases hc),fun _ lp us H1 nlp s1 hlp pa=>?_⟩
 walk_at "go"
 exact q lp us H1 nlp s1 hlp (by rw[hw] at pa;exact pa)
def Xri (C:W4→Addr)(i:W4):Sp:=fun vs H Q _=>∃(r:Int) (x dx a:Addr) (cs:List Int) (ps:List Pc) (z:Pc),vs=[.ref x,.int (z.a+1)]∧H x=some (.ins (C i) dx (fsF i a r))∧H a=some (.lst (cs.map V.int))∧cs.length≤4000∧Xai 0 ps cs.length∧Xbc cs ps∧z∈ps∧z.v=true ∧
 ∀(H':Hp),Same H H'→Q (.int (z.l-2)) H'
theorem XTe {f₀:Addr}{fd₀:FuncData}(F:Fun K "many" "Keeper.many" Xxb f₀ fd₀)(M:∀i,Meth K ((cF Y10 Y13 Y14 Y11) i) "many" f₀)(T:Txt K mg Y0 Y7 Y9 Y4 Y3 Y6 Y12 Y2 Y8 Y5 Y1 Y10 Y13 Y14 Y11 W0_ W1_)(D_Z52:Defx P w K mg base "live_at" 6 ["cells","at"] (Xgg K Y3 true)):Xbj P w K mg base (cF Y10 Y13 Y14 Y11) "many" 7 ["self","place"] [] (Xri (cF Y10 Y13 Y14 Y11)):=by
 refine Xbj.made (Xbf F Xoh (fun vs H Q E h=>by obtain⟨_,h⟩:=h;revert h;walk_at "len") (fun cdv A outer s H vs Q E hr h=>?_)) M (F.binds XNp) (T_cl T)
 refine⟨_,PSs.nox (Xab (Xei (Xah D_Z52 hr (by rfl) (Xaa (Xcm (pv 0) rfl) (Xaa (Xal Xcx (pv 1) Xaf) Xad))) (Xgv rfl (Xas (Xar (i:=2) Xoh.nd rfl (Or.inl rfl)) (Xas (Xar (i:=3) Xoh.nd rfl (Or.inl rfl)) (Xas (Xar (i:=4) Xoh.nd rfl (Or.inl rfl)) Xdb))))) (Xac (Xak (Xal Xcx (pv 3) (Xgh (v:=.int 2) (by rfl) T.g_MARKS ⟨_,rfl⟩))))),?_⟩
 obtain⟨i,r,x,dx,a,cs,ps,z,rfl,hx,ha,hz,hc,mk,hm,hv,q⟩:=h
 have cl:=T_cl T i
 have na:=T_na T i
 have hw:=Xau hc mk
 walk_at "go"
 refine⟨a,cs,ps,z.a,by rw[Int.add_sub_cancel],SqL.of ha,hz,hw,hc,fun y hy hk hv' t H1 s1 ht=>?_,fun hn=>absurd hv (hn z hm rfl)⟩
 have ey:=Xbn hc hy hm (by omega)
 subst ey
 walk_at "go"
 exact q _ s1
def Xkf (C:W4→Addr)(i:W4):Sp:=fun vs H Q _=>∃(r r':Int) (x dx a:Addr),vs=[.ref x,.int r']∧H x=some (.ins (C i) dx (fsF i a r))∧∀H',Xaz x H H'→H' x=some (.ins (C i) dx (fsF i a r'))→Q .non H'
theorem XTc {f₀:Addr}{fd₀:FuncData}(F:Fun K "room_granted" "Stretches.room_granted" s_Z0 f₀ fd₀)(M:∀i,(fun i=>i≠W4.next) i→Meth K ((cF Y10 Y13 Y14 Y11) i) "room_granted" f₀)(T:Txt K mg Y0 Y7 Y9 Y4 Y3 Y6 Y12 Y2 Y8 Y5 Y1 Y10 Y13 Y14 Y11 W0_ W1_) :Xgy P w K mg base (fun i=>i≠W4.next) (cF Y10 Y13 Y14 Y11) "room_granted" 1 ["self","behind"] [] (Xkf (cF Y10 Y13 Y14 Y11)):=by
 refine Xgy.made (Xbf F XUa (fun vs H Q E h=>by obtain⟨_,_,h⟩:=h;revert h;walk_at "len") (fun cdv A outer s H vs Q E hr h=>?_)) M (F.binds bi_Z0) (T_cl T)
 refine⟨_,PSs.nox (Xac XGa),?_⟩
 obtain⟨i,hi,r,r',x,dx,a,rfl,hx,q⟩:=h
 have hi:i≠W4.next:=hi
 walk_at "go"
 exact q _ Xaz.refl (by rw[←XQr r' hi];exact hx)
theorem XSj {f₀:Addr}{fd₀:FuncData}(F:Fun K "room_granted" "Next.room_granted" s_Z4 f₀ fd₀)(M:∀i,(fun i=>i=W4.next) i→Meth K ((cF Y10 Y13 Y14 Y11) i) "room_granted" f₀)(T:Txt K mg Y0 Y7 Y9 Y4 Y3 Y6 Y12 Y2 Y8 Y5 Y1 Y10 Y13 Y14 Y11 W0_ W1_) :Xgy P w K mg base (fun i=>i=W4.next) (cF Y10 Y13 Y14 Y11) "room_granted" 1 ["self","behind"] [] (Xkf (cF Y10 Y13 Y14 Y11)):=by
 refine Xgy.made (Xbf F sc_Z4 (fun vs H Q E h=>by obtain⟨_,_,h⟩:=h;revert h;walk_at "len") (fun cdv A outer s H vs Q E hr h=>?_)) M (F.binds bi_Z4) (T_cl T)
 refine⟨_,PSs.nox (Xac (Xdv (pv 0) (pv 1) rfl)),?_⟩
 obtain⟨i,hi,r,r',x,dx,a,rfl,hx,q⟩:=h
 have hi:i=W4.next:=hi
 subst hi
 have hx:H x=some (.ins Y14 dx [("room_cells",.ref a),("room_rover",.int r)]):=hx
 have cl:=T.cl_Next
 have na:=T.na_Next_room_cells
 have nr:=T.na_Next_room_rover
 walk_at "go"
 exact q _ Xaz.refl.put upd_same
def Xfv (C:W4→Addr)(k:W4):Sp:=fun vs H Q _=>∃(r:Int) (x dx a:Addr) (cs:List Int),vs=[.ref x]∧H x=some (.ins (C k) dx (fsF k a r))∧H a=some (.lst (cs.map V.int)) ∧
 ∀(p:Addr) (H':Hp),H p=none→Same H H'→H' p=some (.lst (cs.map V.int))→Q (.ref p) H'
theorem XTk {f₀:Addr}{fd₀:FuncData}(F:Fun K "cells" "Keeper.cells" Xzs f₀ fd₀)(M:∀i,Meth K ((cF Y10 Y13 Y14 Y11) i) "cells" f₀)(T:Txt K mg Y0 Y7 Y9 Y4 Y3 Y6 Y12 Y2 Y8 Y5 Y1 Y10 Y13 Y14 Y11 W0_ W1_) :Xbj P w K mg base (cF Y10 Y13 Y14 Y11) "cells" 1 ["self"] [] (Xfv (cF Y10 Y13 Y14 Y11)):=by
 refine Xbj.made (Xbf F XPp (fun vs H Q E h=>by obtain⟨_,h⟩:=h;revert h;walk_at "len") (fun cdv A outer s H vs Q E hr h=>?_)) M (F.binds XMk) (T_cl T)
 refine⟨_,PSs.nox (Xac (Xak (Xcw Xcf (by rfl) T.n_list PyProof.Rows.boot_list (Xaa (Xcm (pv 0) rfl) Xad)))),?_⟩
 obtain⟨k,r,x,dx,a,cs,rfl,hx,ha,q⟩:=h
 have cl:=T_cl T k
 have na:=T_na T k
 walk_at "go"
 intro p np
 walk_at "go"
 exact q p _ np (Same.new np) upd_same
def XAf (K:PySem.W.Frag)(C:W4→Addr)(k:W4):Sp:=fun vs H Q _=>∃(r:Int) (x h dx a:Addr) (cs cs2:List Int) (ps ps2:List Pc),vs=[.ref x,.ref h]∧StS C k x dx a r cs ps H∧SqL K H h (cs2.map V.int)∧cs2.length=cs.length∧Xai 0 ps2 cs2.length∧Xbc cs2 ps2∧Xax ps2 ∧
 ∀(a':Addr) (H':Hp),H a'=none→Xaz x H H'→StS C k x dx a' 0 cs2 ps2 H'→Q .non H'
theorem XSa {f₀:Addr}{fd₀:FuncData}(F:Fun K "lay" "Keeper.lay" Xuz f₀ fd₀)(M:∀i,Meth K ((cF Y10 Y13 Y14 Y11) i) "lay" f₀)(T:Txt K mg Y0 Y7 Y9 Y4 Y3 Y6 Y12 Y2 Y8 Y5 Y1 Y10 Y13 Y14 Y11 W0_ W1_)(D_Z53:Defx P w K mg base "looked" 4 ["cells"] (Xed K Y4))(D_room_begin:Xbj P w K mg base (cF Y10 Y13 Y14 Y11) "room_begin" 6 ["self","cells"] [] (Xhr K (cF Y10 Y13 Y14 Y11))):Xbj P w K mg base (cF Y10 Y13 Y14 Y11) "lay" 7 ["self","cells"] [] (XAf K (cF Y10 Y13 Y14 Y11)):=by
 refine Xbj.made (Xbf F XRa (fun vs H Q E h=>by obtain⟨_,h⟩:=h;revert h;walk_at "len") (fun cdv A outer s H vs Q E hr h=>?_)) M (F.binds XMr) (T_cl T)
 refine⟨_,PSs.nox (Xab (Xbi (Xaj Xkn (Xba Xay (by rfl) T.n_len PySem.boot_len (Xaa (pv 1) Xad)) (Xba Xay (by rfl) T.n_len PySem.boot_len (Xaa (Xcm (pv 0) rfl) Xad)) (Xao _)) (Xac Xks) Xap) (Xab (Xca (Xah D_Z53 hr (by rfl) (Xaa (pv 1) Xad))) (Xac (Xca (Xby D_room_begin Xbq hr (pv 0) (Xaa (pv 1) Xad)))))),?_⟩
 obtain⟨k,r,x,h,dx,a,cs1,cs,ps1,ps,rfl,⟨hx,ha,hz1,_,_,_⟩,hS,hle,hc,mk,nj,q⟩:=h
 have hz:cs.length≤1200:=by omega
 have cl:=T_cl T k
 have na:=T_na T k
 have hw:=Xau hc mk
 walk_at "go"
 refine⟨h,cs,rfl,hS,by omega,(fun b hb=>by rw[hw] at hb;cases hb),fun _ lp us H1 nlp s1 hlp pa=>?_⟩
 have hx1:=s1 x _ hx
 walk_at "go"
 refine⟨r,x,h,dx,a,cs,ps,rfl,hx1,s1.seq hS,by omega,hc,hw,fun a' H2 na2 k2 hx2 ha2=>?_⟩
 walk_at "go"
 have ej:Xcr ps=ps:=by have:=Xns nj ps.length (Nat.le_refl _);rwa [List.take_length] at this
 rw[ej,Xkx mk (fun z hz=>⟨(hc.mem z hz).1,(hc.mem z hz).2.1⟩)] at ha2
 exact q a' H2 (s1.free na2) ((Xaz.of s1).trans k2) ⟨hx2,ha2,hz,hc,mk,nj⟩
def Xjo (C:W4→Addr)(k:W4):Sp:=fun vs H Q _=>∃(r:Int) (x dx a:Addr) (cs:List Int) (ps:List Pc) (z:Pc) (j:Int),vs=[.ref x,.int (z.a+1),.int j]∧StS C k x dx a r cs ps H∧z∈ps∧z.v=true∧0≤j∧j<z.l-2 ∧
 ∀(H':Hp),Same H H'→Q (.int (z.a+1+j)) H'
theorem XRf {f₀:Addr}{fd₀:FuncData}(F:Fun K "room_cell_of" "Keeper.room_cell_of" s_Z2 f₀ fd₀)(M:∀i,Meth K ((cF Y10 Y13 Y14 Y11) i) "room_cell_of" f₀)(T:Txt K mg Y0 Y7 Y9 Y4 Y3 Y6 Y12 Y2 Y8 Y5 Y1 Y10 Y13 Y14 Y11 W0_ W1_)(D_Z71:Xbj P w K mg base (cF Y10 Y13 Y14 Y11) "many" 7 ["self","place"] [] (Xri (cF Y10 Y13 Y14 Y11))):Xbj P w K mg base (cF Y10 Y13 Y14 Y11) "room_cell_of" 8 ["self","place","k"] [] (Xjo (cF Y10 Y13 Y14 Y11)):=by
 refine Xbj.made (Xbf F XMv (fun vs H Q E h=>by obtain⟨_,h⟩:=h;revert h;walk_at "len") (fun cdv A outer s H vs Q E hr h=>?_)) M (F.binds XRm) (T_cl T)
 refine⟨_,PSs.nox (Xab (Xan (i:=3) XMv.nd rfl (Or.inl rfl) (Xby D_Z71 Xbq hr (pv 0) (Xaa (pv 1) Xad))) (Xab (Xbi (PW.pt (Xek (Xaj Xfk (pv 2) Xaf (Xao _)) (Xdk (Xaj XDi (pv 2) (pv 3) (Xao _))))) (Xac Xks) Xap) (Xac (Xak (Xal Xbb (pv 1) (pv 2)))))),?_⟩
 obtain⟨k,r,x,dx,a,cs,ps,z,j,rfl,S,hm,hv,k0,k1,q⟩:=h
 obtain⟨hx,ha,hz,hc,mk,nj⟩:=id S
 walk_at "go"
 refine⟨r,x,dx,a,cs,ps,z,rfl,hx,ha,by omega,hc,mk,hm,hv,fun H1 s1=>?_⟩
 walk_at "go"
 exact q H1 s1
def XPd (C:W4→Addr)(k:W4):Sp:=fun vs H Q _=>∃(r:Int) (x dx a:Addr) (cs:List Int) (ps:List Pc) (z:Pc) (j n:Int),vs=[.ref x,.int (z.a+1),.int j,.int n]∧StS C k x dx a r cs ps H∧z∈ps∧z.v=true∧0≤j∧j<z.l-2 ∧
 ∀(H':Hp),Xaz a H H'→StS C k x dx a r (cs.set (z.a+1+j).toNat n) ps H'→Q .non H'
theorem Xpa {cs:List Int}{ps:List Pc}{z:Pc}{n x k:Int}(c:Xai 0 ps n)(m:Xbc cs ps)(hz:z∈ps)(hv:z.v=true)(k0:0≤k)(k1:k<z.l-2):Xbc (cs.set (z.a+1+k).toNat x) ps:=fun p hp=>by
 obtain⟨z0,z1,z3,z4⟩:=c.mem z hz
 obtain⟨p0,p1,p3,p4⟩:=c.mem p hp
 obtain⟨m1,m2⟩:=m p hp
 have far:p.a≠z.a+1+k∧p.a+p.l-1≠z.a+1+k:=by
   by_cases e:p=z
   · subst e;omega
   · constructor
     · intro h
       exact e (Xcl c hp hz (Int.le_refl _) (by omega) (by omega) (by omega))
     · intro h
       exact e (Xcl c hp hz (p:=p.a+p.l-1) (by omega) (by omega) (by omega) (by omega))
 exact⟨by rw[List.getElem?_set_ne (by omega)];exact m1,by rw[List.getElem?_set_ne (by omega)];exact m2⟩
theorem XSu {f₀:Addr}{fd₀:FuncData}(F:Fun K "put" "Keeper.put" Xwc f₀ fd₀)(M:∀i,Meth K ((cF Y10 Y13 Y14 Y11) i) "put" f₀)(T:Txt K mg Y0 Y7 Y9 Y4 Y3 Y6 Y12 Y2 Y8 Y5 Y1 Y10 Y13 Y14 Y11 W0_ W1_)(D_Z16:Xbj P w K mg base (cF Y10 Y13 Y14 Y11) "room_cell_of" 8 ["self","place","k"] [] (Xjo (cF Y10 Y13 Y14 Y11))):Xbj P w K mg base (cF Y10 Y13 Y14 Y11) "put" 9 ["self","place","k","number"] [] (XPd (cF Y10 Y13 Y14 Y11)):=by
 refine Xbj.made (Xbf F XAc (fun vs H Q E h=>by obtain⟨_,h⟩:=h;revert h;walk_at "len") (fun cdv A outer s H vs Q E hr h=>?_)) M (F.binds XJu) (T_cl T)
 refine⟨_,PSs.nox (Xab (Xan (i:=4) XAc.nd rfl (Or.inl rfl) (Xby D_Z16 Xbq hr (pv 0) (Xaa (pv 1) (Xaa (pv 2) Xad)))) (Xac (Xei (pv 3) (Xhv (Xcm (pv 0) rfl) (pv 4) Xea)))),?_⟩
 obtain⟨k,r,x,dx,a,cs,ps,z,j,n,rfl,S,hm,hv,k0,k1,q⟩:=h
 have hx:=S.hx
 have cl:=T_cl T k
 have na:=T_na T k
 obtain⟨z0,z1,z3,z4⟩:=S.hc.mem z hm
 walk_at "go"
 refine⟨r,x,dx,a,cs,ps,z,j,rfl,S,hm,hv,k0,k1,fun H1 s1=>?_⟩
 have hx1:=s1 x _ hx
 have ha1:=s1 a _ S.ha
 have hxa:x≠a:=fun e=>by rw[e,ha1] at hx1;cases hx1
 have ls:(cs.set (z.a+1+j).toNat n).length=cs.length:=List.length_set
 walk_at "go"
 exact q _ (Xaz.of s1).put ⟨look_ne hxa hx1,upd_same,by rw[ls];exact S.hz,by rw[ls];exact S.hc,Xpa S.hc S.mm hm hv k0 k1,S.nj⟩
def XNr (C:W4→Addr)(k:W4):Sp:=fun vs H Q _=>∃(r:Int) (x dx a:Addr) (cs:List Int) (ps:List Pc) (z:Pc) (j:Int),vs=[.ref x,.int (z.a+1),.int j]∧StS C k x dx a r cs ps H∧z∈ps∧z.v=true∧0≤j∧j<z.l-2 ∧
 ∀(H':Hp),Same H H'→Q (.int (cs.getD (z.a+1+j).toNat 0)) H'
theorem XTg {f₀:Addr}{fd₀:FuncData}(F:Fun K "get" "Keeper.get" Xvn f₀ fd₀)(M:∀i,Meth K ((cF Y10 Y13 Y14 Y11) i) "get" f₀)(T:Txt K mg Y0 Y7 Y9 Y4 Y3 Y6 Y12 Y2 Y8 Y5 Y1 Y10 Y13 Y14 Y11 W0_ W1_)(D_Z16:Xbj P w K mg base (cF Y10 Y13 Y14 Y11) "room_cell_of" 8 ["self","place","k"] [] (Xjo (cF Y10 Y13 Y14 Y11))):Xbj P w K mg base (cF Y10 Y13 Y14 Y11) "get" 9 ["self","place","k"] [] (XNr (cF Y10 Y13 Y14 Y11)):=by
 refine Xbj.made (Xbf F XPy (fun vs H Q E h=>by obtain⟨_,h⟩:=h;revert h;walk_at "len") (fun cdv A outer s H vs Q E hr h=>?_)) M (F.binds XQt) (T_cl T)
 refine⟨_,PSs.nox (Xac (Xak (Xbd Xat (Xcm (pv 0) rfl) (Xby D_Z16 Xbq hr (pv 0) (Xaa (pv 1) (Xaa (pv 2) Xad))) (fun _ _=>rfl)))),?_⟩
 obtain⟨k,r,x,dx,a,cs,ps,z,j,rfl,S,hm,hv,k0,k1,q⟩:=h
 have hx:=S.hx
 have cl:=T_cl T k
 have na:=T_na T k
 obtain⟨z0,z1,z3,z4⟩:=S.hc.mem z hm
 walk_at "go"
 refine⟨r,x,dx,a,cs,ps,z,j,rfl,S,hm,hv,k0,k1,fun H1 s1=>?_⟩
 have hx1:=s1 x _ hx
 have ha1:=s1 a _ S.ha
 walk_at "go"
 exact q _ s1
theorem XDl {X:Cx}{K:PySem.W.Frag}{e:Expr}{f:Str}{pos:Pos}{ta:TE}(hK:X.K=K)(he:PE X e ta)(hb:attributeBase e f X.env (eval e X.env)=eval e X.env):PE X (.Attribute e f pos) (tFld K ta f):=hK▸Xcm he hb
theorem Xwy {L b:Int}{z:Pc}{q:Int×Int}(hb:1≤b)(h:Xlm L b z=some q):z.v=false∧q=(z.a,fpl z.a b)∧z.a≤fpl z.a b∧fpl z.a b+L≤z.a+z.l:=by
 unfold Xlm at h
 split at h
 · cases h
 · rename_i hv
   unfold fp at h
   split at h
   · rename_i hf
     have h:(z.a,fpl z.a b)=q:=by simpa using h
     refine⟨by simpa using hv,h.symm,?_,hf⟩
     have:=Int.emod_lt_of_pos z.a (show 0<b by omega)
     unfold fpl
     omega
   · cases h
/-! bit_length -/
def bl (n:Int):Int:=((Builtin.Int.intBits n:Nat):Int)
section
variable {X:Cx}
def XEz:V→List V→Hp→VK→Prop:=fun x xs H Q=>∃i,x = .int i∧xs=[]∧Q (.int (bl i)) H
theorem Xth:MtM X "int.bit_length" XEz:=by
 intro pins s σ H x xs v us Q I rx rs h
 obtain⟨i,rfl,rfl,q⟩:=h
 obtain⟨t,rfl⟩:=rx
 cases rs
 exact PyProof.Rows.call_int_bit_length ⟨.int (bl i),H,I.tok _,⟨_,rfl⟩,q⟩
end
theorem XFa {X:Cx}{K:PySem.W.Frag}{T:String}{name:Str}{id:String}{r:V→List V→Hp→VK→Prop}{o:Expr}{to:TE}{apos cpos:Pos}(hK:X.K=K)(pa:PlainAttrs T)(slot:Slot T name id)(hty:typeOf (.builtin id)=pure (.type "method_descriptor"))(hm:MtR X id r)(ho:PE X o to)
   (hbase:attributeBase o name X.env (eval o X.env)=eval o X.env:=by rfl) (hline:(apos.endLine==cpos.line)=true:=by rfl):PE X (.Call (.Attribute o name apos) [] [] cpos) (tBM0 K T r to):=hK▸XAy pa slot hty hm ho hbase hline
theorem Xfq {ps:List Pc}{L b:Int}{q:Int×Int}(h:q∈Xbl ps L b):∃z∈ps,z.a=q.1:=by
 obtain⟨z,hz,e⟩:=List.mem_filterMap.mp h
 refine⟨z,hz,?_⟩
 unfold Xlm at e
 split at e
 · cases e
 · obtain⟨p,_,e1⟩:=Option.map_eq_some_iff.mp e
   rw[←e1]
/-! the ranks of the four rules,and the place that is chosen -/
def rk4 (i:W4)(r:Int)(cs:List Int)(q:Int×Int):List Int:=match i with
 | .first=>[0,q.1,q.2]
 | .best=>[cs.getD q.1.toNat 0/2,q.1,q.2]
 | .next=>[if r≤q.1 then 0 else 1,q.1,q.2]
 | .likes=>[bl (cs.getD q.1.toNat 0/2),q.1,q.2]
def chQ (i:W4)(r:Int)(cs:List Int)(qs:List (Int×Int)):Option Int:=if qs.length=0 then none else some (((qs.map (rk4 i r cs)).getD (Xej (qs.map (rk4 i r cs)) ((qs.map (rk4 i r cs)).length-1)) []).getD 2 0)
theorem Xkt {i:W4}{r:Int}{cs:List Int}{q:Int×Int}:(rk4 i r cs q).length=3:=by cases i <;> rfl
theorem XBx {i:W4}{r:Int}{cs:List Int}{q:Int×Int}:(rk4 i r cs q).getD 2 0=q.2:=by cases i <;> rfl
theorem Xmk {i:W4}{r:Int}{cs:List Int}{qs:List (Int×Int)}(h:chQ i r cs qs=none):qs=[]:=by
 unfold chQ at h
 split at h
 · rename_i e
   exact List.length_eq_zero_iff.mp e
 · cases h
theorem XJj {i:W4}{r:Int}{cs:List Int}{qs:List (Int×Int)}{s:Int}(h:chQ i r cs qs=some s):∃q∈qs,q.2=s:=by
 unfold chQ at h
 split at h
 · cases h
 · rename_i hl
   have hm:Xej (qs.map (rk4 i r cs)) ((qs.map (rk4 i r cs)).length-1)<qs.length:=by
     have h1:=Xhg (qs.map (rk4 i r cs)) ((qs.map (rk4 i r cs)).length-1)
     have h2:(qs.map (rk4 i r cs)).length=qs.length:=List.length_map _
     omega
   generalize Xej (qs.map (rk4 i r cs)) ((qs.map (rk4 i r cs)).length-1)=m at h hm
   have e:(qs.map (rk4 i r cs)).getD m []=rk4 i r cs qs[m]:=by
     rw[List.getD_eq_getElem?_getD,List.getElem?_map,List.getElem?_eq_getElem hm]
     rfl
   rw[e,XBx] at h
   exact⟨qs[m],List.getElem_mem hm,Option.some.inj h⟩
theorem Xua {i:W4}{r:Int}{cs:List Int}{ps:List Pc}{L b s:Int}(hb:1≤b)(h:chQ i r cs (Xbl ps L b)=some s):∃(j:Nat) (z:Pc),ps[j]?=some z∧z.v=false∧z.a≤s∧s+L≤z.a+z.l∧(s+1)%b=0:=by
 obtain⟨q,hq,rfl⟩:=XJj h
 obtain⟨z,hz,e⟩:=List.mem_filterMap.mp hq
 obtain⟨j,hj⟩:=List.getElem?_of_mem hz
 obtain⟨h1,h2,h3,h4⟩:=Xwy hb e
 rw[h2]
 exact⟨j,z,hj,h1,h3,h4,XDr hb⟩
def Xec (C:W4→Addr)(i:W4):Sp:=fun vs H Q _=>∃(r:Int) (x dx a:Addr) (cs:List Int) (ps:List Pc) (L b:Int),vs=[.ref x,.int L,.int b]∧StS C i x dx a r cs ps H∧1≤b∧∀(H':Hp),Same H H'→Q (optV (chQ i r cs (Xbl ps L b))) H'
def ChW (H1:Hp)(k:W4)(r:Int)(cs:List Int)(qs:List (Int×Int))(D:Addr)(i:Nat)(ys:List V)(H2:Hp):Prop:=Same H1 H2∧H2 D=some (.lst ys)∧Xcc H2 ys (((qs.take i).map (rk4 k r cs)).map fun x=>x.map V.int)
theorem XTx {f₀:Addr}{fd₀:FuncData}(F:Fun K "chosen" "First.chosen" Xyq f₀ fd₀)(M:Meth K Y10 "chosen" f₀)(T:Txt K mg Y0 Y7 Y9 Y4 Y3 Y6 Y12 Y2 Y8 Y5 Y1 Y10 Y13 Y14 Y11 W0_ W1_)(D_Z34:Defx P w K mg base "spots_for" 5 ["cells","long","bound"] (Xhs K))(D_Z24:Defx P w K mg base "least_place" 1 ["ranked"] (Xic)):Methx P w K mg base Y10 "chosen" 6 ["self","long","bound"] [] (Xec (cF Y10 Y13 Y14 Y11) W4.first):=by
 refine⟨⟨f₀,fd₀,[],Xbf F XAk (fun vs H Q E h=>by revert h;walk_at "len") (fun cdv A outer s H vs Q E hr h=>?_),M,F.binds XPo,.nil⟩,T.cl_First⟩
 refine⟨_,PSs.nox (Xab (Xan (i:=3) XAk.nd rfl (Or.inl rfl) (Xah D_Z34 hr (by rfl) (Xaa (Xcm (pv 0) rfl) (Xaa (pv 1) (Xaa (pv 2) Xad))))) (Xac (Xak (Xah D_Z24 hr (by rfl) (Xaa (Xyu ["at","place"] rfl (Xcq (pv 3)) (fun cl C s₀ H₀ ex=>(Xig (K:=K) (n:=2) rfl rfl (Xas (Xar (i:=0) (show ((["at","place"]:List Str)++([]:List Str)).Nodup by decide +kernel) rfl (Or.inl rfl)) (Xas (Xar (i:=1) (show ((["at","place"]:List Str)++([]:List Str)).Nodup by decide +kernel) rfl (Or.inl rfl)) Xdb)))) (fun cl C s₀ H₀ ex=>Xkh) (fun cl C s₀ H₀ ex=>(Xew (Xaa Xaf (Xaa (pv 0) (Xaa (pv 1) Xad))))) ) Xad))))),?_⟩
 obtain⟨r,x,dx,a,cs,ps,L,b,rfl,⟨hx,ha,hz,hc,mk,nj⟩,hb,q⟩:=h
 have hx:H x=some (.ins Y10 dx [("room_cells",.ref a)]):=hx
 have cl:=T.cl_First
 have na:=T.na_First_room_cells
 have hw:=Xau hc mk
 walk_at "go"
 refine⟨a,cs,ps,L,b,rfl,SqL.of ha,by omega,hw,hb,fun sp us H1 nsp s1 hsp tsp=>?_⟩
 rw[Xfm] at tsp
 have hql:(Xbl ps L b).length≤1200:=by
   have h1:(Xbl ps L b).length≤ps.length:=List.length_filterMap_le _ _
   have h2:=hc.le
   omega
 have hin:∀w∈Xbl ps L b,0≤w.1∧w.1<cs.length:=fun w hw=>by
   obtain⟨z,hz,e⟩:=Xfq hw
   have:=hc.mem z hz
   omega
 generalize Xbl ps L b=qs at tsp hql hin q
 have htl:=tsp.1
 rw[List.length_map] at htl
 have ha1:=s1 a _ ha
 have hx1:=s1 x _ hx
 walk_at "go"
 refine⟨sp,rfl,⟨_,SqL.of hsp⟩,Xde (K:=K) (a:=sp) (xs:=us) (fs:=[]) (ChW H1 W4.first r cs qs) (fun D hD=>⟨Same.new hD,upd_same,Xcc.nil⟩) (fun D i ys H2 _ h=>SqL.of (h.1 sp _ hsp)) ?_ ?_⟩
 · rintro D i y ys H2 hD hi ⟨s2,hD2,ta⟩ τ hτ
   have hil:i<us.length:=(List.getElem?_eq_some_iff.mp hi).1
   have hiq:i<qs.length:=by omega
   obtain⟨t,et,hT⟩:=tsp.2 i [V.int qs[i].1,V.int qs[i].2] (by simp [hiq])
   have ey:y = .ref t:=Option.some.inj (hi.symm.trans et)
   subst ey
   have hT2:=s2 t _ hT
   have ha2:=s2 a _ ha1
   have hx2:=s2 x _ hx1
   have etk:qs.take (i+1)=qs.take i++[qs[i]]:=by rw[List.take_add_one,List.getElem?_eq_getElem hiq];rfl
   have hyl:=ta.1
   rw[List.length_map,List.length_map,List.length_take] at hyl
   obtain⟨w0,w1⟩:=hin qs[i] (List.getElem_mem hiq)
   generalize qs[i]=w at hT2 etk w0 w1
   match τ,hτ with
   | [τ0,τ1],_ =>
     walk_at "go"
     refine⟨⟨[_,_],rfl,rfl⟩,?_⟩
     walk_at "go"
     intro t2 ht2
     refine⟨look_put ht2 hD2,small4000 (by omega),Xkq hil ⟨(s2.put (s2.free ht2)).put hD,upd_same,?_⟩⟩
     rw[etk,List.map_append,List.map_append]
     exact ta.push hD2 ht2
 · rintro D ys H2 hD ⟨s2,hD2,ta⟩
   rw[List.take_of_length_le (by omega)] at ta
   have h3:∀x∈qs.map (rk4 W4.first r cs),x.length=3:=fun x hx=>by
     obtain⟨w,_,rfl⟩:=List.mem_map.mp hx
     exact Xkt
   have:=q H2 (s1.trans s2)
   unfold chQ at this
   walk_at "go"
   refine⟨D,ys,qs.map (rk4 W4.first r cs),rfl,hD2,ta,h3,fun z=>?_,fun hp=>?_⟩
   · walk_at "go"
     rw[if_pos (show qs.length=0 by rw[List.map_eq_nil_iff.mp z];rfl)] at this
     exact this
   · walk_at "go"
     rw[if_neg (by rw[List.length_map] at hp;omega)] at this
     exact this
theorem XSc {f₀:Addr}{fd₀:FuncData}(F:Fun K "chosen" "Best.chosen" Xzo f₀ fd₀)(M:Meth K Y13 "chosen" f₀)(T:Txt K mg Y0 Y7 Y9 Y4 Y3 Y6 Y12 Y2 Y8 Y5 Y1 Y10 Y13 Y14 Y11 W0_ W1_)(D_Z34:Defx P w K mg base "spots_for" 5 ["cells","long","bound"] (Xhs K))(D_Z24:Defx P w K mg base "least_place" 1 ["ranked"] (Xic))(D_Z44:Defx P w K mg base "long_of" 1 ["number"] (Xfp)):Methx P w K mg base Y13 "chosen" 6 ["self","long","bound"] [] (Xec (cF Y10 Y13 Y14 Y11) W4.best):=by
 refine⟨⟨f₀,fd₀,[],Xbf F Xrp (fun vs H Q E h=>by revert h;walk_at "len") (fun cdv A outer s H vs Q E hr h=>?_),M,F.binds XMx,.nil⟩,T.cl_Best⟩
 refine⟨_,PSs.nox (Xab (Xan (i:=3) Xrp.nd rfl (Or.inr rfl) (Xcm (pv 0) rfl)) (Xab (Xan (i:=4) Xrp.nd rfl (Or.inl rfl) (Xah D_Z34 hr (by rfl) (Xaa (pv 3) (Xaa (pv 1) (Xaa (pv 2) Xad))))) (Xac (Xak (Xah D_Z24 hr (by rfl) (Xaa (Xha ["at","place"] ["cells"] [3] rfl (Xcq (pv 4)) (fun cl C s₀ H₀ ex=>(Xig (K:=K) (n:=2) rfl rfl (Xas (Xar (i:=0) (show ((["at","place"]:List Str)++(["cells"]:List Str)).Nodup by decide +kernel) rfl (Or.inl rfl)) (Xas (Xar (i:=1) (show ((["at","place"]:List Str)++(["cells"]:List Str)).Nodup by decide +kernel) rfl (Or.inl rfl)) Xdb)))) (fun cl C s₀ H₀ ex=>Xkh) (fun cl C s₀ H₀ ex=>(Xew (Xaa (Xah D_Z44 hr (by rfl) (Xaa (Xbd (Xom (K:=K) rfl) (pv 2) (pv 0) (fun _ _=>rfl)) Xad)) (Xaa (pv 0) (Xaa (pv 1) Xad))))) (Xfd rfl rfl rfl) (Xhi (n:="cells") (by decide +kernel) rfl) (fun y h=>Xck (by decide +kernel) h)) Xad)))))),?_⟩
 obtain⟨r,x,dx,a,cs,ps,L,b,rfl,⟨hx,ha,hz,hc,mk,nj⟩,hb,q⟩:=h
 have hx:H x=some (.ins Y13 dx [("room_cells",.ref a)]):=hx
 have cl:=T.cl_Best
 have na:=T.na_Best_room_cells
 have hw:=Xau hc mk
 walk_at "go"
 refine⟨a,cs,ps,L,b,rfl,SqL.of ha,by omega,hw,hb,fun sp us H1 nsp s1 hsp tsp=>?_⟩
 rw[Xfm] at tsp
 have hql:(Xbl ps L b).length≤1200:=by
   have h1:(Xbl ps L b).length≤ps.length:=List.length_filterMap_le _ _
   have h2:=hc.le
   omega
 have hin:∀w∈Xbl ps L b,0≤w.1∧w.1<cs.length:=fun w hw=>by
   obtain⟨z,hz,e⟩:=Xfq hw
   have:=hc.mem z hz
   omega
 generalize Xbl ps L b=qs at tsp hql hin q
 have htl:=tsp.1
 rw[List.length_map] at htl
 have ha1:=s1 a _ ha
 have hx1:=s1 x _ hx
 walk_at "go"
 refine⟨sp,rfl,⟨_,SqL.of hsp⟩,Xde (K:=K) (a:=sp) (xs:=us) (fs:=[some (.ref a)]) (ChW H1 W4.best r cs qs) (fun D hD=>⟨Same.new hD,upd_same,Xcc.nil⟩) (fun D i ys H2 _ h=>SqL.of (h.1 sp _ hsp)) ?_ ?_⟩
 · rintro D i y ys H2 hD hi ⟨s2,hD2,ta⟩ τ hτ
   have hil:i<us.length:=(List.getElem?_eq_some_iff.mp hi).1
   have hiq:i<qs.length:=by omega
   obtain⟨t,et,hT⟩:=tsp.2 i [V.int qs[i].1,V.int qs[i].2] (by simp [hiq])
   have ey:y = .ref t:=Option.some.inj (hi.symm.trans et)
   subst ey
   have hT2:=s2 t _ hT
   have ha2:=s2 a _ ha1
   have hx2:=s2 x _ hx1
   have etk:qs.take (i+1)=qs.take i++[qs[i]]:=by rw[List.take_add_one,List.getElem?_eq_getElem hiq];rfl
   have hyl:=ta.1
   rw[List.length_map,List.length_map,List.length_take] at hyl
   obtain⟨w0,w1⟩:=hin qs[i] (List.getElem_mem hiq)
   generalize qs[i]=w at hT2 etk w0 w1
   match τ,hτ with
   | [τ0,τ1],_ =>
     walk_at "go"
     refine⟨⟨[_,_],rfl,rfl⟩,?_⟩
     walk_at "go"
     intro t2 ht2
     refine⟨look_put ht2 hD2,small4000 (by omega),Xkq hil ⟨(s2.put (s2.free ht2)).put hD,upd_same,?_⟩⟩
     rw[etk,List.map_append,List.map_append]
     exact ta.push hD2 ht2
 · rintro D ys H2 hD ⟨s2,hD2,ta⟩
   rw[List.take_of_length_le (by omega)] at ta
   have h3:∀x∈qs.map (rk4 W4.best r cs),x.length=3:=fun x hx=>by
     obtain⟨w,_,rfl⟩:=List.mem_map.mp hx
     exact Xkt
   have:=q H2 (s1.trans s2)
   unfold chQ at this
   walk_at "go"
   refine⟨D,ys,qs.map (rk4 W4.best r cs),rfl,hD2,ta,h3,fun z=>?_,fun hp=>?_⟩
   · walk_at "go"
     rw[if_pos (show qs.length=0 by rw[List.map_eq_nil_iff.mp z];rfl)] at this
     exact this
   · walk_at "go"
     rw[if_neg (by rw[List.length_map] at hp;omega)] at this
     exact this
theorem XRq {f₀:Addr}{fd₀:FuncData}(F:Fun K "chosen" "Next.chosen" Xwk f₀ fd₀)(M:Meth K Y14 "chosen" f₀)(T:Txt K mg Y0 Y7 Y9 Y4 Y3 Y6 Y12 Y2 Y8 Y5 Y1 Y10 Y13 Y14 Y11 W0_ W1_)(D_Z34:Defx P w K mg base "spots_for" 5 ["cells","long","bound"] (Xhs K))(D_Z24:Defx P w K mg base "least_place" 1 ["ranked"] (Xic)):Methx P w K mg base Y14 "chosen" 6 ["self","long","bound"] [] (Xec (cF Y10 Y13 Y14 Y11) W4.next):=by
 refine⟨⟨f₀,fd₀,[],Xbf F XAx (fun vs H Q E h=>by revert h;walk_at "len") (fun cdv A outer s H vs Q E hr h=>?_),M,F.binds XNa,.nil⟩,T.cl_Next⟩
 refine⟨_,PSs.nox (Xab (Xan (i:=3) XAx.nd rfl (Or.inl rfl) (Xah D_Z34 hr (by rfl) (Xaa (Xcm (pv 0) rfl) (Xaa (pv 1) (Xaa (pv 2) Xad))))) (Xac (Xak (Xah D_Z24 hr (by rfl) (Xaa (Xha ["at","place"] ["self"] [0] rfl (Xcq (pv 3)) (fun cl C s₀ H₀ ex=>(Xig (K:=K) (n:=2) rfl rfl (Xas (Xar (i:=0) (show ((["at","place"]:List Str)++(["self"]:List Str)).Nodup by decide +kernel) rfl (Or.inl rfl)) (Xas (Xar (i:=1) (show ((["at","place"]:List Str)++(["self"]:List Str)).Nodup by decide +kernel) rfl (Or.inl rfl)) Xdb)))) (fun cl C s₀ H₀ ex=>Xkh) (fun cl C s₀ H₀ ex=>(Xew (Xaa (Xzh (Xaj XDi (pv 0) (XDl (K:=K) rfl (pv 2) rfl) (Xao _)) Xaf Xaf) (Xaa (pv 0) (Xaa (pv 1) Xad))))) (Xfd rfl rfl rfl) (Xhi (n:="self") (by decide +kernel) rfl) (fun y h=>Xck (by decide +kernel) h)) Xad))))),?_⟩
 obtain⟨r,x,dx,a,cs,ps,L,b,rfl,⟨hx,ha,hz,hc,mk,nj⟩,hb,q⟩:=h
 have hx:H x=some (.ins Y14 dx [("room_cells",.ref a),("room_rover",.int r)]):=hx
 have cl:=T.cl_Next
 have na:=T.na_Next_room_cells
 have nr:=T.na_Next_room_rover
 have hw:=Xau hc mk
 walk_at "go"
 refine⟨a,cs,ps,L,b,rfl,SqL.of ha,by omega,hw,hb,fun sp us H1 nsp s1 hsp tsp=>?_⟩
 rw[Xfm] at tsp
 have hql:(Xbl ps L b).length≤1200:=by
   have h1:(Xbl ps L b).length≤ps.length:=List.length_filterMap_le _ _
   have h2:=hc.le
   omega
 have hin:∀w∈Xbl ps L b,0≤w.1∧w.1<cs.length:=fun w hw=>by
   obtain⟨z,hz,e⟩:=Xfq hw
   have:=hc.mem z hz
   omega
 generalize Xbl ps L b=qs at tsp hql hin q
 have htl:=tsp.1
 rw[List.length_map] at htl
 have ha1:=s1 a _ ha
 have hx1:=s1 x _ hx
 walk_at "go"
 refine⟨sp,rfl,⟨_,SqL.of hsp⟩,Xde (K:=K) (a:=sp) (xs:=us) (fs:=[some (.ref x)]) (ChW H1 W4.next r cs qs) (fun D hD=>⟨Same.new hD,upd_same,Xcc.nil⟩) (fun D i ys H2 _ h=>SqL.of (h.1 sp _ hsp)) ?_ ?_⟩
 · rintro D i y ys H2 hD hi ⟨s2,hD2,ta⟩ τ hτ
   have hil:i<us.length:=(List.getElem?_eq_some_iff.mp hi).1
   have hiq:i<qs.length:=by omega
   obtain⟨t,et,hT⟩:=tsp.2 i [V.int qs[i].1,V.int qs[i].2] (by simp [hiq])
   have ey:y = .ref t:=Option.some.inj (hi.symm.trans et)
   subst ey
   have hT2:=s2 t _ hT
   have ha2:=s2 a _ ha1
   have hx2:=s2 x _ hx1
   have etk:qs.take (i+1)=qs.take i++[qs[i]]:=by rw[List.take_add_one,List.getElem?_eq_getElem hiq];rfl
   have hyl:=ta.1
   rw[List.length_map,List.length_map,List.length_take] at hyl
   obtain⟨w0,w1⟩:=hin qs[i] (List.getElem_mem hiq)
   generalize qs[i]=w at hT2 etk w0 w1
   match τ,hτ with
   | [τ0,τ1],_ =>
     walk_at "go"
     refine⟨⟨[_,_],rfl,rfl⟩,?_⟩
     walk_at "go"
     refine Xdl (fun hge=>?_) (fun hge=>?_)
     · walk_at "go"
       intro t2 ht2
       refine⟨look_put ht2 hD2,small4000 (by omega),Xkq hil ⟨(s2.put (s2.free ht2)).put hD,upd_same,?_⟩⟩
       rw[etk,List.map_append,List.map_append]
       have e:rk4 W4.next r cs w=[0,w.1,w.2]:=by unfold rk4;rw[if_pos hge]
       rw[List.map_singleton,List.map_singleton,e]
       exact ta.push hD2 ht2
     · walk_at "go"
       intro t2 ht2
       refine⟨look_put ht2 hD2,small4000 (by omega),Xkq hil ⟨(s2.put (s2.free ht2)).put hD,upd_same,?_⟩⟩
       rw[etk,List.map_append,List.map_append]
       have e:rk4 W4.next r cs w=[1,w.1,w.2]:=by unfold rk4;rw[if_neg hge]
       rw[List.map_singleton,List.map_singleton,e]
       exact ta.push hD2 ht2
 · rintro D ys H2 hD ⟨s2,hD2,ta⟩
   rw[List.take_of_length_le (by omega)] at ta
   have h3:∀x∈qs.map (rk4 W4.next r cs),x.length=3:=fun x hx=>by
     obtain⟨w,_,rfl⟩:=List.mem_map.mp hx
     exact Xkt
   have:=q H2 (s1.trans s2)
   unfold chQ at this
   walk_at "go"
   refine⟨D,ys,qs.map (rk4 W4.next r cs),rfl,hD2,ta,h3,fun z=>?_,fun hp=>?_⟩
   · walk_at "go"
     rw[if_pos (show qs.length=0 by rw[List.map_eq_nil_iff.mp z];rfl)] at this
     exact this
   · walk_at "go"
     rw[if_neg (by rw[List.length_map] at hp;omega)] at this
     exact this
theorem XTy {f₀:Addr}{fd₀:FuncData}(F:Fun K "chosen" "Likes.chosen" Xzv f₀ fd₀)(M:Meth K Y11 "chosen" f₀)(T:Txt K mg Y0 Y7 Y9 Y4 Y3 Y6 Y12 Y2 Y8 Y5 Y1 Y10 Y13 Y14 Y11 W0_ W1_)(D_Z34:Defx P w K mg base "spots_for" 5 ["cells","long","bound"] (Xhs K))(D_Z24:Defx P w K mg base "least_place" 1 ["ranked"] (Xic))(D_Z44:Defx P w K mg base "long_of" 1 ["number"] (Xfp)):Methx P w K mg base Y11 "chosen" 6 ["self","long","bound"] [] (Xec (cF Y10 Y13 Y14 Y11) W4.likes):=by
 refine⟨⟨f₀,fd₀,[],Xbf F Xst (fun vs H Q E h=>by revert h;walk_at "len") (fun cdv A outer s H vs Q E hr h=>?_),M,F.binds XMa,.nil⟩,T.cl_Likes⟩
 refine⟨_,PSs.nox (Xab (Xan (i:=3) Xst.nd rfl (Or.inr rfl) (Xcm (pv 0) rfl)) (Xab (Xan (i:=4) Xst.nd rfl (Or.inl rfl) (Xah D_Z34 hr (by rfl) (Xaa (pv 3) (Xaa (pv 1) (Xaa (pv 2) Xad))))) (Xac (Xak (Xah D_Z24 hr (by rfl) (Xaa (Xha ["at","place"] ["cells"] [3] rfl (Xcq (pv 4)) (fun cl C s₀ H₀ ex=>(Xig (K:=K) (n:=2) rfl rfl (Xas (Xar (i:=0) (show ((["at","place"]:List Str)++(["cells"]:List Str)).Nodup by decide +kernel) rfl (Or.inl rfl)) (Xas (Xar (i:=1) (show ((["at","place"]:List Str)++(["cells"]:List Str)).Nodup by decide +kernel) rfl (Or.inl rfl)) Xdb)))) (fun cl C s₀ H₀ ex=>Xkh) (fun cl C s₀ H₀ ex=>(Xew (Xaa (XFa (K:=K) rfl PySem.F.plainAttrs_int PySem.F.slot_int_bit_length PySem.F.type_int_bit_length Xth (Xah D_Z44 hr (by rfl) (Xaa (Xbd (Xom (K:=K) rfl) (pv 2) (pv 0) (fun _ _=>rfl)) Xad))) (Xaa (pv 0) (Xaa (pv 1) Xad))))) (Xfd rfl rfl rfl) (Xhi (n:="cells") (by decide +kernel) rfl) (fun y h=>Xck (by decide +kernel) h)) Xad)))))),?_⟩
 obtain⟨r,x,dx,a,cs,ps,L,b,rfl,⟨hx,ha,hz,hc,mk,nj⟩,hb,q⟩:=h
 have hx:H x=some (.ins Y11 dx [("room_cells",.ref a)]):=hx
 have cl:=T.cl_Likes
 have na:=T.na_Likes_room_cells
 have hw:=Xau hc mk
 walk_at "go"
 refine⟨a,cs,ps,L,b,rfl,SqL.of ha,by omega,hw,hb,fun sp us H1 nsp s1 hsp tsp=>?_⟩
 rw[Xfm] at tsp
 have hql:(Xbl ps L b).length≤1200:=by
   have h1:(Xbl ps L b).length≤ps.length:=List.length_filterMap_le _ _
   have h2:=hc.le
   omega
 have hin:∀w∈Xbl ps L b,0≤w.1∧w.1<cs.length:=fun w hw=>by
   obtain⟨z,hz,e⟩:=Xfq hw
   have:=hc.mem z hz
   omega
 generalize Xbl ps L b=qs at tsp hql hin q
 have htl:=tsp.1
 rw[List.length_map] at htl
 have ha1:=s1 a _ ha
 have hx1:=s1 x _ hx
 walk_at "go"
 refine⟨sp,rfl,⟨_,SqL.of hsp⟩,Xde (K:=K) (a:=sp) (xs:=us) (fs:=[some (.ref a)]) (ChW H1 W4.likes r cs qs) (fun D hD=>⟨Same.new hD,upd_same,Xcc.nil⟩) (fun D i ys H2 _ h=>SqL.of (h.1 sp _ hsp)) ?_ ?_⟩
 · rintro D i y ys H2 hD hi ⟨s2,hD2,ta⟩ τ hτ
   have hil:i<us.length:=(List.getElem?_eq_some_iff.mp hi).1
   have hiq:i<qs.length:=by omega
   obtain⟨t,et,hT⟩:=tsp.2 i [V.int qs[i].1,V.int qs[i].2] (by simp [hiq])
   have ey:y = .ref t:=Option.some.inj (hi.symm.trans et)
   subst ey
   have hT2:=s2 t _ hT
   have ha2:=s2 a _ ha1
   have hx2:=s2 x _ hx1
   have etk:qs.take (i+1)=qs.take i++[qs[i]]:=by rw[List.take_add_one,List.getElem?_eq_getElem hiq];rfl
   have hyl:=ta.1
   rw[List.length_map,List.length_map,List.length_take] at hyl
   obtain⟨w0,w1⟩:=hin qs[i] (List.getElem_mem hiq)
   generalize qs[i]=w at hT2 etk w0 w1
   match τ,hτ with
   | [τ0,τ1],_ =>
     walk_at "go"
     refine⟨⟨[_,_],rfl,rfl⟩,?_⟩
     walk_at "go"
     refine⟨rfl,_,rfl,rfl,?_⟩
     walk_at "go"
     intro t2 ht2
     refine⟨look_put ht2 hD2,small4000 (by omega),Xkq hil ⟨(s2.put (s2.free ht2)).put hD,upd_same,?_⟩⟩
     rw[etk,List.map_append,List.map_append]
     exact ta.push hD2 ht2
 · rintro D ys H2 hD ⟨s2,hD2,ta⟩
   rw[List.take_of_length_le (by omega)] at ta
   have h3:∀x∈qs.map (rk4 W4.likes r cs),x.length=3:=fun x hx=>by
     obtain⟨w,_,rfl⟩:=List.mem_map.mp hx
     exact Xkt
   have:=q H2 (s1.trans s2)
   unfold chQ at this
   walk_at "go"
   refine⟨D,ys,qs.map (rk4 W4.likes r cs),rfl,hD2,ta,h3,fun z=>?_,fun hp=>?_⟩
   · walk_at "go"
     rw[if_pos (show qs.length=0 by rw[List.map_eq_nil_iff.mp z];rfl)] at this
     exact this
   · walk_at "go"
     rw[if_neg (by rw[List.length_map] at hp;omega)] at this
     exact this
theorem Xaz.free {x b:Addr}{H H':Hp}{o:HO}(k:Xaz x H H')(hx:H' x=some o)(hn:H' b=none):H b=none:=by
 cases e:H b with
 | none=>rfl
 | some o' =>
   have:=k b o' (fun z=>by rw[z,hx] at hn;cases hn) e
   rw[hn] at this
   cases this
def XCg (C:W4→Addr)(CN:Addr)(i:W4):Sp:=fun vs H Q E=>∃(r:Int) (x dx a:Addr) (cs:List Int) (ps:List Pc) (c b:Int),vs=[.ref x,.int c,.int b]∧StS C i x dx a r cs ps H∧1≤c∧1≤b ∧
 (chQ i r cs (Xbl ps (c+2) b)=none→∀H',Same H H'→E (.ref CN) none H') ∧
 (∀s,chQ i r cs (Xbl ps (c+2) b)=some s→∀(a':Addr) (cs':List Int) (H':Hp),H a'=none→Xaz x H H'→cs'.length=cs.length→(∀y∈ps,y.v=true→∀j:Nat,Inn y j→cs'[j]?=cs[j]?)→StS C i x dx a' (s+(c+2)) cs' (cutL ps s (c+2)) H'→Q (.int (s+1)) H')
theorem XSo {f₀ T₀:Addr}{fd₀:FuncData}{tk₀:Tok}{tc₀:Value}{td₀:Option Addr}{tn₀:Nat}{ts₀:Array (Option Value)}(F:FunD K "ask" "Stretches.ask" Xjz (.ref T₀) f₀ fd₀)(LT:K.lookup T₀=some ⟨tc₀,td₀,.seq [.int 1 tk₀].toArray tn₀,ts₀⟩)(M:∀i,Meth K ((cF Y10 Y13 Y14 Y11) i) "ask" f₀)(T:Txt K mg Y0 Y7 Y9 Y4 Y3 Y6 Y12 Y2 Y8 Y5 Y1 Y10 Y13 Y14 Y11 W0_ W1_)(D_Z36:Defx P w K mg base "check_ask" 1 ["count","bound"] (Xmz))(D_chosen:Xbj P w K mg base (cF Y10 Y13 Y14 Y11) "chosen" 6 ["self","long","bound"] [] (Xec (cF Y10 Y13 Y14 Y11)))(D_Z47:Defx P w K mg base "cut_out" 7 ["cells","at","place","long"] (XQw K Y3 Y8))(D_Z12:Defx P w K mg base "begin_around" 5 ["cells","cell"] (Xof K))(D_room_granted:Xbj P w K mg base (cF Y10 Y13 Y14 Y11) "room_granted" 1 ["self","behind"] [] (Xkf (cF Y10 Y13 Y14 Y11))):MethFD P w K mg base (cF Y10 Y13 Y14 Y11) "ask" 8 ["self","count","bound"] [.int 1] (XCg (cF Y10 Y13 Y14 Y11) Y8):=by
 refine MethFD.made (fd:=fd₀) ?_ M (F.bindsA LT (XMj T₀ _)) (F.bindsD LT (XLw T₀ _)) (.cons ⟨tk₀,rfl⟩ .nil) (T_cl T)
 refine Xoo F Xqv (fun vs H Q E h=>by obtain⟨_,h⟩:=h;revert h;walk_at "len") (fun cdv A outer s H vs Q E hr h=>?_)
 refine⟨_,(Xab (Xca (Xah D_Z36 hr (by rfl) (Xaa (pv 1) (Xaa (pv 2) Xad)))) (Xab (Xan (i:=3) Xqv.nd rfl (Or.inl rfl) (Xal Xbb (pv 1) (Xgh (v:=.int 2) (by rfl) T.g_MARKS ⟨_,rfl⟩))) (Xab (Xan (i:=4) Xqv.nd rfl (Or.inl rfl) (Xby D_chosen Xbq hr (pv 0) (Xaa (pv 3) (Xaa (pv 2) Xad)))) (Xab (Xbi (Xaj Xnq (pv 4) Xcs (Xao _)) (Xac (Xef T.x_NoRoom hr.hd rfl (Xaa Xdi Xad))) Xap) (Xab (Xdv (pv 0) (Xdf D_Z47 hr (by rfl) (Xaa (Xcm (pv 0) rfl) (Xaa (Xah D_Z12 hr (by rfl) (Xaa (Xcm (pv 0) rfl) (Xaa (pv 4) Xad))) (Xaa (pv 4) (Xaa (pv 3) Xad))))) rfl) (Xab (Xca (Xby D_room_granted Xbq hr (pv 0) (Xaa (Xal Xbb (pv 4) (pv 3)) Xad))) (Xac (Xak (Xal Xbb (pv 4) Xaf))))))))),?_⟩
 obtain⟨k,r,x,dx,a,cs,ps,c,b,rfl,S,h1,h2,qn,q⟩:=h
 have cl:=T_cl T k
 have na:=T_na T k
 obtain⟨hx,ha,hz,hc,mk,nj⟩:=id S
 walk_at "go"
 refine⟨c,b,rfl,h1,h2,?_⟩
 walk_at "go"
 refine⟨r,x,dx,a,cs,ps,_,b,rfl,S,h2,fun H1 s1=>?_⟩
 have hx1:=s1 x _ hx
 have ha1:=s1 a _ ha
 cases hn:chQ k r cs (Xbl ps (c+2) b) with
 | none =>
   walk_at "go"
   exact qn hn H1 s1
 | some s =>
   obtain⟨i,z,hi,hv,g1,g2,_⟩:=Xua h2 hn
   have hzm:=List.mem_of_getElem? hi
   walk_at "go"
   refine⟨a,cs,ps,i,z,s,rfl,SqL.of ha1,by omega,hc,mk,hi,g1,by omega,fun H2 s2=>?_⟩
   have hx2:=s2 x _ hx1
   have ha2:=s2 a _ ha1
   walk_at "go"
   refine⟨a,cs,ps,z.a,s,c+2,rfl,SqL.of ha2,by omega,hc,mk,by omega,fun y hy hk hv' e1 e2 p H3 np s3 hp=>?_,fun y hy hk hv' hn'=>?_,fun hn'=>absurd hv (hn' z hzm rfl)⟩
   · have ey:=Xbn hc hy hzm hk
     subst ey
     have hx3:=s3 x _ hx2
     have hne:p≠x:=fun z=>by rw[z,hx2] at np;cases np
     have s13:=(s1.trans s2).trans s3
     walk_at "go"
     generalize hH:upd H3 x _=H4
     have hx4:H4 x=some (.ins ((cF Y10 Y13 Y14 Y11) k) dx (fsF k p r)):=by rw[←hH,upd_same,Xfz]
     have hp4:H4 p=some (.lst ((cutO cs y.a y.l s (c+2)).map V.int)):=by rw[←hH];exact look_ne hne hp
     have k4:Xaz x H H4:=by rw[←hH];exact(Xaz.of s13).put
     walk_at "go"
     refine⟨r,s+(c+2),x,dx,p,rfl,hx4,fun H5 k5 hx5=>?_⟩
     walk_at "go"
     obtain⟨y0,y1,y3,y4⟩:=hc.mem y hzm
     obtain⟨ds,rs,e3,e4,c1,c2⟩:=Xaw hc hi
     subst e3
     have ecut:=XBj hc hv (show 1≤c+2 by omega) g1 g2
     refine q s hn p _ H5 ((s1.trans s2).free np) (k4.trans k5) (by rw[Xjy]) (fun y' hy' hv' j hj=>XCw hc hzm hv (by omega) g1 g2 hy' hv' hj) ⟨hx5,k5 p _ hne hp4,by rw[Xjy];exact hz,?_,?_,?_⟩
     · rw[Xjy,ecut]
       exact Xos (by omega) g1 g2 c1 c2
     · rw[ecut]
       exact Xpd y0 (by omega) g1 g2 (by omega) (c1.endBy (Int.le_refl 0)) c2.fromOn mk
     · rw[ecut]
       exact Xpn nj hv
   · have ey:=Xbn hc hy hzm hk
     subst ey
     exact absurd ⟨g1,g2⟩ hn'
def Xtg (C:W4→Addr)(k:W4):Sp:=fun vs H Q _=>∃(r:Int) (x dx a:Addr) (cs:List Int) (ps:List Pc) (i:Nat) (z:Pc),vs=[.ref x,.int (z.a+1)]∧StS C k x dx a r cs ps H∧ps[i]?=some z∧z.v=true ∧
 ∀(a':Addr) (cs':List Int) (H':Hp),H a'=none→Xaz x H H'→cs'.length=cs.length→(∀y∈ps,y.v=true→y≠z→∀j:Nat,Inn y j→cs'[j]?=cs[j]?)→StS C k x dx a' r cs' (Xcr (modF ps z.a)) H'→Q .non H'
theorem XRs {f₀:Addr}{fd₀:FuncData}(F:Fun K "give" "Stretches.give" s_Z8 f₀ fd₀)(M:∀i,Meth K ((cF Y10 Y13 Y14 Y11) i) "give" f₀)(T:Txt K mg Y0 Y7 Y9 Y4 Y3 Y6 Y12 Y2 Y8 Y5 Y1 Y10 Y13 Y14 Y11 W0_ W1_)(D_Z63:Defx P w K mg base "freed" 7 ["cells","at"] (Xuq K Y3)):Xbj P w K mg base (cF Y10 Y13 Y14 Y11) "give" 8 ["self","place"] [] (Xtg (cF Y10 Y13 Y14 Y11)):=by
 refine Xbj.made (Xbf F XTh (fun vs H Q E h=>by obtain⟨_,h⟩:=h;revert h;walk_at "len") (fun cdv A outer s H vs Q E hr h=>?_)) M (F.binds XRu) (T_cl T)
 refine⟨_,PSs.nox (Xac (Xdv (pv 0) (Xah D_Z63 hr (by rfl) (Xaa (Xcm (pv 0) rfl) (Xaa (Xal Xcx (pv 1) Xaf) Xad))) rfl)),?_⟩
 obtain⟨k,r,x,dx,a,cs,ps,i,z,rfl,⟨hx,ha,hz,hc,mk,nj⟩,hi,hv,q⟩:=h
 have cl:=T_cl T k
 have na:=T_na T k
 walk_at "go"
 refine⟨a,cs,ps,z.a,by rw[Int.add_sub_cancel],SqL.of ha,by omega,hc,mk,fun j y hj hk hv' p H1 np s1 hp=>?_,fun hn=>absurd hv (hn z (List.mem_of_getElem? hi) rfl)⟩
 have ej:=Xgb hc hj hi (by omega)
 subst ej
 have ey:y=z:=Option.some.inj (hj.symm.trans hi)
 subst ey
 have hx1:=s1 x _ hx
 have hne:p≠x:=fun z=>by rw[z,hx] at np;cases np
 walk_at "go"
 obtain⟨ds,rs,e1,e2,_,_⟩:=Xaw hc hi
 subst e1 e2
 obtain⟨k1,k3,k4⟩:=Xzw hc mk nj hv
 exact q p _ _ np (Xaz.of s1).put (by rw[Xcn]) (fun y' hy' hv' hne' j hj=>Xxy hc hi hy' hv' hne' hj) ⟨by rw[upd_same,Xfz],look_ne hne hp,by rw[Xcn];exact hz,by rw[Xcn];exact k1,k4,k3⟩
theorem Xht {ps:List Pc}{p:Pc}{s L:Int}(hp:p∈ps)(hv:p.v=true):p∈cutL ps s L:=by
 unfold cutL
 refine List.mem_flatten.mpr ⟨ct1 s L p,List.mem_map.mpr ⟨p,hp,rfl⟩,?_⟩
 unfold ct1
 rw[if_pos (.inl hv)]
 exact List.mem_singleton.mpr rfl
theorem Xnu {ps:List Pc}{p:Pc}{s L:Int}(hp:p∈ps)(hv:p.v=false)(h1:p.a≤s)(h2:s<p.a+p.l):(⟨s,L,true⟩:Pc)∈cutL ps s L:=by
 unfold cutL
 refine List.mem_flatten.mpr ⟨ct1 s L p,List.mem_map.mpr ⟨p,hp,rfl⟩,?_⟩
 unfold ct1
 rw[if_neg (by rw[hv];simp;omega)]
 simp
theorem Xgi {acc:List Pc}{p z:Pc}(hp:p∈acc)(hv:p.v=true):p∈Xav acc z:=by
 rcases Xbk acc with e | ⟨D,w,e⟩
 · rw[e] at hp
   cases hp
 · subst e
   cases hw:w.v with
   | true=>rw[Xce hw];exact List.mem_append_left _ hp
   | false =>
     cases hz:z.v with
     | true=>rw[Xbs hz];exact List.mem_append_left _ hp
     | false =>
       rw[Xbz hw hz]
       rcases List.mem_append.mp hp with g | g
       · exact List.mem_append_left _ g
       · rw[List.mem_singleton.mp g] at hv
         rw[hv] at hw
         cases hw
theorem Xfg:∀(ps acc:List Pc) {p:Pc},p.v=true→p∈acc∨p∈ps→p∈ps.foldl Xav acc
 | [],acc,p,hv,h=>by
   rcases h with h | h
   · exact h
   · cases h
 | z::r,acc,p,hv,h=>by
   refine Xfg r (Xav acc z) hv ?_
   rcases h with h | h
   · exact .inl (Xgi h hv)
   · rcases List.mem_cons.mp h with g | g
     · subst g
       rw[Xbs hv]
       exact .inl (List.mem_append_right _ (List.mem_singleton.mpr rfl))
     · exact .inr g
theorem Xgo {ps:List Pc}{p:Pc}(h:p∈ps)(hv:p.v=true):p∈Xcr ps:=Xfg ps [] hv (.inr h)
theorem Xhn {ps:List Pc}{p:Pc}{k:Int}(h:p∈ps)(hk:p.a≠k):p∈modF ps k:=by
 unfold modF
 refine List.mem_map.mpr ⟨p,h,?_⟩
 rw[decide_eq_false hk,Bool.not_false,Bool.and_true]
theorem Xyw {ps:List Pc}{z:Pc}{L e:Int}(h:z∈ps):(⟨z.a,L,true⟩:Pc)∈regF ps z.a L e:=by
 unfold regF
 refine List.mem_flatten.mpr ⟨rg1 z.a L e z,List.mem_map.mpr ⟨z,h,rfl⟩,?_⟩
 unfold rg1
 rw[if_pos rfl]
 exact List.mem_append_left _ (List.mem_append_right _ (List.mem_singleton.mpr rfl))
def Xte (C:W4→Addr)(CN:Addr)(k:W4):Sp:=fun vs H Q E=>∃(r:Int) (x dx a:Addr) (cs:List Int) (ps:List Pc) (z:Pc) (c b:Int),vs=[.ref x,.int (z.a+1),.int c,.int b]∧StS C k x dx a r cs ps H∧z∈ps∧z.v=true∧1≤c∧1≤b ∧
 (chQ k r cs (Xbl ps (c+2) b)=none→∀H',Same H H'→E (.ref CN) none H') ∧
 (∀s,chQ k r cs (Xbl ps (c+2) b)=some s→∀(a':Addr) (cs':List Int) (H':Hp),H a'=none→Xaz x H H'→cs'.length=cs.length→XIy ps (Xcr (modF (cutL ps s (c+2)) z.a)) cs cs' ⟨s,c+2,true⟩ (fun y=>y=z)→(∀j:Nat,(j:Int)<c→(j:Int)<z.l-2→cs'[(s+1).toNat+j]?=cs[(z.a+1).toNat+j]?)→StS C k x dx a' (s+(c+2)) cs' (Xcr (modF (cutL ps s (c+2)) z.a)) H'→Q (.int (s+1)) H')
theorem XSi {f₀:Addr}{fd₀:FuncData}(F:Fun K "room_moved" "Keeper.room_moved" s_Z3 f₀ fd₀)(M:∀i,Meth K ((cF Y10 Y13 Y14 Y11) i) "room_moved" f₀)(T:Txt K mg Y0 Y7 Y9 Y4 Y3 Y6 Y12 Y2 Y8 Y5 Y1 Y10 Y13 Y14 Y11 W0_ W1_)(D_ask:MethFD P w K mg base (cF Y10 Y13 Y14 Y11) "ask" 8 ["self","count","bound"] [.int 1] (XCg (cF Y10 Y13 Y14 Y11) Y8))(D_Z50:Defx P w K mg base "carried" 1 ["cells","source","goal","count"] (Xtq K))(D_Z71:Xbj P w K mg base (cF Y10 Y13 Y14 Y11) "many" 7 ["self","place"] [] (Xri (cF Y10 Y13 Y14 Y11)))(D_Z69:Xbj P w K mg base (cF Y10 Y13 Y14 Y11) "give" 8 ["self","place"] [] (Xtg (cF Y10 Y13 Y14 Y11))):Xbj P w K mg base (cF Y10 Y13 Y14 Y11) "room_moved" 9 ["self","place","count","bound"] [] (Xte (cF Y10 Y13 Y14 Y11) Y8):=by
 refine Xbj.made (Xbf F XQy (fun vs H Q E h=>by obtain⟨_,h⟩:=h;revert h;walk_at "len") (fun cdv A outer s H vs Q E hr h=>?_)) M (F.binds XSb) (T_cl T)
 refine⟨_,(Xab (Xan (i:=4) XQy.nd rfl (Or.inl rfl) (Xby D_ask.all Xgt hr (pv 0) (Xaa (pv 2) (Xaa (pv 3) Xad)))) (Xab (Xdv (pv 0) (Xah D_Z50 hr (by rfl) (Xaa (Xcm (pv 0) rfl) (Xaa (pv 1) (Xaa (pv 4) (Xaa (Xba (Xsk rfl) (by rfl) T.n_min PyProof.Rows.boot_min (Xaa (Xby D_Z71 Xbq hr (pv 0) (Xaa (pv 1) Xad)) (Xaa (pv 2) Xad))) Xad))))) rfl) (Xab (Xca (Xby D_Z69 Xbq hr (pv 0) (Xaa (pv 1) Xad))) (Xac (Xak (pv 4)))))),?_⟩
 obtain⟨k,r,x,dx,a,cs,ps,z,c,b,rfl,S,hm,hv,h1,h2,qn,q⟩:=h
 have cl:=T_cl T k
 have na:=T_na T k
 have hx:=S.hx
 walk_at "go"
 refine⟨r,x,dx,a,cs,ps,c,b,rfl,S,h1,h2,fun hn H1 s1=>qn hn H1 s1,fun s hn a1 cs1 H1 na1 k1 l1 hk1 S1=>?_⟩
 obtain⟨i0,z0,hi0,hv0,g1,g2,_⟩:=Xua h2 hn
 have hzc:=Xht (s:=s) (L:=c+2) hm hv
 have hnc:=Xnu (L:=c+2) (List.mem_of_getElem? hi0) hv0 g1 (by omega)
 have hz:=S1.hz
 obtain⟨z1,z2,z3,z4⟩:=S1.hc.mem z hzc
 have z3:=z3 hv
 obtain⟨n1,n2,n3,n4⟩:=S1.hc.mem _ hnc
 have n4:s+(c+2)≤cs1.length:=n4
 have n1:0≤s:=n1
 have hx1:=S1.hx
 have ha1:=S1.ha
 walk_at "go"
 refine⟨_,x,dx,a1,cs1,cutL ps s (c+2),z,rfl,hx1,ha1,by omega,S1.hc,S1.mm,hzc,hv,fun H2 s2=>?_⟩
 have hx2:=s2 x _ hx1
 have ha2:=s2 a1 _ ha1
 walk_at "go"
 have hmj:∀j:Nat,(j:Int)<c→(j:Int)<z.l-2→(j:Int)<(if c<z.l-2 then c else z.l-2):=fun j h1 h2=>by split <;> omega
 have b1:(if c<z.l-2 then c else z.l-2)≤c:=by split <;> omega
 have b2:(if c<z.l-2 then c else z.l-2)≤z.l-2:=by split <;> omega
 have b3:0≤(if c<z.l-2 then c else z.l-2):=by split <;> omega
 generalize (if c<z.l-2 then c else z.l-2)=m at b1 b2 b3 hmj ⊢
 refine⟨a1,cs1,z.a+1,s+1,m,rfl,SqL.of ha2,hz,by omega,by omega,b3,by omega,by omega,fun p H3 np s3 hp=>?_⟩
 have hx3:=s3 x _ hx2
 have hne:p≠x:=fun z=>by rw[z,hx2] at np;cases np
 have lc:(carI cs1 (z.a+1).toNat (s+1).toNat m.toNat).length=cs1.length:=Xvb (by omega) (by omega)
 have mc:=Xnd (s:=(z.a+1).toNat) (c:=m.toNat) S1.hc rfl S1.mm hnc rfl (by omega) (show (m.toNat:Int)≤c+2-2 by omega)
 have mc:Xbc (carI cs1 (z.a+1).toNat (s+1).toNat m.toNat) (cutL ps s (c+2)):=mc
 walk_at "go"
 generalize hH:upd H3 x _=H4
 have S4:StS (cF Y10 Y13 Y14 Y11) k x dx p (s+(c+2)) (carI cs1 (z.a+1).toNat (s+1).toNat m.toNat) (cutL ps s (c+2)) H4:=⟨by rw[←hH,upd_same,Xfz],by rw[←hH];exact look_ne hne hp,by rw[lc];exact hz,by rw[lc];exact S1.hc,mc,S1.nj⟩
 have k4:Xaz x H H4:=by rw[←hH];exact(k1.trans (Xaz.of (s2.trans s3))).put
 obtain⟨j,hj⟩:=List.getElem?_of_mem hzc
 have hx4:=S4.hx
 walk_at "go"
 refine⟨_,x,dx,p,_,_,j,z,rfl,S4,hj,hv,fun a' cs' H5 na5 k5 l5 hk5 S5=>?_⟩
 walk_at "go"
 have hzs:z.a≠s:=fun e=>by
   have:=Xcl S.hc (List.mem_of_getElem? hi0) hm g1 (by omega) (show z.a≤s by omega) (by omega)
   rw[this,hv] at hv0
   cases hv0
 have nz:(⟨s,c+2,true⟩:Pc)≠z:=fun e=>hzs (by rw[←e])
 have e1:((s+1).toNat:Int)=s+1:=Int.toNat_of_nonneg (by omega)
 have e2:((z.a+1).toNat:Int)=z.a+1:=Int.toNat_of_nonneg (by omega)
 have e3:(m.toNat:Int)=m:=Int.toNat_of_nonneg b3
 have off:∀j:Nat,(j:Int)<s∨s+(c+2)≤j→(carI cs1 (z.a+1).toNat (s+1).toNat m.toNat)[j]?=cs1[j]?:=fun j hj=>Xnv (by omega) (by omega) (by omega)
 refine q s hn a' cs' H5 (k4.free S4.hx na5) (k4.trans k5) (by omega) ⟨Xgo (Xhn hnc (fun e=>hzs e.symm)) rfl,rfl,fun y hy hyv hyz=>?_,fun y hy hyv=>?_⟩ (fun j hj1 hj2=>?_) S5
 · have hyc:=Xht (s:=s) (L:=c+2) hy hyv
   have hyza:y.a≠z.a:=fun e=>hyz (Xbn S.hc hy hm e)
   have hys:y.a≠s:=fun e=>by
     obtain⟨_,y1,_,_⟩:=S.hc.mem y hy
     have:=Xcl S.hc (List.mem_of_getElem? hi0) hy g1 (by omega) (show y.a≤s by omega) (by omega)
     rw[this,hyv] at hv0
     cases hv0
   refine⟨Xgo (Xhn hyc hyza) hyv,hys,fun j hj=>?_⟩
   have hap:=apart S1.hc hnc hyc (fun e=>hys (by rw[←e])) (i:=(j:Int)) (by have:=hj.1;omega) (by have:=hj.2;omega)
   rw[hk5 y hyc hyv (fun e=>hyz e) j hj,off j hap,hk1 y hy hyv j hj]
 · obtain⟨g1,g2⟩:=Xll (Xjj hy hyv) hyv
   exact(Xlq g1 hyv).imp id fun g=>⟨g,fun e=>g2 (by rw[e])⟩
 · have h1:=hk5 ⟨s,c+2,true⟩ hnc rfl nz ((s+1).toNat+j) ⟨by show s+1≤_;omega,by show _<s+(c+2)-1;omega⟩
   have hjm:=hmj j hj1 hj2
   rw[h1,XHb (by omega) (by omega) (by omega)]
   exact hk1 z hm hv ((z.a+1).toNat+j) ⟨by omega,by omega⟩
def XBe (C:W4→Addr)(CN:Addr)(k:W4):Sp:=fun vs H Q E=>∃(r:Int) (x dx a:Addr) (cs:List Int) (ps:List Pc) (i:Nat) (z:Pc) (c b:Int),vs=[.ref x,.int (z.a+1),.int c,.int b]∧StS C k x dx a r cs ps H∧ps[i]?=some z∧z.v=true∧1≤c∧1≤b ∧
 (Xbl ps (c+2) b=[]→∀H',Same H H'→E (.ref CN) none H') ∧
 (∀(w:Pc) (r':Int) (a':Addr) (cs':List Int) (ps':List Pc) (H':Hp),w.l=c+2→(w.a+1)%b=0→H a'=none→Xaz x H H'→cs'.length=cs.length→XIy ps ps' cs cs' w (fun y=>y=z)→(∀j:Nat,(j:Int)<c→(j:Int)<z.l-2→cs'[(w.a+1).toNat+j]?=cs[(z.a+1).toNat+j]?)→StS C k x dx a' r' cs' ps' H'→Q (.int (w.a+1)) H')
theorem XRn {f₀ T₀:Addr}{fd₀:FuncData}{tk₀:Tok}{tc₀:Value}{td₀:Option Addr}{tn₀:Nat}{ts₀:Array (Option Value)}(F:FunD K "grow" "Stretches.grow" s_Z7 (.ref T₀) f₀ fd₀)(LT:K.lookup T₀=some ⟨tc₀,td₀,.seq [.int 1 tk₀].toArray tn₀,ts₀⟩)(M:∀i,Meth K ((cF Y10 Y13 Y14 Y11) i) "grow" f₀)(T:Txt K mg Y0 Y7 Y9 Y4 Y3 Y6 Y12 Y2 Y8 Y5 Y1 Y10 Y13 Y14 Y11 W0_ W1_)(D_Z52:Defx P w K mg base "live_at" 6 ["cells","at"] (Xgg K Y3 true))(D_Z36:Defx P w K mg base "check_ask" 1 ["count","bound"] (Xmz))(D_Z39:Defx P w K mg base "free_end" 2 ["cells","end"] (Xtr K))(D_Z31:Xbj P w K mg base (cF Y10 Y13 Y14 Y11) "room_moved" 9 ["self","place","count","bound"] [] (Xte (cF Y10 Y13 Y14 Y11) Y8))(D_Z67:Defx P w K mg base "laid" 2 ["cells","at","long","live"] (Xmg K))(D_Z33:Defx P w K mg base "laid_free" 3 ["cells","begin","end"] (Xfc K)):MethFD P w K mg base (cF Y10 Y13 Y14 Y11) "grow" 10 ["self","place","count","bound"] [.int 1] (XBe (cF Y10 Y13 Y14 Y11) Y8):=by
 refine MethFD.made (fd:=fd₀) ?_ M (F.bindsA LT (XTp T₀ _)) (F.bindsD LT (XSp T₀ _)) (.cons ⟨tk₀,rfl⟩ .nil) (T_cl T)
 refine Xoo F Xoz (fun vs H Q E h=>by obtain⟨_,h⟩:=h;revert h;walk_at "len") (fun cdv A outer s H vs Q E hr h=>?_)
 refine⟨_,(Xab (Xei (Xdf D_Z52 hr (by rfl) (Xaa (Xcm (pv 0) rfl) (Xaa (Xal Xcx (pv 1) Xaf) Xad))) (Xgv rfl (Xas (Xar (i:=4) Xoz.nd rfl (Or.inl rfl)) (Xas (Xar (i:=5) Xoz.nd rfl (Or.inl rfl)) (Xas (Xar (i:=6) Xoz.nd rfl (Or.inl rfl)) Xdb))))) (Xab (Xca (Xah D_Z36 hr (by rfl) (Xaa (pv 2) (Xaa (pv 3) Xad)))) (Xab (Xan (i:=7) Xoz.nd rfl (Or.inl rfl) (Xal Xbb (pv 2) (Xgh (v:=.int 2) (by rfl) T.g_MARKS ⟨_,rfl⟩))) (Xab (Xan (i:=8) Xoz.nd rfl (Or.inl rfl) (Xah D_Z39 hr (by rfl) (Xaa (Xcm (pv 0) rfl) (Xaa (Xal Xbb (pv 4) (pv 5)) Xad)))) (Xab (Xbi (PW.pt (Xek (Xaj Xkn (Xal Xbu (pv 1) (pv 3)) Xaf (Xao _)) (Xdk (Xaj Xke (Xal Xbb (pv 4) (pv 7)) (pv 8) (Xao _))))) (Xac (Xak (Xby D_Z31 Xgt hr (pv 0) (Xaa (pv 1) (Xaa (pv 2) (Xaa (pv 3) Xad)))))) Xap) (Xab (Xdv (pv 0) (Xah D_Z33 hr (by rfl) (Xaa (Xah D_Z67 hr (by rfl) (Xaa (Xcm (pv 0) rfl) (Xaa (pv 4) (Xaa (pv 7) (Xaa Xdh Xad))))) (Xaa (Xal Xbb (pv 4) (pv 7)) (Xaa (pv 8) Xad)))) rfl) (Xac (Xak (pv 1))))))))),?_⟩
 obtain⟨k,r,x,dx,a,cs,ps,i,z,c,b,rfl,S,hi,hv,h1,h2,qn,q⟩:=h
 have cl:=T_cl T k
 have na:=T_na T k
 obtain⟨hx,ha,hz,hc,mk,nj⟩:=id S
 have hw:=Xau hc mk
 have hm:=List.mem_of_getElem? hi
 obtain⟨z0,z1,z3,z4⟩:=hc.mem z hm
 obtain⟨f1,f2⟩:=Xng hc hi
 have hen:enF ps z.a=fend ps i z:=by
   obtain⟨ds,rs,e1,e2,_,_⟩:=Xaw hc hi
   subst e1 e2
   exact en_is hc nj
 walk_at "go"
 refine⟨a,cs,ps,z.a,by rw[Int.add_sub_cancel],SqL.of ha,by omega,hw,hc,fun y hy hk hv' t H1 s1 ht=>?_,fun hn=>absurd hv (hn z hm rfl)⟩
 have ey:=Xbn hc hy hm (by omega)
 subst ey
 have hx1:=s1 x _ hx
 have ha1:=s1 a _ ha
 have S1:=S.same s1
 walk_at "go"
 refine⟨c,b,rfl,h1,h2,?_⟩
 walk_at "go"
 refine⟨a,cs,ps,i,y,rfl,SqL.of ha1,hc,mk,hi,?_⟩
 walk_at "go"
 refine Xdl (fun h3=>?_) (fun h3=>?_)
 · walk_at "go"
   refine Xdl (fun h4=>?_) (fun h4=>?_)
   · walk_at "go"
     exact⟨r,x,dx,a,cs,ps,y,c,b,rfl,S1,hm,hv,h1,h2,fun hn H2 s2=>qn (Xmk hn) H2 (s1.trans s2),fun s hn a' cs' H2 na2 k2 l2 L2 O2 S2=>q ⟨s,c+2,true⟩ _ a' cs' _ H2 rfl (by obtain⟨_,_,_,_,_,_,g⟩:=Xua h2 hn;exact g) (s1.free na2) ((Xaz.of s1).trans k2) l2 L2 O2 S2⟩
   · walk_at "go"
     refine⟨a,cs,y.a,c+2,true,rfl,SqL.of ha1,by omega,z0,by omega,by omega,fun p H2 np s2 hp=>?_⟩
     walk_at "go"
     refine⟨p,_,_,_,rfl,SqL.of hp,by rw[Xbp];omega,by omega,by omega,by rw[Xbp];omega,fun p2 H3 np2 s3 hp2=>?_⟩
     have s13:=(s1.trans s2).trans s3
     have hx3:=s13 x _ hx
     have hne:p2≠x:=fun z=>by rw[z,(s1.trans s2) x _ hx] at np2;cases np2
     walk_at "go"
     have gi:Xai 0 (regF ps y.a (c+2) (fend ps i y)) cs.length∧Xax (regF ps y.a (c+2) (fend ps i y))∧Xbc (lfI (Xch cs y.a (c+2) true) (y.a+(c+2)) (fend ps i y)) (regF ps y.a (c+2) (fend ps i y)):=by
       obtain⟨ds,rs,e1,e2,_,_⟩:=Xaw hc hi
       subst e1 e2
       exact Xxa hc mk nj (show 3≤c+2 by omega) (by omega)
     obtain⟨k1,k3,k4⟩:=gi
     refine q ⟨y.a,c+2,true⟩ r p2 _ (regF ps y.a (c+2) (fend ps i y)) _ rfl (by show (y.a+1)%b=0;omega) ((s1.trans s2).free np2) (Xaz.of s13).put (by rw[Xcn,Xbp]) ⟨Xyw hm,rfl,fun y' hy' hv' hne'=>⟨?_,fun e=>hne' (Xbn hc hy' hm e),fun j hj=>Xxw hc hi (by omega) (by omega) hy' hv' hne' hj⟩,fun y' hy' hv'=>(Xre hy' hv').imp id fun g=>⟨g.1,fun e=>by rw[e] at g;omega⟩⟩ (fun j hj1 hj2=>by have e:=Int.toNat_of_nonneg (show 0≤y.a+1 by omega);exact Xwp (j:=(y.a+1).toNat+j) z0 (by omega) (by omega) (by omega)) ⟨by rw[upd_same,Xfz],look_ne hne hp2,by rw[Xcn,Xbp];exact hz,by rw[Xcn,Xbp];exact k1,k4,k3⟩
     refine Xui hy' ?_
     obtain⟨_,y1,_,_⟩:=hc.mem y' hy'
     have a1:=apart hc hm hy' (fun e=>hne' e.symm) (i:=y'.a) (Int.le_refl _) (by omega)
     rcases Xmo hc hi with e | ⟨p,hp,hpv,hpa,e⟩
     · omega
     · have hyp:p≠y':=fun w=>by rw[w,hv'] at hpv;cases hpv
       have a2:=apart hc hp hy' hyp (i:=y'.a) (Int.le_refl _) (by omega)
       omega
 · walk_at "go"
   exact⟨r,x,dx,a,cs,ps,y,c,b,rfl,S1,hm,hv,h1,h2,fun hn H2 s2=>qn (Xmk hn) H2 (s1.trans s2),fun s hn a' cs' H2 na2 k2 l2 L2 O2 S2=>q ⟨s,c+2,true⟩ _ a' cs' _ H2 rfl (by obtain⟨_,_,_,_,_,_,g⟩:=Xua h2 hn;exact g) (s1.free na2) ((Xaz.of s1).trans k2) l2 L2 O2 S2⟩
def Xpc:W4→Str
 | .first=>"first"
 | .best=>"best"
 | .next=>"next"
 | .likes=>"likes"
theorem Xko {C:W4→Addr}{i:W4}{x dx a:Addr}{n:Int}{H H1 H2:Hp}(n1:1≤n)(n2:n≤1200)(nx:H x=none)(s:Same H H1)(k:Xaz x H1 H2)(hx:H2 x=some (.ins (C i) dx (fsF i a 0)))(ha:H2 a=some (.lst ((Xcz n).map V.int))):Same H H2∧StS C i x dx a 0 (Xcz n) [⟨0,n,false⟩] H2:=by
 obtain⟨f1,f2⟩:=Xhz n1
 have fl:=Xdt (show 0≤n by omega)
 exact⟨fun b o h=>k b o (fun e=>by rw[e,nx] at h;cases h) (s b o h),⟨hx,ha,by omega,f1,f2,Xct _⟩⟩
def spOf (C:W4→Addr)(CN CS:Addr):Sp:=fun vs H Q E=>∃(wd:Str) (n:Int),vs=[.str wd,.int n]∧n≤1200∧((∀i,wd≠Xpc i)→∀H',Same H H'→E (.ref CN) none H')∧(∀i,wd=Xpc i→n<1→∀H',Same H H'→E (.ref CS) none H') ∧
 (∀i,wd=Xpc i→1≤n→∀(x dx a:Addr) (H':Hp),H x=none→H a=none→Same H H'→StS C i x dx a 0 (Xcz n) [⟨0,n,false⟩] H'→Q (.ref x) H')
theorem d_Z19 (S:Src K mg "stretches_of" Xud)(T:Txt K mg Y0 Y7 Y9 Y4 Y3 Y6 Y12 Y2 Y8 Y5 Y1 Y10 Y13 Y14 Y11 W0_ W1_)(D_First:Makex P w K mg base "First" Y10 3 ["self","size"] [] (spMk Y10 Y9))(D_Best:Makex P w K mg base "Best" Y13 3 ["self","size"] [] (spMk Y13 Y9))(D_Next:Makex P w K mg base "Next" Y14 4 ["self","size"] [] (XNn Y14 Y9))(D_Likes:Makex P w K mg base "Likes" Y11 3 ["self","size"] [] (spMk Y11 Y9)):Defx P w K mg base "stretches_of" 6 ["word","size"] (spOf (cF Y10 Y13 Y14 Y11) Y7 Y9):=by
 refine S.okx XJi XMy (fun vs H Q E h=>by revert h;walk_at "len") (fun f cdv A outer s H vs Q E hr h=>?_)
 refine⟨_,(Xab (Xbi (Xaj Xfl (pv 0) Xdi (Xao _)) (Xac (Xak (Xhf D_First Xgt hr (by rfl) (Xaa (pv 1) Xad)))) Xap) (Xab (Xbi (Xaj Xfl (pv 0) Xdi (Xao _)) (Xac (Xak (Xhf D_Best Xgt hr (by rfl) (Xaa (pv 1) Xad)))) Xap) (Xab (Xbi (Xaj Xfl (pv 0) Xdi (Xao _)) (Xac (Xak (Xhf D_Next Xgt hr (by rfl) (Xaa (pv 1) Xad)))) Xap) (Xab (Xbi (Xaj Xfl (pv 0) Xdi (Xao _)) (Xac (Xak (Xhf D_Likes Xgt hr (by rfl) (Xaa (pv 1) Xad)))) Xap) (Xac (Xef T.x_NoName hr.hd rfl (Xaa Xdi Xad))))))),?_⟩
 obtain⟨wd,n,rfl,h4,qn,qs,q⟩:=h
 walk_at "go"
 refine Xdl (fun h_first=>?_) (fun h_first=>?_)
 · walk_at "go"
   intro x dx nx ndx nex
   have s6:Same H (upd (upd H dx (.own x)) x (.ins Y10 dx [])):=(Same.new ndx).put nx
   refine⟨x,dx,n,rfl,upd_same,by omega,fun hn=>qs W4.first h_first hn _ s6,fun h1 a H7 na7 k7 hx7 ha7=>⟨rfl,?_⟩⟩
   obtain⟨s7,S7⟩:=Xko (C:=(cF Y10 Y13 Y14 Y11)) (i:=W4.first) h1 h4 nx s6 k7 hx7 ha7
   walk_at "go"
   exact q W4.first h_first h1 x dx a H7 nx (s6.free na7) s7 S7
 walk_at "go"
 refine Xdl (fun h_best=>?_) (fun h_best=>?_)
 · walk_at "go"
   intro x dx nx ndx nex
   have s6:Same H (upd (upd H dx (.own x)) x (.ins Y13 dx [])):=(Same.new ndx).put nx
   refine⟨x,dx,n,rfl,upd_same,by omega,fun hn=>qs W4.best h_best hn _ s6,fun h1 a H7 na7 k7 hx7 ha7=>⟨rfl,?_⟩⟩
   obtain⟨s7,S7⟩:=Xko (C:=(cF Y10 Y13 Y14 Y11)) (i:=W4.best) h1 h4 nx s6 k7 hx7 ha7
   walk_at "go"
   exact q W4.best h_best h1 x dx a H7 nx (s6.free na7) s7 S7
 walk_at "go"
 refine Xdl (fun h_next=>?_) (fun h_next=>?_)
 · walk_at "go"
   intro x dx nx ndx nex
   have s6:Same H (upd (upd H dx (.own x)) x (.ins Y14 dx [])):=(Same.new ndx).put nx
   refine⟨x,dx,n,rfl,upd_same,by omega,fun hn=>qs W4.next h_next hn _ s6,fun h1 a H7 na7 k7 hx7 ha7=>⟨rfl,?_⟩⟩
   obtain⟨s7,S7⟩:=Xko (C:=(cF Y10 Y13 Y14 Y11)) (i:=W4.next) h1 h4 nx s6 k7 hx7 ha7
   walk_at "go"
   exact q W4.next h_next h1 x dx a H7 nx (s6.free na7) s7 S7
 walk_at "go"
 refine Xdl (fun h_likes=>?_) (fun h_likes=>?_)
 · walk_at "go"
   intro x dx nx ndx nex
   have s6:Same H (upd (upd H dx (.own x)) x (.ins Y11 dx [])):=(Same.new ndx).put nx
   refine⟨x,dx,n,rfl,upd_same,by omega,fun hn=>qs W4.likes h_likes hn _ s6,fun h1 a H7 na7 k7 hx7 ha7=>⟨rfl,?_⟩⟩
   obtain⟨s7,S7⟩:=Xko (C:=(cF Y10 Y13 Y14 Y11)) (i:=W4.likes) h1 h4 nx s6 k7 hx7 ha7
   walk_at "go"
   exact q W4.likes h_likes h1 x dx a H7 nx (s6.free na7) s7 S7
 walk_at "go"
 refine qn (fun i e=>?_) _ (Same.refl _)
 cases i
 · exact h_first e
 · exact h_best e
 · exact h_next e
 · exact h_likes e
theorem XSz (S:Src K mg "_law_cell_at" Xsx)(T:Txt K mg Y0 Y7 Y9 Y4 Y3 Y6 Y12 Y2 Y8 Y5 Y1 Y10 Y13 Y14 Y11 W0_ W1_) :Defx P w K mg base "_law_cell_at" 1 ["_law_script","_law_k"] (Xtl K):=by
 refine S.okx XJo XQh (fun vs H Q E h=>by revert h;walk_at "len") (fun f cdv A outer s H vs Q E hr h=>?_)
 refine⟨_,PSs.nox (Xab (Xbi (Xaj Xfk (pv 1) (Xba Xay (by rfl) T.n_len PySem.boot_len (Xaa (pv 0) Xad)) (Xao _)) (Xac (Xak (Xbd Xat (pv 0) (pv 1) (fun _ _=>rfl)))) Xap) (Xac (Xak Xaf))),?_⟩
 obtain⟨a,ns,k,rfl,hS,h0,q⟩:=h
 walk_at "go"
 refine Xdl (fun hc=>?_) (fun hc=>?_)
 · walk_at "go"
   exact q
 · walk_at "go"
   have e:ns.getD k.toNat 0=0:=by
     rw[List.getD_eq_getElem?_getD,List.getElem?_eq_none (by omega)]
     rfl
   rw[e] at q
   exact q
theorem XUb (S:Src K mg "_law_whole" Xti)(T:Txt K mg Y0 Y7 Y9 Y4 Y3 Y6 Y12 Y2 Y8 Y5 Y1 Y10 Y13 Y14 Y11 W0_ W1_) :Defx P w K mg base "_law_whole" 1 ["_law_found"] (Xkl):=by
 refine S.okx XQo XPi (fun vs H Q E h=>by revert h;walk_at "len") (fun f cdv A outer s H vs Q E hr h=>?_)
 refine⟨_,PSs.nox (Xac (Xak (Xqa (Xba Xjr (by rfl) T.n_isinstance PyProof.Rows.boot_isinstance (Xaa (pv 0) (Xaa (Xms (v:=.ty "int") (by rfl) T.n_int PyProof.Rows.boot_int rfl) Xad))) (Xsj (XBh (Xba Xjr (by rfl) T.n_isinstance PyProof.Rows.boot_isinstance (Xaa (pv 0) (Xaa (Xms (v:=.ty "bool") (by rfl) T.n_bool PyProof.Rows.boot_bool rfl) Xad)))))))),?_⟩
 obtain⟨n,rfl,q⟩:=h
 walk_at "go"
 exact q
/-! ### what the law holds -/
theorem Xfa {kvs:List (Key×V)}(nd:(kvs.map (·.1)).Nodup):∀{kv:Key×V},kv∈kvs→valV kvs kv.1=some kv.2:=by
 induction kvs with
 | nil=>intro kv h;cases h
 | cons p r ih =>
   intro kv h
   rw[List.map_cons] at nd
   obtain⟨n1,n2⟩:=List.nodup_cons.mp nd
   rcases List.mem_cons.mp h with g | g
   · subst g
     exact Xhe rfl
   · rw[Xfu (fun e=>n1 (by rw[e];exact List.mem_map.mpr ⟨kv,g,rfl⟩))]
     exact ih n2 g
theorem Xna {kvs:List (Key×V)}{k:Key}(h:∀kv∈kvs,kv.1≠k):valV kvs k=none:=by
 induction kvs with
 | nil=>rfl
 | cons p r ih =>
   rw[Xfu (h p List.mem_cons_self)]
   exact ih fun kv hk=>h kv (List.mem_cons_of_mem _ hk)
theorem Xey {kvs:List (Key×V)}{k:Key}{kv:Key×V}(h:kv∈Xdu kvs k):kv∈kvs∧kv.1≠k:=by
 obtain⟨h1,h2⟩:=List.mem_filter.mp h
 exact⟨h1,by simpa using h2⟩
theorem XFp (n:Nat):(List.replicate n [V.non]).flatten=(List.replicate n (none:Option Int)).map optV:=by
 induction n with
 | zero=>rfl
 | succ n ih=>rw[List.replicate_succ,List.flatten_cons,ih,List.replicate_succ,List.map_cons];rfl
theorem Xss {xs:List V}{i:Nat}{v:V}(h:xs[i]?=some v):atI xs (i:Int)=some v:=by
 have hl:i<xs.length:=(List.getElem?_eq_some_iff.mp h).1
 unfold atI
 rw[Xqy (by omega) (by omega)]
 simpa using h
def RwA (cs:List Int)(ps:List Pc)(a:Addr)(H:Hp)(p:Int)(v:V)(z:Pc):Prop:=∃(b:Addr) (row:List (Option Int)),p=z.a+1∧v = .ref b∧z∈ps∧z.v=true∧H b=some (.lst (row.map optV))∧(row.length:Int)=z.l-2∧b≠a ∧
 ∀(j:Nat) (n:Int),row[j]?=some (some n)→cs[(z.a+1).toNat+j]?=some n
structure HdS (cs:List Int)(ps:List Pc)(a kd:Addr)(kvs:List (Key×V))(m:Nat)(H:Hp):Prop where
 hd:H kd=some (.dK kvs)
 nd:(kvs.map (·.1)).Nodup
 rw:∀kv∈kvs,∃p z,kv.1 = .inl p∧RwA cs ps a H p kv.2 z
 ap:∀kv∈kvs,∀kv'∈kvs,kv.2=kv'.2→kv=kv'
 fw:kvs.length≤m
theorem HdS.same {cs:List Int}{ps:List Pc}{a kd:Addr}{kvs:List (Key×V)}{m:Nat}{H H':Hp}(h:HdS cs ps a kd kvs m H)(s:Same H H'):HdS cs ps a kd kvs m H' :=
 ⟨s kd _ h.hd,h.nd,fun kv hk=>let ⟨p,z,e,b,row,h1,h2,h3,h4,h5,h6,h7,h8⟩:=h.rw kv hk;⟨p,z,e,b,row,h1,h2,h3,h4,s b _ h5,h6,h7,h8⟩,h.ap,h.fw⟩
theorem HdS.left {cs cs':List Int}{ps ps':List Pc}{x a a' kd:Addr}{C dx:Addr}{fs:List (Str×V)}{kvs:List (Key×V)}{m:Nat}{H H':Hp}{gone:Pc→Prop}(h:HdS cs ps a kd kvs m H)(hx:H x=some (.ins C dx fs))(kp:Xaz x H H')(ha:H a'=none)(L:∀y∈ps,y.v=true→¬gone y→y∈ps'∧∀j:Nat,Inn y j→cs'[j]?=cs[j]?)(c0:∀y∈ps,0≤y.a)
   (ng:∀kv∈kvs,∀z,kv.1 = .inl (z.a+1)→z∈ps→¬gone z):HdS cs' ps' a' kd kvs m H':=by
 have hkd:kd≠x:=fun e=>by have:=h.hd;rw[e,hx] at this;cases this
 refine⟨kp kd _ hkd h.hd,h.nd,fun kv hk=>?_,h.ap,h.fw⟩
 obtain⟨p,z,e,b,row,h1,h2,h3,h4,h5,h6,h7,h8⟩:=h.rw kv hk
 have hbx:b≠x:=fun e=>by rw[e,hx] at h5;cases h5
 have hba:b≠a':=fun e=>by rw[e,ha] at h5;cases h5
 obtain⟨l1,l2⟩:=L z h3 h4 (ng kv hk z (by rw[e,h1]) h3)
 refine⟨p,z,e,b,row,h1,h2,l1,h4,kp b _ hbx h5,h6,hba,fun j n hj=>?_⟩
 have hjl:j<row.length:=(List.getElem?_eq_some_iff.mp hj).1
 have:=c0 z h3
 rw[l2 _ ⟨by omega,by omega⟩]
 exact h8 j n hj
theorem HdS.leftD {cs cs':List Int}{ps ps':List Pc}{x a a' kd:Addr}{C dx:Addr}{fs:List (Str×V)}{kvs:List (Key×V)}{m:Nat}{H H':Hp}{gone:Pc→Prop}{key:Key}(h:HdS cs ps a kd kvs m H)(hx:H x=some (.ins C dx fs))(kp:Xaz x H H')(ha:H a'=none)(L:∀y∈ps,y.v=true→¬gone y→y∈ps'∧∀j:Nat,Inn y j→cs'[j]?=cs[j]?)(c0:∀y∈ps,0≤y.a)
   (ng:∀kv∈kvs,kv.1≠key→∀z,kv.1 = .inl (z.a+1)→z∈ps→¬gone z):HdS cs' ps' a' kd (Xdu kvs key) m (upd H' kd (.dK (Xdu kvs key))):=by
 have hd:=h.hd
 have hkd:kd≠x:=fun e=>by rw[e,hx] at hd;cases hd
 refine⟨upd_same,Xkc h.nd,fun kv hk=>?_,fun kv hk kv' hk' e=>h.ap kv (Xey hk).1 kv' (Xey hk').1 e,Nat.le_trans (Xjx _ _) h.fw⟩
 obtain⟨hk1,hk2⟩:=Xey hk
 obtain⟨p,z,e,b,row,h1,h2,h3,h4,h5,h6,h7,h8⟩:=h.rw kv hk1
 have hbx:b≠x:=fun e=>by rw[e,hx] at h5;cases h5
 have hba:b≠a':=fun e=>by rw[e,ha] at h5;cases h5
 have hbk:b≠kd:=fun e=>by rw[e,hd] at h5;cases h5
 obtain⟨l1,l2⟩:=L z h3 h4 (ng kv hk1 hk2 z (by rw[e,h1]) h3)
 refine⟨p,z,e,b,row,h1,h2,l1,h4,look_ne hbk (kp b _ hbx h5),h6,hba,fun j n hj=>?_⟩
 have hjl:j<row.length:=(List.getElem?_eq_some_iff.mp hj).1
 have:=c0 z h3
 rw[l2 _ ⟨by omega,by omega⟩]
 exact h8 j n hj
theorem StS.updK {C:W4→Addr}{k:W4}{x dx a kd:Addr}{r:Int}{cs:List Int}{ps:List Pc}{H:Hp}{kvs kvs':List (Key×V)}(S:StS C k x dx a r cs ps H)(h:H kd=some (.dK kvs)):StS C k x dx a r cs ps (upd H kd (.dK kvs')) :=
 ⟨look_ne (fun e=>by have:=S.hx;rw[e,h] at this;cases this) S.hx,look_ne (fun e=>by have:=S.ha;rw[e,h] at this;cases this) S.ha,S.hz,S.hc,S.mm,S.nj⟩
theorem HdS.add {cs:List Int}{ps:List Pc}{a b kd:Addr}{kvs:List (Key×V)}{m:Nat}{H:Hp}{z:Pc}{row:List (Option Int)}(D:HdS cs ps a kd kvs m H)(hb:H b=some (.lst (row.map optV)))(hz:z∈ps)(hv:z.v=true)(hl:(row.length:Int)=z.l-2)(hba:b≠a)(hc:∀(j:Nat) (n:Int),row[j]?=some (some n)→cs[(z.a+1).toNat+j]?=some n)
   (hno:∀kv∈kvs,kv.1≠.inl (z.a+1)) (hfr:∀kv∈kvs,kv.2≠.ref b):HdS cs ps a kd (kvs++[(.inl (z.a+1),.ref b)]) (m+1) (upd H kd (.dK (kvs++[(.inl (z.a+1),.ref b)]))):=by
 have hd:=D.hd
 have hbk:b≠kd:=fun e=>by rw[e,hd] at hb;cases hb
 refine⟨upd_same,?_,fun kv hk=>?_,fun kv hk kv' hk' e=>?_,?_⟩
 · rw[List.map_append]
   exact Xsy D.nd (fun h=>by obtain⟨kv,h1,h2⟩:=List.mem_map.mp h;exact hno kv h1 h2)
 · rcases List.mem_append.mp hk with g | g
   · obtain⟨p,y,e,b',row',h1,h2,h3,h4,h5,h6,h7,h8⟩:=D.rw kv g
     exact⟨p,y,e,b',row',h1,h2,h3,h4,look_ne (fun e=>by rw[e,hd] at h5;cases h5) h5,h6,h7,h8⟩
   · rw[List.mem_singleton.mp g]
     exact⟨_,z,rfl,b,row,rfl,rfl,hz,hv,look_ne hbk hb,hl,hba,hc⟩
 · rcases List.mem_append.mp hk with g | g
   · rcases List.mem_append.mp hk' with g' | g'
     · exact D.ap kv g kv' g' e
     · rw[List.mem_singleton.mp g'] at e
       exact absurd e (hfr kv g)
   · rcases List.mem_append.mp hk' with g' | g'
     · rw[List.mem_singleton.mp g] at e
       exact absurd e.symm (hfr kv' g')
     · rw[List.mem_singleton.mp g,List.mem_singleton.mp g']
 · rw[List.length_append,List.length_singleton]
   have:=D.fw
   omega
theorem HdS.up {cs:List Int}{ps:List Pc}{a kd:Addr}{kvs:List (Key×V)}{m:Nat}{H:Hp}(D:HdS cs ps a kd kvs m H):HdS cs ps a kd kvs (m+1) H:=⟨D.hd,D.nd,D.rw,D.ap,Nat.le_succ_of_le D.fw⟩
def FrK (x a kd:Addr)(kvs:List (Key×V))(H:Hp)(a':Addr)(kvs':List (Key×V))(H':Hp):Prop:=(∀b o,H b=some o→b≠x→b≠a→b≠kd→(∀kv∈kvs,kv.2≠.ref b)→H' b=some o)∧(a'=a∨H a'=none)∧(∀kv∈kvs',(∃kv0∈kvs,kv0.2=kv.2)∨∃b,kv.2 = .ref b∧H b=none)
def Sj (ps:List Pc)(kvs:List (Key×V)):Prop:=∀z∈ps,z.v=true→∃kv∈kvs,kv.1 = .inl (z.a+1)
theorem HdS.put {cs:List Int}{ps:List Pc}{a b kd:Addr}{kvs:List (Key×V)}{m j:Nat}{H H3:Hp}{kv:Key×V}{z:Pc}{row:List (Option Int)}{nv:Int}(D:HdS cs ps a kd kvs m H)(hc:Xai 0 ps cs.length)(hkm:kv∈kvs)(ek:kv.1 = .inl (z.a+1))(eb:kv.2 = .ref b)(hzm:z∈ps)(hzv:z.v=true)(hrl:(row.length:Int)=z.l-2)(hba:b≠a)(hka:kd≠a)(hkb:kd≠b)
   (hct2:∀(j:Nat) (n:Int),row[j]?=some (some n)→cs[(z.a+1).toNat+j]?=some n) (hj:j<row.length) (keep:∀d o,d≠a→d≠b→H d=some o→H3 d=some o) (h3:H3 b=some (.lst ((row.set j (some nv)).map optV))):HdS (cs.set ((z.a+1).toNat+j) nv) ps a kd kvs m H3:=by
 obtain⟨z0,z1,z3,z4⟩:=hc.mem z hzm
 have e1:((z.a+1).toNat:Int)=z.a+1:=Int.toNat_of_nonneg (by omega)
 refine⟨keep kd _ hka hkb D.hd,D.nd,fun kv' hk'=>?_,D.ap,D.fw⟩
 obtain⟨p',z',ek',b',row',h1',h2',h3',h4',h5',h6',h7',h8'⟩:=D.rw kv' hk'
 by_cases hb':b'=b
 · have ekk:kv'=kv:=D.ap kv' hk' kv hkm (by rw[h2',eb,hb'])
   rw[ekk] at ek' h2' ⊢
   refine⟨z.a+1,z,ek,b,row.set j (some nv),rfl,eb,hzm,hzv,h3,by rw[List.length_set];exact hrl,hba,fun j' n' hj'=>?_⟩
   by_cases hjj:j'=j
   · subst hjj
     rw[List.getElem?_set_self hj] at hj'
     have en:nv=n':=Option.some.inj (Option.some.inj hj')
     rw[List.getElem?_set_self (by omega),en]
   · rw[List.getElem?_set_ne (fun e=>hjj e.symm)] at hj'
     rw[List.getElem?_set_ne (by omega)]
     exact hct2 j' n' hj'
 · refine⟨p',z',ek',b',row',h1',h2',h3',h4',keep b' _ h7' hb' h5',h6',h7',fun j' n' hj'=>?_⟩
   have hjl:j'<row'.length:=(List.getElem?_eq_some_iff.mp hj').1
   obtain⟨y0,y1,_,_⟩:=hc.mem z' h3'
   have e1':((z'.a+1).toNat:Int)=z'.a+1:=Int.toNat_of_nonneg (by omega)
   have hzz:z'≠z:=fun e=>hb' (by
     have:kv'.1=kv.1:=by rw[ek',h1',ek,e]
     have v1:=Xfa D.nd hk'
     have v2:=Xfa D.nd hkm
     rw[this,v2,h2',eb] at v1
     cases v1
     rfl)
   have:=apart hc hzm h3' (fun e=>hzz e.symm) (i:=z'.a+1+(j':Int)) (by omega) (by omega)
   rw[List.getElem?_set_ne (by omega)]
   exact h8' j' n' hj'
theorem XGs {ps:List Pc}{L b:Int}{z:Pc}(h:Xbl ps L b=[])(hz:z∈ps)(hv:z.v=false):z.a+z.l<z.a+(b-1-z.a%b)+L:=by
 have:=List.filterMap_eq_nil_iff.mp h z hz
 unfold Xlm at this
 rw[if_neg (by rw[hv];exact Bool.false_ne_true)] at this
 have:=Option.map_eq_none_iff.mp this
 unfold fp at this
 split at this
 · cases this
 · rename_i g
   unfold fpl at g
   omega
def Xkb (K:PySem.W.Frag):Sp:=fun vs H Q _=>∃(r:Addr) (cs:List Int) (ps:List Pc),vs=[.ref r,.int cs.length]∧H r=some (.lst (cs.map V.int))∧Xai 0 ps cs.length∧Xbc cs ps∧Xax ps∧cs.length≤1200∧∀(p:Addr) (us:List V) (H':Hp),H p=none→Same H H'→H' p=some (.lst us)→Xbh H' us ps→Q (.ref p) H'
def WkW (r p:Addr)(n:Int)(ps:List Pc)(H:Hp)(m:Nat)(σ:L2.St)(H':Hp):Prop :=
 ∃(ds rs:List Pc) (us:List V) (k:Int) (x3 x4:Option V),σ=[some (.ref r),some (.int n),some (.ref p),some (.int k),x3,x4]∧m=(n-k).toNat∧ps=ds++rs∧Xai 0 ds k∧Xai k rs n∧Same H H'∧H' p=some (.lst us)∧Xbh H' us ds
theorem XRx (S:Src K mg "_law_walk" Xse)(T:Txt K mg Y0 Y7 Y9 Y4 Y3 Y6 Y12 Y2 Y8 Y5 Y1 Y10 Y13 Y14 Y11 W0_ W1_)(D_Z51:Defx P w K mg base "_law_whole" 1 ["_law_found"] (Xkl)):Defx P w K mg base "_law_walk" 2 ["_law_cells","_law_size"] (Xkb K):=by
 refine S.okx Xjf XJl (fun vs H Q E h=>by revert h;walk_at "len") (fun f cdv A outer s H vs Q E hr h=>?_)
 refine⟨_,PSs.nox (Xab (Xbi (PW.pt (Xek (Xco (Xeg (Xba Xjr (by rfl) T.n_isinstance PyProof.Rows.boot_isinstance (Xaa (pv 0) (Xaa (Xms (v:=.ty "list") (by rfl) T.n_list PyProof.Rows.boot_list rfl) Xad))))) (Xdk (Xaj Xkn (Xba Xay (by rfl) T.n_len PySem.boot_len (Xaa (pv 0) Xad)) (pv 1) (Xao _))))) (Xac (Xak Xcs)) Xap) (Xab (Xan (i:=2) Xjf.nd rfl (Or.inl rfl) (Xer Xad)) (Xab (Xan (i:=3) Xjf.nd rfl (Or.inl rfl) Xaf) (Xab (Xoa PassesOwn.never (Xaj Xfk (pv 3) (pv 1) (Xao _)) (Xab (Xbi (Xco (Xeg (Xah D_Z51 hr (by rfl) (Xaa (Xbd Xat (pv 0) (pv 3) (fun _ _=>rfl)) Xad)))) (Xac (Xak Xcs)) Xap) (Xab (Xan (i:=4) Xjf.nd rfl (Or.inl rfl) (Xal Xmj (Xbd Xat (pv 0) (pv 3) (fun _ _=>rfl)) Xaf)) (Xab (Xan (i:=5) Xjf.nd rfl (Or.inl rfl) (Xih Xfl (Xal Xbu (Xbd Xat (pv 0) (pv 3) (fun _ _=>rfl)) Xaf) Xaf (Xao _))) (Xab (Xbi (PW.pt (Xek (Xaj Xfk (pv 4) Xaf (Xao _)) (Xek (Xaj Xke (pv 4) (Xal Xcx (pv 1) (pv 3)) (Xao _)) (Xek (PW.pt (Xep (Xcd (pv 5) (fun _=>rfl)) (Xem (Xaj Xfk (pv 4) Xaf (Xao _))))) (Xdk (Xaj Xkn (Xbd Xat (pv 0) (Xal Xcx (Xal Xbb (pv 3) (pv 4)) Xaf) (fun _ _=>rfl)) (Xbd Xat (pv 0) (pv 3) (fun _ _=>rfl)) (Xao _))))))) (Xac (Xak Xcs)) Xap) (Xab (Xbi (PW.pt (Xep (Xcd (pv 2) (fun _=>rfl)) (Xep (Xco (Xcd (pv 5) (fun _=>rfl))) (Xem (Xco (Xcd (Xbd Xci (Xbd Xat (pv 2) (Xnl Xie Xaf) (fun _ _=>rfl)) Xaf (fun _ _=>rfl)) (fun _=>rfl))))))) (Xac (Xak Xcs)) Xap) (Xab (Xca (Xrg PySem.F.plainAttrs_list PySem.F.slot_list_append PySem.F.type_list_append Xdy (pv 2) (Xaa (Xew (Xaa (pv 3) (Xaa (pv 4) (Xaa (pv 5) Xad)))) Xad))) (Xac (Xan (i:=3) Xjf.nd rfl (Or.inl rfl) (Xal Xbb (pv 3) (pv 4))))))))))) (Xac (Xak (pv 2))))))),?_⟩
 obtain⟨r,cs,ps,rfl,hR,hc,mk,nj,hz,q⟩:=h
 walk_at "go"
 intro p hp
 walk_at "go"
 refine⟨WkW r p cs.length ps H,⟨_,[],ps,[],0,none,none,rfl,rfl,rfl,rfl,hc,Same.new hp,upd_same,Xbh.nil⟩,?_⟩
 rintro m σ H1 ⟨ds,rs,us,k,x3,x4,rfl,rfl,eps,c1,c2,s1,hp1,pu⟩
 have hul:=pu.1
 have hS1:SqL K H1 r (cs.map V.int):=SqL.of (s1 r _ hR)
 have k0:=c1.le
 walk_at "go"
 refine Xdl (fun hlt=>?_) (fun hlt=>?_)
 · refine⟨fun σ' H''=>∃m',m'<((cs.length:Int)-k).toNat∧WkW r p cs.length ps H m' σ' H'',fun σ' H'' hw=>hw,?_⟩
   cases rs with
   | nil =>
     have:k=cs.length:=c2
     omega
   | cons z r2 =>
     obtain⟨ea,z1,z3,c3⟩:=c2
     have hle:=c3.le
     obtain⟨m1,m2⟩:=mk z (by rw[eps];simp)
     have g1:=Xgk m1
     have g2:=Xgk m2
     rw[ea] at g1 g2
     have e1:cs.getD k.toNat 0=mkOf z.l z.v:=g1
     have e2:cs.getD (k+z.l-1).toNat 0=mkOf z.l z.v:=g2
     have hkl:ds.length≤1200:=by omega
     have fin:∀t,H1 t=none→(∃m',m'<((cs.length:Int)-k).toNat∧WkW r p cs.length ps H m' [some (.ref r),some (.int cs.length),some (.ref p),some (.int (k+z.l)),some (.int z.l),some (.bl z.v)] (upd (upd H1 t (.tup [.int k,.int z.l,.bl z.v])) p (.lst (us++[.ref t])))):=fun t ht=>by
       obtain⟨g1,g2⟩:=Xbh.push (z:=z) pu hp1 ht
       rw[ea] at g2
       refine⟨_,?_,ds++[z],r2,_,k+z.l,_,_,rfl,rfl,by rw[eps];simp,?_,c3,(s1.put (s1.free ht)).put hp,upd_same,g2⟩
       · omega
       · have:=Xai.snoc (p:=z) (by rw[ea];exact c1) z1 z3
         rwa [ea] at this
     walk_at "g1"
     walk_at "g1"
     rw[e1,Xgn]
     walk_at "g1"
     rw[e1,Xhm]
     walk_at "gs"
     rcases Xbk ds with e | ⟨Dd,y,e⟩
     · subst e
       have ew:us=[]:=List.length_eq_zero_iff.mp hul
       subst ew
       cases hv:z.v with
       | true =>
         rw[hv] at fin e1 e2
         have z3:=z3 hv
         walk_at "go"
         refine iteT ?_
         walk_at "go"
         intro t ht
         walk_at "go"
         exact fin t ht
       | false =>
         rw[hv] at fin e1 e2
         walk_at "go"
         refine iteT ?_
         walk_at "go"
         intro t ht
         walk_at "go"
         exact fin t ht
     · subst e
       obtain⟨ui,t1,rfl,pi,h1⟩:=pu.unsnoc
       have hem:(ui++[V.ref t1]).isEmpty=false:=by simp
       have hpl:=pi.1
       rw[List.length_append,List.length_singleton] at hkl
       have hsz:(ui++[V.ref t1]).length<4000:=by rw[List.length_append,List.length_singleton];omega
       cases hv:z.v with
       | true =>
         rw[hv] at fin e1 e2
         have z3:=z3 hv
         walk_at "go"
         rw[hem]
         walk_at "go"
         intro t ht
         walk_at "go"
         exact fin t ht
       | false =>
         rw[hv] at fin e1 e2
         have hyv:y.v=true:=by
           have:=nj Dd.length y z (by rw[eps,List.append_assoc,List.getElem?_append_right (Nat.le_refl _),Nat.sub_self];rfl) (by rw[eps,List.append_assoc,List.getElem?_append_right (Nat.le_succ _),show Dd.length.succ-Dd.length=1 by omega];rfl)
           rw[hv] at this
           exact this.resolve_right Bool.false_ne_true
         rw[hyv] at h1
         walk_at "go"
         rw[hem]
         walk_at "go"
         refine Xga (SqL.of hp1) ?_
         walk_at "go"
         intro t ht
         walk_at "go"
         exact fin t ht
 · have er:rs=[]:=by
     cases rs with
     | nil=>rfl
     | cons z r2 =>
       have:=c2.le
       rw[List.length_cons] at this
       omega
   rw[er,List.append_nil] at eps
   walk_at "go"
   rw[←eps] at pu
   exact q p us H1 hp s1 hp1 pu
def GoB (w p:Int)(g:Option Pc)(ps:List Pc):Prop:=(w=0∧g=none)∨(w=1∧∃z,g=some z∧z∈ps∧z.v=true∧p=z.a+1)
def XAd (C:W4→Addr):Sp:=fun vs H Q _=>∃(k:W4) (r:Int) (x dx a:Addr) (cs:List Int) (ps:List Pc) (w p c b:Int) (g:Option Pc),vs=[.ref x,.int w,.int p,.int c,.int b]∧StS C k x dx a r cs ps H∧GoB w p g ps∧1≤c∧1≤b∧(Xbl ps (c+2) b=[]→∀H',Same H H'→Q .non H') ∧
 (∀(wp:Pc) (r':Int) (a':Addr) (cs':List Int) (ps':List Pc) (H':Hp),wp.l=c+2→(wp.a+1)%b=0→H a'=none→Xaz x H H'→cs'.length=cs.length→XIy ps ps' cs cs' wp (fun y=>g=some y)→(∀z,g=some z→∀j:Nat,(j:Int)<c→(j:Int)<z.l-2→cs'[(wp.a+1).toNat+j]?=cs[(z.a+1).toNat+j]?)→StS C k x dx a' r' cs' ps' H'→Q (.int (wp.a+1)) H')
theorem XSt (S:Src K mg "_law_told" Xrj)(T:Txt K mg Y0 Y7 Y9 Y4 Y3 Y6 Y12 Y2 Y8 Y5 Y1 Y10 Y13 Y14 Y11 W0_ W1_)(D_ask:MethFD P w K mg base (cF Y10 Y13 Y14 Y11) "ask" 8 ["self","count","bound"] [.int 1] (XCg (cF Y10 Y13 Y14 Y11) Y8))(D_Z66:MethFD P w K mg base (cF Y10 Y13 Y14 Y11) "grow" 10 ["self","place","count","bound"] [.int 1] (XBe (cF Y10 Y13 Y14 Y11) Y8)):Defx P w K mg base "_law_told" 11 ["_law_keeper","_law_way","_law_place","_law_count","_law_bound"] (XAd (cF Y10 Y13 Y14 Y11)):=by
 refine S.okx Xmd XNw (fun vs H Q E h=>by revert h;walk_at "len") (fun f cdv A outer s H vs Q E hr h=>?_)
 refine⟨_,PSs.nox (Xab (Xan (i:=5) Xmd.nd rfl (Or.inl rfl) Xcs) (Xab (XGi (XNz (Xaj Xfl (pv 1) Xaf (Xao _)) (Xsg (i:=5) Xmd.nd rfl (Or.inl rfl) (Xnt D_ask.all hr (pv 0) (Xaa (pv 3) (Xaa (pv 4) Xad)))) (Xsg (i:=5) Xmd.nd rfl (Or.inl rfl) (Xnt D_Z66.all hr (pv 0) (Xaa (pv 2) (Xaa (pv 3) (Xaa (pv 4) Xad)))))) ⟨rfl,rfl⟩ (XFk (by rfl) T.c_NoRoom (fun x=>(Xac (Xan (i:=5) Xmd.nd rfl (Or.inl rfl) Xcs))) XLx)) (Xac (Xak (pv 5))))),?_⟩
 obtain⟨k,r,x,dx,a,cs,ps,w,p,c,b,g,rfl,S,hg,h1,h2,qn,q⟩:=h
 have hx:=S.hx
 rcases hg with ⟨rfl,rfl⟩ | ⟨rfl,z,rfl,hzm,hzv,rfl⟩
 · walk_at "go"
   refine⟨r,x,dx,a,cs,ps,c,b,rfl,S,h1,h2,fun hn H1 s1=>⟨_,rfl,fun y hy=>Or.inl ⟨T.f_NoRoom_NoRoom,?_⟩⟩,fun s hn a' cs' H1 na k1 l1 hk1 S1=>?_⟩
   · have s2:=s1.put (o:=ExcO y Y8 none) (s1.free hy)
     generalize upd H1 y (ExcO y Y8 none)=H2 at s2 ⊢
     walk_at "go"
     exact qn (Xmk hn) H2 s2
   · walk_at "go"
     obtain⟨i0,z0,hi0,hv0,g1,g2,g3⟩:=Xua h2 hn
     have hm0:=List.mem_of_getElem? hi0
     refine q ⟨s,c+2,true⟩ _ a' cs' _ H1 rfl g3 na k1 l1 ⟨Xnu hm0 hv0 g1 (by omega),rfl,fun y hy hyv _=>⟨Xht hy hyv,fun e=>?_,hk1 y hy hyv⟩,fun y hy hyv=>(Xlq hy hyv).imp id fun h=>⟨h,fun e=>by cases e⟩⟩ (fun z e=>by cases e) S1
     have e:y.a=s:=e
     obtain⟨_,y1,_,_⟩:=S.hc.mem y hy
     have:=Xcl S.hc hm0 hy g1 (by omega) (show y.a≤s by omega) (by omega)
     rw[this,hyv] at hv0
     cases hv0
 · obtain⟨i,hi⟩:=List.getElem?_of_mem hzm
   walk_at "go"
   refine⟨r,x,dx,a,cs,ps,i,z,c,b,rfl,S,hi,hzv,h1,h2,fun hn H1 s1=>⟨_,rfl,fun y hy=>Or.inl ⟨T.f_NoRoom_NoRoom,?_⟩⟩,fun wp r' a' cs' ps' H1 hw hb na k1 l1 L1 O1 S1=>?_⟩
   · have s2:=s1.put (o:=ExcO y Y8 none) (s1.free hy)
     generalize upd H1 y (ExcO y Y8 none)=H2 at s2 ⊢
     walk_at "go"
     exact qn hn H2 s2
   · walk_at "go"
     exact q wp r' a' cs' ps' H1 hw hb na k1 l1 ⟨L1.1,L1.2.1,fun y hy hyv hn=>L1.2.2.1 y hy hyv (fun e=>hn (by rw[e])),fun y hy hyv=>(L1.2.2.2 y hy hyv).imp id fun h=>⟨h.1,fun e=>h.2 (Option.some.inj e).symm⟩⟩ (fun z' e j hj1 hj2=>by cases e;exact O1 j hj1 hj2) S1
def Xnz:Sp:=fun vs H Q _=>∃(p:Addr) (us:List V) (ps:List Pc) (L b:Int),vs=[.ref p,.int L,.int b]∧H p=some (.lst us)∧Xbh H us ps∧1≤b∧Xbl ps L b=[]∧Q (.bl true) H
def NaW (p:Addr)(L b:Int)(H:Hp)(i:Nat)(σ:L2.St)(H':Hp):Prop:=∃x3 x4:Option V,σ=[some (.ref p),some (.int L),some (.int b),x3,x4]∧H'=H
theorem XTi (S:Src K mg "_law_narrow" Xqx)(T:Txt K mg Y0 Y7 Y9 Y4 Y3 Y6 Y12 Y2 Y8 Y5 Y1 Y10 Y13 Y14 Y11 W0_ W1_) :Defx P w K mg base "_law_narrow" 1 ["_law_pieces","_law_long","_law_bound"] (Xnz):=by
 refine S.okx Xsp XLh (fun vs H Q E h=>by revert h;walk_at "len") (fun f cdv A outer s H vs Q E hr h=>?_)
 refine⟨_,PSs.nox (Xab (Xel PassesOwn.never rfl (Xcq (pv 0)) (Xar (i:=3) Xsp.nd rfl (Or.inl rfl)) (Xab (Xan (i:=4) Xsp.nd rfl (Or.inl rfl) (Xal Xbb (Xbd Xci (pv 3) Xaf (fun _ _=>rfl)) (Xal Xbu (Xal Xcx (Xal Xcx Xaf (Xbd Xci (pv 3) Xaf (fun _ _=>rfl))) Xaf) (pv 2)))) (Xac (Xbi (PW.pt (Xep (Xco (Xcd (Xbd Xci (pv 3) Xaf (fun _ _=>rfl)) (fun _=>rfl))) (Xem (Xaj XOk (Xal Xbb (pv 4) (pv 1)) (Xal Xbb (Xbd Xci (pv 3) Xaf (fun _ _=>rfl)) (Xbd Xci (pv 3) Xaf (fun _ _=>rfl))) (Xao _))))) (Xac (Xak Xdh)) Xap)))) (Xac (Xak Xdh))),?_⟩
 obtain⟨p,us,ps,L,b,rfl,hp,pa,hb,hn,q⟩:=h
 walk_at "go"
 refine⟨p,rfl,⟨_,SqL.of hp⟩,Xdn (K:=K) (a:=p) (xs:=us) (NaW p L b H) ⟨none,none,rfl,rfl⟩ (fun i σ H2 _ ⟨_,_,_,h⟩=>by rw[h];exact SqL.of hp) ?_ ?_⟩
 · rintro i y σ H2 hi ⟨x3,x4,rfl,rfl⟩
   have hil:i<us.length:=(List.getElem?_eq_some_iff.mp hi).1
   have hpl:=pa.1
   obtain⟨z,hzi⟩:∃z,ps[i]?=some z:=⟨_,List.getElem?_eq_getElem (by omega)⟩
   obtain⟨t,et,hT⟩:=pa.2 i z hzi
   have ey:y = .ref t:=Option.some.inj (hi.symm.trans et)
   subst ey
   have nm:=XCi (a:=z.a) hb
   walk_at "gs"
   rw[nm]
   cases hv:z.v with
   | true =>
     walk_at "go"
     exact⟨_,_,rfl,rfl⟩
   | false =>
     have:=XGs hn (List.mem_of_getElem? hzi) hv
     walk_at "go"
     exact⟨_,_,rfl,rfl⟩
 · rintro σ H2 ⟨x3,x4,rfl,rfl⟩
   walk_at "go"
   exact q
def XMm (C:W4→Addr):Sp:=fun vs H Q _=>∃(k:W4) (r:Int) (x dx a kd:Addr) (cs:List Int) (ps:List Pc) (kvs:List (Key×V)) (m:Nat) (c0 w p:Int) (g:Option Pc),vs=[.ref x,.ref kd,.int w,.int p,.int c0]∧StS C k x dx a r cs ps H∧HdS cs ps a kd kvs m H∧Sj ps kvs∧m≤300∧GoB w p g ps ∧
 ∀(a':Addr) (r':Int) (cs':List Int) (ps':List Pc) (kvs':List (Key×V)) (H':Hp),FrK x a kd kvs H a' kvs' H'→cs'.length=cs.length→StS C k x dx a' r' cs' ps' H'→HdS cs' ps' a' kd kvs' (m+1) H'→Sj ps' kvs'→Q (.bl true) H'
def NwM (C:W4→Addr)(k:W4)(r':Int)(x dx a' kd pb:Addr)(cs':List Int)(ps':List Pc)(kvs:List (Key×V))(m:Nat)(c0 w p ct bd:Int)(wp:Pc)(H:Hp)(σ:L2.St)(H':Hp):Prop :=
 ∃(b:Addr) (row:List (Option Int)) (kvs1:List (Key×V)),σ=[some (.ref x),some (.ref kd),some (.int w),some (.int p),some (.int c0),some (.int ct),some (.int bd),some (.ref pb),some (.int (wp.a+1)),none,some (.ref b)]∧H' b=some (.lst (row.map optV))∧StS C k x dx a' r' cs' ps' H'∧HdS cs' ps' a' kd kvs1 m H'∧(∀kv∈kvs1,kv.1≠.inl (wp.a+1)) ∧
   (∀d o,H d=some o→d≠x→d≠kd→H' d=some o)∧(∀kv∈kvs1,kv∈kvs)∧(∀(j:Nat) (n:Int),row[j]?=some (some n)→(j:Int)<ct→cs'[(wp.a+1).toNat+j]?=some n)∧row.length≤1200∧∀z∈ps',z.v=true→z=wp∨∃kv∈kvs1,kv.1 = .inl (z.a+1)
theorem XRg (S:Src K mg "_law_new" Xsq)(T:Txt K mg Y0 Y7 Y9 Y4 Y3 Y6 Y12 Y2 Y8 Y5 Y1 Y10 Y13 Y14 Y11 W0_ W1_)(D_Z61:Xbj P w K mg base (cF Y10 Y13 Y14 Y11) "cells" 1 ["self"] [] (Xfv (cF Y10 Y13 Y14 Y11)))(D_Z57:Defx P w K mg base "_law_told" 11 ["_law_keeper","_law_way","_law_place","_law_count","_law_bound"] (XAd (cF Y10 Y13 Y14 Y11)))(D_Z55:Defx P w K mg base "_law_walk" 2 ["_law_cells","_law_size"] (Xkb K))(D_Z41:Defx P w K mg base "_law_narrow" 1 ["_law_pieces","_law_long","_law_bound"] (Xnz))(D_Z51:Defx P w K mg base "_law_whole" 1 ["_law_found"] (Xkl)):Defx P w K mg base "_law_new" 12 ["_law_keeper","_law_held","_law_way","_law_place","_law_c"] (XMm (cF Y10 Y13 Y14 Y11)):=by
 refine S.okx Xgu XJr (fun vs H Q E h=>by revert h;walk_at "len") (fun f cdv A outer s H vs Q E hr h=>?_)
 refine⟨_,PSs.nox (Xab (Xan (i:=5) Xgu.nd rfl (Or.inl rfl) (Xal Xbb Xaf (Xal Xbu (Xal Xbu (Xal Xfi (pv 4) Xaf) Xaf) (Xbd Xat (Xer (Xaa Xaf (Xaa Xaf (Xaa Xaf Xad)))) (Xal Xbu (pv 4) Xaf) (fun _ _=>rfl))))) (Xab (Xan (i:=6) Xgu.nd rfl (Or.inl rfl) (Xbd Xat (Xer (Xaa Xaf (Xaa (Xal Xbb Xaf (Xal Xbu (Xal Xbu (Xal Xfi (pv 4) Xaf) Xaf) Xaf)) (Xaa (Xal Xbb Xaf (Xal Xbu (Xal Xbu (Xal Xfi (pv 4) Xaf) Xaf) Xaf)) Xad)))) (Xal Xbu (Xal Xbu (Xal Xfi (pv 4) Xaf) Xaf) Xaf) (fun _ _=>rfl))) (Xab (Xan (i:=7) Xgu.nd rfl (Or.inl rfl) (Xda D_Z61 Xbq hr (pv 0))) (Xab (Xan (i:=8) Xgu.nd rfl (Or.inl rfl) (Xah D_Z57 hr (by rfl) (Xaa (pv 0) (Xaa (pv 2) (Xaa (pv 3) (Xaa (pv 5) (Xaa (pv 6) Xad))))))) (Xab (Xbi (Xaj Xnq (pv 8) Xcs (Xao _)) (Xab (Xan (i:=9) Xgu.nd rfl (Or.inl rfl) (Xah D_Z55 hr (by rfl) (Xaa (pv 7) (Xaa (Xba Xay (by rfl) T.n_len PySem.boot_len (Xaa (pv 7) Xad)) Xad)))) (Xac (Xak (Xqa (Xih (XQb hr.units) (Xda D_Z61 Xbq hr (pv 0)) (pv 7) (Xao _)) (Xqa (Xih Xkj (pv 9) Xcs (Xao _)) (Xsj (Xah D_Z41 hr (by rfl) (Xaa (pv 9) (Xaa (Xal Xbb (pv 5) Xaf) (Xaa (pv 6) Xad)))))))))) Xap) (Xab (Xan (i:=10) Xgu.nd rfl (Or.inl rfl) (Xer Xad)) (Xab (Xbi (Xaj Xfl (pv 2) Xaf (Xao _)) (Xac (Xan (i:=10) Xgu.nd rfl (Or.inl rfl) (Xok (pv 1) (pv 3) ⟨rfl,rfl,rfl,rfl⟩))) Xap) (Xab (Xbi (PW.pt (Xek (Xco (Xeg (Xah D_Z51 hr (by rfl) (Xaa (pv 8) Xad)))) (Xek (XLi (XJn (Xfn hr.units) (pv 8) (pv 1))) (Xdk (Xaj Xke (Xal Xbu (pv 8) (pv 6)) Xaf (Xao _)))))) (Xac (Xak Xdh)) Xap) (Xab (Xtw (Xfn hr.units) (pv 1) (pv 8) (Xgd Xhq (Xal Xum (pv 10) (Xal XAv (Xer (Xaa Xcs Xad)) (pv 5))) Xnf (Xfj (pv 5))) rfl) (Xac (Xak Xdh))))))))))),?_⟩
 obtain⟨k,r,x,dx,a,kd,cs,ps,kvs,m,c0,w,p,g,rfl,S,D,sj,hm,hg,q⟩:=h
 obtain⟨hx,ha,hz,hc,mk,nj⟩:=id S
 have hkd:=D.hd
 have c0':∀y∈ps,0≤y.a:=fun y hy=>(hc.mem y hy).1
 have t0:=Int.emod_nonneg c0 (show (3:Int)≠0 by decide)
 have t1:=Int.emod_lt_of_pos c0 (show (0:Int)<3 by decide)
 have f0:=Int.emod_nonneg (c0*48271%65537) (show (3:Int)≠0 by decide)
 have f1:=Int.emod_lt_of_pos (c0*48271%65537) (show (0:Int)<3 by decide)
 have hmm:1≤([9,14,30]:List Int).getD (c0%3).toNat 0∧([9,14,30]:List Int).getD (c0%3).toNat 0≤30:=by
   rcases(show (c0%3).toNat=0∨(c0%3).toNat=1∨(c0%3).toNat=2 by omega) with h | h | h <;> rw[h] <;> decide
 walk_at "go"
 intro p1 np1
 have s1:Same H (upd H p1 (.lst [.int 9,.int 14,.int 30])):=Same.new np1
 have hp1:upd H p1 (.lst [.int 9,.int 14,.int 30]) p1=some (.lst (([9,14,30]:List Int).map V.int)):=upd_same
 generalize upd H p1 (.lst [.int 9,.int 14,.int 30])=H1 at s1 hp1 ⊢
 walk_at "go"
 obtain⟨ct,ect,ct1,ct2⟩:∃ct:Int,1+c0*16807%10007%([9,14,30]:List Int).getD (c0%3).toNat 0=ct∧1≤ct∧ct≤30:=⟨_,rfl,by
   have:=Int.emod_nonneg (c0*16807%10007) (show ([9,14,30]:List Int).getD (c0%3).toNat 0≠0 by omega)
   omega,by
   have:=Int.emod_lt_of_pos (c0*16807%10007) (show 0<([9,14,30]:List Int).getD (c0%3).toNat 0 by omega)
   omega⟩
 rw[ect]
 clear ect t0 t1 hmm
 have b9:=Int.emod_nonneg (c0*40692%21013) (show (9:Int)≠0 by decide)
 have b60:=Int.emod_nonneg (c0*28629%12041) (show (60:Int)≠0 by decide)
 have hBd:1≤([1,1+c0*40692%21013%9,1+c0*28629%12041%60]:List Int).getD (c0*48271%65537%3).toNat 0:=by
   rcases(show (c0*48271%65537%3).toNat=0∨(c0*48271%65537%3).toNat=1∨(c0*48271%65537%3).toNat=2 by omega) with h | h | h <;> rw[h]
   · exact Int.le_refl 1
   · show 1≤1+c0*40692%21013%9
     omega
   · show 1≤1+c0*28629%12041%60
     omega
 intro p2 np2
 have s2:Same H (upd H1 p2 (.lst [.int 1,.int (1+c0*40692%21013%9),.int (1+c0*28629%12041%60)])):=s1.trans (Same.new np2)
 have hp2:upd H1 p2 (.lst [.int 1,.int (1+c0*40692%21013%9),.int (1+c0*28629%12041%60)]) p2=some (.lst (([1,1+c0*40692%21013%9,1+c0*28629%12041%60]:List Int).map V.int)):=upd_same
 generalize upd H1 p2 (.lst [.int 1,.int (1+c0*40692%21013%9),.int (1+c0*28629%12041%60)])=H2 at s2 hp2 ⊢
 have hx2:=s2 x _ hx
 have ha2:=s2 a _ ha
 walk_at "go"
 generalize ([1,1+c0*40692%21013%9,1+c0*28629%12041%60]:List Int).getD (c0*48271%65537%3).toNat 0=bd at hBd ⊢
 clear hp1 hp2 s1 np1 np2 b9 b60 f0 f1
 refine⟨r,x,dx,a,cs,rfl,hx2,ha2,fun pb H3 npb s3' hpb=>?_⟩
 have s3:=s2.trans s3'
 clear s2 s3' hx2 ha2
 have S3:=S.same s3
 have hx3:=S3.hx
 walk_at "go"
 refine⟨k,r,x,dx,a,cs,ps,w,p,ct,bd,g,rfl,S3,hg,ct1,hBd,fun hn H4 s4=>?_,fun wp r' a' cs' ps' H4 hwl hwb na4 k4 l4 L4 O4 S4=>?_⟩
 · have s04:=s3.trans s4
   have S4:=S.same s04
   have hx4:=S4.hx
   have hpb4:=s4 pb _ hpb
   have hlm:(cs.map V.int).length=cs.length:=List.length_map _
   walk_at "go"
   refine⟨pb,cs,ps,rfl,hpb4,hc,mk,nj,hz,fun pw us H5 npw s5 hpw pa=>?_⟩
   have S5:=S4.same s5
   have hx5:=S5.hx
   walk_at "go"
   refine⟨r,x,dx,a,cs,rfl,hx5,S5.ha,fun pc H6 npc s6 hpc=>?_⟩
   walk_at "go"
   refine⟨pc,pb,cs,cs,rfl,rfl,SqL.of hpc,SqL.of ((s5.trans s6) pb _ hpb4),?_⟩
   rw[decide_eq_true rfl]
   walk_at "go"
   refine⟨pw,us,ps,ct+2,bd,rfl,s6 pw _ hpw,pa.same s6,hBd,hn,?_⟩
   walk_at "go"
   have sA:=s04.trans (s5.trans s6)
   exact q a r cs ps kvs H6 ⟨fun d o hd _ _ _ _=>sA d o hd,.inl rfl,fun kv hk=>.inl ⟨kv,hk,rfl⟩⟩ rfl (S.same sA) ((D.same sA).up) sj
 have D3:=D.same s3
 have hkd3:=D3.hd
 have hkx:kd≠x:=fun e=>by rw[e,hx3] at hkd3;cases hkd3
 have hkd4:=k4 kd _ hkx hkd3
 have hx4:=S4.hx
 obtain⟨w0,w1,w2,w3⟩:=S4.hc.mem wp L4.1
 walk_at "gs"
 walk_at "g1"
 walk_at "g1"
 intro b0 nb0
 walk_at "gs"
 refine XAz (M:=NwM (cF Y10 Y13 Y14 Y11) k r' x dx a' kd pb cs' ps' kvs m c0 w p ct bd wp H) ?_ (fun nx hM=>?_)
 · rintro σ' H' ⟨b,row,kvs1,rfl,hb,S5,D5,hno,fr,hin,hct2,hrl,hsj⟩
   have hkd5:=D5.hd
   walk_at "go"
   refine⟨kd,_,rfl,DGet.k (k:=.inl (wp.a+1)) hkd5,?_⟩
   rw[Xna hno]
   walk_at "go"
   refine iteF ?_
   walk_at "go"
   intro l6 nl6
   walk_at "go"
   refine⟨l6,ct,_,rfl,rfl,upd_same,by omega,by omega,(by show 1*ct.toNat≤sizeLine;exact Nat.le_of_lt (small4000 (by omega))),fun b6 nb6=>?_⟩
   rw[XFp]
   have s6:Same H' (upd (upd H' l6 (.lst [.non])) b6 (.lst ((List.replicate ct.toNat (none:Option Int)).map optV))):=(Same.new nl6).trans (Same.new nb6)
   have h6:upd (upd H' l6 (.lst [.non])) b6 (.lst ((List.replicate ct.toNat (none:Option Int)).map optV)) b6=some (.lst ((List.replicate ct.toNat (none:Option Int)).map optV)):=upd_same
   generalize upd (upd H' l6 (.lst [.non])) b6 (.lst ((List.replicate ct.toNat (none:Option Int)).map optV))=H6 at s6 h6 ⊢
   refine⟨b,b6,row.map optV,(List.replicate ct.toNat (none:Option Int)).map optV,rfl,rfl,s6 b _ hb,h6,Nat.le_of_lt (small4000 (by rw[List.length_map,List.length_map,List.length_replicate];omega)),fun b7 nb7=>?_⟩
   rw[←List.map_append]
   have s7:=s6.trans (Same.new (o:=.lst ((row++List.replicate ct.toNat (none:Option Int)).map optV)) nb7)
   have h7:upd H6 b7 (.lst ((row++List.replicate ct.toNat (none:Option Int)).map optV)) b7=some (.lst ((row++List.replicate ct.toNat (none:Option Int)).map optV)):=upd_same
   generalize upd H6 b7 (.lst ((row++List.replicate ct.toNat (none:Option Int)).map optV))=H7 at s7 h7 ⊢
   walk_at "go"
   intro b8 nb8
   have ecut:cutV ((row++List.replicate ct.toNat (none:Option Int)).map optV) none (some ct)=((row++List.replicate ct.toNat (none:Option Int)).map optV).take ct.toNat:=by
     have:=XJe ((row++List.replicate ct.toNat (none:Option Int)).map optV) ct.toNat (by rw[List.length_map,List.length_append,List.length_replicate];omega)
     rwa [Int.toNat_of_nonneg (by omega)] at this
   rw[ecut,←List.map_take]
   have nb5:H' b8=none:=s7.free nb8
   obtain⟨row8,er8⟩:∃r8,(row++List.replicate ct.toNat (none:Option Int)).take ct.toNat=r8:=⟨_,rfl⟩
   rw[er8]
   have lr8:row8.length=ct.toNat:=by rw[←er8,List.length_take,List.length_append,List.length_replicate];omega
   have cr8:∀(j:Nat) (n:Int),row8[j]?=some (some n)→(j:Int)<ct∧row[j]?=some (some n):=fun j n hj=>by
     have hjl:j<ct.toNat:=by rw[←lr8];exact(List.getElem?_eq_some_iff.mp hj).1
     rw[←er8,List.getElem?_take,if_pos hjl] at hj
     rcases Nat.lt_or_ge j row.length with g | g
     · rw[List.getElem?_append_left g] at hj
       exact⟨by omega,hj⟩
     · rw[List.getElem?_append_right g,List.getElem?_replicate] at hj
       split at hj <;> cases hj
   have s8:Same H' (upd H7 b8 (.lst (row8.map optV))):=s7.trans (Same.new nb8)
   have h8:upd H7 b8 (.lst (row8.map optV)) b8=some (.lst (row8.map optV)):=upd_same
   generalize upd H7 b8 (.lst (row8.map optV))=H8 at s8 h8 ⊢
   have D8:=D5.same s8
   have S8:=S5.same s8
   have hfr:∀kv∈kvs1,kv.2≠.ref b8:=fun kv hk e=>by
     obtain⟨_,_,_,b',row',_,h2,_,_,h5,_⟩:=D5.rw kv hk
     rw[h2] at e
     cases e
     rw[nb5] at h5
     cases h5
   have hkd8:=D8.hd
   walk_at "go"
   refine⟨kd,_,rfl,DPut.k (k:=.inl (wp.a+1)) hkd8 (small4000 (by have:=D8.fw;omega)),?_⟩
   rw[Xnr _ (Xna hno)]
   walk_at "go"
   have hba8:b8≠a':=fun e=>by have:=S5.ha;rw[←e,nb5] at this;cases this
   have D9:=D8.add (row:=row8) h8 L4.1 L4.2.1 (by omega) hba8 (fun j n hj=>by obtain⟨g1,g2⟩:=cr8 j n hj;exact hct2 j n g2 g1) hno hfr
   refine q a' r' cs' ps' _ _ ⟨fun d o hd n1 n2 n3 n4=>look_ne n3 (s8 d o (fr d o hd n1 n3)),.inr (s3.free na4),fun kv hk=>?_⟩ l4 (S8.updK D8.hd) D9 (fun z hz hv=>?_)
   · rcases List.mem_append.mp hk with g | g
     · exact .inl ⟨kv,hin kv g,rfl⟩
     · refine .inr ⟨b8,by rw[List.mem_singleton.mp g],?_⟩
       cases e:H b8 with
       | none=>rfl
       | some o =>
         have n1:b8≠x:=fun w=>by have:=S5.hx;rw[←w,nb5] at this;cases this
         have n3:b8≠kd:=fun w=>by have:=D5.hd;rw[←w,nb5] at this;cases this
         have:=fr b8 o e n1 n3
         rw[nb5] at this
         cases this
   · rcases hsj z hz hv with e | ⟨kv,g1,g2⟩
     · exact⟨_,List.mem_append_right _ (List.mem_singleton.mpr rfl),by rw[e]⟩
     · exact⟨kv,List.mem_append_left _ g1,g2⟩
 · have s5:Same H4 (upd H4 b0 (.lst [])):=Same.new nb0
   have hb0:upd H4 b0 (.lst []) b0=some (.lst (([]:List (Option Int)).map optV)):=upd_same
   generalize upd H4 b0 (.lst [])=H5 at s5 hb0 ⊢
   have S5:=S4.same s5
   have hkd5:=s5 kd _ hkd4
   have fr5:∀d o,H d=some o→d≠x→H5 d=some o:=fun d o hd n1=>s5 d o (k4 d o n1 (s3 d o hd))
   rcases hg with ⟨rfl,rfl⟩ | ⟨rfl,z,rfl,hzm,hzv,rfl⟩
   · have D5:=(D3.left (gone:=fun _=>False) hx3 k4 na4 (fun y hy hv _=>⟨(L4.2.2.1 y hy hv (fun e=>by cases e)).1,(L4.2.2.1 y hy hv (fun e=>by cases e)).2.2⟩) c0' (fun _ _ _ _ _ h=>h)).same s5
     walk_at "go"
     refine hM _ _ ⟨b0,[],kvs,rfl,hb0,S5,D5,fun kv hk e=>?_,fun d o hd n1 _=>fr5 d o hd n1,fun kv hk=>hk,fun j n hj=>by simp at hj,Nat.zero_le _,fun z hz hv=>?_⟩
     · obtain⟨p,z,e1,b',row',h1,h2,h3,h4,_⟩:=D.rw kv hk
       have:=(L4.2.2.1 z h3 h4 (fun e=>by cases e)).2.1
       rw[e1] at e
       have:=Sum.inl.inj e
       omega
     · rcases L4.2.2.2 z hz hv with e | ⟨g1,_⟩
       · exact .inl e
       · exact .inr (sj z g1 hv)
   · obtain⟨kv0,hkm,ek⟩:=sj z hzm hzv
     obtain⟨p',z',ek',b,row,ep,eb,hzm',hzv',hb,hrl,hba,hct2⟩:=D3.rw kv0 hkm
     have ezz:z'=z:=Xbn hc hzm' hzm (by rw[ek'] at ek;have:=Sum.inl.inj ek;omega)
     subst ezz
     have hval:valV kvs (.inl (z'.a+1))=some (.ref b):=by
       have:=Xfa D.nd hkm
       rw[ek,eb] at this
       exact this
     have hbx:b≠x:=fun e=>by rw[e,hx3] at hb;cases hb
     have hb5:=s5 b _ (k4 b _ hbx hb)
     walk_at "go"
     refine⟨kd,rfl,.inl ⟨kvs,.inl hkd5⟩,?_⟩
     walk_at "go"
     refine⟨kvs,.inl (z'.a+1),.ref b,hkd5,rfl,hval,?_⟩
     have hbk:b≠kd:=fun e=>by rw[e,hkd5] at hb5;cases hb5
     have k5:Xaz x H3 H5:=k4.trans (Xaz.of s5)
     have D6:=D3.leftD (gone:=fun y=>y=z') (key:=.inl (z'.a+1)) hx3 k5 na4 (fun y hy hyv hg=>⟨(L4.2.2.1 y hy hyv (fun e=>hg (Option.some.inj e).symm)).1,(L4.2.2.1 y hy hyv (fun e=>hg (Option.some.inj e).symm)).2.2⟩) c0' (fun kv _ hne y e1 _ e2=>hne (by rw[e1,e2]))
     walk_at "go"
     refine hM _ _ ⟨b,row,Xdu kvs (.inl (z'.a+1)),rfl,look_ne hbk hb5,S5.updK hkd5,D6,fun kv hk e=>?_,fun d o hd n1 n3=>look_ne n3 (fr5 d o hd n1),fun kv hk=>(Xey hk).1,fun j n hj hjc=>?_,?_,fun y hy hv=>?_⟩
     · obtain⟨hk1,hk2⟩:=Xey hk
       obtain⟨p,y,e1,b',row',h1,h2,h3,h4,_⟩:=D.rw kv hk1
       have:=(L4.2.2.1 y h3 h4 (fun e3=>hk2 (by rw[e1,h1,Option.some.inj e3]))).2.1
       rw[e1] at e
       have:=Sum.inl.inj e
       omega
     · have hjl:j<row.length:=(List.getElem?_eq_some_iff.mp hj).1
       rw[O4 z' rfl j hjc (by omega)]
       exact hct2 j n hj
     · have:=(hc.mem z' hzm).2.2.2
       have:=(hc.mem z' hzm).1
       omega
     · rcases L4.2.2.2 y hy hv with e | ⟨g1,g2⟩
       · exact .inl e
       · obtain⟨kv,h1,h2⟩:=sj y g1 hv
         refine .inr ⟨kv,?_,h2⟩
         refine List.mem_filter.mpr ⟨h1,?_⟩
         have:kv.1≠.inl (z'.a+1):=fun e=>g2 (by
           rw[h2] at e
           have:=Sum.inl.inj e
           rw[Xbn hc g1 hzm (by omega)])
         simpa using this
theorem Xuw {ps:List Pc}{i:Nat}{z:Pc}(h:ps[i]?=some z):(ps.take (i+1)).filter (fun z=>z.v)=(ps.take i).filter (fun z=>z.v)++(if z.v=true then [z] else []):=by
 rw[List.take_add_one,h,List.filter_append]
 congr 1
 simp only [Option.toList_some,List.filter_cons,List.filter_nil]
theorem XIf {σ:L2.St}{H:Hp}{Q:VK}{td ty:TE}(h:td σ H fun x H1=>∃a,x = .ref a∧IsD H1 a∧ty σ H1 fun y H2=>∃o,DGet H2 a y o∧Q (o.getD .non) H2):XAg td ty σ H Q:=h
def HlW (H1:Hp)(ps:List Pc)(D:Addr)(i:Nat)(ys:List V)(H2:Hp):Prop:=Same H1 H2∧H2 D=some (.lst ys)∧H1 D=none∧Xbh H2 ys ((ps.take i).filter fun z=>z.v)∧ys.length≤i
def Xrb (C:W4→Addr):Sp:=fun vs H Q _=>∃(k:W4) (r:Int) (x dx a kd:Addr) (cs:List Int) (ps:List Pc) (kvs:List (Key×V)) (m:Nat),vs=[.ref x,.ref kd,.int cs.length]∧StS C k x dx a r cs ps H∧HdS cs ps a kd kvs m H∧Sj ps kvs∧∀H',Same H H'→Q (.bl true) H'
def RgW (f:List (Option V))(H:Hp)(i:Nat)(σ:L2.St)(H':Hp):Prop:=Same H H'∧∃x6 x7 x8:Option V,σ=f++[x6,x7,x8]
def RkW (f:List (Option V))(H:Hp)(i:Nat)(σ:L2.St)(H':Hp):Prop:=Same H H'∧∃x8:Option V,σ=f++[x8]
theorem XRt (S:Src K mg "_law_right" Xsl)(T:Txt K mg Y0 Y7 Y9 Y4 Y3 Y6 Y12 Y2 Y8 Y5 Y1 Y10 Y13 Y14 Y11 W0_ W1_)(D_Z61:Xbj P w K mg base (cF Y10 Y13 Y14 Y11) "cells" 1 ["self"] [] (Xfv (cF Y10 Y13 Y14 Y11)))(D_Z55:Defx P w K mg base "_law_walk" 2 ["_law_cells","_law_size"] (Xkb K))(D_Z54:Xbj P w K mg base (cF Y10 Y13 Y14 Y11) "pieces" 5 ["self"] [] (Xlp (cF Y10 Y13 Y14 Y11))):Defx P w K mg base "_law_right" 6 ["_law_keeper","_law_held","_law_size"] (Xrb (cF Y10 Y13 Y14 Y11)):=by
 refine S.okx Xhx XMq (fun vs H Q E h=>by revert h;walk_at "len") (fun f cdv A outer s H vs Q E hr h=>?_)
 refine⟨_,PSs.nox (Xab (Xan (i:=3) Xhx.nd rfl (Or.inl rfl) (Xda D_Z61 Xbq hr (pv 0))) (Xab (Xan (i:=4) Xhx.nd rfl (Or.inl rfl) (Xah D_Z55 hr (by rfl) (Xaa (pv 3) (Xaa (pv 2) Xad)))) (Xab (Xbi (PW.pt (Xek (Xaj Xnq (pv 4) Xcs (Xao _)) (Xdk (Xaj (XDn hr.units) (Xda D_Z54 Xbq hr (pv 0)) (pv 4) (Xao _))))) (Xac (Xak Xdh)) Xap) (Xab (Xmp (i:=5) ["_law_piece"] Xhx.nd rfl (Or.inl rfl) rfl (Xcq (pv 4)) (fun cl C s₀ H₀ ex=>(Xar (i:=0) (show ((["_law_piece"]:List Str)++([]:List Str)).Nodup by decide +kernel) rfl (Or.inl rfl))) (fun cl C s₀ H₀ ex=>(Xtj (Xrv (K:=K) rfl (Xbd (XJd (K:=K) rfl) (pv 0) Xaf (fun _ _=>rfl)) (fun _=>rfl)))) (fun cl C s₀ H₀ ex=>(pv 0)) ) (Xab (Xbi (Xaj Xkn (Xba Xay (by rfl) T.n_len PySem.boot_len (Xaa (pv 5) Xad)) (Xba Xii (by rfl) T.n_len PySem.boot_len (Xaa (pv 1) Xad)) (Xao _)) (Xac (Xak Xdh)) Xap) (Xab (Xel PassesOwn.never rfl (Xcq (pv 5)) (Xar (i:=6) Xhx.nd rfl (Or.inl rfl)) (Xab (Xan (i:=7) Xhx.nd rfl (Or.inl rfl) (Xyt (Xfn hr.units) (pv 1) (Xal Xbb (Xbd Xci (pv 6) Xaf (fun _ _=>rfl)) Xaf) ⟨rfl,rfl,rfl,rfl⟩)) (Xab (Xbi (PW.pt (Xek (Xaj Xnq (pv 7) Xcs (Xao _)) (Xdk (Xaj Xkn (Xba Xay (by rfl) T.n_len PySem.boot_len (Xaa (pv 7) Xad)) (Xal Xcx (Xbd Xci (pv 6) Xaf (fun _ _=>rfl)) Xaf) (Xao _))))) (Xac (Xak Xdh)) Xap) (Xac (Xel PassesOwn.never rfl (Xlc (by rfl) T.n_range (Xaa (Xba Xay (by rfl) T.n_len PySem.boot_len (Xaa (pv 7) Xad)) Xad)) (Xar (i:=8) Xhx.nd rfl (Or.inl rfl)) (Xac (Xbi (PW.pt (Xep (Xaj Xkj (Xbd Xat (pv 7) (pv 8) (fun _ _=>rfl)) Xcs (Xao _)) (Xem (Xaj Xkn (Xbd Xat (pv 3) (Xal Xbb (Xal Xbb (Xbd Xci (pv 6) Xaf (fun _ _=>rfl)) Xaf) (pv 8)) (fun _ _=>rfl)) (Xbd Xat (pv 7) (pv 8) (fun _ _=>rfl)) (Xao _))))) (Xac (Xak Xdh)) Xap))))))) (Xac (Xak Xdh)))))))),?_⟩
 obtain⟨k,r,x,dx,a,kd,cs,ps,kvs,m,rfl,S,D,sj,q⟩:=h
 obtain⟨hx,ha,hz,hc,mk,nj⟩:=id S
 walk_at "go"
 refine⟨r,x,dx,a,cs,rfl,hx,ha,fun pc H1 npc s1 hpc=>?_⟩
 walk_at "go"
 refine⟨pc,cs,ps,rfl,hpc,hc,mk,nj,hz,fun pw us H2 npw s2 hpw pa=>?_⟩
 have s02:=s1.trans s2
 have S2:=S.same s02
 have hx2:=S2.hx
 walk_at "go"
 refine⟨r,x,dx,a,cs,ps,rfl,S2,fun pp us3 H3 npp s3 hpp pa3=>?_⟩
 walk_at "go"
 refine⟨pp,pw,us3,us,ps,rfl,rfl,hpp,s3 pw _ hpw,pa3,pa.same s3,?_⟩
 have s03:=s02.trans s3
 have hpw3:=s3 pw _ hpw
 have hpc3:=(s2.trans s3) pc _ hpc
 have pa':=pa.same s3
 have hul:=pa'.1
 have hple:=hc.le
 clear pa3 hpp npp pa hpw npw hpc npc s1 s2 s3 S2 hx2 s02
 walk_at "go"
 refine⟨pw,rfl,⟨_,SqL.of hpw3⟩,Xde (K:=K) (a:=pw) (xs:=us) (HlW H3 ps) (fun D hD=>⟨Same.new hD,upd_same,hD,Xbh.nil,Nat.le_refl _⟩) (fun D i ys H2 _ h=>SqL.of (h.1 pw _ hpw3)) ?_ ?_⟩
 · rintro D i y ys H2 hD hi ⟨s2,hD2,_,pr,hyl⟩ τ hτ
   have hil:i<us.length:=(List.getElem?_eq_some_iff.mp hi).1
   obtain⟨z,hzi⟩:∃z,ps[i]?=some z:=⟨_,List.getElem?_eq_getElem (by omega)⟩
   obtain⟨t,et,hT⟩:=pa'.2 i z hzi
   have ey2:y = .ref t:=Option.some.inj (hi.symm.trans et)
   subst ey2
   have hT2:=s2 t _ hT
   have ef:=Xuw hzi
   match τ,hτ with
   | [τ0],_ =>
     walk_at "go"
     refine⟨⟨[_],rfl,rfl⟩,?_⟩
     walk_at "go"
     refine Xgw (fun hv=>?_) (fun hv=>?_)
     · walk_at "go"
       rw[if_pos hv] at ef
       refine⟨hD2,small4000 (by omega),Xkq hil ⟨s2.put hD,upd_same,hD,?_,by rw[List.length_append,List.length_singleton];omega⟩⟩
       rw[ef]
       exact(pr.mono (Xgz (.inr ⟨_,hD2⟩))).snoc (look_ne (fun w=>by rw[w,hD2] at hT2;cases hT2) hT2)
     · walk_at "go"
       rw[if_neg (by rw[hv];exact Bool.false_ne_true),List.append_nil] at ef
       exact Xkq hil ⟨s2,hD2,hD,by rw[ef];exact pr,by omega⟩
 rintro dl ys H4 hD ⟨s4,hD4,_,pr,hyl⟩
 rw[List.take_of_length_le (by omega)] at pr
 have hyz:=pr.1
 have s04:=s03.trans s4
 have D4:=D.same s04
 have hkd4:=D4.hd
 have hlv:=Xqt hc D.nd (fun kv hk=>let ⟨p,z,e,_,_,e1,_,h3,h4,_⟩:=D.rw kv hk;⟨z,h3,h4,by rw[e,e1]⟩) sj
 have hpc4:=s4 pc _ hpc3
 have hyk:ys.length=kvs.length:=by omega
 walk_at "go"
 refine⟨kd,kvs,rfl,hkd4,?_⟩
 walk_at "go"
 refine⟨dl,rfl,⟨_,SqL.of hD4⟩,Xdn (K:=K) (a:=dl) (xs:=ys) (RgW [some (.ref x),some (.ref kd),some (.int cs.length),some (.ref pc),some (.ref pw),some (.ref dl)] H4) ⟨Same.refl _,_,_,_,rfl⟩ (fun i σ H2 _ ⟨h,_⟩=>SqL.of (h dl _ hD4)) ?_ ?_⟩
 · rintro i y σ H5 hi ⟨s5,x6,x7,x8,rfl⟩
   have hil:i<ys.length:=(List.getElem?_eq_some_iff.mp hi).1
   obtain⟨z,hzi⟩:∃z,(ps.filter fun z=>z.v)[i]?=some z:=⟨_,List.getElem?_eq_getElem (by omega)⟩
   obtain⟨t,et,hT⟩:=pr.2 i z hzi
   have ey:y = .ref t:=Option.some.inj (hi.symm.trans et)
   subst ey
   have hT5:=s5 t _ hT
   obtain⟨hzm,hzv⟩:=List.mem_filter.mp (List.mem_of_getElem? hzi)
   have hzv:z.v=true:=hzv
   obtain⟨kv0,hkm,ek⟩:=sj z hzm hzv
   obtain⟨p',z',ek',b,row,ep,eb,hzm',hzv',hb,hrl,hba,hct2⟩:=D4.rw kv0 hkm
   have ezz:z'=z:=Xbn hc hzm' hzm (by rw[ek'] at ek;have:=Sum.inl.inj ek;omega)
   subst ezz
   have hval:valV kvs (.inl (z'.a+1))=some (.ref b):=by
     have:=Xfa D.nd hkm
     rw[ek,eb] at this
     exact this
   obtain⟨z0,z1,z3,z4⟩:=hc.mem z' hzm
   have hkd5:=s5 kd _ hkd4
   have hb5:=s5 b _ hb
   have hpc5:=s5 pc _ hpc4
   have hlm:(row.map optV).length=row.length:=List.length_map _
   simp only [List.cons_append,List.nil_append]
   walk_at "go"
   refine XIf ?_
   walk_at "go"
   refine⟨kd,rfl,.inl ⟨kvs,.inl hkd5⟩,?_⟩
   walk_at "go"
   refine⟨_,DGet.k (k:=.inl (z'.a+1)) hkd5,?_⟩
   rw[show (valV kvs (.inl (z'.a+1))).getD V.non = .ref b by rw[hval];rfl]
   walk_at "go"
   refine⟨_,rfl,by omega,by omega,Xmf (RkW [some (.ref x),some (.ref kd),some (.int cs.length),some (.ref pc),some (.ref pw),some (.ref dl),some (.ref t),some (.ref b)] H5) ⟨Same.refl _,_,rfl⟩ ?_ ?_⟩
   · rintro j σ H6 hj ⟨s6,x8',rfl⟩
     have hb6:=s6 b _ hb5
     have hpc6:=s6 pc _ hpc5
     have hT6:=s6 t _ hT5
     have hjl:j<row.length:=by omega
     rw[show (0:Int)+(j:Int)=j by omega]
     simp only [List.cons_append,List.nil_append]
     have hat:atI (row.map optV) (j:Int)=some (optV row[j]):=Xss (by rw[List.getElem?_map,List.getElem?_eq_getElem hjl];rfl)
     walk_at "go"
     refine Xkw (SqL.of hb6) hat ?_
     cases hr:row[j] with
     | none =>
       walk_at "go"
       exact⟨s6,_,rfl⟩
     | some n' =>
       have hn:=hct2 j n' (by rw[List.getElem?_eq_getElem hjl,hr])
       have eg:cs.getD (z'.a+1+(j:Int)).toNat 0=n':=by
         rw[show (z'.a+1+(j:Int)).toNat=(z'.a+1).toNat+j by omega,List.getD_eq_getElem?_getD,hn]
         rfl
       rw[hr] at hat
       walk_at "go"
       rw[eg]
       refine Xkw (SqL.of hb6) hat ?_
       walk_at "go"
       exact⟨s6,_,rfl⟩
   · rintro σ H6 ⟨s6,x8',rfl⟩
     simp only [List.cons_append,List.nil_append]
     walk_at "go"
     exact⟨s5.trans s6,_,_,_,rfl⟩
 · rintro σ H5 ⟨s5,x6,x7,x8,rfl⟩
   simp only [List.cons_append,List.nil_append]
   walk_at "go"
   exact q H5 (s04.trans s5)
def LayC (kvs:List (Key×V))(c0:Int):Prop:=0<kvs.length∧c0*69621%32749%12=11∧0<c0/12%3
def XAh (C:W4→Addr):Sp:=fun vs H Q _=>∃(k:W4) (r:Int) (x dx a kd y kp:Addr) (cs:List Int) (ps:List Pc) (kvs:List (Key×V)) (m:Nat) (c0:Int),vs=[.ref x,.ref y,.ref kd,.int c0,.ref kp]∧StS C k x dx a r cs ps H∧HdS cs ps a kd kvs m H∧Sj ps kvs∧m≤300∧∃(k2:W4) (r2:Int) (dx2 a2:Addr) (cs2:List Int) (ps2:List Pc) (us:List V),StS C k2 y dx2 a2 r2 cs2 ps2 H∧cs2.length=cs.length∧H kp=some (.lst us)∧us.length≤300∧kp≠a2 ∧
 (¬LayC kvs c0→∀(a':Addr) (r':Int) (cs':List Int) (ps':List Pc) (kvs':List (Key×V)) (H':Hp),FrK x a kd kvs H a' kvs' H'→cs'.length=cs.length→StS C k x dx a' r' cs' ps' H'→HdS cs' ps' a' kd kvs' (m+1) H'→Sj ps' kvs'→Q (.bl true) H') ∧
 (LayC kvs c0→∀(a2' l1 l2 t:Addr) (H':Hp),(∀d o,H d=some o→d≠y→d≠kp→H' d=some o)→H a2'=none→H l1=none→H l2=none→H t=none→a2'≠l1→a2'≠l2→a2'≠t→H' t=some (.tup [.ref l1,.ref l2])→H' l1=some (.lst (cs.map V.int))→H' l2=some (.lst (cs.map V.int))→H' kp=some (.lst (us++[.ref t]))→StS C k2 y dx2 a2' 0 cs ps H'→Q (.bl true) H')
def PuW (C:W4→Addr)(k:W4)(r:Int)(x dx a b kd:Addr)(n:Nat)(ps:List Pc)(kvs:List (Key×V))(m:Nat)(f:List (Option V))(H:Hp)(i:Nat)(σ:L2.St)(H':Hp):Prop :=
 ∃(cs':List Int) (x8:Option V),σ=f++[x8]∧cs'.length=n∧StS C k x dx a r cs' ps H'∧HdS cs' ps a kd kvs m H'∧∀d o,H d=some o→d≠a→d≠b→H' d=some o
theorem d_Z56 (S:Src K mg "_law_step" Xtx)(T:Txt K mg Y0 Y7 Y9 Y4 Y3 Y6 Y12 Y2 Y8 Y5 Y1 Y10 Y13 Y14 Y11 W0_ W1_)(D_Z62:Defx P w K mg base "_law_new" 12 ["_law_keeper","_law_held","_law_way","_law_place","_law_c"] (XMm (cF Y10 Y13 Y14 Y11)))(D_Z61:Xbj P w K mg base (cF Y10 Y13 Y14 Y11) "cells" 1 ["self"] [] (Xfv (cF Y10 Y13 Y14 Y11)))(D_lay:Xbj P w K mg base (cF Y10 Y13 Y14 Y11) "lay" 7 ["self","cells"] [] (XAf K (cF Y10 Y13 Y14 Y11)))(D_Z69:Xbj P w K mg base (cF Y10 Y13 Y14 Y11) "give" 8 ["self","place"] [] (Xtg (cF Y10 Y13 Y14 Y11)))(D_put:Xbj P w K mg base (cF Y10 Y13 Y14 Y11) "put" 9 ["self","place","k","number"] [] (XPd (cF Y10 Y13 Y14 Y11)))(D_get:Xbj P w K mg base (cF Y10 Y13 Y14 Y11) "get" 9 ["self","place","k"] [] (XNr (cF Y10 Y13 Y14 Y11)))(D_Z59:Xbj P w K mg base (cF Y10 Y13 Y14 Y11) "clear" 7 ["self"] [] (Xtt (cF Y10 Y13 Y14 Y11))):Defx P w K mg base "_law_step" 13 ["_law_keeper","_law_other","_law_held","_law_c","_law_kept"] (XAh (cF Y10 Y13 Y14 Y11)):=by
 refine S.okx Xlg XOj (fun vs H Q E h=>by revert h;walk_at "len") (fun f cdv A outer s H vs Q E hr h=>?_)
 refine⟨_,PSs.nox (Xab (Xan (i:=5) Xlg.nd rfl (Or.inl rfl) (Xal Xbu (Xal Xbu (Xal Xfi (pv 3) Xaf) Xaf) Xaf)) (Xab (Xbi (PW.pt (Xek (Xaj Xfk (pv 5) Xaf (Xao _)) (Xdk (Xco (Xsd (pv 2) (fun _=>rfl)))))) (Xac (Xak (Xah D_Z62 hr (by rfl) (Xaa (pv 0) (Xaa (pv 2) (Xaa Xaf (Xaa Xaf (Xaa (pv 3) Xad)))))))) Xap) (Xab (Xan (i:=6) Xlg.nd rfl (Or.inl rfl) (Xbd Xat (Xcw (Xpk rfl) (by rfl) T.n_list PyProof.Rows.boot_list (Xaa (pv 2) Xad)) (Xal Xbu (Xal Xbu (Xal Xfi (pv 3) Xaf) Xaf) (Xba Xii (by rfl) T.n_len PySem.boot_len (Xaa (pv 2) Xad))) (fun _ _=>rfl))) (Xab (Xbi (Xaj Xfk (pv 5) Xaf (Xao _)) (Xac (Xak (Xah D_Z62 hr (by rfl) (Xaa (pv 0) (Xaa (pv 2) (Xaa Xaf (Xaa (pv 6) (Xaa (pv 3) Xad)))))))) Xap) (Xab (Xbi (PW.pt (Xep (Xaj Xfl (pv 5) Xaf (Xao _)) (Xem (Xaj Xke (Xal Xbu (Xal Xmj (pv 3) Xaf) Xaf) Xaf (Xao _))))) (Xab (Xan (i:=7) Xlg.nd rfl (Or.inl rfl) (Xda D_Z61 Xbq hr (pv 0))) (Xab (Xca (Xrg PySem.F.plainAttrs_list PySem.F.slot_list_append PySem.F.type_list_append Xdy (pv 4) (Xaa (Xew (Xaa (pv 7) (Xaa (Xcw Xcf (by rfl) T.n_list PyProof.Rows.boot_list (Xaa (pv 7) Xad)) Xad))) Xad))) (Xac (Xca (Xby D_lay Xbq hr (pv 1) (Xaa (pv 7) Xad)))))) (Xac (Xbi (Xaj Xfk (pv 5) Xaf (Xao _)) (Xab (Xca (Xby D_Z69 Xbq hr (pv 0) (Xaa (pv 6) Xad))) (Xac (Xca (Xok (pv 2) (pv 6) ⟨rfl,rfl,rfl,rfl⟩)))) (Xac (Xbi (Xaj Xfk (pv 5) Xaf (Xao _)) (Xac (Xel PassesOwn.never rfl (Xlc (by rfl) T.n_range (Xaa (Xba Xay (by rfl) T.n_len PySem.boot_len (Xaa (Xif (Xfn hr.units) (pv 2) (pv 6) (fun _ _=>rfl)) Xad)) Xad)) (Xar (i:=8) Xlg.nd rfl (Or.inl rfl)) (Xab (Xei (Xal Xcx (Xal Xbu (Xal Xfi (pv 3) (Xal Xbb (pv 8) Xaf)) (Xal Xbb (Xal Xfi Xaf (Xal XAj Xaf Xaf)) Xaf)) (Xal XAj Xaf Xaf)) (Xhv (Xif (Xfn hr.units) (pv 2) (pv 6) (fun _ _=>rfl)) (pv 8) Xea)) (Xab (Xca (Xby D_put Xbq hr (pv 0) (Xaa (pv 6) (Xaa (pv 8) (Xaa (Xbd Xat (Xif (Xfn hr.units) (pv 2) (pv 6) (fun _ _=>rfl)) (pv 8) (fun _ _=>rfl)) Xad))))) (Xac (Xbi (Xaj Xkn (Xby D_get Xbq hr (pv 0) (Xaa (pv 6) (Xaa (pv 8) Xad))) (Xbd Xat (Xif (Xfn hr.units) (pv 2) (pv 6) (fun _ _=>rfl)) (pv 8) (fun _ _=>rfl)) (Xao _)) (Xac (Xak Xdh)) Xap)))))) (Xab (Xca (Xda D_Z59 Xbq hr (pv 0))) (Xac (Xca (XAy PySem.F.plainAttrs_dict PySem.F.slot_dict_clear PySem.F.type_dict_clear Xrm (pv 2)))))))))) (Xac (Xak Xdh))))))),?_⟩
 obtain⟨k,r,x,dx,a,kd,y,kp,cs,ps,kvs,m,c0,rfl,S,D,sj,hm,k2,r2,dx2,a2,cs2,ps2,us,S2,hl2,hkp,hul,hka2,q,ql⟩:=h
 obtain⟨hx,ha,hz,hc,mk,nj⟩:=id S
 have hkd:=D.hd
 have w80:=Int.emod_nonneg (c0*69621%32749) (show (12:Int)≠0 by decide)
 have w81:=Int.emod_lt_of_pos (c0*69621%32749) (show (0:Int)<12 by decide)
 have c0':∀y∈ps,0≤y.a:=fun y hy=>(hc.mem y hy).1
 walk_at "gs"
 by_cases h4:c0*69621%32749%12<4
 · walk_at "go"
   refine⟨k,r,x,dx,a,kd,cs,ps,kvs,m,c0,0,0,none,rfl,S,D,sj,hm,.inl ⟨rfl,rfl⟩,fun a' r' cs' ps' kvs' H1 F1 l1 S1 D1 sj1=>?_⟩
   walk_at "go"
   exact q (fun h=>by have:=h.2.1;omega) a' r' cs' ps' kvs' H1 F1 l1 S1 D1 sj1
 walk_at "go"
 refine⟨kd,kvs,rfl,hkd,?_⟩
 cases hE:kvs.isEmpty with
 | true =>
   walk_at "go"
   refine⟨k,r,x,dx,a,kd,cs,ps,kvs,m,c0,0,0,none,rfl,S,D,sj,hm,.inl ⟨rfl,rfl⟩,fun a' r' cs' ps' kvs' H1 F1 l1 S1 D1 sj1=>?_⟩
   walk_at "go"
   exact q (fun h=>by have:=h.1;rw[List.isEmpty_iff] at hE;rw[hE] at this;exact absurd this (by decide)) a' r' cs' ps' kvs' H1 F1 l1 S1 D1 sj1
 | false =>
 have hpos:0<kvs.length:=by
   cases kvs with
   | nil=>cases hE
   | cons _ _=>exact Nat.succ_pos _
 have i0:=Int.emod_nonneg (c0*39373%28657) (show (kvs.length:Int)≠0 by omega)
 have i1:=Int.emod_lt_of_pos (c0*39373%28657) (show (0:Int)<kvs.length by omega)
 obtain⟨j0,ej0⟩:∃j:Nat,c0*39373%28657%(kvs.length:Int)=j:=⟨(c0*39373%28657%(kvs.length:Int)).toNat,by omega⟩
 have hj0:j0<kvs.length:=by omega
 obtain⟨kv,hkv⟩:∃kv,kvs[j0]?=some kv:=⟨_,List.getElem?_eq_getElem hj0⟩
 have hkm:=List.mem_of_getElem? hkv
 obtain⟨p,z,ek,b,row,ep,eb,hzm,hzv,hb,hrl,hba,hct2⟩:=D.rw kv hkm
 subst ep
 obtain⟨i,hi⟩:=List.getElem?_of_mem hzm
 obtain⟨z0,z1,z3,z4⟩:=hc.mem z hzm
 have hval:valV kvs (.inl (z.a+1))=some (.ref b):=by
   have:=Xfa D.nd hkm
   rw[ek,eb] at this
   exact this
 have hat:atI (kvs.map fun kv=>kV kv.1) (j0:Int)=some (.int (z.a+1)):=Xss (by rw[List.getElem?_map,hkv];show some (kV kv.1)=_;rw[ek];rfl)
 walk_at "go"
 refine⟨kd,kvs,rfl,hkd,fun l hl=>?_⟩
 have s1:Same H (upd H l (.lst (kvs.map fun kv=>kV kv.1))):=Same.new hl
 have hl1:upd H l (.lst (kvs.map fun kv=>kV kv.1)) l=some (.lst (kvs.map fun kv=>kV kv.1)):=upd_same
 generalize upd H l (.lst (kvs.map fun kv=>kV kv.1))=H1 at s1 hl1 ⊢
 have S1:=S.same s1
 have D1:=D.same s1
 have hx1:=S1.hx
 have hkd1:=D1.hd
 have hb1:=s1 b _ hb
 walk_at "go"
 refine⟨kd,kvs,rfl,hkd1,?_⟩
 walk_at "go"
 rw[ej0]
 refine Xkw (SqL.of hl1) hat ?_
 walk_at "gs"
 by_cases h7:c0*69621%32749%12<7
 · walk_at "go"
   refine⟨k,r,x,dx,a,kd,cs,ps,kvs,m,c0,1,z.a+1,some z,rfl,S1,D1,sj,hm,.inr ⟨rfl,z,rfl,hzm,hzv,rfl⟩,fun a' r' cs' ps' kvs' H2 F2 l2 S2' D2 sj2=>?_⟩
   walk_at "go"
   exact q (fun h=>by have:=h.2.1;omega) a' r' cs' ps' kvs' H2 ⟨fun d o hd n1 n2 n3 n4=>F2.1 d o (s1 d o hd) n1 n2 n3 n4,F2.2.1.imp id s1.free,fun kv hk=>(F2.2.2 kv hk).imp id fun ⟨b,e1,e2⟩=>⟨b,e1,s1.free e2⟩⟩ l2 S2' D2 sj2
 by_cases hL:c0*69621%32749%12=11∧0<c0/12%3
 · obtain⟨hL1,hL2⟩:=hL
   walk_at "go"
   refine⟨r,x,dx,a,cs,rfl,hx1,S1.ha,fun p1 H2 np1 s2 hp1=>?_⟩
   have hkp2:=(s1.trans s2) kp _ hkp
   walk_at "go"
   intro p2 np2
   have s3:Same H2 (upd H2 p2 (.lst (cs.map V.int))):=Same.new np2
   have hp2:upd H2 p2 (.lst (cs.map V.int)) p2=some (.lst (cs.map V.int)):=upd_same
   generalize upd H2 p2 (.lst (cs.map V.int))=H3 at s3 hp2 ⊢
   walk_at "go"
   intro t nt
   have s4:Same H3 (upd H3 t (.tup [.ref p1,.ref p2])):=Same.new nt
   have ht4:upd H3 t (.tup [.ref p1,.ref p2]) t=some (.tup [.ref p1,.ref p2]):=upd_same
   generalize upd H3 t (.tup [.ref p1,.ref p2])=H4 at s4 ht4 ⊢
   have s04:=(s1.trans s2).trans (s3.trans s4)
   have hkp4:=s04 kp _ hkp
   have hp14:=(s3.trans s4) p1 _ hp1
   have hp24:=s4 p2 _ hp2
   have S24:=S2.same s04
   have hy4:=S24.hx
   walk_at "go"
   have hyk:y≠kp:=fun e=>by rw[e,hkp4] at hy4;cases hy4
   have h1k:p1≠kp:=fun e=>by rw[e,s1 kp _ hkp] at np1;cases np1
   have h2k:p2≠kp:=fun e=>by rw[e,(s1.trans s2) kp _ hkp] at np2;cases np2
   have htk:t≠kp:=fun e=>by rw[e,((s1.trans s2).trans s3) kp _ hkp] at nt;cases nt
   have kk5:Xaz kp H4 (upd H4 kp (.lst (us++[.ref t]))):=Xaz.refl.put
   have hkp5:upd H4 kp (.lst (us++[.ref t])) kp=some (.lst (us++[.ref t])):=upd_same
   generalize upd H4 kp (.lst (us++[.ref t]))=H5 at kk5 hkp5 ⊢
   have S25:StS (cF Y10 Y13 Y14 Y11) k2 y dx2 a2 r2 cs2 ps2 H5:=⟨kk5 y _ hyk hy4,kk5 a2 _ (Ne.symm hka2) S24.ha,S24.hz,S24.hc,S24.mm,S24.nj⟩
   have hy5:=S25.hx
   have hp15:=kk5 p1 _ h1k hp14
   walk_at "go"
   refine⟨r2,y,p1,dx2,a2,cs2,cs,ps2,ps,rfl,S25,SqL.of hp15,by omega,hc,mk,nj,fun a2' H6 na6 k6 S6=>?_⟩
   have f6:∀d o,H4 d=some o→d≠y→d≠kp→H6 d=some o:=fun d o hd n1 n2=>k6 d o n1 (kk5 d o n2 hd)
   have hp1y:p1≠y:=fun e=>by rw[e,hy5] at hp15;cases hp15
   have hp2y:p2≠y:=fun e=>by rw[e,hy4] at hp24;cases hp24
   have hty:t≠y:=fun e=>by rw[e,hy4] at ht4;cases ht4
   have na4:∀d o,H4 d=some o→a2'≠d:=fun d o hd e=>by
     by_cases hdk:d=kp
     · rw[e,hdk,hkp5] at na6;cases na6
     · have:=kk5 d o hdk hd
       rw[e,this] at na6
       cases na6
   walk_at "go"
   refine ql ⟨hpos,hL1,hL2⟩ a2' p1 p2 t H6 (fun d o hd n1 n2=>f6 d o (s04 d o hd) n1 n2) ?_ (s1.free np1) ((s1.trans s2).free np2) (((s1.trans s2).trans s3).free nt) (na4 p1 _ hp14) (na4 p2 _ hp24) (na4 t _ ht4) (f6 t _ ht4 hty htk) (f6 p1 _ hp14 hp1y h1k) (f6 p2 _ hp24 hp2y h2k) (k6 kp _ (Ne.symm hyk) hkp5) S6
   cases e:H a2' with
   | none=>rfl
   | some o=>exact absurd rfl (na4 a2' o (s04 a2' o e))
 have nL:¬LayC kvs c0:=fun h=>hL h.2
 have ng:∀kv∈kvs,kv.1≠.inl (z.a+1)→∀y,kv.1 = .inl (y.a+1)→y∈ps→¬(y=z):=fun kv _ hne y e1 _ e2=>hne (by rw[e1,e2])
 have hkx:kd≠x:=fun e=>by rw[e,hx1] at hkd1;cases hkd1
 have tst:∀{A B:Prop},B→(if c0*69621%32749%12=11 then (if 0<c0/12%3 then A else B) else B):=fun {A B} hB=>by
   by_cases h1:c0*69621%32749%12=11
   · rw[if_pos h1,if_neg (fun h2=>hL ⟨h1,h2⟩)];exact hB
   · rw[if_neg h1];exact hB
 by_cases h11:c0*69621%32749%12=11
 · have h12:¬0<c0/12%3:=fun h=>hL ⟨h11,h⟩
   have z3:=z3 hzv
   walk_at "go"
   refine⟨r,x,dx,a,cs,rfl,hx1,S1.ha,by omega,by omega,fun a' cs' H2 na2 kk2 l2 S2'=>?_⟩
   have hkd2:=kk2 kd _ hkx hkd1
   walk_at "go"
   refine Xvv hkd2 ?_
   walk_at "go"
   refine q nL a' 0 cs' _ [] _ ⟨fun d o hd n1 n2 n3 n4=>look_ne n3 (kk2 d o n1 (s1 d o hd)),.inr (s1.free na2),(fun kv hk=>by cases hk)⟩ l2 (S2'.updK hkd2) ⟨upd_same,List.nodup_nil,(fun kv hk=>by cases hk),(fun kv hk=>by cases hk),Nat.zero_le _⟩ (fun w hw hv=>?_)
   rw[List.mem_singleton.mp hw] at hv
   cases hv
 by_cases h9:c0*69621%32749%12<9
 · walk_at "go"
   refine⟨r,x,dx,a,cs,ps,i,z,rfl,S1,hi,hzv,fun a' cs' H2 na2 kk2 l2 hk2 S2'=>?_⟩
   have hkd2:=kk2 kd _ hkx hkd1
   walk_at "go"
   refine⟨kd,rfl,.inl ⟨kvs,.inl hkd2⟩,?_⟩
   walk_at "go"
   refine⟨kvs,.inl (z.a+1),.ref b,hkd2,rfl,hval,?_⟩
   walk_at "go"
   have D2:=D1.leftD (gone:=fun y=>y=z) (key:=.inl (z.a+1)) hx1 kk2 na2 (fun y hy hyv hg=>⟨Xgo (Xhn hy (fun e=>hg (Xbn hc hy hzm e))) hyv,hk2 y hy hyv hg⟩) c0' ng
   refine q nL a' r cs' _ _ _ ⟨fun d o hd n1 _ n3 _=>look_ne n3 (kk2 d o n1 (s1 d o hd)),.inr (s1.free na2),fun kv hk=>.inl ⟨kv,(Xey hk).1,rfl⟩⟩ l2 (S2'.updK hkd2) D2.up (fun w hw hv=>?_)
   obtain⟨g1,g2⟩:=Xll (Xjj hw hv) hv
   obtain⟨kv',h1,h2⟩:=sj w g1 hv
   refine⟨kv',List.mem_filter.mpr ⟨h1,?_⟩,h2⟩
   have:kv'.1≠.inl (z.a+1):=fun e=>g2 (by rw[h2] at e;have:=Sum.inl.inj e;omega)
   simpa using this
 have hlm:(row.map optV).length=row.length:=List.length_map _
 have z3:=z3 hzv
 have hbx:b≠x:=fun e=>by rw[e,hx1] at hb1;cases hb1
 have hbk:b≠kd:=fun e=>by rw[e,hkd1] at hb1;cases hb1
 have hka:kd≠a:=fun e=>by have:=S1.ha;rw[←e,hkd1] at this;cases this
 walk_at "go"
 refine⟨kd,.ref b,rfl,(by have:=DGet.k (k:=.inl (z.a+1)) hkd1;rw[hval] at this;exact this),?_⟩
 walk_at "go"
 refine⟨_,rfl,by omega,by omega,Xmf (PuW (cF Y10 Y13 Y14 Y11) k r x dx a b kd cs.length ps kvs m [some (.ref x),some (.ref y),some (.ref kd),some (.int c0),some (.ref kp),some (.int (c0*69621%32749%12)),some (.int (z.a+1)),none] H1) ⟨cs,_,rfl,rfl,S1,D1,fun d o hd _ _=>hd⟩ ?_ ?_⟩
 · rintro j σ H2 hj ⟨cs',x8,rfl,lc,S2',D2,fr⟩
   rw[show (0:Int)+(j:Int)=j by omega]
   simp only [List.cons_append,List.nil_append]
   obtain⟨p',z',ek',b',row',ep',eb',hzm',hzv',hb',hrl',hba',hct'⟩:=D2.rw kv hkm
   have ezz:z'=z:=Xbn hc hzm' hzm (by rw[ek] at ek';have:=Sum.inl.inj ek';omega)
   subst ezz
   have ebb:b'=b:=by rw[eb] at eb';cases eb';rfl
   subst ebb
   have hkd2:=D2.hd
   have hx2:=S2'.hx
   have hjl:j<row'.length:=by omega
   have hlm':(row'.map optV).length=row'.length:=List.length_map _
   have dg:∀{H':Hp},H' kd=some (.dK kvs)→DGet H' kd (.int (z'.a+1)) (some (.ref b')):=fun h=>by
     have:=DGet.k (k:=.inl (z'.a+1)) h
     rw[hval] at this
     exact this
   walk_at "go"
   generalize c0*((j:Int)+71)%(2*10^(60:Int).toNat+1)-10^(60:Int).toNat=nv
   refine⟨kd,.ref b',rfl,dg hkd2,?_⟩
   walk_at "go"
   refine⟨b',row'.map optV,(j:Int),j,rfl,rfl,hb',(by have:=Xqy (n:=(row'.map optV).length) (k:=(j:Int)) (by omega) (by omega);simpa using this),?_⟩
   rw[show (row'.map optV).set j (V.int nv)=(row'.set j (some nv)).map optV from by rw[List.map_set]]
   have h3:upd H2 b' (.lst ((row'.set j (some nv)).map optV)) b'=some (.lst ((row'.set j (some nv)).map optV)):=upd_same
   have kb:Xaz b' H2 (upd H2 b' (.lst ((row'.set j (some nv)).map optV))):=Xaz.refl.put
   generalize upd H2 b' (.lst ((row'.set j (some nv)).map optV))=H3 at h3 kb ⊢
   have S3:StS (cF Y10 Y13 Y14 Y11) k x dx a r cs' ps H3:=⟨kb x _ (Ne.symm hbx) hx2,kb a _ (Ne.symm hba') S2'.ha,S2'.hz,S2'.hc,S2'.mm,S2'.nj⟩
   have hx3:=S3.hx
   have hkd3:=kb kd _ (Ne.symm hbk) hkd2
   have hat2:atI ((row'.set j (some nv)).map optV) (j:Int)=some (.int nv):=Xss (by rw[List.getElem?_map,List.getElem?_set_self hjl];rfl)
   walk_at "go"
   refine⟨kd,.ref b',rfl,dg hkd3,?_⟩
   walk_at "go"
   refine Xkw (SqL.of h3) hat2 ?_
   walk_at "go"
   refine⟨r,x,dx,a,cs',ps,z',(j:Int),nv,rfl,S3,hzm,hzv,by omega,by omega,fun H4 k4 S4=>?_⟩
   have hx4:=S4.hx
   have h4b:=k4 b' _ hba' h3
   have hkd4:=k4 kd _ hka hkd3
   have e1:((z'.a+1).toNat:Int)=z'.a+1:=Int.toNat_of_nonneg (by omega)
   have ei:(z'.a+1+(j:Int)).toNat=(z'.a+1).toNat+j:=by omega
   walk_at "go"
   refine⟨r,x,dx,a,_,ps,z',(j:Int),rfl,S4,hzm,hzv,by omega,by omega,fun H5 s5=>?_⟩
   have eg:(cs'.set (z'.a+1+(j:Int)).toNat nv).getD (z'.a+1+(j:Int)).toNat 0=nv:=by
     rw[List.getD_eq_getElem?_getD,List.getElem?_set_self (by omega)]
     rfl
   rw[eg]
   have hkd5:=s5 kd _ hkd4
   have h5b:=s5 b' _ h4b
   walk_at "go"
   refine⟨kd,.ref b',rfl,dg hkd5,?_⟩
   walk_at "go"
   refine Xkw (SqL.of h5b) hat2 ?_
   walk_at "go"
   have keep:∀d o,d≠a→d≠b'→H2 d=some o→H5 d=some o:=fun d o n1 n2 h=>s5 d o (k4 d o n1 (kb d o n2 h))
   have D5:=D2.put (nv:=nv) S2'.hc hkm ek eb hzm hzv hrl' hba' hka (Ne.symm hbk) hct' hjl keep h5b
   rw[ei] at S4
   exact⟨_,_,rfl,by rw[List.length_set];exact lc,S4.same s5,D5,fun d o hd n1 n2=>keep d o n1 n2 (fr d o hd n1 n2)⟩
 · rintro σ H2 ⟨cs',x8,rfl,lc,S2',D2,fr⟩
   simp only [List.cons_append,List.nil_append]
   walk_at "go"
   exact q nL a r cs' ps kvs H2 ⟨fun d o hd n1 n2 n3 n4=>fr d o (s1 d o hd) n2 (fun e=>n4 kv hkm (by rw[eb,e])),.inl rfl,fun kv hk=>.inl ⟨kv,hk,rfl⟩⟩ lc S2' D2.up sj
theorem Xoj {k:Int}(h0:0≤k)(h1:k<4):∃i,atI [V.str "first",V.str "best",V.str "next",V.str "likes"] k=some (.str (Xpc i)):=by
 rcases(show k=0∨k=1∨k=2∨k=3 by omega) with rfl | rfl | rfl | rfl
 · exact⟨.first,rfl⟩
 · exact⟨.best,rfl⟩
 · exact⟨.next,rfl⟩
 · exact⟨.likes,rfl⟩
/-! whose an object is: the left keeper's (1),the right one's (2),the kept list (3),what stays (4) -/
def ownN (own:Addr→Nat)(H:Hp)(n:Nat)(b:Addr):Nat:=match H b with
 | none=>n
 | some _=>own b
theorem Xcb {own:Addr→Nat}{H:Hp}{n:Nat}{b:Addr}{o:HO}(h:H b=some o):ownN own H n b=own b:=by unfold ownN;rw[h]
theorem Xfr {own:Addr→Nat}{H:Hp}{n:Nat}{b:Addr}(h:H b=none):ownN own H n b=n:=by unfold ownN;rw[h]
def Lb (own:Addr→Nat)(H:Hp)(b:Addr)(n:Nat):Prop:=own b=n∧∃o,H b=some o
theorem Lb.next {own:Addr→Nat}{H H':Hp}{b:Addr}{n n':Nat}(h:Lb own H b n)(s:Same H H'):Lb (ownN own H n') H' b n:=let ⟨h1,o,h2⟩:=h;⟨by rw[Xcb h2];exact h1,o,s _ _ h2⟩
theorem Lb.mk {own:Addr→Nat}{H H':Hp}{b:Addr}{n:Nat}{o:HO}(hn:H b=none)(h:H' b=some o):Lb (ownN own H n) H' b n:=⟨Xfr hn,o,h⟩
structure OnS (C:W4→Addr)(own:Addr→Nat)(n:Nat)(k:W4)(x dx kd a:Addr)(r:Int)(cs:List Int)(ps:List Pc)(kvs:List (Key×V))(N m:Nat)(H:Hp):Prop where
 S:StS C k x dx a r cs ps H
 D:HdS cs ps a kd kvs m H
 sj:Sj ps kvs
 ln:cs.length=N
 ox:own x=n
 oa:own a=n
 ok:own kd=n
 ow:∀kv∈kvs,∀b,kv.2 = .ref b→own b=n
section
variable {C:W4→Addr}{own:Addr→Nat}{n n':Nat}{k:W4}{x dx kd a a':Addr}{r r':Int}{cs cs':List Int}{ps ps':List Pc}{kvs kvs':List (Key×V)}{N m:Nat}{H H':Hp}
theorem OnS.same (h:OnS C own n k x dx kd a r cs ps kvs N m H)(s:Same H H'):OnS C own n k x dx kd a r cs ps kvs N m H':=⟨h.S.same s,h.D.same s,h.sj,h.ln,h.ox,h.oa,h.ok,h.ow⟩
theorem OnS.up (h:OnS C own n k x dx kd a r cs ps kvs N m H):OnS C own n k x dx kd a r cs ps kvs N (m+1) H:=⟨h.S,h.D.up,h.sj,h.ln,h.ox,h.oa,h.ok,h.ow⟩
theorem OnS.stay {own':Addr→Nat}(h:OnS C own n k x dx kd a r cs ps kvs N m H)(kp:∀d o,H d=some o→own d=n→H' d=some o)(e:∀d o,H d=some o→own d=n→own' d=n):OnS C own' n k x dx kd a r cs ps kvs N m H':=by
 have rows:∀kv∈kvs,∀b,kv.2 = .ref b→∃o,H b=some o:=fun kv hk b eb=>by
   obtain⟨p,z,e,b',row,h1,h2,h3,h4,h5,_⟩:=h.D.rw kv hk
   rw[eb] at h2
   cases h2
   exact⟨_,h5⟩
 refine⟨⟨kp x _ h.S.hx h.ox,kp a _ h.S.ha h.oa,h.S.hz,h.S.hc,h.S.mm,h.S.nj⟩,⟨kp kd _ h.D.hd h.ok,h.D.nd,fun kv hk=>?_,h.D.ap,h.D.fw⟩,h.sj,h.ln,e x _ h.S.hx h.ox,e a _ h.S.ha h.oa,e kd _ h.D.hd h.ok,fun kv hk b eb=>let ⟨o,ho⟩:=rows kv hk b eb;e b o ho (h.ow kv hk b eb)⟩
 obtain⟨p,z,e,b,row,h1,h2,h3,h4,h5,h6,h7,h8⟩:=h.D.rw kv hk
 exact⟨p,z,e,b,row,h1,h2,h3,h4,kp b _ h5 (h.ow kv hk b h2),h6,h7,h8⟩
theorem OnS.step (h:OnS C own n k x dx kd a r cs ps kvs N m H)(F:FrK x a kd kvs H a' kvs' H')(l:cs'.length=cs.length)(S:StS C k x dx a' r' cs' ps' H')(D:HdS cs' ps' a' kd kvs' (m+1) H')(sj:Sj ps' kvs'):OnS C (ownN own H n) n k x dx kd a' r' cs' ps' kvs' N (m+1) H':=by
 refine⟨S,D,sj,l.trans h.ln,(Xcb h.S.hx).trans h.ox,?_,(Xcb h.D.hd).trans h.ok,fun kv hk b eb=>?_⟩
 · rcases F.2.1 with e | e
   · rw[e,Xcb h.S.ha];exact h.oa
   · exact Xfr e
 · rcases F.2.2 kv hk with ⟨kv0,g1,g2⟩ | ⟨b',g1,g2⟩
   · obtain⟨p,z,e,b',row,h1,h2,h3,h4,h5,_⟩:=h.D.rw kv0 g1
     rw[g2,eb] at h2
     cases h2
     rw[Xcb h5]
     exact h.ow kv0 g1 b (g2.trans eb)
   · rw[eb] at g1
     cases g1
     exact Xfr g2
theorem OnS.frame (h:OnS C own n k x dx kd a r cs ps kvs N m H)(F:FrK x a kd kvs H a' kvs' H'):∀d o,H d=some o→own d≠n→H' d=some o:=fun d o hd hn =>
 F.1 d o hd (fun e=>hn (by rw[e];exact h.ox)) (fun e=>hn (by rw[e];exact h.oa)) (fun e=>hn (by rw[e];exact h.ok)) fun kv hk e=>hn (h.ow kv hk d e)
end
def KpS (own:Addr→Nat)(H:Hp)(kp:Addr)(us:List V):Prop:=H kp=some (.lst us)∧own kp=3∧∀u∈us,∃(t l1 l2:Addr) (ns:List Int),u = .ref t∧H t=some (.tup [.ref l1,.ref l2])∧H l1=some (.lst (ns.map V.int))∧H l2=some (.lst (ns.map V.int))∧own t=4∧own l1=4∧own l2=4
theorem KpS.same {own:Addr→Nat}{H H':Hp}{kp:Addr}{us:List V}(h:KpS own H kp us)(s:Same H H'):KpS own H' kp us:=⟨s _ _ h.1,h.2.1,fun u hu=>let ⟨t,l1,l2,ns,e,h1,h2,h3,h4⟩:=h.2.2 u hu;⟨t,l1,l2,ns,e,s _ _ h1,s _ _ h2,s _ _ h3,h4⟩⟩
theorem KpS.stay {own own':Addr→Nat}{H H':Hp}{kp:Addr}{us:List V}(h:KpS own H kp us)(k3:∀d o,H d=some o→own d=3→H' d=some o)(k4:∀d o,H d=some o→own d=4→H' d=some o)(e:∀d o,H d=some o→own' d=own d):KpS own' H' kp us :=
 ⟨k3 _ _ h.1 h.2.1,(e _ _ h.1).trans h.2.1,fun u hu=>let ⟨t,l1,l2,ns,eu,h1,h2,h3,o1,o2,o3⟩:=h.2.2 u hu;⟨t,l1,l2,ns,eu,k4 _ _ h1 o1,k4 _ _ h2 o2,k4 _ _ h3 o3,(e _ _ h1).trans o1,(e _ _ h2).trans o2,(e _ _ h3).trans o3⟩⟩
def ownL (own:Addr→Nat)(H:Hp)(a2 t t1 t2:Addr)(b:Addr):Nat:=if b=a2 then 2 else if b=t∨b=t1∨b=t2 then 4 else ownN own H 2 b
section
variable {own:Addr→Nat}{H:Hp}{a2 t t1 t2 b:Addr}
theorem Xkv {o:HO}(na:H a2=none)(nt:H t=none)(n1:H t1=none)(n2:H t2=none)(h:H b=some o):ownL own H a2 t t1 t2 b=own b:=by
 have g:∀d,H d=none→b≠d:=fun d hd e=>by rw[e,hd] at h;cases h
 unfold ownL
 rw[if_neg (g a2 na),if_neg (fun e=>by rcases e with e | e | e;exact g t nt e;exact g t1 n1 e;exact g t2 n2 e),Xcb h]
theorem Xod (h:H b=none)(na:b≠a2)(nt:b≠t)(n1:b≠t1)(n2:b≠t2):ownL own H a2 t t1 t2 b=2:=by
 unfold ownL
 rw[if_neg na,if_neg (fun e=>by rcases e with e | e | e;exact nt e;exact n1 e;exact n2 e),Xfr h]
theorem XBf:ownL own H a2 t t1 t2 a2=2:=if_pos rfl
theorem Xji (n:b≠a2)(h:b=t∨b=t1∨b=t2):ownL own H a2 t t1 t2 b=4:=by
 unfold ownL
 rw[if_neg n,if_pos h]
end
theorem KpS.add {own own':Addr→Nat}{H H':Hp}{kp t t1 t2:Addr}{us:List V}{ns:List Int}(h:KpS own H kp us)(f:∀d o,H d=some o→own d=4→H' d=some o)(e:∀d o,H d=some o→own' d=own d)(hkp:H' kp=some (.lst (us++[.ref t])))(ht:H' t=some (.tup [.ref t1,.ref t2]))(h1:H' t1=some (.lst (ns.map V.int)))(h2:H' t2=some (.lst (ns.map V.int)))(o:own' t=4)(o1:own' t1=4)(o2:own' t2=4):KpS own' H' kp (us++[.ref t]):=by
 refine⟨hkp,(e _ _ h.1).trans h.2.1,fun u hu=>?_⟩
 rcases List.mem_append.mp hu with g | g
 · obtain⟨t',l1,l2,ns',eu,g1,g2,g3,o1,o2,o3⟩:=h.2.2 u g
   exact⟨t',l1,l2,ns',eu,f _ _ g1 o1,f _ _ g2 o2,f _ _ g3 o3,(e _ _ g1).trans o1,(e _ _ g2).trans o2,(e _ _ g3).trans o3⟩
 · exact⟨t,t1,t2,ns,List.mem_singleton.mp g,ht,h1,h2,o,o1,o2⟩
def LwT (C:W4→Addr)(k1 k2:W4)(f0 f2:Option V)(x1 dx1 x2 dx2 kd1 kp q1:Addr)(zs:List Int)(N:Nat)(i:Nat)(σ:L2.St)(H:Hp):Prop :=
 ∃(own:Addr→Nat) (a1:Addr) (r1:Int) (cs1:List Int) (ps1:List Pc) (kvs1:List (Key×V)) (kd2 a2:Addr) (r2:Int) (cs2:List Int) (ps2:List Pc) (kvs2:List (Key×V)) (us:List V) (x8 x9 x10:Option V),σ=[f0,some (.int N),f2,some (.ref x1),some (.ref x2),some (.ref kd1),some (.ref kd2),some (.ref kp),x8,x9,x10,none] ∧
   OnS C own 1 k1 x1 dx1 kd1 a1 r1 cs1 ps1 kvs1 N i H∧OnS C own 2 k2 x2 dx2 kd2 a2 r2 cs2 ps2 kvs2 N i H∧KpS own H kp us∧us.length≤i+1∧H q1=some (.lst (zs.map V.int))∧own q1=4
def CpW (f8 f9:Option V)(f:List (Option V))(kd2 a2:Addr)(cs:List Int)(ps:List Pc)(kvs1:List (Key×V))(Hf:Hp)(i:Nat)(σ:L2.St)(H':Hp):Prop :=
 ∃(kvs2:List (Key×V)) (x10:Option V),σ=f++[f8,f9,x10,none]∧kvs2.map (·.1)=(kvs1.take i).map (·.1)∧H' kd2=some (.dK kvs2)∧(∀d o,d≠kd2→Hf d=some o→H' d=some o)∧(∀kv∈kvs2,(∃p z,kv.1 = .inl p∧RwA cs ps a2 H' p kv.2 z)∧∃b,kv.2 = .ref b∧Hf b=none)∧∀kv∈kvs2,∀kv'∈kvs2,kv.2=kv'.2→kv=kv'
def PrW (f:List (Option V))(H:Hp)(i:Nat)(σ:L2.St)(H':Hp):Prop:=∃x11:Option V,σ=f++[x11]∧H'=H
theorem XPj {f:Addr}{fd:FuncData}(F:Fun K "law" "law" Xnn f fd)(T:Txt K mg Y0 Y7 Y9 Y4 Y3 Y6 Y12 Y2 Y8 Y5 Y1 Y10 Y13 Y14 Y11 W0_ W1_)(D_Z32:Defx P w K mg base "_law_cell_at" 1 ["_law_script","_law_k"] (Xtl K))(D_Z19:Defx P w K mg base "stretches_of" 6 ["word","size"] (spOf (cF Y10 Y13 Y14 Y11) Y7 Y9))(D_Z56:Defx P w K mg base "_law_step" 13 ["_law_keeper","_law_other","_law_held","_law_c","_law_kept"] (XAh (cF Y10 Y13 Y14 Y11)))(D_Z42:Defx P w K mg base "_law_right" 6 ["_law_keeper","_law_held","_law_size"] (Xrb (cF Y10 Y13 Y14 Y11)))(D_Z61:Xbj P w K mg base (cF Y10 Y13 Y14 Y11) "cells" 1 ["self"] [] (Xfv (cF Y10 Y13 Y14 Y11))):FnOk P w K mg base (CXe P w) 14 f fd ["_law_script"] (Xxl K):=by
 refine Xbf F Xdq (fun vs H Q E h=>by revert h;walk_at "len") (fun cdv A outer s H vs Q E hr h=>?_)
 refine⟨_,PSs.nox (Xab (Xan (i:=1) Xdq.nd rfl (Or.inl rfl) (Xal Xbb Xaf (Xal Xbu (Xah D_Z32 hr (by rfl) (Xaa (pv 0) (Xaa Xaf Xad))) Xaf))) (Xab (Xan (i:=2) Xdq.nd rfl (Or.inl rfl) (Xer (Xaa Xdi (Xaa Xdi (Xaa Xdi (Xaa Xdi Xad)))))) (Xab (Xan (i:=3) Xdq.nd rfl (Or.inl rfl) (Xah D_Z19 hr (by rfl) (Xaa (Xbd Xat (pv 2) (Xal Xbu (Xah D_Z32 hr (by rfl) (Xaa (pv 0) (Xaa Xaf Xad))) Xaf) (fun _ _=>rfl)) (Xaa (pv 1) Xad)))) (Xab (Xan (i:=4) Xdq.nd rfl (Or.inl rfl) (Xah D_Z19 hr (by rfl) (Xaa (Xbd Xat (pv 2) (Xal Xbu (Xah D_Z32 hr (by rfl) (Xaa (pv 0) (Xaa Xaf Xad))) Xaf) (fun _ _=>rfl)) (Xaa (pv 1) Xad)))) (Xab (Xbi (PW.pt (Xek (Xco (Xeg (Xba Xlt (by rfl) T.n_isinstance PyProof.Rows.boot_isinstance (Xaa (pv 3) (Xaa (Xgh (v:=.ref Y5) (by rfl) T.c_Keeper rfl) Xad))))) (Xdk (Xco (Xeg (Xba Xlt (by rfl) T.n_isinstance PyProof.Rows.boot_isinstance (Xaa (pv 4) (Xaa (Xgh (v:=.ref Y5) (by rfl) T.c_Keeper rfl) Xad)))))))) (Xac (Xak Xdh)) Xap) (Xab (Xan (i:=5) Xdq.nd rfl (Or.inl rfl) Xjs) (Xab (Xan (i:=6) Xdq.nd rfl (Or.inl rfl) Xjs) (Xab (Xan (i:=7) Xdq.nd rfl (Or.inl rfl) (Xer (Xaa (Xew (Xaa (Xda D_Z61 Xbq hr (pv 3)) (Xaa (Xda D_Z61 Xbq hr (pv 3)) Xad))) Xad))) (Xab (Xel PassesOwn.never rfl (Xcq (Xgd Xhq (pv 0) (Xfj Xaf) (Xfj Xaf))) (Xar (i:=8) Xdq.nd rfl (Or.inl rfl)) (Xab (Xbi (Xaj Xfl (Xal Xbu (Xal Xbu (Xal Xfi (pv 8) Xaf) Xaf) Xaf) Xaf (Xao _)) (Xab (Xan (i:=9) Xdq.nd rfl (Or.inl rfl) (Xba Xii (by rfl) T.n_len PySem.boot_len (Xaa (pv 5) Xad))) (Xab (Xbi (PW.pt (Xek (Xco (Xeg (Xah D_Z56 hr (by rfl) (Xaa (pv 3) (Xaa (pv 4) (Xaa (pv 5) (Xaa (pv 8) (Xaa (pv 7) Xad)))))))) (Xdk (Xco (Xeg (Xah D_Z42 hr (by rfl) (Xaa (pv 3) (Xaa (pv 5) (Xaa (pv 1) Xad))))))))) (Xac (Xak Xdh)) Xap) (Xac (Xbi (PW.pt (Xep (Xaj Xke (pv 9) Xaf (Xao _)) (Xep (Xaj Xfl (Xal Xbu (Xal Xbu (Xal Xfi (pv 8) Xaf) Xaf) Xaf) Xaf (Xao _)) (Xem (Xaj Xke (Xal Xbu (Xal Xmj (pv 8) Xaf) Xaf) Xaf (Xao _)))))) (Xab (Xan (i:=6) Xdq.nd rfl (Or.inl rfl) Xjs) (Xac (XEe PassesOwn.never rfl (pv 5) (Xar (i:=10) Xdq.nd rfl (Or.inl rfl)) (Xac (Xtw (Xfn hr.units) (pv 6) (pv 10) (Xcw Xcf (by rfl) T.n_list PyProof.Rows.boot_list (Xaa (Xif (Xfn hr.units) (pv 5) (pv 10) (fun _ _=>rfl)) Xad)) rfl))))) Xap)))) (Xac (Xbi (Xco (Xeg (Xah D_Z56 hr (by rfl) (Xaa (pv 4) (Xaa (pv 4) (Xaa (pv 6) (Xaa (pv 8) (Xaa (pv 7) Xad)))))))) (Xac (Xak Xdh)) Xap))) (Xac (Xbi (Xco (Xeg (Xah D_Z42 hr (by rfl) (Xaa (pv 4) (Xaa (pv 6) (Xaa (pv 1) Xad)))))) (Xac (Xak Xdh)) Xap)))) (Xab (Xel PassesOwn.never rfl (Xcq (pv 7)) (Xar (i:=11) Xdq.nd rfl (Or.inl rfl)) (Xac (Xbi (Xaj (XMf hr.units) (Xbd Xci (pv 11) Xaf (fun _ _=>rfl)) (Xbd Xci (pv 11) Xaf (fun _ _=>rfl)) (Xao _)) (Xac (Xak Xdh)) Xap))) (Xac (Xak (Xah D_Z42 hr (by rfl) (Xaa (pv 3) (Xaa (pv 5) (Xaa (pv 1) Xad)))))))))))))))),?_⟩
 obtain⟨sc,ns,rfl,hS,hlen,kk⟩:=h
 have v0:=Int.emod_nonneg (ns.getD (0:Int).toNat 0) (show (88:Int)≠0 by decide)
 have v1:=Int.emod_lt_of_pos (ns.getD (0:Int).toNat 0) (show (0:Int)<88 by decide)
 have c40:=Int.emod_nonneg (ns.getD (1:Int).toNat 0) (show (4:Int)≠0 by decide)
 have c41:=Int.emod_lt_of_pos (ns.getD (1:Int).toNat 0) (show (0:Int)<4 by decide)
 have c50:=Int.emod_nonneg (ns.getD (2:Int).toNat 0) (show (4:Int)≠0 by decide)
 have c51:=Int.emod_lt_of_pos (ns.getD (2:Int).toNat 0) (show (0:Int)<4 by decide)
 obtain⟨N,en,n1,n2⟩:∃N:Nat,3+ns.getD (0:Int).toNat 0%88=(N:Int)∧3≤N∧N≤90:=⟨(3+ns.getD (0:Int).toNat 0%88).toNat,by omega,by omega,by omega⟩
 walk_at "go"
 rw[en]
 clear en v0 v1
 intro l1 hl1
 have s1:Same H (upd H l1 (.lst [.str "first",.str "best",.str "next",.str "likes"])):=Same.new hl1
 have h1:upd H l1 (.lst [.str "first",.str "best",.str "next",.str "likes"]) l1=some (.lst [.str "first",.str "best",.str "next",.str "likes"]):=upd_same
 generalize upd H l1 (.lst [.str "first",.str "best",.str "next",.str "likes"])=H1 at s1 h1 ⊢
 have hS1:=s1.seq hS
 walk_at "go"
 obtain⟨k1,ek1⟩:=Xoj c40 c41
 obtain⟨k2,ek2⟩:=Xoj c50 c51
 refine Xkw (SqL.of h1) ek1 ?_
 walk_at "go"
 refine⟨Xpc k1,(N:Int),rfl,by omega,fun hw=>absurd rfl (hw k1),fun i hi hn=>absurd hn (by omega),fun k1' _ _ x1 dx1 a1 H2 nx1 na1 s2 S1=>?_⟩
 have hS2:=s2.seq hS1
 have h2:=s2 l1 _ h1
 walk_at "go"
 refine Xkw (SqL.of h2) ek2 ?_
 walk_at "go"
 refine⟨Xpc k2,(N:Int),rfl,by omega,fun hw=>absurd rfl (hw k2),fun i hi hn=>absurd hn (by omega),fun k2' _ _ x2 dx2 a2 H3 nx2 na2 s3 S2=>?_⟩
 have hS3:=s3.seq hS2
 have S13:=S1.same s3
 have hx1:=S13.hx
 have hx2:=S2.hx
 have L1:Lb (ownN (ownN (fun _=>0) H1 1) H2 2) H3 x1 1:=(Lb.mk (own:=fun _=>0) nx1 S1.hx).next s3
 have L2:Lb (ownN (ownN (fun _=>0) H1 1) H2 2) H3 a1 1:=(Lb.mk (own:=fun _=>0) na1 S1.ha).next s3
 have L3:Lb (ownN (ownN (fun _=>0) H1 1) H2 2) H3 x2 2:=Lb.mk nx2 S2.hx
 have L4:Lb (ownN (ownN (fun _=>0) H1 1) H2 2) H3 a2 2:=Lb.mk na2 S2.ha
 generalize ownN (ownN (fun _=>0) H1 1) H2 2=own3 at L1 L2 L3 L4
 have ik1:=T_ik T k1'
 have ist1:=T_is T k1'
 have ik2:=T_ik T k2'
 have ist2:=T_is T k2'
 clear hS hS1 hS2 s1 h1 hl1 c40 c41 c50 c51 ek1 ek2 h2 s2 s3 nx1 nx2 na1 na2 S1
 walk_at "go"
 intro kd1 nk1
 have s4:Same H3 (upd H3 kd1 (.dK [])):=Same.new nk1
 have hk1:upd H3 kd1 (.dK []) kd1=some (.dK []):=upd_same
 generalize upd H3 kd1 (.dK [])=H4 at s4 hk1 ⊢
 walk_at "go"
 intro kd2 nk2
 have s5:Same H4 (upd H4 kd2 (.dK [])):=Same.new nk2
 have hk2:upd H4 kd2 (.dK []) kd2=some (.dK []):=upd_same
 generalize upd H4 kd2 (.dK [])=H5 at s5 hk2 ⊢
 have s45:=s4.trans s5
 have L1:=(L1.next (n':=1) s4).next (n':=2) s5
 have L2:=(L2.next (n':=1) s4).next (n':=2) s5
 have L3:=(L3.next (n':=1) s4).next (n':=2) s5
 have L4:=(L4.next (n':=1) s4).next (n':=2) s5
 have L5:=(Lb.mk (own:=own3) (n:=1) nk1 hk1).next (n':=2) s5
 have L6:=Lb.mk (own:=ownN own3 H3 1) (n:=2) nk2 hk2
 generalize ownN (ownN own3 H3 1) H4 2=own5 at L1 L2 L3 L4 L5 L6
 have S15:=S13.same s45
 have S25:=S2.same s45
 have hk15:=s5 kd1 _ hk1
 have hS5:=s45.seq hS3
 have hx15:=S15.hx
 clear hS3 s4 s5 s45 nk1 nk2 hk1 S13 S2 hx1 hx2 ik1 ist1 ik2 ist2
 walk_at "go"
 refine⟨0,x1,dx1,a1,_,rfl,hx15,S15.ha,fun c1 H6 nc1 s6 hc1=>?_⟩
 have hx16:=s6 x1 _ hx15
 walk_at "go"
 refine⟨0,x1,dx1,a1,_,rfl,hx16,s6 a1 _ S15.ha,fun c2 H7 nc2 s7 hc2=>?_⟩
 walk_at "go"
 intro t nt
 have s8:Same H7 (upd H7 t (.tup [.ref c1,.ref c2])):=Same.new nt
 have ht8:upd H7 t (.tup [.ref c1,.ref c2]) t=some (.tup [.ref c1,.ref c2]):=upd_same
 generalize upd H7 t (.tup [.ref c1,.ref c2])=H8 at s8 ht8 ⊢
 walk_at "go"
 intro kp nkp
 have s9:Same H8 (upd H8 kp (.lst [.ref t])):=Same.new nkp
 have hkp9:upd H8 kp (.lst [.ref t]) kp=some (.lst [.ref t]):=upd_same
 generalize upd H8 kp (.lst [.ref t])=H9 at s9 hkp9 ⊢
 have s78:=s7.trans s8
 have s68:=s6.trans s78
 have hS9:=(s68.trans s9).seq hS5
 walk_at "go"
 intro q1 H10 mq1 s10 hq1
 have hzl:(cutI ns (some 3) (some 203)).length≤200:=Xvm ns 3 203
 generalize cutI ns (some 3) (some 203)=zs at hq1 hzl ⊢
 have s810:=s9.trans s10
 have s510:=s68.trans s810
 have mv:∀{b n},Lb own5 H5 b n→Lb (ownN (ownN (ownN own5 H5 4) H8 3) H9 4) H10 b n:=fun h=>((h.next s68).next s9).next s10
 have O1:OnS (cF Y10 Y13 Y14 Y11) (ownN (ownN (ownN own5 H5 4) H8 3) H9 4) 1 k1' x1 dx1 kd1 a1 0 (Xcz N) [⟨0,N,false⟩] [] N 0 H10:=⟨S15.same s510,⟨s510 kd1 _ hk15,List.nodup_nil,(fun kv hk=>by cases hk),(fun kv hk=>by cases hk),Nat.le_refl _⟩,(fun z hz hv=>by rw[List.mem_singleton.mp hz] at hv;cases hv),by have:=Xdt (show (0:Int)≤N by omega);omega,(mv L1).1,(mv L2).1,(mv L5).1,(fun kv hk=>by cases hk)⟩
 have O2:OnS (cF Y10 Y13 Y14 Y11) (ownN (ownN (ownN own5 H5 4) H8 3) H9 4) 2 k2' x2 dx2 kd2 a2 0 (Xcz N) [⟨0,N,false⟩] [] N 0 H10:=⟨S25.same s510,⟨s510 kd2 _ hk2,List.nodup_nil,(fun kv hk=>by cases hk),(fun kv hk=>by cases hk),Nat.le_refl _⟩,(fun z hz hv=>by rw[List.mem_singleton.mp hz] at hv;cases hv),by have:=Xdt (show (0:Int)≤N by omega);omega,(mv L3).1,(mv L4).1,(mv L6).1,(fun kv hk=>by cases hk)⟩
 have mn:∀{b o},H5 b=none→H8 b=some o→Lb (ownN (ownN (ownN own5 H5 4) H8 3) H9 4) H10 b 4:=fun h1 h2=>((Lb.mk h1 h2).next s9).next s10
 have hc18:=s78 c1 _ hc1
 have hc28:=s8 c2 _ hc2
 have K1:KpS (ownN (ownN (ownN own5 H5 4) H8 3) H9 4) H10 kp [.ref t]:=⟨s10 kp _ hkp9,((Lb.mk (own:=ownN own5 H5 4) (n:=3) nkp hkp9).next s10).1,fun u hu=>⟨t,c1,c2,Xcz N,List.mem_singleton.mp hu,s810 t _ ht8,s810 c1 _ hc18,s810 c2 _ hc28,(mn ((s6.trans s7).free nt) ht8).1,(mn nc1 hc18).1,(mn (s6.free nc2) hc28).1⟩⟩
 have oq:(ownN (ownN (ownN own5 H5 4) H8 3) H9 4) q1=4:=(Lb.mk mq1 hq1).1
 generalize ownN (ownN (ownN own5 H5 4) H8 3) H9 4=own at O1 O2 K1 oq
 clear mv mn L1 L2 L3 L4 L5 L6 s6 s7 s8 s9 s10 s68 s78 s810 s510 hS5 hS9 hx15 hx16 S15 S25 hk15 hk2 ht8 hkp9 nt nkp nc1 nc2 hc1 hc2 hc18 hc28 mq1
 refine⟨q1,rfl,⟨_,SqL.of hq1⟩,Xdn (K:=K) (a:=q1) (xs:=zs.map V.int) (LwT (cF Y10 Y13 Y14 Y11) k1' k2' (some (.ref sc)) (some (.ref l1)) x1 dx1 x2 dx2 kd1 kp q1 zs N) ⟨own,a1,0,_,_,[],kd2,a2,0,_,_,[],[.ref t],none,none,none,rfl,O1,O2,K1,Nat.le_refl _,hq1,oq⟩ (fun i σ H2 _ ⟨_,_,_,_,_,_,_,_,_,_,_,_,_,_,_,_,_,_,_,_,_,h,_⟩=>SqL.of h) ?_ ?_⟩
 · rintro i yv σ H2 hi ⟨own,a1,r1,cs1,ps1,kvs1,kd2,a2,r2,cs2,ps2,kvs2,us,x8,x9,x10,rfl,O1,O2,K1,hu,hq2,oq⟩
   have hiz:i<(zs.map V.int).length:=(List.getElem?_eq_some_iff.mp hi).1
   rw[List.length_map] at hiz
   rw[List.getElem?_map] at hi
   obtain⟨c0,hc0,rfl⟩:=Option.map_eq_some_iff.mp hi
   have hx1:=O1.S.hx
   have hx2:=O2.S.hx
   have hkp:=K1.1
   have hka:kp≠a2:=fun e=>by have:=K1.2.1;rw[e,O2.oa] at this;cases this
   have ne:∀{b d:Addr} {n m:Nat},own b=n→own d=m→n≠m→b≠d:=fun h1 h2 h e=>h (by rw[←h1,←h2,e])
   walk_at "gs"
   refine XAz (M:=LwT (cF Y10 Y13 Y14 Y11) k1' k2' (some (.ref sc)) (some (.ref l1)) x1 dx1 x2 dx2 kd1 kp q1 zs N (i+1)) ?_ (fun nx hM=>?_)
   · clear hx1 hx2 hkp hka hu hq2 oq K1 O1 O2 ne
     rintro σ' H' ⟨own,a1,r1,cs1,ps1,kvs1,kd2,a2,r2,cs2,ps2,kvs2,us,x8,x9,x10,rfl,O1,O2,K1,hu,hq2,oq⟩
     have hx2:=O2.S.hx
     walk_at "go"
     refine⟨k2',r2,x2,dx2,a2,kd2,cs2,ps2,kvs2,_,by rw[O2.ln],O2.S,O2.D,O2.sj,fun H4 s4=>?_⟩
     walk_at "go"
     exact⟨own,a1,r1,cs1,ps1,kvs1,kd2,a2,r2,cs2,ps2,kvs2,us,x8,x9,x10,rfl,O1.same s4,O2.same s4,K1.same s4,hu,s4 q1 _ hq2,oq⟩
   have e0:=Int.emod_nonneg (c0*30903%17389) (show (2:Int)≠0 by decide)
   have e1:=Int.emod_lt_of_pos (c0*30903%17389) (show (0:Int)<2 by decide)
   have hkd1:=O1.D.hd
   by_cases hcc:c0*30903%17389%2=0
   · walk_at "go"
     refine⟨kd1,kvs1,rfl,hkd1,?_⟩
     walk_at "go"
     refine⟨k1',r1,x1,dx1,a1,kd1,x2,kp,cs1,ps1,kvs1,i,c0,rfl,O1.S,O1.D,O1.sj,by omega,k2',r2,dx2,a2,cs2,ps2,us,O2.S,by rw[O1.ln,O2.ln],hkp,by omega,hka,fun nL a' r' cs' ps' kvs' H3 F3 l3 S3 D3 sj3=>?_,fun yL a2' t1 t2 t H3 f3 na2 n1 n2 nt ne1 ne2 ne3 ht h1 h2 hkp3 S3=>?_⟩
     · have O1':=O1.step F3 l3 S3 D3 sj3
       have fr:=O1.frame F3
       have O2':=O2.stay (own':=ownN own H2 1) (fun d o hd e=>fr d o hd (by rw[e];decide)) (fun d o hd e=>(Xcb hd).trans e)
       have K1':=K1.stay (own':=ownN own H2 1) (fun d o hd e=>fr d o hd (by rw[e];decide)) (fun d o hd e=>fr d o hd (by rw[e];decide)) (fun d o hd=>Xcb hd)
       have hq3:=fr q1 _ hq2 (by rw[oq];decide)
       have oq3:ownN own H2 1 q1=4:=(Xcb hq2).trans oq
       have hx1':=O1'.S.hx
       walk_at "go"
       refine⟨k1',r',x1,dx1,a',kd1,cs',ps',kvs',_,by rw[O1'.ln],O1'.S,O1'.D,O1'.sj,fun H4 s4=>?_⟩
       rcases(show ¬0<kvs1.length∨(0<kvs1.length∧¬c0*69621%32749%12=11)∨(0<kvs1.length∧c0*69621%32749%12=11∧¬0<c0/12%3) from by unfold LayC at nL;omega) with h | ⟨h,h'⟩ | ⟨h,h',h''⟩
       all_goals
         walk_at "go"
         exact hM _ _ ⟨ownN own H2 1,a',r',cs',ps',kvs',kd2,a2,r2,cs2,ps2,kvs2,us,_,_,_,rfl,O1'.same s4,O2'.up.same s4,K1'.same s4,by omega,s4 q1 _ hq3,oq3⟩
     · have eO:∀d o,H2 d=some o→ownL own H2 a2' t t1 t2 d=own d:=fun d o hd=>Xkv na2 nt n1 n2 hd
       have f1:∀d o,H2 d=some o→own d=1→H3 d=some o:=fun d o hd e=>f3 d o hd (ne e O2.ox (by decide)) (ne e K1.2.1 (by decide))
       have f4:∀d o,H2 d=some o→own d=4→H3 d=some o:=fun d o hd e=>f3 d o hd (ne e O2.ox (by decide)) (ne e K1.2.1 (by decide))
       have ex3:∀d o,H2 d=some o→∃o',H3 d=some o':=fun d o hd=>by
         by_cases g:d=x2
         · exact⟨_,by rw[g];exact S3.hx⟩
         · by_cases g':d=kp
           · exact⟨_,by rw[g'];exact hkp3⟩
           · exact⟨o,f3 d o hd g g'⟩
       have O1':=O1.stay (own':=ownL own H2 a2' t t1 t2) f1 (fun d o hd e=>(eO d o hd).trans e)
       have K3:=K1.add (own':=ownL own H2 a2' t t1 t2) f4 eO hkp3 ht h1 h2 (Xji (Ne.symm ne3) (.inl rfl)) (Xji (Ne.symm ne1) (.inr (.inl rfl))) (Xji (Ne.symm ne2) (.inr (.inr rfl)))
       have hq3:=f4 q1 _ hq2 oq
       have oq3:=(eO q1 _ hq2).trans oq
       have ox3:=(eO x2 _ hx2).trans O2.ox
       have hx1':=O1'.S.hx
       obtain⟨yL1,yL2,yL3⟩:=yL
       walk_at "go"
       refine⟨k1',r1,x1,dx1,a1,kd1,cs1,ps1,kvs1,_,by rw[O1'.ln],O1'.S,O1'.D,O1'.sj,fun H4 s4=>?_⟩
       walk_at "go"
       intro kd3 nk3
       have s5:Same H3 (upd H4 kd3 (.dK [])):=s4.trans (Same.new nk3)
       have hk35:upd H4 kd3 (.dK []) kd3=some (.dK []):=upd_same
       have nk33:=s4.free nk3
       generalize upd H4 kd3 (.dK [])=H5 at s5 hk35 ⊢
       have O5:=O1'.same s5
       have hkd5:=O5.D.hd
       have K5:=K3.same s5
       have S5:=S3.same s5
       have hq5:=s5 q1 _ hq3
       have hk31:kd3≠kd1:=fun e=>by rw[e,O1'.D.hd] at nk33;cases nk33
       have ha1k:a2'≠kd1:=fun w=>by have:=S3.ha;rw[w,O1'.D.hd] at this;cases this
       have ha2k:a2'≠kd3:=fun e=>by rw[←e,S3.ha] at nk33;cases nk33
       have ok3:ownL own H2 a2' t t1 t2 kd3=2:=Xod (by
         cases e:H2 kd3 with
         | none=>rfl
         | some o=>obtain⟨o',h'⟩:=ex3 kd3 o e;rw[nk33] at h';cases h') (Ne.symm ha2k) (fun e=>by rw[e,ht] at nk33;cases nk33) (fun e=>by rw[e,h1] at nk33;cases nk33) (fun e=>by rw[e,h2] at nk33;cases nk33)
       walk_at "go"
       intro NF
       walk_at "go"
       refine⟨kd1,kvs1,rfl,hkd5,fun o nf=>Xxz nf (CpW (some (.int c0)) (some (.int kvs1.length)) [some (.ref sc),some (.int N),some (.ref l1),some (.ref x1),some (.ref x2),some (.ref kd1),some (.ref kd3),some (.ref kp)] kd3 a2' cs1 ps1 kvs1 (upd H5 kd1 (.frz o (.dK kvs1)))) ⟨[],_,rfl,rfl,look_ne hk31 hk35,fun d o _ h=>h,(fun kv hk=>by cases hk),(fun kv hk=>by cases hk)⟩ (fun j σ H ⟨_,_,_,_,_,h,_⟩=>h kd1 _ (Ne.symm hk31) upd_same) ?_ ?_⟩
       · rintro j key v σ H6 hj ⟨kvs2',x10',rfl,ekeys,hkd3,fr6,rw6,ap6⟩
         have hkm:=List.mem_of_getElem? hj
         obtain⟨p,z,ek,b,row,ep,eb,hzm,hzv,hb,hrl,hba,hct2⟩:=O5.D.rw _ hkm
         subst ep
         have ek:key = .inl (z.a+1):=ek
         have eb:v = .ref b:=eb
         subst ek eb
         have hval:valV kvs1 (.inl (z.a+1))=some (.ref b):=Xfa O5.D.nd hkm
         have hbk1:b≠kd1:=fun e=>by rw[e,hkd5] at hb;cases hb
         have hbk3:b≠kd3:=fun e=>by rw[e,hk35] at hb;cases hb
         have hb6:=fr6 b _ hbk3 (look_ne hbk1 hb)
         have hfz:=fr6 kd1 _ (Ne.symm hk31) upd_same
         have hl2:kvs2'.length=j:=by
           have:=congrArg List.length ekeys
           rw[List.length_map,List.length_map,List.length_take] at this
           have:=(List.getElem?_eq_some_iff.mp hj).1
           omega
         have hno:valV kvs2' (.inl (z.a+1))=none:=Xna fun kv hk e=>by
           have h1:kv.1∈(kvs1.take j).map (·.1):=by rw[←ekeys];exact List.mem_map.mpr ⟨kv,hk,rfl⟩
           obtain⟨kv',h2,h3⟩:=List.mem_map.mp h1
           obtain⟨i',hi',e'⟩:=List.mem_take_iff_getElem.mp h2
           have:=(List.getElem?_inj (i:=i') (j:=j) (by rw[List.length_map];omega) O5.D.nd).mp (by rw[List.getElem?_map,List.getElem?_map,hj,List.getElem?_eq_getElem (by omega),e'];show some kv'.1=some (Sum.inl (z.a+1));rw[h3,e])
           omega
         have hjk:=(List.getElem?_eq_some_iff.mp hj).1
         have hfw:=O5.D.fw
         dsimp only [kV]
         simp only [List.cons_append,List.nil_append]
         walk_at "go"
         refine⟨kd1,.ref b,rfl,(by have:=XOr (k:=.inl (z.a+1)) hfz;rw[hval] at this;exact this),?_⟩
         walk_at "go"
         intro b2 nb2
         have hb2a:b2≠a2':=fun e=>by rw[e,fr6 a2' _ ha2k (look_ne ha1k S5.ha)] at nb2;cases nb2
         have hb2k:b2≠kd3:=fun e=>by rw[e,hkd3] at nb2;cases nb2
         have nf2:upd H5 kd1 (.frz o (.dK kvs1)) b2=none:=by
           cases e:upd H5 kd1 (.frz o (.dK kvs1)) b2 with
           | none=>rfl
           | some u=>rw[fr6 b2 u hb2k e] at nb2;cases nb2
         have s7:Same H6 (upd H6 b2 (.lst (row.map optV))):=Same.new nb2
         have hb27:upd H6 b2 (.lst (row.map optV)) b2=some (.lst (row.map optV)):=upd_same
         generalize upd H6 b2 (.lst (row.map optV))=H7 at s7 hb27 ⊢
         have hkd37:=s7 kd3 _ hkd3
         walk_at "go"
         refine⟨kd3,_,rfl,DPut.k (k:=.inl (z.a+1)) hkd37 (small4000 (by omega)),?_⟩
         rw[Xnr _ hno]
         walk_at "go"
         refine⟨kvs2'++[(.inl (z.a+1),.ref b2)],_,rfl,?_,upd_same,fun d o n h=>look_ne n (s7 d o (fr6 d o n h)),fun kv hk=>?_,fun kv hk kv' hk' e=>?_⟩
         · rw[List.map_append,ekeys,List.take_add_one,hj,List.map_append]
           rfl
         · rcases List.mem_append.mp hk with g | g
           · obtain⟨⟨p',y,e',b',row',g1,g2,g3,g4,g5,g6,g7,g8⟩,g9⟩:=rw6 kv g
             exact⟨⟨p',y,e',b',row',g1,g2,g3,g4,look_ne (fun w=>by rw[w,hkd3] at g5;cases g5) (s7 b' _ g5),g6,g7,g8⟩,g9⟩
           · rw[List.mem_singleton.mp g]
             exact⟨⟨z.a+1,z,rfl,b2,row,rfl,rfl,hzm,hzv,look_ne hb2k hb27,hrl,hb2a,hct2⟩,b2,rfl,nf2⟩
         · have old:∀kv∈kvs2',kv.2≠.ref b2:=fun kv hk e=>by
             obtain⟨⟨_,_,_,b',row',_,g2,_,_,g5,_⟩,_⟩:=rw6 kv hk
             rw[g2] at e
             cases e
             rw[nb2] at g5
             cases g5
           rcases List.mem_append.mp hk with g | g
           · rcases List.mem_append.mp hk' with g' | g'
             · exact ap6 kv g kv' g' e
             · rw[List.mem_singleton.mp g'] at e
               exact absurd e (old kv g)
           · rcases List.mem_append.mp hk' with g' | g'
             · rw[List.mem_singleton.mp g] at e
               exact absurd e.symm (old kv' g')
             · rw[List.mem_singleton.mp g,List.mem_singleton.mp g']
       · rintro σ H6 ⟨kvs2',x10',rfl,ekeys,hkd3,fr6,rw6,ap6⟩
         rw[List.take_length] at ekeys
         have fr7:∀d o,d≠kd3→H5 d=some o→upd H6 kd1 (.dK kvs1) d=some o:=fun d u n h=>by
           by_cases g:d=kd1
           · rw[g,hkd5] at h
             rw[g,upd_same]
             exact h
           · exact look_ne g (fr6 d u n (look_ne g h))
         have hkd37:upd H6 kd1 (.dK kvs1) kd3=some (.dK kvs2'):=look_ne hk31 hkd3
         have rw7:∀kv∈kvs2',∃p z,kv.1 = .inl p∧RwA cs1 ps1 a2' (upd H6 kd1 (.dK kvs1)) p kv.2 z:=fun kv hk=>by
           obtain⟨⟨p',y,e',b',row',g1,g2,g3,g4,g5,g6,g7,g8⟩,b'',g9,g10⟩:=rw6 kv hk
           exact⟨p',y,e',b',row',g1,g2,g3,g4,look_ne (fun w=>by
             rw[g2] at g9
             cases g9
             rw[w,upd_same] at g10
             cases g10) g5,g6,g7,g8⟩
         have nb7:∀kv∈kvs2',∀b,kv.2 = .ref b→H5 b=none:=fun kv hk b eb=>by
           obtain⟨_,b'',g9,g10⟩:=rw6 kv hk
           rw[eb] at g9
           cases g9
           cases e:H5 b with
           | none=>rfl
           | some u =>
             by_cases g:b=kd1
             · rw[g,upd_same] at g10;cases g10
             · rw[look_ne g e] at g10;cases g10
         generalize upd H6 kd1 (.dK kvs1)=H7 at fr7 hkd37 rw7 ⊢
         have O7:=O5.stay (own':=ownL own H2 a2' t t1 t2) (H':=H7) (fun d o hd e=>fr7 d o (fun w=>by rw[w,ok3] at e;cases e) hd) (fun _ _ _ e=>e)
         have K7:=K5.stay (own':=ownL own H2 a2' t t1 t2) (H':=H7) (fun d o hd e=>fr7 d o (fun w=>by rw[w,ok3] at e;cases e) hd) (fun d o hd e=>fr7 d o (fun w=>by rw[w,ok3] at e;cases e) hd) (fun _ _ _=>rfl)
         have hxk:x2≠kd3:=fun w=>by rw[←w,S3.hx] at nk33;cases nk33
         have O2':OnS (cF Y10 Y13 Y14 Y11) (ownL own H2 a2' t t1 t2) 2 k2' x2 dx2 kd3 a2' 0 cs1 ps1 kvs2' N (i+1) H7:=by
           refine⟨⟨fr7 x2 _ hxk S5.hx,fr7 a2' _ ha2k S5.ha,S5.hz,S5.hc,S5.mm,S5.nj⟩,⟨hkd37,by rw[ekeys];exact O5.D.nd,rw7,ap6,?_⟩,fun z hz hv=>?_,O5.ln,ox3,XBf,ok3,fun kv hk b eb=>?_⟩
           · have:=congrArg List.length ekeys
             rw[List.length_map,List.length_map] at this
             have:=O5.D.fw
             omega
           · obtain⟨kv,g1,g2⟩:=O5.sj z hz hv
             have:kv.1∈kvs2'.map (·.1):=by rw[ekeys];exact List.mem_map.mpr ⟨kv,g1,rfl⟩
             obtain⟨kv',g3,g4⟩:=List.mem_map.mp this
             exact⟨kv',g3,g4.trans g2⟩
           · have nb:=nb7 kv hk b eb
             have nb3:=s5.free nb
             exact Xod (by
               cases e:H2 b with
               | none=>rfl
               | some u=>obtain⟨u',h'⟩:=ex3 b u e;rw[nb3] at h';cases h') (fun e=>by rw[e,S3.ha] at nb3;cases nb3) (fun e=>by rw[e,ht] at nb3;cases nb3) (fun e=>by rw[e,h1] at nb3;cases nb3) (fun e=>by rw[e,h2] at nb3;cases nb3)
         simp only [List.cons_append,List.nil_append]
         walk_at "go"
         exact hM _ _ ⟨ownL own H2 a2' t t1 t2,a1,r1,cs1,ps1,kvs1,kd3,a2',0,cs1,ps1,kvs2',us++[.ref t],_,_,_,rfl,O7.up,O2',K7,by rw[List.length_append,List.length_singleton];omega,fr7 q1 _ (fun w=>by rw[w,ok3] at oq3;cases oq3) hq5,oq3⟩
   · walk_at "go"
     refine⟨k2',r2,x2,dx2,a2,kd2,x2,kp,cs2,ps2,kvs2,i,c0,rfl,O2.S,O2.D,O2.sj,by omega,k2',r2,dx2,a2,cs2,ps2,us,O2.S,rfl,hkp,by omega,hka,fun nL a' r' cs' ps' kvs' H3 F3 l3 S3 D3 sj3=>?_,fun yL a2' t1 t2 t H3 f3 na2 n1 n2 nt ne1 ne2 ne3 ht h1 h2 hkp3 S3=>?_⟩
     · have O2':=O2.step F3 l3 S3 D3 sj3
       have fr:=O2.frame F3
       have O1':=O1.stay (own':=ownN own H2 2) (fun d o hd e=>fr d o hd (by rw[e];decide)) (fun d o hd e=>(Xcb hd).trans e)
       have K1':=K1.stay (own':=ownN own H2 2) (fun d o hd e=>fr d o hd (by rw[e];decide)) (fun d o hd e=>fr d o hd (by rw[e];decide)) (fun d o hd=>Xcb hd)
       have hq3:=fr q1 _ hq2 (by rw[oq];decide)
       walk_at "go"
       exact hM _ _ ⟨ownN own H2 2,a1,r1,cs1,ps1,kvs1,kd2,a',r',cs',ps',kvs',us,_,_,_,rfl,O1'.up,O2',K1',by omega,hq3,(Xcb hq2).trans oq⟩
     · have eO:∀d o,H2 d=some o→ownL own H2 a2' t t1 t2 d=own d:=fun d o hd=>Xkv na2 nt n1 n2 hd
       have f1:∀d o,H2 d=some o→own d=1→H3 d=some o:=fun d o hd e=>f3 d o hd (ne e O2.ox (by decide)) (ne e K1.2.1 (by decide))
       have f4:∀d o,H2 d=some o→own d=4→H3 d=some o:=fun d o hd e=>f3 d o hd (ne e O2.ox (by decide)) (ne e K1.2.1 (by decide))
       have O1':=O1.stay (own':=ownL own H2 a2' t t1 t2) f1 (fun d o hd e=>(eO d o hd).trans e)
       have K3:=K1.add (own':=ownL own H2 a2' t t1 t2) f4 eO hkp3 ht h1 h2 (Xji (Ne.symm ne3) (.inl rfl)) (Xji (Ne.symm ne1) (.inr (.inl rfl))) (Xji (Ne.symm ne2) (.inr (.inr rfl)))
       have hkdx:kd2≠x2:=fun e=>by have:=O2.D.hd;rw[e,hx2] at this;cases this
       have O2':OnS (cF Y10 Y13 Y14 Y11) (ownL own H2 a2' t t1 t2) 2 k2' x2 dx2 kd2 a2' 0 cs2 ps2 kvs2 N (i+1) H3:=by
         refine⟨S3,⟨f3 kd2 _ O2.D.hd hkdx (ne O2.ok K1.2.1 (by decide)),O2.D.nd,fun kv hk=>?_,O2.D.ap,Nat.le_succ_of_le O2.D.fw⟩,O2.sj,O2.ln,(eO x2 _ hx2).trans O2.ox,XBf,(eO kd2 _ O2.D.hd).trans O2.ok,fun kv hk b eb=>?_⟩
         · obtain⟨p,z,e,b,row,g1,g2,g3,g4,g5,g6,g7,g8⟩:=O2.D.rw kv hk
           exact⟨p,z,e,b,row,g1,g2,g3,g4,f3 b _ g5 (fun w=>by rw[w,hx2] at g5;cases g5) (ne (O2.ow kv hk b g2) K1.2.1 (by decide)),g6,(fun w=>by rw[w,na2] at g5;cases g5),g8⟩
         · obtain⟨p,z,e,b',row,g1,g2,g3,g4,g5,_⟩:=O2.D.rw kv hk
           rw[eb] at g2
           cases g2
           exact(eO b _ g5).trans (O2.ow kv hk b eb)
       walk_at "go"
       exact hM _ _ ⟨ownL own H2 a2' t t1 t2,a1,r1,cs1,ps1,kvs1,kd2,a2',0,cs2,ps2,kvs2,us++[.ref t],_,_,_,rfl,O1'.up,O2',K3,by rw[List.length_append,List.length_singleton];omega,f4 q1 _ hq2 oq,(eO q1 _ hq2).trans oq⟩
 · rintro σ H2 ⟨own,a1,r1,cs1,ps1,kvs1,kd2,a2,r2,cs2,ps2,kvs2,us,x8,x9,x10,rfl,O1,O2,K1,hu,hq2,oq⟩
   have hkp:=K1.1
   walk_at "go"
   refine⟨kp,rfl,⟨_,SqL.of hkp⟩,Xdn (K:=K) (a:=kp) (xs:=us) (PrW [some (.ref sc),some (.int N),some (.ref l1),some (.ref x1),some (.ref x2),some (.ref kd1),some (.ref kd2),some (.ref kp),x8,x9,x10] H2) ⟨_,rfl,rfl⟩ (fun i σ H3 _ ⟨_,_,h⟩=>by rw[h];exact SqL.of hkp) ?_ ?_⟩
   · rintro i u σ H3 hi ⟨x11,rfl,rfl⟩
     obtain⟨t,c1,c2,ns',eu,ht,h1,h2,_⟩:=K1.2.2 u (List.mem_of_getElem? hi)
     subst eu
     simp only [List.cons_append,List.nil_append]
     walk_at "go"
     refine⟨c1,c2,ns',ns',rfl,rfl,SqL.of h1,SqL.of h2,?_⟩
     rw[decide_eq_true rfl]
     walk_at "go"
     exact⟨_,rfl,rfl⟩
   · rintro σ H3 ⟨x11,rfl,rfl⟩
     have hx:=O1.S.hx
     simp only [List.cons_append,List.nil_append]
     walk_at "go"
     refine⟨k1',r1,x1,dx1,a1,kd1,cs1,ps1,kvs1,_,by rw[O1.ln],O1.S,O1.D,O1.sj,fun H4 s4=>?_⟩
     walk_at "go"
     exact kk _
end
abbrev LkF (K:PySem.W.Frag)(x q:Str)(s:Stmt)(D:Value)(f:Addr)(oc:Value)(od:Option Addr)(kV dc pm:Value)(an:Option Addr)(cd ct:Value)(sl:Array (Option Value)):Prop:=K.lookup f=some ⟨oc,od,.func (PySem.W.fnOf x q (Xbr s) (Xbe s) (Xae s) D kV dc pm an cd ct),sl⟩
set_option autoImplicit true in
set_option relaxedAutoImplicit true in
theorem all_mk {l:PySem.W.OpenLaw}{w:World}{K:PySem.W.Frag}{h:Heap}{mg:Str→Option Value}{fa:Addr}(X:K.In h)(G:h.Ns mainGlobals mg)(hfa:mg "law"=some (.ref fa))
   (a_Z60:PySem.W.nsIn K mainGlobals "_wall"=some (some (.ref f_Z60)))
   (l_Z60:LkF K "_wall" "_wall" Xzb .none f_Z60 oc_Z60 od_Z60 kV_Z60 dc_Z60 pm_Z60 an_Z60 cd_Z60 ct_Z60 sl_Z60)
   (c_Z60:PySem.W.codeIn K cd_Z60 "_wall"=true)
   (k_Z60:PySem.W.keepIn K (.ref f_Z60)=true)
   (a_Z36:PySem.W.nsIn K mainGlobals "check_ask"=some (some (.ref f_Z36)))
   (l_Z36:LkF K "check_ask" "check_ask" Xqh .none f_Z36 oc_Z36 od_Z36 kV_Z36 dc_Z36 pm_Z36 an_Z36 cd_Z36 ct_Z36 sl_Z36)
   (c_Z36:PySem.W.codeIn K cd_Z36 "check_ask"=true)
   (k_Z36:PySem.W.keepIn K (.ref f_Z36)=true)
   (a_Z5:PySem.W.nsIn K mainGlobals "check_plain_ask"=some (some (.ref f_Z5)))
   (l_Z5:LkF K "check_plain_ask" "check_plain_ask" s_Z5 .none f_Z5 oc_Z5 od_Z5 kV_Z5 dc_Z5 pm_Z5 an_Z5 cd_Z5 ct_Z5 sl_Z5)
   (c_Z5:PySem.W.codeIn K cd_Z5 "check_plain_ask"=true)
   (k_Z5:PySem.W.keepIn K (.ref f_Z5)=true)
   (a_Z45:PySem.W.nsIn K mainGlobals "mark_of"=some (some (.ref f_Z45)))
   (l_Z45:LkF K "mark_of" "mark_of" Xuo .none f_Z45 oc_Z45 od_Z45 kV_Z45 dc_Z45 pm_Z45 an_Z45 cd_Z45 ct_Z45 sl_Z45)
   (c_Z45:PySem.W.codeIn K cd_Z45 "mark_of"=true)
   (k_Z45:PySem.W.keepIn K (.ref f_Z45)=true)
   (a_Z44:PySem.W.nsIn K mainGlobals "long_of"=some (some (.ref f_Z44)))
   (l_Z44:LkF K "long_of" "long_of" Xpx .none f_Z44 oc_Z44 od_Z44 kV_Z44 dc_Z44 pm_Z44 an_Z44 cd_Z44 ct_Z44 sl_Z44)
   (c_Z44:PySem.W.codeIn K cd_Z44 "long_of"=true)
   (k_Z44:PySem.W.keepIn K (.ref f_Z44)=true)
   (a_Z46:PySem.W.nsIn K mainGlobals "live_of"=some (some (.ref f_Z46)))
   (l_Z46:LkF K "live_of" "live_of" Xrd .none f_Z46 oc_Z46 od_Z46 kV_Z46 dc_Z46 pm_Z46 an_Z46 cd_Z46 ct_Z46 sl_Z46)
   (c_Z46:PySem.W.codeIn K cd_Z46 "live_of"=true)
   (k_Z46:PySem.W.keepIn K (.ref f_Z46)=true)
   (a_Z35:PySem.W.nsIn K mainGlobals "can_begin"=some (some (.ref f_Z35)))
   (l_Z35:LkF K "can_begin" "can_begin" Xuk .none f_Z35 oc_Z35 od_Z35 kV_Z35 dc_Z35 pm_Z35 an_Z35 cd_Z35 ct_Z35 sl_Z35)
   (c_Z35:PySem.W.codeIn K cd_Z35 "can_begin"=true)
   (k_Z35:PySem.W.keepIn K (.ref f_Z35)=true)
   (a_Z18:PySem.W.nsIn K mainGlobals "bad_of_piece"=some (some (.ref f_Z18)))
   (l_Z18:LkF K "bad_of_piece" "bad_of_piece" Xqu .none f_Z18 oc_Z18 od_Z18 kV_Z18 dc_Z18 pm_Z18 an_Z18 cd_Z18 ct_Z18 sl_Z18)
   (c_Z18:PySem.W.codeIn K cd_Z18 "bad_of_piece"=true)
   (k_Z18:PySem.W.keepIn K (.ref f_Z18)=true)
   (a_Z53:PySem.W.nsIn K mainGlobals "looked"=some (some (.ref f_Z53)))
   (l_Z53:LkF K "looked" "looked" Xqq .none f_Z53 oc_Z53 od_Z53 kV_Z53 dc_Z53 pm_Z53 an_Z53 cd_Z53 ct_Z53 sl_Z53)
   (c_Z53:PySem.W.codeIn K cd_Z53 "looked"=true)
   (k_Z53:PySem.W.keepIn K (.ref f_Z53)=true)
   (a_Z29:PySem.W.nsIn K mainGlobals "fresh_room"=some (some (.ref f_Z29)))
   (l_Z29:LkF K "fresh_room" "fresh_room" Xts .none f_Z29 oc_Z29 od_Z29 kV_Z29 dc_Z29 pm_Z29 an_Z29 cd_Z29 ct_Z29 sl_Z29)
   (c_Z29:PySem.W.codeIn K cd_Z29 "fresh_room"=true)
   (k_Z29:PySem.W.keepIn K (.ref f_Z29)=true)
   (a_Z67:PySem.W.nsIn K mainGlobals "laid"=some (some (.ref f_Z67)))
   (l_Z67:LkF K "laid" "laid" Xqc .none f_Z67 oc_Z67 od_Z67 kV_Z67 dc_Z67 pm_Z67 an_Z67 cd_Z67 ct_Z67 sl_Z67)
   (c_Z67:PySem.W.codeIn K cd_Z67 "laid"=true)
   (k_Z67:PySem.W.keepIn K (.ref f_Z67)=true)
   (a_Z33:PySem.W.nsIn K mainGlobals "laid_free"=some (some (.ref f_Z33)))
   (l_Z33:LkF K "laid_free" "laid_free" Xsr .none f_Z33 oc_Z33 od_Z33 kV_Z33 dc_Z33 pm_Z33 an_Z33 cd_Z33 ct_Z33 sl_Z33)
   (c_Z33:PySem.W.codeIn K cd_Z33 "laid_free"=true)
   (k_Z33:PySem.W.keepIn K (.ref f_Z33)=true)
   (a_Z38:PySem.W.nsIn K mainGlobals "piece_at"=some (some (.ref f_Z38)))
   (l_Z38:LkF K "piece_at" "piece_at" Xrq .none f_Z38 oc_Z38 od_Z38 kV_Z38 dc_Z38 pm_Z38 an_Z38 cd_Z38 ct_Z38 sl_Z38)
   (c_Z38:PySem.W.codeIn K cd_Z38 "piece_at"=true)
   (k_Z38:PySem.W.keepIn K (.ref f_Z38)=true)
   (a_Z52:PySem.W.nsIn K mainGlobals "live_at"=some (some (.ref f_Z52)))
   (l_Z52:LkF K "live_at" "live_at" Xuf .none f_Z52 oc_Z52 od_Z52 kV_Z52 dc_Z52 pm_Z52 an_Z52 cd_Z52 ct_Z52 sl_Z52)
   (c_Z52:PySem.W.codeIn K cd_Z52 "live_at"=true)
   (k_Z52:PySem.W.keepIn K (.ref f_Z52)=true)
   (a_Z49:PySem.W.nsIn K mainGlobals "free_at"=some (some (.ref f_Z49)))
   (l_Z49:LkF K "free_at" "free_at" Xtc .none f_Z49 oc_Z49 od_Z49 kV_Z49 dc_Z49 pm_Z49 an_Z49 cd_Z49 ct_Z49 sl_Z49)
   (c_Z49:PySem.W.codeIn K cd_Z49 "free_at"=true)
   (k_Z49:PySem.W.keepIn K (.ref f_Z49)=true)
   (a_Z12:PySem.W.nsIn K mainGlobals "begin_around"=some (some (.ref f_Z12)))
   (l_Z12:LkF K "begin_around" "begin_around" Xtk .none f_Z12 oc_Z12 od_Z12 kV_Z12 dc_Z12 pm_Z12 an_Z12 cd_Z12 ct_Z12 sl_Z12)
   (c_Z12:PySem.W.codeIn K cd_Z12 "begin_around"=true)
   (k_Z12:PySem.W.keepIn K (.ref f_Z12)=true)
   (a_Z27:PySem.W.nsIn K mainGlobals "free_begin"=some (some (.ref f_Z27)))
   (l_Z27:LkF K "free_begin" "free_begin" Xrf .none f_Z27 oc_Z27 od_Z27 kV_Z27 dc_Z27 pm_Z27 an_Z27 cd_Z27 ct_Z27 sl_Z27)
   (c_Z27:PySem.W.codeIn K cd_Z27 "free_begin"=true)
   (k_Z27:PySem.W.keepIn K (.ref f_Z27)=true)
   (a_Z39:PySem.W.nsIn K mainGlobals "free_end"=some (some (.ref f_Z39)))
   (l_Z39:LkF K "free_end" "free_end" Xru .none f_Z39 oc_Z39 od_Z39 kV_Z39 dc_Z39 pm_Z39 an_Z39 cd_Z39 ct_Z39 sl_Z39)
   (c_Z39:PySem.W.codeIn K cd_Z39 "free_end"=true)
   (k_Z39:PySem.W.keepIn K (.ref f_Z39)=true)
   (a_Z47:PySem.W.nsIn K mainGlobals "cut_out"=some (some (.ref f_Z47)))
   (l_Z47:LkF K "cut_out" "cut_out" Xuh .none f_Z47 oc_Z47 od_Z47 kV_Z47 dc_Z47 pm_Z47 an_Z47 cd_Z47 ct_Z47 sl_Z47)
   (c_Z47:PySem.W.codeIn K cd_Z47 "cut_out"=true)
   (k_Z47:PySem.W.keepIn K (.ref f_Z47)=true)
   (a_Z63:PySem.W.nsIn K mainGlobals "freed"=some (some (.ref f_Z63)))
   (l_Z63:LkF K "freed" "freed" Xsv .none f_Z63 oc_Z63 od_Z63 kV_Z63 dc_Z63 pm_Z63 an_Z63 cd_Z63 ct_Z63 sl_Z63)
   (c_Z63:PySem.W.codeIn K cd_Z63 "freed"=true)
   (k_Z63:PySem.W.keepIn K (.ref f_Z63)=true)
   (a_Z9:PySem.W.nsIn K mainGlobals "joined_pieces"=some (some (.ref f_Z9)))
   (l_Z9:LkF K "joined_pieces" "joined_pieces" s_Z9 .none f_Z9 oc_Z9 od_Z9 kV_Z9 dc_Z9 pm_Z9 an_Z9 cd_Z9 ct_Z9 sl_Z9)
   (c_Z9:PySem.W.codeIn K cd_Z9 "joined_pieces"=true)
   (k_Z9:PySem.W.keepIn K (.ref f_Z9)=true)
   (a_Z58:PySem.W.nsIn K mainGlobals "joined"=some (some (.ref f_Z58)))
   (l_Z58:LkF K "joined" "joined" Xul .none f_Z58 oc_Z58 od_Z58 kV_Z58 dc_Z58 pm_Z58 an_Z58 cd_Z58 ct_Z58 sl_Z58)
   (c_Z58:PySem.W.codeIn K cd_Z58 "joined"=true)
   (k_Z58:PySem.W.keepIn K (.ref f_Z58)=true)
   (a_Z50:PySem.W.nsIn K mainGlobals "carried"=some (some (.ref f_Z50)))
   (l_Z50:LkF K "carried" "carried" Xtn .none f_Z50 oc_Z50 od_Z50 kV_Z50 dc_Z50 pm_Z50 an_Z50 cd_Z50 ct_Z50 sl_Z50)
   (c_Z50:PySem.W.codeIn K cd_Z50 "carried"=true)
   (k_Z50:PySem.W.keepIn K (.ref f_Z50)=true)
   (a_Z20:PySem.W.nsIn K mainGlobals "first_place"=some (some (.ref f_Z20)))
   (l_Z20:LkF K "first_place" "first_place" Xrw .none f_Z20 oc_Z20 od_Z20 kV_Z20 dc_Z20 pm_Z20 an_Z20 cd_Z20 ct_Z20 sl_Z20)
   (c_Z20:PySem.W.codeIn K cd_Z20 "first_place"=true)
   (k_Z20:PySem.W.keepIn K (.ref f_Z20)=true)
   (a_Z34:PySem.W.nsIn K mainGlobals "spots_for"=some (some (.ref f_Z34)))
   (l_Z34:LkF K "spots_for" "spots_for" Xqr .none f_Z34 oc_Z34 od_Z34 kV_Z34 dc_Z34 pm_Z34 an_Z34 cd_Z34 ct_Z34 sl_Z34)
   (c_Z34:PySem.W.codeIn K cd_Z34 "spots_for"=true)
   (k_Z34:PySem.W.keepIn K (.ref f_Z34)=true)
   (a_Z24:PySem.W.nsIn K mainGlobals "least_place"=some (some (.ref f_Z24)))
   (l_Z24:LkF K "least_place" "least_place" Xpu .none f_Z24 oc_Z24 od_Z24 kV_Z24 dc_Z24 pm_Z24 an_Z24 cd_Z24 ct_Z24 sl_Z24)
   (c_Z24:PySem.W.codeIn K cd_Z24 "least_place"=true)
   (k_Z24:PySem.W.keepIn K (.ref f_Z24)=true)
   (a_Z19:PySem.W.nsIn K mainGlobals "stretches_of"=some (some (.ref f_Z19)))
   (l_Z19:LkF K "stretches_of" "stretches_of" Xud .none f_Z19 oc_Z19 od_Z19 kV_Z19 dc_Z19 pm_Z19 an_Z19 cd_Z19 ct_Z19 sl_Z19)
   (c_Z19:PySem.W.codeIn K cd_Z19 "stretches_of"=true)
   (k_Z19:PySem.W.keepIn K (.ref f_Z19)=true)
   (a_Z32:PySem.W.nsIn K mainGlobals "_law_cell_at"=some (some (.ref f_Z32)))
   (l_Z32:LkF K "_law_cell_at" "_law_cell_at" Xsx .none f_Z32 oc_Z32 od_Z32 kV_Z32 dc_Z32 pm_Z32 an_Z32 cd_Z32 ct_Z32 sl_Z32)
   (c_Z32:PySem.W.codeIn K cd_Z32 "_law_cell_at"=true)
   (k_Z32:PySem.W.keepIn K (.ref f_Z32)=true)
   (a_Z51:PySem.W.nsIn K mainGlobals "_law_whole"=some (some (.ref f_Z51)))
   (l_Z51:LkF K "_law_whole" "_law_whole" Xti .none f_Z51 oc_Z51 od_Z51 kV_Z51 dc_Z51 pm_Z51 an_Z51 cd_Z51 ct_Z51 sl_Z51)
   (c_Z51:PySem.W.codeIn K cd_Z51 "_law_whole"=true)
   (k_Z51:PySem.W.keepIn K (.ref f_Z51)=true)
   (a_Z55:PySem.W.nsIn K mainGlobals "_law_walk"=some (some (.ref f_Z55)))
   (l_Z55:LkF K "_law_walk" "_law_walk" Xse .none f_Z55 oc_Z55 od_Z55 kV_Z55 dc_Z55 pm_Z55 an_Z55 cd_Z55 ct_Z55 sl_Z55)
   (c_Z55:PySem.W.codeIn K cd_Z55 "_law_walk"=true)
   (k_Z55:PySem.W.keepIn K (.ref f_Z55)=true)
   (a_Z57:PySem.W.nsIn K mainGlobals "_law_told"=some (some (.ref f_Z57)))
   (l_Z57:LkF K "_law_told" "_law_told" Xrj .none f_Z57 oc_Z57 od_Z57 kV_Z57 dc_Z57 pm_Z57 an_Z57 cd_Z57 ct_Z57 sl_Z57)
   (c_Z57:PySem.W.codeIn K cd_Z57 "_law_told"=true)
   (k_Z57:PySem.W.keepIn K (.ref f_Z57)=true)
   (a_Z41:PySem.W.nsIn K mainGlobals "_law_narrow"=some (some (.ref f_Z41)))
   (l_Z41:LkF K "_law_narrow" "_law_narrow" Xqx .none f_Z41 oc_Z41 od_Z41 kV_Z41 dc_Z41 pm_Z41 an_Z41 cd_Z41 ct_Z41 sl_Z41)
   (c_Z41:PySem.W.codeIn K cd_Z41 "_law_narrow"=true)
   (k_Z41:PySem.W.keepIn K (.ref f_Z41)=true)
   (a_Z62:PySem.W.nsIn K mainGlobals "_law_new"=some (some (.ref f_Z62)))
   (l_Z62:LkF K "_law_new" "_law_new" Xsq .none f_Z62 oc_Z62 od_Z62 kV_Z62 dc_Z62 pm_Z62 an_Z62 cd_Z62 ct_Z62 sl_Z62)
   (c_Z62:PySem.W.codeIn K cd_Z62 "_law_new"=true)
   (k_Z62:PySem.W.keepIn K (.ref f_Z62)=true)
   (a_Z42:PySem.W.nsIn K mainGlobals "_law_right"=some (some (.ref f_Z42)))
   (l_Z42:LkF K "_law_right" "_law_right" Xsl .none f_Z42 oc_Z42 od_Z42 kV_Z42 dc_Z42 pm_Z42 an_Z42 cd_Z42 ct_Z42 sl_Z42)
   (c_Z42:PySem.W.codeIn K cd_Z42 "_law_right"=true)
   (k_Z42:PySem.W.keepIn K (.ref f_Z42)=true)
   (a_Z56:PySem.W.nsIn K mainGlobals "_law_step"=some (some (.ref f_Z56)))
   (l_Z56:LkF K "_law_step" "_law_step" Xtx .none f_Z56 oc_Z56 od_Z56 kV_Z56 dc_Z56 pm_Z56 an_Z56 cd_Z56 ct_Z56 sl_Z56)
   (c_Z56:PySem.W.codeIn K cd_Z56 "_law_step"=true)
   (k_Z56:PySem.W.keepIn K (.ref f_Z56)=true)
   (a_law:PySem.W.nsIn K mainGlobals "law"=some (some (.ref f_law)))
   (l_law:LkF K "law" "law" Xnn .none f_law oc_law od_law kV_law dc_law pm_law an_law cd_law ct_law sl_law)
   (c_law:PySem.W.codeIn K cd_law "law"=true)
   (k_law:PySem.W.keepIn K (.ref f_law)=true)
   {W0_:Tok}
   {W1_:Tok}
   {Y0 Y7 Y9 Y4 Y3 Y6 Y12 Y2 Y8 Y5 Y1 Y10 Y13 Y14 Y11:Addr}
   (z_bool:PySem.W.nsIn K mainGlobals "bool"=some none)
   (z_int:PySem.W.nsIn K mainGlobals "int"=some none)
   (z_isinstance:PySem.W.nsIn K mainGlobals "isinstance"=some none)
   (z_len:PySem.W.nsIn K mainGlobals "len"=some none)
   (z_list:PySem.W.nsIn K mainGlobals "list"=some none)
   (z_min:PySem.W.nsIn K mainGlobals "min"=some none)
   (z_range:PySem.W.nsIn K mainGlobals "range"=some none)
   (g_LEAST_LIVE:PySem.W.nsIn K mainGlobals "LEAST_LIVE"=some (some (.int 3 W0_)))
   (g_MARKS:PySem.W.nsIn K mainGlobals "MARKS"=some (some (.int 2 W1_)))
   (cc_StowError:PySem.W.nsIn K mainGlobals "StowError"=some (some (.ref Y0)))
   (cc_NoName:PySem.W.nsIn K mainGlobals "NoName"=some (some (.ref Y7)))
   (cc_NoSize:PySem.W.nsIn K mainGlobals "NoSize"=some (some (.ref Y9)))
   (cc_Broken:PySem.W.nsIn K mainGlobals "Broken"=some (some (.ref Y4)))
   (cc_NoPiece:PySem.W.nsIn K mainGlobals "NoPiece"=some (some (.ref Y3)))
   (cc_NoCell:PySem.W.nsIn K mainGlobals "NoCell"=some (some (.ref Y6)))
   (cc_NoAsk:PySem.W.nsIn K mainGlobals "NoAsk"=some (some (.ref Y12)))
   (cc_NoBound:PySem.W.nsIn K mainGlobals "NoBound"=some (some (.ref Y2)))
   (cc_NoRoom:PySem.W.nsIn K mainGlobals "NoRoom"=some (some (.ref Y8)))
   (cc_Keeper:PySem.W.nsIn K mainGlobals "Keeper"=some (some (.ref Y5)))
   (cc_Stretches:PySem.W.nsIn K mainGlobals "Stretches"=some (some (.ref Y1)))
   (cc_First:PySem.W.nsIn K mainGlobals "First"=some (some (.ref Y10)))
   (cc_Best:PySem.W.nsIn K mainGlobals "Best"=some (some (.ref Y13)))
   (cc_Next:PySem.W.nsIn K mainGlobals "Next"=some (some (.ref Y14)))
   (cc_Likes:PySem.W.nsIn K mainGlobals "Likes"=some (some (.ref Y11)))
   (s1_Broken:PySem.W.findIn K (.ref Y4) "__setattr__"=some (some (.builtin "object.__setattr__")))
   {cd_Broken:ClassData}
   (s2_Broken:PySem.W.clsIn K Y4=some cd_Broken)
   (s5_Broken:Xib cd_Broken.mro=true)
   (s6_Broken:cd_Broken.hasDict=true)
   (s3_Broken:PySem.W.mroIn K Y4 (.type "object")=some true)
   (s4_Broken:PySem.W.findIn K (.ref Y4) "cell"=some none)
   (xx_NoSize:PySem.W.excIn K Y9 [.type "ValueError",.type "Exception",.type "BaseException",.type "object"] "ValueError.__new__"=true)
   (xx_NoPiece:PySem.W.excIn K Y3 [.type "ValueError",.type "Exception",.type "BaseException",.type "object"] "ValueError.__new__"=true)
   (xx_NoRoom:PySem.W.excIn K Y8 [.type "ValueError",.type "Exception",.type "BaseException",.type "object"] "ValueError.__new__"=true)
   (xx_NoName:PySem.W.excIn K Y7 [.type "ValueError",.type "Exception",.type "BaseException",.type "object"] "ValueError.__new__"=true)
   (pg_First:PySem.W.plainGet K Y10 Str.empty=true)
   (hd_First:PySem.W.hasDictIn K Y10=true)
   (po_First:PySem.W.plainOver K Y10=true)
   (sa_First:PySem.W.findIn K (.ref Y10) "__setattr__"=some (some (.builtin "object.__setattr__")))
   (na_First_room_cells:PySem.W.findIn K (.ref Y10) "room_cells"=some none)
   (pg_Best:PySem.W.plainGet K Y13 Str.empty=true)
   (hd_Best:PySem.W.hasDictIn K Y13=true)
   (po_Best:PySem.W.plainOver K Y13=true)
   (sa_Best:PySem.W.findIn K (.ref Y13) "__setattr__"=some (some (.builtin "object.__setattr__")))
   (na_Best_room_cells:PySem.W.findIn K (.ref Y13) "room_cells"=some none)
   (pg_Next:PySem.W.plainGet K Y14 Str.empty=true)
   (hd_Next:PySem.W.hasDictIn K Y14=true)
   (po_Next:PySem.W.plainOver K Y14=true)
   (sa_Next:PySem.W.findIn K (.ref Y14) "__setattr__"=some (some (.builtin "object.__setattr__")))
   (na_Next_room_cells:PySem.W.findIn K (.ref Y14) "room_cells"=some none)
   (na_Next_room_rover:PySem.W.findIn K (.ref Y14) "room_rover"=some none)
   (pg_Likes:PySem.W.plainGet K Y11 Str.empty=true)
   (hd_Likes:PySem.W.hasDictIn K Y11=true)
   (po_Likes:PySem.W.plainOver K Y11=true)
   (sa_Likes:PySem.W.findIn K (.ref Y11) "__setattr__"=some (some (.builtin "object.__setattr__")))
   (na_Likes_room_cells:PySem.W.findIn K (.ref Y11) "room_cells"=some none)
   (ic_First:PySem.W.findIn K (.ref Y10) "__class__"=some (some (.builtin "object.__class__")))
   (ig:PySem.W.specialIn K (.builtin "object.__class__") "__get__"=some (some (.builtin "getset_descriptor.__get__")))
   (it:PySem.W.takesIn K (.builtin "object.__class__")=some true)
   (im_First:PySem.W.mroIn K Y10 (.type "object")=some true)
   (ic_Best:PySem.W.findIn K (.ref Y13) "__class__"=some (some (.builtin "object.__class__")))
   (im_Best:PySem.W.mroIn K Y13 (.type "object")=some true)
   (ic_Next:PySem.W.findIn K (.ref Y14) "__class__"=some (some (.builtin "object.__class__")))
   (im_Next:PySem.W.mroIn K Y14 (.type "object")=some true)
   (ic_Likes:PySem.W.findIn K (.ref Y11) "__class__"=some (some (.builtin "object.__class__")))
   (im_Likes:PySem.W.mroIn K Y11 (.type "object")=some true)
   (i_First_Keeper:PySem.W.kitOne K (.ref Y10) (.ref Y5)=some true)
   (i_Best_Keeper:PySem.W.kitOne K (.ref Y13) (.ref Y5)=some true)
   (i_Next_Keeper:PySem.W.kitOne K (.ref Y14) (.ref Y5)=some true)
   (i_Likes_Keeper:PySem.W.kitOne K (.ref Y11) (.ref Y5)=some true)
   (lc_NoRoom:K.lookup Y8=some (excClassObj nm_NoRoom qn_NoRoom Y8 N_NoRoom bs_NoRoom bm_NoRoom hd_NoRoom sn_NoRoom sub_NoRoom ab_NoRoom col_NoRoom dd_NoRoom k0_NoRoom k1_NoRoom k2_NoRoom k3_NoRoom k5_NoRoom ni_NoRoom))
   (fb_NoRoom:(Value.ref Y8::bm_NoRoom).contains (.type "BaseException")=true)
   (fm_NoRoom_NoRoom:(Value.ref Y8::bm_NoRoom).contains (.ref Y8)=true)
   (lc_Broken:K.lookup Y4=some (excClassObj nm_Broken qn_Broken Y4 N_Broken bs_Broken bm_Broken hd_Broken sn_Broken sub_Broken ab_Broken col_Broken dd_Broken k0_Broken k1_Broken k2_Broken k3_Broken k5_Broken ni_Broken))
   (xx_StowError:PySem.W.excIn K Y0 [.type "ValueError",.type "Exception",.type "BaseException",.type "object"] "ValueError.__new__"=true)
   (kp_Broken:PySem.W.keepIn K (.ref Y4)=true)
   (e60_:PySem.W.findIn K (.ref Y4) "__init__"=some (some (.ref f_Broken_init)))
   (l_Broken_init:LkF K "__init__" "Broken.__init__" Xdd .none f_Broken_init oc_Broken_init od_Broken_init kV_Broken_init dc_Broken_init pm_Broken_init an_Broken_init cd_Broken_init ct_Broken_init sl_Broken_init)
   (c_Broken_init:PySem.W.codeIn K cd_Broken_init "Broken.__init__"=true)
   (k_Broken_init:PySem.W.keepIn K (.ref f_Broken_init)=true)
   (eb_Broken:bm_Broken = .ref Y0::[.type "ValueError",.type "Exception",.type "BaseException",.type "object"])
   (en_Broken:ni_Broken="ValueError.__new__")
   (eo_Broken:oc_Broken_init = .type "function")
   (e40_:PySem.W.findIn K (.ref Y10) "__init__"=some (some (.ref f_Keeper_init)))
   (l_Keeper_init:LkF K "__init__" "Keeper.__init__" Xbx .none f_Keeper_init oc_Keeper_init od_Keeper_init kV_Keeper_init dc_Keeper_init pm_Keeper_init an_Keeper_init cd_Keeper_init ct_Keeper_init sl_Keeper_init)
   (c_Keeper_init:PySem.W.codeIn K cd_Keeper_init "Keeper.__init__"=true)
   (k_Keeper_init:PySem.W.keepIn K (.ref f_Keeper_init)=true)
   (if_Keeper_init:PySem.W.isFn K (.ref f_Keeper_init)=true)
   (mk_First:PySem.W.makesIn K Y10=true)
   (kp_First:PySem.W.keepIn K (.ref Y10)=true)
   (e52_:PySem.W.findIn K (.ref Y13) "__init__"=some (some (.ref f_Keeper_init)))
   (mk_Best:PySem.W.makesIn K Y13=true)
   (kp_Best:PySem.W.keepIn K (.ref Y13)=true)
   (e38_:PySem.W.findIn K (.ref Y11) "__init__"=some (some (.ref f_Keeper_init)))
   (mk_Likes:PySem.W.makesIn K Y11=true)
   (kp_Likes:PySem.W.keepIn K (.ref Y11)=true)
   (e12_:PySem.W.findCls K (.ref Y1) (.type "type") "__init__"=some (.val (.ref f_Keeper_init)))
   (bs_Stretches:PySem.W.specialIn K (.ref Y1) "__getattribute__"=some (some (.builtin "type.__getattribute__")))
   (br_Stretches:PySem.W.readsIn K Y1 (.type "type")=true)
   (e61_:PySem.W.findIn K (.ref Y14) "__init__"=some (some (.ref f_Next_init)))
   (l_Next_init:LkF K "__init__" "Next.__init__" Xeb .none f_Next_init oc_Next_init od_Next_init kV_Next_init dc_Next_init pm_Next_init an_Next_init cd_Next_init ct_Next_init sl_Next_init)
   (c_Next_init:PySem.W.codeIn K cd_Next_init "Next.__init__"=true)
   (k_Next_init:PySem.W.keepIn K (.ref f_Next_init)=true)
   (if_Next_init:PySem.W.isFn K (.ref f_Next_init)=true)
   (mk_Next:PySem.W.makesIn K Y14=true)
   (kp_Next:PySem.W.keepIn K (.ref Y14)=true)
   (e3_:PySem.W.findIn K (.ref Y10) "room_begin"=some (some (.ref f_Z1)))
   (e7_:PySem.W.findIn K (.ref Y13) "room_begin"=some (some (.ref f_Z1)))
   (e4_:PySem.W.findIn K (.ref Y11) "room_begin"=some (some (.ref f_Z1)))
   (l_Z1:LkF K "room_begin" "Stretches.room_begin" s_Z1 .none f_Z1 oc_Z1 od_Z1 kV_Z1 dc_Z1 pm_Z1 an_Z1 cd_Z1 ct_Z1 sl_Z1)
   (c_Z1:PySem.W.codeIn K cd_Z1 "Stretches.room_begin"=true)
   (k_Z1:PySem.W.keepIn K (.ref f_Z1)=true)
   (if_Z1:PySem.W.isFn K (.ref f_Z1)=true)
   (e19_:PySem.W.findIn K (.ref Y14) "room_begin"=some (some (.ref f_Z6)))
   (l_Z6:LkF K "room_begin" "Next.room_begin" s_Z6 .none f_Z6 oc_Z6 od_Z6 kV_Z6 dc_Z6 pm_Z6 an_Z6 cd_Z6 ct_Z6 sl_Z6)
   (c_Z6:PySem.W.codeIn K cd_Z6 "Next.room_begin"=true)
   (k_Z6:PySem.W.keepIn K (.ref f_Z6)=true)
   (if_Z6:PySem.W.isFn K (.ref f_Z6)=true)
   (e30_:PySem.W.findIn K (.ref Y10) "clear"=some (some (.ref f_Z15)))
   (e44_:PySem.W.findIn K (.ref Y13) "clear"=some (some (.ref f_Z15)))
   (e43_:PySem.W.findIn K (.ref Y14) "clear"=some (some (.ref f_Z15)))
   (e32_:PySem.W.findIn K (.ref Y11) "clear"=some (some (.ref f_Z15)))
   (l_Z15:LkF K "clear" "Keeper.clear" Xwe .none f_Z15 oc_Z15 od_Z15 kV_Z15 dc_Z15 pm_Z15 an_Z15 cd_Z15 ct_Z15 sl_Z15)
   (c_Z15:PySem.W.codeIn K cd_Z15 "Keeper.clear"=true)
   (k_Z15:PySem.W.keepIn K (.ref f_Z15)=true)
   (if_Z15:PySem.W.isFn K (.ref f_Z15)=true)
   (e21_:PySem.W.findIn K (.ref Y10) "pieces"=some (some (.ref f_Z10)))
   (e29_:PySem.W.findIn K (.ref Y13) "pieces"=some (some (.ref f_Z10)))
   (e36_:PySem.W.findIn K (.ref Y14) "pieces"=some (some (.ref f_Z10)))
   (e27_:PySem.W.findIn K (.ref Y11) "pieces"=some (some (.ref f_Z10)))
   (l_Z10:LkF K "pieces" "Keeper.pieces" Xws .none f_Z10 oc_Z10 od_Z10 kV_Z10 dc_Z10 pm_Z10 an_Z10 cd_Z10 ct_Z10 sl_Z10)
   (c_Z10:PySem.W.codeIn K cd_Z10 "Keeper.pieces"=true)
   (k_Z10:PySem.W.keepIn K (.ref f_Z10)=true)
   (if_Z10:PySem.W.isFn K (.ref f_Z10)=true)
   (e41_:PySem.W.findIn K (.ref Y10) "many"=some (some (.ref f_Z21)))
   (e53_:PySem.W.findIn K (.ref Y13) "many"=some (some (.ref f_Z21)))
   (e50_:PySem.W.findIn K (.ref Y14) "many"=some (some (.ref f_Z21)))
   (e37_:PySem.W.findIn K (.ref Y11) "many"=some (some (.ref f_Z21)))
   (l_Z21:LkF K "many" "Keeper.many" Xxb .none f_Z21 oc_Z21 od_Z21 kV_Z21 dc_Z21 pm_Z21 an_Z21 cd_Z21 ct_Z21 sl_Z21)
   (c_Z21:PySem.W.codeIn K cd_Z21 "Keeper.many"=true)
   (k_Z21:PySem.W.keepIn K (.ref f_Z21)=true)
   (if_Z21:PySem.W.isFn K (.ref f_Z21)=true)
   (e1_:PySem.W.findIn K (.ref Y10) "room_granted"=some (some (.ref f_Z0)))
   (e2_:PySem.W.findIn K (.ref Y13) "room_granted"=some (some (.ref f_Z0)))
   (e0_:PySem.W.findIn K (.ref Y11) "room_granted"=some (some (.ref f_Z0)))
   (l_Z0:LkF K "room_granted" "Stretches.room_granted" s_Z0 .none f_Z0 oc_Z0 od_Z0 kV_Z0 dc_Z0 pm_Z0 an_Z0 cd_Z0 ct_Z0 sl_Z0)
   (c_Z0:PySem.W.codeIn K cd_Z0 "Stretches.room_granted"=true)
   (k_Z0:PySem.W.keepIn K (.ref f_Z0)=true)
   (if_Z0:PySem.W.isFn K (.ref f_Z0)=true)
   (e15_:PySem.W.findIn K (.ref Y14) "room_granted"=some (some (.ref f_Z4)))
   (l_Z4:LkF K "room_granted" "Next.room_granted" s_Z4 .none f_Z4 oc_Z4 od_Z4 kV_Z4 dc_Z4 pm_Z4 an_Z4 cd_Z4 ct_Z4 sl_Z4)
   (c_Z4:PySem.W.codeIn K cd_Z4 "Next.room_granted"=true)
   (k_Z4:PySem.W.keepIn K (.ref f_Z4)=true)
   (if_Z4:PySem.W.isFn K (.ref f_Z4)=true)
   (e33_:PySem.W.findIn K (.ref Y10) "cells"=some (some (.ref f_Z14)))
   (e42_:PySem.W.findIn K (.ref Y13) "cells"=some (some (.ref f_Z14)))
   (e39_:PySem.W.findIn K (.ref Y14) "cells"=some (some (.ref f_Z14)))
   (e31_:PySem.W.findIn K (.ref Y11) "cells"=some (some (.ref f_Z14)))
   (l_Z14:LkF K "cells" "Keeper.cells" Xzs .none f_Z14 oc_Z14 od_Z14 kV_Z14 dc_Z14 pm_Z14 an_Z14 cd_Z14 ct_Z14 sl_Z14)
   (c_Z14:PySem.W.codeIn K cd_Z14 "Keeper.cells"=true)
   (k_Z14:PySem.W.keepIn K (.ref f_Z14)=true)
   (if_Z14:PySem.W.isFn K (.ref f_Z14)=true)
   (e45_:PySem.W.findIn K (.ref Y10) "lay"=some (some (.ref f_Z25)))
   (e55_:PySem.W.findIn K (.ref Y13) "lay"=some (some (.ref f_Z25)))
   (e54_:PySem.W.findIn K (.ref Y14) "lay"=some (some (.ref f_Z25)))
   (e51_:PySem.W.findIn K (.ref Y11) "lay"=some (some (.ref f_Z25)))
   (l_Z25:LkF K "lay" "Keeper.lay" Xuz .none f_Z25 oc_Z25 od_Z25 kV_Z25 dc_Z25 pm_Z25 an_Z25 cd_Z25 ct_Z25 sl_Z25)
   (c_Z25:PySem.W.codeIn K cd_Z25 "Keeper.lay"=true)
   (k_Z25:PySem.W.keepIn K (.ref f_Z25)=true)
   (if_Z25:PySem.W.isFn K (.ref f_Z25)=true)
   (e6_:PySem.W.findIn K (.ref Y10) "room_cell_of"=some (some (.ref f_Z2)))
   (e9_:PySem.W.findIn K (.ref Y13) "room_cell_of"=some (some (.ref f_Z2)))
   (e8_:PySem.W.findIn K (.ref Y14) "room_cell_of"=some (some (.ref f_Z2)))
   (e5_:PySem.W.findIn K (.ref Y11) "room_cell_of"=some (some (.ref f_Z2)))
   (l_Z2:LkF K "room_cell_of" "Keeper.room_cell_of" s_Z2 .none f_Z2 oc_Z2 od_Z2 kV_Z2 dc_Z2 pm_Z2 an_Z2 cd_Z2 ct_Z2 sl_Z2)
   (c_Z2:PySem.W.codeIn K cd_Z2 "Keeper.room_cell_of"=true)
   (k_Z2:PySem.W.keepIn K (.ref f_Z2)=true)
   (if_Z2:PySem.W.isFn K (.ref f_Z2)=true)
   (e47_:PySem.W.findIn K (.ref Y10) "put"=some (some (.ref f_Z30)))
   (e56_:PySem.W.findIn K (.ref Y13) "put"=some (some (.ref f_Z30)))
   (e59_:PySem.W.findIn K (.ref Y14) "put"=some (some (.ref f_Z30)))
   (e46_:PySem.W.findIn K (.ref Y11) "put"=some (some (.ref f_Z30)))
   (l_Z30:LkF K "put" "Keeper.put" Xwc .none f_Z30 oc_Z30 od_Z30 kV_Z30 dc_Z30 pm_Z30 an_Z30 cd_Z30 ct_Z30 sl_Z30)
   (c_Z30:PySem.W.codeIn K cd_Z30 "Keeper.put"=true)
   (k_Z30:PySem.W.keepIn K (.ref f_Z30)=true)
   (if_Z30:PySem.W.isFn K (.ref f_Z30)=true)
   (e49_:PySem.W.findIn K (.ref Y10) "get"=some (some (.ref f_Z26)))
   (e57_:PySem.W.findIn K (.ref Y13) "get"=some (some (.ref f_Z26)))
   (e58_:PySem.W.findIn K (.ref Y14) "get"=some (some (.ref f_Z26)))
   (e48_:PySem.W.findIn K (.ref Y11) "get"=some (some (.ref f_Z26)))
   (l_Z26:LkF K "get" "Keeper.get" Xvn .none f_Z26 oc_Z26 od_Z26 kV_Z26 dc_Z26 pm_Z26 an_Z26 cd_Z26 ct_Z26 sl_Z26)
   (c_Z26:PySem.W.codeIn K cd_Z26 "Keeper.get"=true)
   (k_Z26:PySem.W.keepIn K (.ref f_Z26)=true)
   (if_Z26:PySem.W.isFn K (.ref f_Z26)=true)
   (a_Z17:PySem.W.findIn K (.ref Y10) "chosen"=some (some (.ref f_Z17)))
   (l_Z17:LkF K "chosen" "First.chosen" Xyq .none f_Z17 oc_Z17 od_Z17 kV_Z17 dc_Z17 pm_Z17 an_Z17 cd_Z17 ct_Z17 sl_Z17)
   (c_Z17:PySem.W.codeIn K cd_Z17 "First.chosen"=true)
   (k_Z17:PySem.W.keepIn K (.ref f_Z17)=true)
   (if_Z17:PySem.W.isFn K (.ref f_Z17)=true)
   (a_Z23:PySem.W.findIn K (.ref Y13) "chosen"=some (some (.ref f_Z23)))
   (l_Z23:LkF K "chosen" "Best.chosen" Xzo .none f_Z23 oc_Z23 od_Z23 kV_Z23 dc_Z23 pm_Z23 an_Z23 cd_Z23 ct_Z23 sl_Z23)
   (c_Z23:PySem.W.codeIn K cd_Z23 "Best.chosen"=true)
   (k_Z23:PySem.W.keepIn K (.ref f_Z23)=true)
   (if_Z23:PySem.W.isFn K (.ref f_Z23)=true)
   (a_Z22:PySem.W.findIn K (.ref Y14) "chosen"=some (some (.ref f_Z22)))
   (l_Z22:LkF K "chosen" "Next.chosen" Xwk .none f_Z22 oc_Z22 od_Z22 kV_Z22 dc_Z22 pm_Z22 an_Z22 cd_Z22 ct_Z22 sl_Z22)
   (c_Z22:PySem.W.codeIn K cd_Z22 "Next.chosen"=true)
   (k_Z22:PySem.W.keepIn K (.ref f_Z22)=true)
   (if_Z22:PySem.W.isFn K (.ref f_Z22)=true)
   (a_Z13:PySem.W.findIn K (.ref Y11) "chosen"=some (some (.ref f_Z13)))
   (l_Z13:LkF K "chosen" "Likes.chosen" Xzv .none f_Z13 oc_Z13 od_Z13 kV_Z13 dc_Z13 pm_Z13 an_Z13 cd_Z13 ct_Z13 sl_Z13)
   (c_Z13:PySem.W.codeIn K cd_Z13 "Likes.chosen"=true)
   (k_Z13:PySem.W.keepIn K (.ref f_Z13)=true)
   (if_Z13:PySem.W.isFn K (.ref f_Z13)=true)
   {dt_Z11:Addr} {dk_Z11:Tok} {dtc_Z11:Value} {dtd_Z11:Option Addr} {dtn_Z11:Nat} {dts_Z11:Array (Option Value)}
   (e22_:PySem.W.findIn K (.ref Y10) "ask"=some (some (.ref f_Z11)))
   (e34_:PySem.W.findIn K (.ref Y13) "ask"=some (some (.ref f_Z11)))
   (e35_:PySem.W.findIn K (.ref Y14) "ask"=some (some (.ref f_Z11)))
   (e23_:PySem.W.findIn K (.ref Y11) "ask"=some (some (.ref f_Z11)))
   (l_Z11:LkF K "ask" "Stretches.ask" Xjz (.ref dt_Z11) f_Z11 oc_Z11 od_Z11 kV_Z11 dc_Z11 pm_Z11 an_Z11 cd_Z11 ct_Z11 sl_Z11)
   (ld_Z11:K.lookup dt_Z11=some ⟨dtc_Z11,dtd_Z11,.seq [.int 1 dk_Z11].toArray dtn_Z11,dts_Z11⟩)
   (c_Z11:PySem.W.codeIn K cd_Z11 "Stretches.ask"=true)
   (k_Z11:PySem.W.keepIn K (.ref f_Z11)=true)
   (if_Z11:PySem.W.isFn K (.ref f_Z11)=true)
   (e18_:PySem.W.findIn K (.ref Y10) "give"=some (some (.ref f_Z8)))
   (e26_:PySem.W.findIn K (.ref Y13) "give"=some (some (.ref f_Z8)))
   (e24_:PySem.W.findIn K (.ref Y14) "give"=some (some (.ref f_Z8)))
   (e20_:PySem.W.findIn K (.ref Y11) "give"=some (some (.ref f_Z8)))
   (l_Z8:LkF K "give" "Stretches.give" s_Z8 .none f_Z8 oc_Z8 od_Z8 kV_Z8 dc_Z8 pm_Z8 an_Z8 cd_Z8 ct_Z8 sl_Z8)
   (c_Z8:PySem.W.codeIn K cd_Z8 "Stretches.give"=true)
   (k_Z8:PySem.W.keepIn K (.ref f_Z8)=true)
   (if_Z8:PySem.W.isFn K (.ref f_Z8)=true)
   (e10_:PySem.W.findIn K (.ref Y10) "room_moved"=some (some (.ref f_Z3)))
   (e13_:PySem.W.findIn K (.ref Y13) "room_moved"=some (some (.ref f_Z3)))
   (e14_:PySem.W.findIn K (.ref Y14) "room_moved"=some (some (.ref f_Z3)))
   (e11_:PySem.W.findIn K (.ref Y11) "room_moved"=some (some (.ref f_Z3)))
   (l_Z3:LkF K "room_moved" "Keeper.room_moved" s_Z3 .none f_Z3 oc_Z3 od_Z3 kV_Z3 dc_Z3 pm_Z3 an_Z3 cd_Z3 ct_Z3 sl_Z3)
   (c_Z3:PySem.W.codeIn K cd_Z3 "Keeper.room_moved"=true)
   (k_Z3:PySem.W.keepIn K (.ref f_Z3)=true)
   (if_Z3:PySem.W.isFn K (.ref f_Z3)=true)
   {dt_Z7:Addr} {dk_Z7:Tok} {dtc_Z7:Value} {dtd_Z7:Option Addr} {dtn_Z7:Nat} {dts_Z7:Array (Option Value)}
   (e17_:PySem.W.findIn K (.ref Y10) "grow"=some (some (.ref f_Z7)))
   (e25_:PySem.W.findIn K (.ref Y13) "grow"=some (some (.ref f_Z7)))
   (e28_:PySem.W.findIn K (.ref Y14) "grow"=some (some (.ref f_Z7)))
   (e16_:PySem.W.findIn K (.ref Y11) "grow"=some (some (.ref f_Z7)))
   (l_Z7:LkF K "grow" "Stretches.grow" s_Z7 (.ref dt_Z7) f_Z7 oc_Z7 od_Z7 kV_Z7 dc_Z7 pm_Z7 an_Z7 cd_Z7 ct_Z7 sl_Z7)
   (ld_Z7:K.lookup dt_Z7=some ⟨dtc_Z7,dtd_Z7,.seq [.int 1 dk_Z7].toArray dtn_Z7,dts_Z7⟩)
   (c_Z7:PySem.W.codeIn K cd_Z7 "Stretches.grow"=true)
   (k_Z7:PySem.W.keepIn K (.ref f_Z7)=true)
   (if_Z7:PySem.W.isFn K (.ref f_Z7)=true) :
   ∃fd:FuncData,(∀(s:Shared) (v:Value),BindsTo s fd ⟨[v],[]⟩ [("_law_script",v)])∧∀base:Heap,K.In base→base.Ns mainGlobals mg→FnOk l.prog w K mg base (CXe l.prog w) 14 fa fd ["_law_script"] (Xxl K):=by
 have e:=hfa.symm.trans (PySem.W.mg_of X G a_law)
 cases e
 have T:Txt K mg Y0 Y7 Y9 Y4 Y3 Y6 Y12 Y2 Y8 Y5 Y1 Y10 Y13 Y14 Y11 W0_ W1_:=⟨PySem.W.mg_none_of X G z_bool,PySem.W.mg_none_of X G z_int,PySem.W.mg_none_of X G z_isinstance,PySem.W.mg_none_of X G z_len,PySem.W.mg_none_of X G z_list,PySem.W.mg_none_of X G z_min,PySem.W.mg_none_of X G z_range,PySem.W.mg_of X G g_LEAST_LIVE,PySem.W.mg_of X G g_MARKS,PySem.W.mg_of X G cc_StowError,PySem.W.mg_of X G cc_NoName,PySem.W.mg_of X G cc_NoSize,PySem.W.mg_of X G cc_Broken,PySem.W.mg_of X G cc_NoPiece,PySem.W.mg_of X G cc_NoCell,PySem.W.mg_of X G cc_NoAsk,PySem.W.mg_of X G cc_NoBound,PySem.W.mg_of X G cc_NoRoom,PySem.W.mg_of X G cc_Keeper,PySem.W.mg_of X G cc_Stretches,PySem.W.mg_of X G cc_First,PySem.W.mg_of X G cc_Best,PySem.W.mg_of X G cc_Next,PySem.W.mg_of X G cc_Likes,⟨s1_Broken,⟨_,s2_Broken,s5_Broken,s6_Broken⟩,s3_Broken,s4_Broken⟩,⟨PySem.W.mg_of X G cc_NoSize,_,_,_,_,xx_NoSize,PySem.F.excBase_ValueError,PySem.F.excBase_ValueError.hasBase⟩,⟨PySem.W.mg_of X G cc_NoPiece,_,_,_,_,xx_NoPiece,PySem.F.excBase_ValueError,PySem.F.excBase_ValueError.hasBase⟩,⟨PySem.W.mg_of X G cc_NoRoom,_,_,_,_,xx_NoRoom,PySem.F.excBase_ValueError,PySem.F.excBase_ValueError.hasBase⟩,⟨PySem.W.mg_of X G cc_NoName,_,_,_,_,xx_NoName,PySem.F.excBase_ValueError,PySem.F.excBase_ValueError.hasBase⟩,⟨pg_First,hd_First,po_First,sa_First⟩,na_First_room_cells,⟨pg_Best,hd_Best,po_Best,sa_Best⟩,na_Best_room_cells,⟨pg_Next,hd_Next,po_Next,sa_Next⟩,na_Next_room_cells,na_Next_room_rover,⟨pg_Likes,hd_Likes,po_Likes,sa_Likes⟩,na_Likes_room_cells,⟨⟨pg_First,hd_First,po_First,sa_First⟩,ic_First,ig,it,im_First⟩,⟨⟨pg_Best,hd_Best,po_Best,sa_Best⟩,ic_Best,ig,it,im_Best⟩,⟨⟨pg_Next,hd_Next,po_Next,sa_Next⟩,ic_Next,ig,it,im_Next⟩,⟨⟨pg_Likes,hd_Likes,po_Likes,sa_Likes⟩,ic_Likes,ig,it,im_Likes⟩,i_First_Keeper,i_Best_Keeper,i_Next_Keeper,i_Likes_Keeper,⟨_,_,⟨_,_,_,_,_,_,_,_,_,_,_,_,_,_,_,_,lc_NoRoom⟩,⟨_,_,_,_,_,_,_,_,_,_,_,_,_,_,_,_,lc_NoRoom⟩,fb_NoRoom,fm_NoRoom_NoRoom⟩⟩
 have S_Z60:=Xbg (st:=Xzb) X G a_Z60 l_Z60 c_Z60 k_Z60
 have S_Z36:=Xbg (st:=Xqh) X G a_Z36 l_Z36 c_Z36 k_Z36
 have S_Z5:=Xbg (st:=s_Z5) X G a_Z5 l_Z5 c_Z5 k_Z5
 have S_Z45:=Xbg (st:=Xuo) X G a_Z45 l_Z45 c_Z45 k_Z45
 have S_Z44:=Xbg (st:=Xpx) X G a_Z44 l_Z44 c_Z44 k_Z44
 have S_Z46:=Xbg (st:=Xrd) X G a_Z46 l_Z46 c_Z46 k_Z46
 have S_Z35:=Xbg (st:=Xuk) X G a_Z35 l_Z35 c_Z35 k_Z35
 have S_Z18:=Xbg (st:=Xqu) X G a_Z18 l_Z18 c_Z18 k_Z18
 have S_Z53:=Xbg (st:=Xqq) X G a_Z53 l_Z53 c_Z53 k_Z53
 have S_Z29:=Xbg (st:=Xts) X G a_Z29 l_Z29 c_Z29 k_Z29
 have S_Z67:=Xbg (st:=Xqc) X G a_Z67 l_Z67 c_Z67 k_Z67
 have S_Z33:=Xbg (st:=Xsr) X G a_Z33 l_Z33 c_Z33 k_Z33
 have S_Z38:=Xbg (st:=Xrq) X G a_Z38 l_Z38 c_Z38 k_Z38
 have S_Z52:=Xbg (st:=Xuf) X G a_Z52 l_Z52 c_Z52 k_Z52
 have S_Z49:=Xbg (st:=Xtc) X G a_Z49 l_Z49 c_Z49 k_Z49
 have S_Z12:=Xbg (st:=Xtk) X G a_Z12 l_Z12 c_Z12 k_Z12
 have S_Z27:=Xbg (st:=Xrf) X G a_Z27 l_Z27 c_Z27 k_Z27
 have S_Z39:=Xbg (st:=Xru) X G a_Z39 l_Z39 c_Z39 k_Z39
 have S_Z47:=Xbg (st:=Xuh) X G a_Z47 l_Z47 c_Z47 k_Z47
 have S_Z63:=Xbg (st:=Xsv) X G a_Z63 l_Z63 c_Z63 k_Z63
 have S_Z9:=Xbg (st:=s_Z9) X G a_Z9 l_Z9 c_Z9 k_Z9
 have S_Z58:=Xbg (st:=Xul) X G a_Z58 l_Z58 c_Z58 k_Z58
 have S_Z50:=Xbg (st:=Xtn) X G a_Z50 l_Z50 c_Z50 k_Z50
 have S_Z20:=Xbg (st:=Xrw) X G a_Z20 l_Z20 c_Z20 k_Z20
 have S_Z34:=Xbg (st:=Xqr) X G a_Z34 l_Z34 c_Z34 k_Z34
 have S_Z24:=Xbg (st:=Xpu) X G a_Z24 l_Z24 c_Z24 k_Z24
 have S_Z19:=Xbg (st:=Xud) X G a_Z19 l_Z19 c_Z19 k_Z19
 have S_Z32:=Xbg (st:=Xsx) X G a_Z32 l_Z32 c_Z32 k_Z32
 have S_Z51:=Xbg (st:=Xti) X G a_Z51 l_Z51 c_Z51 k_Z51
 have S_Z55:=Xbg (st:=Xse) X G a_Z55 l_Z55 c_Z55 k_Z55
 have S_Z57:=Xbg (st:=Xrj) X G a_Z57 l_Z57 c_Z57 k_Z57
 have S_Z41:=Xbg (st:=Xqx) X G a_Z41 l_Z41 c_Z41 k_Z41
 have S_Z62:=Xbg (st:=Xsq) X G a_Z62 l_Z62 c_Z62 k_Z62
 have S_Z42:=Xbg (st:=Xsl) X G a_Z42 l_Z42 c_Z42 k_Z42
 have S_Z56:=Xbg (st:=Xtx) X G a_Z56 l_Z56 c_Z56 k_Z56
 subst eb_Broken en_Broken eo_Broken
 have XI_Broken:XIni K mg "Broken" Y4 Y0 f_Broken_init:=⟨PySem.W.mg_of X G cc_Broken,⟨_,_,_,_,_,_,_,_,_,_,_,_,_,_,_,lc_Broken⟩,xx_StowError,e60_,kp_Broken,⟨_,_,_,_,l_Broken_init,rfl⟩⟩
 refine⟨PySem.W.fnOf "law" "law" (Xbr Xnn) (Xbe Xnn) (Xae Xnn) .none kV_law dc_law pm_law an_law cd_law ct_law,fun s v=>.of_eq rfl,fun base _ _=>?_⟩
 have D_Z45:=XTv (P:=l.prog) (w:=w) (base:=base) S_Z45 T 
 have D_Z44:=d_Z44 (P:=l.prog) (w:=w) (base:=base) S_Z44 T 
 have D_Z46:=XRd (P:=l.prog) (w:=w) (base:=base) S_Z46 T 
 have D_Z35:=XRy (P:=l.prog) (w:=w) (base:=base) S_Z35 T D_Z44 D_Z46
 have D_Z18:=XRk (P:=l.prog) (w:=w) (base:=base) S_Z18 T D_Z44 D_Z35
 have D_Broken:=Xzl (P:=l.prog) (w:=w) (base:=base) (Xbw l_Broken_init c_Broken_init k_Broken_init) XI_Broken T.s_Broken
 have D_Z53:=XTj (P:=l.prog) (w:=w) (base:=base) S_Z53 T D_Z44 D_Z46 D_Z18 D_Broken
 have D_Z29:=XUc (P:=l.prog) (w:=w) (base:=base) S_Z29 T D_Z45
 have D_Z67:=d_Z67 (P:=l.prog) (w:=w) (base:=base) S_Z67 T D_Z45
 have D_Z33:=XTr (P:=l.prog) (w:=w) (base:=base) S_Z33 T D_Z67
 have D_Z9:=d_Z9 (P:=l.prog) (w:=w) (base:=base) S_Z9 T 
 have D_Z58:=XTw (P:=l.prog) (w:=w) (base:=base) S_Z58 T D_Z53 D_Z9 D_Z67
 have D_Z38:=XSe (P:=l.prog) (w:=w) (base:=base) S_Z38 T D_Z53
 have D_Z52:=d_Z52 (P:=l.prog) (w:=w) (base:=base) S_Z52 T D_Z38
 have D_Z49:=XRh (P:=l.prog) (w:=w) (base:=base) S_Z49 T D_Z38
 have D_Z47:=XRr (P:=l.prog) (w:=w) (base:=base) S_Z47 T D_Z49 D_Z33 D_Z67
 have D_Z27:=XRw (P:=l.prog) (w:=w) (base:=base) S_Z27 T D_Z46 D_Z44
 have D_Z39:=XTq (P:=l.prog) (w:=w) (base:=base) S_Z39 T D_Z46 D_Z44
 have D_Z63:=XTo (P:=l.prog) (w:=w) (base:=base) S_Z63 T D_Z52 D_Z27 D_Z39 D_Z33
 have D_Z20:=XSl (P:=l.prog) (w:=w) (base:=base) S_Z20 T 
 have D_Z34:=XSh (P:=l.prog) (w:=w) (base:=base) S_Z34 T D_Z20 D_Z53
 have D_Z24:=d_Z24 (P:=l.prog) (w:=w) (base:=base) S_Z24 T 
 have D_Z50:=XSm (P:=l.prog) (w:=w) (base:=base) S_Z50 T 
 have D_Z36:=XRp (P:=l.prog) (w:=w) (base:=base) S_Z36 T 
 have D_Z12:=d_Z12 (P:=l.prog) (w:=w) (base:=base) S_Z12 T D_Z53
 have D_First:=XCf (P:=l.prog) (w:=w) (base:=base) (Xbw l_Keeper_init c_Keeper_init k_Keeper_init) ⟨mk_First,e40_,if_Keeper_init,kp_First⟩ T D_Z29
 have D_Best:=XLy (P:=l.prog) (w:=w) (base:=base) (Xbw l_Keeper_init c_Keeper_init k_Keeper_init) ⟨mk_Best,e52_,if_Keeper_init,kp_Best⟩ T D_Z29
 have D_Likes:=XHa (P:=l.prog) (w:=w) (base:=base) (Xbw l_Keeper_init c_Keeper_init k_Keeper_init) ⟨mk_Likes,e38_,if_Keeper_init,kp_Likes⟩ T D_Z29
 have D_Z28:=XUe (P:=l.prog) (w:=w) (base:=base) (Xbw l_Keeper_init c_Keeper_init k_Keeper_init) ⟨bs_Stretches,br_Stretches,e12_,k_Keeper_init⟩ T D_Z29
 have D_Next:=XNc (P:=l.prog) (w:=w) (base:=base) (Xbw l_Next_init c_Next_init k_Next_init) ⟨mk_Next,e61_,if_Next_init,kp_Next⟩ T D_Z28
 have D_Z65:=XRl (P:=l.prog) (w:=w) (base:=base) (Xbw l_Z1 c_Z1 k_Z1) (fun i hi=>by cases i <;> first | exact⟨e3_,if_Z1,k_Z1⟩ | exact⟨e7_,if_Z1,k_Z1⟩ | exact⟨e4_,if_Z1,k_Z1⟩ | exact absurd rfl hi | cases hi) T D_Z58
 have D_Z64:=XRj (P:=l.prog) (w:=w) (base:=base) (Xbw l_Z6 c_Z6 k_Z6) (fun i hi=>by cases i <;> first | exact⟨e19_,if_Z6,k_Z6⟩ | exact absurd rfl hi | cases hi) T D_Z58
 have D_room_begin:Xbj l.prog w K mg base (cF Y10 Y13 Y14 Y11) "room_begin" 6 ["self","cells"] [] (Xhr K (cF Y10 Y13 Y14 Y11)):=Xsw D_Z65 D_Z64 (by decide) (by decide) (fun i=>by cases i <;> first | exact .inr rfl | exact .inl (fun z=>by cases z))
 have D_Z59:=XTa (P:=l.prog) (w:=w) (base:=base) (Xbw l_Z15 c_Z15 k_Z15) (four (Q:=fun C=>Meth K C "clear" f_Z15) ⟨e30_,if_Z15,k_Z15⟩ ⟨e44_,if_Z15,k_Z15⟩ ⟨e43_,if_Z15,k_Z15⟩ ⟨e32_,if_Z15,k_Z15⟩) T D_Z29 D_room_begin
 have D_Z54:=XSg (P:=l.prog) (w:=w) (base:=base) (Xbw l_Z10 c_Z10 k_Z10) (four (Q:=fun C=>Meth K C "pieces" f_Z10) ⟨e21_,if_Z10,k_Z10⟩ ⟨e29_,if_Z10,k_Z10⟩ ⟨e36_,if_Z10,k_Z10⟩ ⟨e27_,if_Z10,k_Z10⟩) T D_Z53
 have D_Z71:=XTe (P:=l.prog) (w:=w) (base:=base) (Xbw l_Z21 c_Z21 k_Z21) (four (Q:=fun C=>Meth K C "many" f_Z21) ⟨e41_,if_Z21,k_Z21⟩ ⟨e53_,if_Z21,k_Z21⟩ ⟨e50_,if_Z21,k_Z21⟩ ⟨e37_,if_Z21,k_Z21⟩) T D_Z52
 have D_Z68:=XTc (P:=l.prog) (w:=w) (base:=base) (Xbw l_Z0 c_Z0 k_Z0) (fun i hi=>by cases i <;> first | exact⟨e1_,if_Z0,k_Z0⟩ | exact⟨e2_,if_Z0,k_Z0⟩ | exact⟨e0_,if_Z0,k_Z0⟩ | exact absurd rfl hi | cases hi) T 
 have D_Z70:=XSj (P:=l.prog) (w:=w) (base:=base) (Xbw l_Z4 c_Z4 k_Z4) (fun i hi=>by cases i <;> first | exact⟨e15_,if_Z4,k_Z4⟩ | exact absurd rfl hi | cases hi) T 
 have D_room_granted:Xbj l.prog w K mg base (cF Y10 Y13 Y14 Y11) "room_granted" 1 ["self","behind"] [] (Xkf (cF Y10 Y13 Y14 Y11)):=Xsw D_Z68 D_Z70 (by decide) (by decide) (fun i=>by cases i <;> first | exact .inr rfl | exact .inl (fun z=>by cases z))
 have D_Z61:=XTk (P:=l.prog) (w:=w) (base:=base) (Xbw l_Z14 c_Z14 k_Z14) (four (Q:=fun C=>Meth K C "cells" f_Z14) ⟨e33_,if_Z14,k_Z14⟩ ⟨e42_,if_Z14,k_Z14⟩ ⟨e39_,if_Z14,k_Z14⟩ ⟨e31_,if_Z14,k_Z14⟩) T 
 have D_lay:=XSa (P:=l.prog) (w:=w) (base:=base) (Xbw l_Z25 c_Z25 k_Z25) (four (Q:=fun C=>Meth K C "lay" f_Z25) ⟨e45_,if_Z25,k_Z25⟩ ⟨e55_,if_Z25,k_Z25⟩ ⟨e54_,if_Z25,k_Z25⟩ ⟨e51_,if_Z25,k_Z25⟩) T D_Z53 D_room_begin
 have D_Z16:=XRf (P:=l.prog) (w:=w) (base:=base) (Xbw l_Z2 c_Z2 k_Z2) (four (Q:=fun C=>Meth K C "room_cell_of" f_Z2) ⟨e6_,if_Z2,k_Z2⟩ ⟨e9_,if_Z2,k_Z2⟩ ⟨e8_,if_Z2,k_Z2⟩ ⟨e5_,if_Z2,k_Z2⟩) T D_Z71
 have D_put:=XSu (P:=l.prog) (w:=w) (base:=base) (Xbw l_Z30 c_Z30 k_Z30) (four (Q:=fun C=>Meth K C "put" f_Z30) ⟨e47_,if_Z30,k_Z30⟩ ⟨e56_,if_Z30,k_Z30⟩ ⟨e59_,if_Z30,k_Z30⟩ ⟨e46_,if_Z30,k_Z30⟩) T D_Z16
 have D_get:=XTg (P:=l.prog) (w:=w) (base:=base) (Xbw l_Z26 c_Z26 k_Z26) (four (Q:=fun C=>Meth K C "get" f_Z26) ⟨e49_,if_Z26,k_Z26⟩ ⟨e57_,if_Z26,k_Z26⟩ ⟨e58_,if_Z26,k_Z26⟩ ⟨e48_,if_Z26,k_Z26⟩) T D_Z16
 have D_Z37:=XTx (P:=l.prog) (w:=w) (base:=base) (Xbw l_Z17 c_Z17 k_Z17) ⟨a_Z17,if_Z17,k_Z17⟩ T D_Z34 D_Z24
 have D_Z43:=XSc (P:=l.prog) (w:=w) (base:=base) (Xbw l_Z23 c_Z23 k_Z23) ⟨a_Z23,if_Z23,k_Z23⟩ T D_Z34 D_Z24 D_Z44
 have D_Z48:=XRq (P:=l.prog) (w:=w) (base:=base) (Xbw l_Z22 c_Z22 k_Z22) ⟨a_Z22,if_Z22,k_Z22⟩ T D_Z34 D_Z24
 have D_Z40:=XTy (P:=l.prog) (w:=w) (base:=base) (Xbw l_Z13 c_Z13 k_Z13) ⟨a_Z13,if_Z13,k_Z13⟩ T D_Z34 D_Z24 D_Z44
 have D_chosen:Xbj l.prog w K mg base (cF Y10 Y13 Y14 Y11) "chosen" 6 ["self","long","bound"] [] (Xec (cF Y10 Y13 Y14 Y11)):=Xzk (sp:=Xec (cF Y10 Y13 Y14 Y11)) D_Z37 D_Z43 D_Z48 D_Z40 (by decide) (by decide) (by decide) (by decide)
 have D_ask:=XSo (P:=l.prog) (w:=w) (base:=base) (Xsi l_Z11 c_Z11 k_Z11) ld_Z11 (four (Q:=fun C=>Meth K C "ask" f_Z11) ⟨e22_,if_Z11,k_Z11⟩ ⟨e34_,if_Z11,k_Z11⟩ ⟨e35_,if_Z11,k_Z11⟩ ⟨e23_,if_Z11,k_Z11⟩) T D_Z36 D_chosen D_Z47 D_Z12 D_room_granted
 have D_Z69:=XRs (P:=l.prog) (w:=w) (base:=base) (Xbw l_Z8 c_Z8 k_Z8) (four (Q:=fun C=>Meth K C "give" f_Z8) ⟨e18_,if_Z8,k_Z8⟩ ⟨e26_,if_Z8,k_Z8⟩ ⟨e24_,if_Z8,k_Z8⟩ ⟨e20_,if_Z8,k_Z8⟩) T D_Z63
 have D_Z31:=XSi (P:=l.prog) (w:=w) (base:=base) (Xbw l_Z3 c_Z3 k_Z3) (four (Q:=fun C=>Meth K C "room_moved" f_Z3) ⟨e10_,if_Z3,k_Z3⟩ ⟨e13_,if_Z3,k_Z3⟩ ⟨e14_,if_Z3,k_Z3⟩ ⟨e11_,if_Z3,k_Z3⟩) T D_ask D_Z50 D_Z71 D_Z69
 have D_Z66:=XRn (P:=l.prog) (w:=w) (base:=base) (Xsi l_Z7 c_Z7 k_Z7) ld_Z7 (four (Q:=fun C=>Meth K C "grow" f_Z7) ⟨e17_,if_Z7,k_Z7⟩ ⟨e25_,if_Z7,k_Z7⟩ ⟨e28_,if_Z7,k_Z7⟩ ⟨e16_,if_Z7,k_Z7⟩) T D_Z52 D_Z36 D_Z39 D_Z31 D_Z67 D_Z33
 have D_Z19:=d_Z19 (P:=l.prog) (w:=w) (base:=base) S_Z19 T D_First D_Best D_Next D_Likes
 have D_Z32:=XSz (P:=l.prog) (w:=w) (base:=base) S_Z32 T 
 have D_Z51:=XUb (P:=l.prog) (w:=w) (base:=base) S_Z51 T 
 have D_Z55:=XRx (P:=l.prog) (w:=w) (base:=base) S_Z55 T D_Z51
 have D_Z57:=XSt (P:=l.prog) (w:=w) (base:=base) S_Z57 T D_ask D_Z66
 have D_Z41:=XTi (P:=l.prog) (w:=w) (base:=base) S_Z41 T 
 have D_Z62:=XRg (P:=l.prog) (w:=w) (base:=base) S_Z62 T D_Z61 D_Z57 D_Z55 D_Z41 D_Z51
 have D_Z42:=XRt (P:=l.prog) (w:=w) (base:=base) S_Z42 T D_Z61 D_Z55 D_Z54
 have D_Z56:=d_Z56 (P:=l.prog) (w:=w) (base:=base) S_Z56 T D_Z62 D_Z61 D_lay D_Z69 D_put D_get D_Z59
 exact XPj (Xbw l_law c_law k_law) T D_Z32 D_Z19 D_Z56 D_Z42 D_Z61
theorem walk {l:PySem.W.OpenLaw}{q:Program}{loose:List Str}{XP:(Str→Option Value)→Heap→Prop}{YP:World→Heap→Prop}{d:DefRec}{K:Params→PySem.W.Frag}(hn:l.most=some 63)(hdf:d.params.defaults=[])
   (hY:∀(w:World) (h:Heap),YP w h→(K w.params).In h)
   (F:∀(w:World) (mg:Str→Option Value) (fa:Addr) (h:Heap),(K w.params).In h→h.Ns mainGlobals mg→mg d.name=some (.ref fa) →
     ∃fd:FuncData,(∀(s:Shared) (u:Value),BindsTo s fd ⟨[u],[]⟩ [("_law_script",u)])∧∀base:Heap,(K w.params).In base→base.Ns mainGlobals mg→FnOk l.prog w (K w.params) mg base (CXe l.prog w) 14 fa fd ["_law_script"] (Xxl (K w.params))) :
   PySem.W.WalkO q loose XP YP l.row.toRowW d [] (fun f vs=>PySem.call f vs) :=
 L2.walk_of (n:=63) (k:=14) (x:="_law_script") (CX:=fun w=>(CXe l.prog w)) (sp:=fun w=>Xxl (K w.params)) hn (by decide) hdf ⟨rfl,by decide,by decide⟩ hY F (fun _ _ a ns hl _ hS=>⟨a,ns,rfl,hS,hl,fun _=>rfl⟩) (fun _ _ _ _ _ ⟨_,_,_,_,_,_,_,_,_,_,_,_,_,_,_,z⟩=>z)
end Stow
open PySem PySem.W PyProof.Rows
set_option maxRecDepth 100000 in
set_option maxHeartbeats 0 in
theorem PySem.Challenge.cw_stow_k22_whole_stretches_holds : PySem.Challenge.rw_stow_k22_whole_stretches.Holds := by
 w_on;o_law
 refine holds_open (XP:=fun _ _=>True) (YP:=InK Stow.heap0) Stow.left0 ?y (InK.keeps (K:=Stow.heap0)) (fun _ _=>trivial) (fun _ _ _ h _=>h) rfl rfl rfl (fun _ e=>recFacts_of e) rfl
   (by assumption) (by decide +kernel) ⟨rfl,rfl,rfl,rfl,rfl,by decide +kernel⟩ ?hw ?hc
 case y=>exact InK.of Stow.at0_eq
 case hw=>w_witness2
 k_fill
 refine Stow.walk (l:=PySem.Challenge.rw_stow_k22_whole_stretches) rfl rfl (fun w h Y=>Y) ?F
 case F =>
   intro w mg fa h KX G hmg
   apply Stow.all_mk KX G hmg
   (case a_Z60=>k_is)
   (case l_Z60=>unfold Stow.LkF;k_is)
   (case c_Z60=>k_is)
   (case k_Z60=>k_is)
   (case a_Z36=>k_is)
   (case l_Z36=>unfold Stow.LkF;k_is)
   (case c_Z36=>k_is)
   (case k_Z36=>k_is)
   (case a_Z5=>k_is)
   (case l_Z5=>unfold Stow.LkF;k_is)
   (case c_Z5=>k_is)
   (case k_Z5=>k_is)
   (case a_Z45=>k_is)
   (case l_Z45=>unfold Stow.LkF;k_is)
   (case c_Z45=>k_is)
   (case k_Z45=>k_is)
   (case a_Z44=>k_is)
   (case l_Z44=>unfold Stow.LkF;k_is)
   (case c_Z44=>k_is)
   (case k_Z44=>k_is)
   (case a_Z46=>k_is)
   (case l_Z46=>unfold Stow.LkF;k_is)
   (case c_Z46=>k_is)
   (case k_Z46=>k_is)
   (case a_Z35=>k_is)
   (case l_Z35=>unfold Stow.LkF;k_is)
   (case c_Z35=>k_is)
   (case k_Z35=>k_is)
   (case a_Z18=>k_is)
   (case l_Z18=>unfold Stow.LkF;k_is)
   (case c_Z18=>k_is)
   (case k_Z18=>k_is)
   (case a_Z53=>k_is)
   (case l_Z53=>unfold Stow.LkF;k_is)
   (case c_Z53=>k_is)
   (case k_Z53=>k_is)
   (case a_Z29=>k_is)
   (case l_Z29=>unfold Stow.LkF;k_is)
   (case c_Z29=>k_is)
   (case k_Z29=>k_is)
   (case a_Z67=>k_is)
   (case l_Z67=>unfold Stow.LkF;k_is)
   (case c_Z67=>k_is)
   (case k_Z67=>k_is)
   (case a_Z33=>k_is)
   (case l_Z33=>unfold Stow.LkF;k_is)
   (case c_Z33=>k_is)
   (case k_Z33=>k_is)
   (case a_Z38=>k_is)
   (case l_Z38=>unfold Stow.LkF;k_is)
   (case c_Z38=>k_is)
   (case k_Z38=>k_is)
   (case a_Z52=>k_is)
   (case l_Z52=>unfold Stow.LkF;k_is)
   (case c_Z52=>k_is)
   (case k_Z52=>k_is)
   (case a_Z49=>k_is)
   (case l_Z49=>unfold Stow.LkF;k_is)
   (case c_Z49=>k_is)
   (case k_Z49=>k_is)
   (case a_Z12=>k_is)
   (case l_Z12=>unfold Stow.LkF;k_is)
   (case c_Z12=>k_is)
   (case k_Z12=>k_is)
   (case a_Z27=>k_is)
   (case l_Z27=>unfold Stow.LkF;k_is)
   (case c_Z27=>k_is)
   (case k_Z27=>k_is)
   (case a_Z39=>k_is)
   (case l_Z39=>unfold Stow.LkF;k_is)
   (case c_Z39=>k_is)
   (case k_Z39=>k_is)
   (case a_Z47=>k_is)
   (case l_Z47=>unfold Stow.LkF;k_is)
   (case c_Z47=>k_is)
   (case k_Z47=>k_is)
   (case a_Z63=>k_is)
   (case l_Z63=>unfold Stow.LkF;k_is)
   (case c_Z63=>k_is)
   (case k_Z63=>k_is)
   (case a_Z9=>k_is)
   (case l_Z9=>unfold Stow.LkF;k_is)
   (case c_Z9=>k_is)
   (case k_Z9=>k_is)
   (case a_Z58=>k_is)
   (case l_Z58=>unfold Stow.LkF;k_is)
   (case c_Z58=>k_is)
   (case k_Z58=>k_is)
   (case a_Z50=>k_is)
   (case l_Z50=>unfold Stow.LkF;k_is)
   (case c_Z50=>k_is)
   (case k_Z50=>k_is)
   (case a_Z20=>k_is)
   (case l_Z20=>unfold Stow.LkF;k_is)
   (case c_Z20=>k_is)
   (case k_Z20=>k_is)
   (case a_Z34=>k_is)
   (case l_Z34=>unfold Stow.LkF;k_is)
   (case c_Z34=>k_is)
   (case k_Z34=>k_is)
   (case a_Z24=>k_is)
   (case l_Z24=>unfold Stow.LkF;k_is)
   (case c_Z24=>k_is)
   (case k_Z24=>k_is)
   (case a_Z19=>k_is)
   (case l_Z19=>unfold Stow.LkF;k_is)
   (case c_Z19=>k_is)
   (case k_Z19=>k_is)
   (case a_Z32=>k_is)
   (case l_Z32=>unfold Stow.LkF;k_is)
   (case c_Z32=>k_is)
   (case k_Z32=>k_is)
   (case a_Z51=>k_is)
   (case l_Z51=>unfold Stow.LkF;k_is)
   (case c_Z51=>k_is)
   (case k_Z51=>k_is)
   (case a_Z55=>k_is)
   (case l_Z55=>unfold Stow.LkF;k_is)
   (case c_Z55=>k_is)
   (case k_Z55=>k_is)
   (case a_Z57=>k_is)
   (case l_Z57=>unfold Stow.LkF;k_is)
   (case c_Z57=>k_is)
   (case k_Z57=>k_is)
   (case a_Z41=>k_is)
   (case l_Z41=>unfold Stow.LkF;k_is)
   (case c_Z41=>k_is)
   (case k_Z41=>k_is)
   (case a_Z62=>k_is)
   (case l_Z62=>unfold Stow.LkF;k_is)
   (case c_Z62=>k_is)
   (case k_Z62=>k_is)
   (case a_Z42=>k_is)
   (case l_Z42=>unfold Stow.LkF;k_is)
   (case c_Z42=>k_is)
   (case k_Z42=>k_is)
   (case a_Z56=>k_is)
   (case l_Z56=>unfold Stow.LkF;k_is)
   (case c_Z56=>k_is)
   (case k_Z56=>k_is)
   (case a_law=>k_is)
   (case l_law=>unfold Stow.LkF;k_is)
   (case c_law=>k_is)
   (case k_law=>k_is)
   (case z_bool=>k_is)
   (case z_int=>k_is)
   (case z_isinstance=>k_is)
   (case z_len=>k_is)
   (case z_list=>k_is)
   (case z_min=>k_is)
   (case z_range=>k_is)
   (case g_LEAST_LIVE=>k_is)
   (case g_MARKS=>k_is)
   (case cc_StowError=>k_is)
   (case cc_NoName=>k_is)
   (case cc_NoSize=>k_is)
   (case cc_Broken=>k_is)
   (case cc_NoPiece=>k_is)
   (case cc_NoCell=>k_is)
   (case cc_NoAsk=>k_is)
   (case cc_NoBound=>k_is)
   (case cc_NoRoom=>k_is)
   (case cc_Keeper=>k_is)
   (case cc_Stretches=>k_is)
   (case cc_First=>k_is)
   (case cc_Best=>k_is)
   (case cc_Next=>k_is)
   (case cc_Likes=>k_is)
   (case s1_Broken=>k_is)
   (case s2_Broken=>k_is)
   (case s5_Broken=>decide +kernel)
   (case s6_Broken=>rfl)
   (case s3_Broken=>k_is)
   (case s4_Broken=>k_is)
   (case xx_NoSize=>k_exc)
   (case xx_NoPiece=>k_exc)
   (case xx_NoRoom=>k_exc)
   (case xx_NoName=>k_exc)
   (case pg_First=>k_is)
   (case hd_First=>k_is)
   (case po_First=>k_is)
   (case sa_First=>k_is)
   (case na_First_room_cells=>k_is)
   (case pg_Best=>k_is)
   (case hd_Best=>k_is)
   (case po_Best=>k_is)
   (case sa_Best=>k_is)
   (case na_Best_room_cells=>k_is)
   (case pg_Next=>k_is)
   (case hd_Next=>k_is)
   (case po_Next=>k_is)
   (case sa_Next=>k_is)
   (case na_Next_room_cells=>k_is)
   (case na_Next_room_rover=>k_is)
   (case pg_Likes=>k_is)
   (case hd_Likes=>k_is)
   (case po_Likes=>k_is)
   (case sa_Likes=>k_is)
   (case na_Likes_room_cells=>k_is)
   (case ic_First=>k_is)
   (case ig=>k_is)
   (case it=>k_is)
   (case im_First=>k_is)
   (case ic_Best=>k_is)
   (case im_Best=>k_is)
   (case ic_Next=>k_is)
   (case im_Next=>k_is)
   (case ic_Likes=>k_is)
   (case im_Likes=>k_is)
   (case i_First_Keeper=>kit_is)
   (case i_Best_Keeper=>kit_is)
   (case i_Next_Keeper=>kit_is)
   (case i_Likes_Keeper=>kit_is)
   (case lc_NoRoom=>k_is)
   (case fb_NoRoom=>decide +kernel)
   (case fm_NoRoom_NoRoom=>decide +kernel)
   (case lc_Broken=>k_is)
   (case xx_StowError=>k_exc)
   (case kp_Broken=>k_is)
   (case e60_=>k_is)
   (case l_Broken_init=>unfold Stow.LkF;k_is)
   (case c_Broken_init=>k_is)
   (case k_Broken_init=>k_is)
   (case eb_Broken=>rfl)
   (case en_Broken=>rfl)
   (case eo_Broken=>rfl)
   (case e40_=>k_is)
   (case l_Keeper_init=>unfold Stow.LkF;k_is)
   (case c_Keeper_init=>k_is)
   (case k_Keeper_init=>k_is)
   (case if_Keeper_init=>k_is)
   (case mk_First=>k_is)
   (case kp_First=>k_is)
   (case e52_=>k_is)
   (case mk_Best=>k_is)
   (case kp_Best=>k_is)
   (case e38_=>k_is)
   (case mk_Likes=>k_is)
   (case kp_Likes=>k_is)
   (case e12_=>k_is)
   (case bs_Stretches=>k_is)
   (case br_Stretches=>k_is)
   (case e61_=>k_is)
   (case l_Next_init=>unfold Stow.LkF;k_is)
   (case c_Next_init=>k_is)
   (case k_Next_init=>k_is)
   (case if_Next_init=>k_is)
   (case mk_Next=>k_is)
   (case kp_Next=>k_is)
   (case e3_=>k_is)
   (case e7_=>k_is)
   (case e4_=>k_is)
   (case l_Z1=>unfold Stow.LkF;k_is)
   (case c_Z1=>k_is)
   (case k_Z1=>k_is)
   (case if_Z1=>k_is)
   (case e19_=>k_is)
   (case l_Z6=>unfold Stow.LkF;k_is)
   (case c_Z6=>k_is)
   (case k_Z6=>k_is)
   (case if_Z6=>k_is)
   (case e30_=>k_is)
   (case e44_=>k_is)
   (case e43_=>k_is)
   (case e32_=>k_is)
   (case l_Z15=>unfold Stow.LkF;k_is)
   (case c_Z15=>k_is)
   (case k_Z15=>k_is)
   (case if_Z15=>k_is)
   (case e21_=>k_is)
   (case e29_=>k_is)
   (case e36_=>k_is)
   (case e27_=>k_is)
   (case l_Z10=>unfold Stow.LkF;k_is)
   (case c_Z10=>k_is)
   (case k_Z10=>k_is)
   (case if_Z10=>k_is)
   (case e41_=>k_is)
   (case e53_=>k_is)
   (case e50_=>k_is)
   (case e37_=>k_is)
   (case l_Z21=>unfold Stow.LkF;k_is)
   (case c_Z21=>k_is)
   (case k_Z21=>k_is)
   (case if_Z21=>k_is)
   (case e1_=>k_is)
   (case e2_=>k_is)
   (case e0_=>k_is)
   (case l_Z0=>unfold Stow.LkF;k_is)
   (case c_Z0=>k_is)
   (case k_Z0=>k_is)
   (case if_Z0=>k_is)
   (case e15_=>k_is)
   (case l_Z4=>unfold Stow.LkF;k_is)
   (case c_Z4=>k_is)
   (case k_Z4=>k_is)
   (case if_Z4=>k_is)
   (case e33_=>k_is)
   (case e42_=>k_is)
   (case e39_=>k_is)
   (case e31_=>k_is)
   (case l_Z14=>unfold Stow.LkF;k_is)
   (case c_Z14=>k_is)
   (case k_Z14=>k_is)
   (case if_Z14=>k_is)
   (case e45_=>k_is)
   (case e55_=>k_is)
   (case e54_=>k_is)
   (case e51_=>k_is)
   (case l_Z25=>unfold Stow.LkF;k_is)
   (case c_Z25=>k_is)
   (case k_Z25=>k_is)
   (case if_Z25=>k_is)
   (case e6_=>k_is)
   (case e9_=>k_is)
   (case e8_=>k_is)
   (case e5_=>k_is)
   (case l_Z2=>unfold Stow.LkF;k_is)
   (case c_Z2=>k_is)
   (case k_Z2=>k_is)
   (case if_Z2=>k_is)
   (case e47_=>k_is)
   (case e56_=>k_is)
   (case e59_=>k_is)
   (case e46_=>k_is)
   (case l_Z30=>unfold Stow.LkF;k_is)
   (case c_Z30=>k_is)
   (case k_Z30=>k_is)
   (case if_Z30=>k_is)
   (case e49_=>k_is)
   (case e57_=>k_is)
   (case e58_=>k_is)
   (case e48_=>k_is)
   (case l_Z26=>unfold Stow.LkF;k_is)
   (case c_Z26=>k_is)
   (case k_Z26=>k_is)
   (case if_Z26=>k_is)
   (case a_Z17=>k_is)
   (case l_Z17=>unfold Stow.LkF;k_is)
   (case c_Z17=>k_is)
   (case k_Z17=>k_is)
   (case if_Z17=>k_is)
   (case a_Z23=>k_is)
   (case l_Z23=>unfold Stow.LkF;k_is)
   (case c_Z23=>k_is)
   (case k_Z23=>k_is)
   (case if_Z23=>k_is)
   (case a_Z22=>k_is)
   (case l_Z22=>unfold Stow.LkF;k_is)
   (case c_Z22=>k_is)
   (case k_Z22=>k_is)
   (case if_Z22=>k_is)
   (case a_Z13=>k_is)
   (case l_Z13=>unfold Stow.LkF;k_is)
   (case c_Z13=>k_is)
   (case k_Z13=>k_is)
   (case if_Z13=>k_is)
   (case e22_=>k_is)
   (case e34_=>k_is)
   (case e35_=>k_is)
   (case e23_=>k_is)
   (case l_Z11=>unfold Stow.LkF;k_is)
   (case ld_Z11=>k_is)
   (case c_Z11=>k_is)
   (case k_Z11=>k_is)
   (case if_Z11=>k_is)
   (case e18_=>k_is)
   (case e26_=>k_is)
   (case e24_=>k_is)
   (case e20_=>k_is)
   (case l_Z8=>unfold Stow.LkF;k_is)
   (case c_Z8=>k_is)
   (case k_Z8=>k_is)
   (case if_Z8=>k_is)
   (case e10_=>k_is)
   (case e13_=>k_is)
   (case e14_=>k_is)
   (case e11_=>k_is)
   (case l_Z3=>unfold Stow.LkF;k_is)
   (case c_Z3=>k_is)
   (case k_Z3=>k_is)
   (case if_Z3=>k_is)
   (case e17_=>k_is)
   (case e25_=>k_is)
   (case e28_=>k_is)
   (case e16_=>k_is)
   (case l_Z7=>unfold Stow.LkF;k_is)
   (case ld_Z7=>k_is)
   (case c_Z7=>k_is)
   (case k_Z7=>k_is)
   (case if_Z7=>k_is)
