import PyProof.Rows.All
import Wide.All
import OpenK.AllK
import Wide.FinOn
import Lean
import PyProof.EqAt
import PyProof.EqKinds
import PyProof.TupleCall
import PyProof.NeKinds
import PyProof.StationsW
import PyProof.RulesAs
import PyProof.ExcClass3
import PyProof.ExcInit
import PyProof.ExcArgsOwn
import PyProof.IsiH_set
import PyProof.NsDelKeeps
import PyProof.CompFree
import PySem.Challenge.RW_stow_k32_whole_halves
set_option Elab.async false
set_option linter.all false
set_option maxRecDepth 100000
set_option maxHeartbeats 4000000
namespace L2
open PySem PySem.Spec PyProof.Rows
def inClass (s:Stmt)(j:Nat):Stmt:=match s with
 | .ClassDef _ _ _ body _ _ _ _ _ _ _=>body.getD j (.Pass ⟨0,0,0,0⟩)
 | _=>.Pass ⟨0,0,0,0⟩
def defArgs (s:Stmt):Arguments:=match s with
 | .FunctionDef _ a _ _ _ _ _ _ _ _=>a
 | _=>{ posonlyargs:=[],args:=[],vararg:=none,kwonlyargs:=[],kw_defaults:=[],kwarg:=none,defaults:=[] }
def defBody (s:Stmt):List Stmt:=match s with
 | .FunctionDef _ _ b _ _ _ _ _ _ _=>b
 | _=>[]
def defScope (s:Stmt):Scope:=match s with
 | .FunctionDef _ _ _ _ _ _ sc _ _ _=>sc
 | _=>{ kind:=.function,names:=[],isGenerator:=false,isCoroutine:=false }
end L2
namespace Stow
open PySem L2 PyProof.Rows
def top (i:Nat):Stmt:=PySem.Challenge.pw_stow_k32_whole_halves.main.body.getD i (.Pass ⟨0,0,0,0⟩)
def en (P:Params)(s:Str)(t:Tok)(v:Value):DictEntry:=⟨PyData.keyHash P s,.str s t,v⟩
def fo (nm qn:Str)(st:Stmt)(dV kV dc pm:Value)(an:Option Addr)(cd ct:Value)(od:Option Addr):Obj:=⟨.type "function",od,.func (PySem.W.fnOf nm qn (defArgs st) (defBody st) (defScope st) dV kV dc pm an cd ct),#[]⟩
def fq (nm qn:Str)(st:Stmt):Obj:=⟨.none,none,.func { name:=nm,qualname:=qn,params:=defArgs st,body:=.stmts (defBody st),scope:=defScope st,globals:=0,closure:=[],defaults:=.none,kwdefaults:=.none },#[]⟩
def tu (l:List Value):Obj:=⟨(.type "tuple"),none,.seq l.toArray 0,#[]⟩
def fl (l:List Value):Obj:=⟨.none,none,.fields l.toArray,#[]⟩
def co (l:List Value):Obj:=⟨(.type "code"),none,.fields l.toArray,#[]⟩
abbrev vI (n:Int):Value:=.int n 0
abbrev vR (n:Addr):Value:=.ref n
abbrev cp (a b:Str)(t:Tok)(l:List Value):Obj:=co ((.str a t)::(.str b (t+1))::(.str "/claim/cut.py" (t+2))::l)
def ho0:Obj:=⟨(.type "tuple"),none,.seq #[] 0,#[]⟩
def ho1:Obj:=⟨.none,none,.fields #[],#[]⟩
def ho2:Obj:=cp "<module>" "<module>" 182 (vI 1::vI 0::vI 0::vI 0::vI 0::vR 11::(.bool false)::vI 181::vR 12::.none::.none::.none::.none::vI 185::vI 1::(.str "/claim/cut.py" 186)::[])
def ho3:Obj:=⟨(.type "frame"),none,.plain,((some (.ref 13))::(some (.ref 3))::(some (.ref 3))::none::(some (.str "__main__" 164))::none::(some (.ref 0))::[]).toArray⟩
def ho4 (P:Params):Obj:=⟨(.type "dict"),none,.dict (en P "__name__" 165 (.str "stow.errors" 187)::en P "__doc__" 166 .none::en P "__package__" 167 .none::en P "__loader__" 168 (.builtin "__main__.__loader__#opaque")::en P "__spec__" 169 .none::en P "__annotations__" 170 (.ref 6)::en P "__builtins__" 171 (.ref 4)::en P "__file__" 173 (.str "/claim/cut.py" 172)::en P "__cached__" 174 .none::en P "StowError" 206 (.ref 24)::en P "NoSize" 222 (.ref 37)::en P "Broken" 247 (.ref 56)::en P "NoPiece" 263 (.ref 68)::en P "NoCell" 279 (.ref 80)::en P "NoAsk" 295 (.ref 92)::en P "NoBound" 311 (.ref 104)::en P "NoRoom" 327 (.ref 116)::[]).toArray 17,#[]⟩
def ho5:Obj:=fl (vI 2::vI 0::vR 20::vI 4::vI 0::vR 33::vI 6::vI 0::vR 45::vI 10::vI 0::vR 64::vI 12::vI 0::vR 76::vI 14::vI 0::vR 88::vI 16::vI 0::vR 100::vI 18::vI 0::vR 112::[])
def ho6:Obj:=tu ((.type "ValueError")::[])
def ho7:Obj:=⟨(.type "builtin_function_or_method"),none,.fields ((.builtin "type.__prepare__")::(.type "type")::[]).toArray,#[]⟩
def ho8 (P:Params):Obj:=⟨(.type "dict"),none,.dict (en P "__module__" 196 (.str "stow.errors" 187)::en P "__qualname__" 198 (.str "StowError" 197)::en P "__firstlineno__" 200 (.int 2 199)::en P "__static_attributes__" 201 (.ref 22)::[]).toArray 4,#[]⟩
def ho11:Obj:=cp "StowError" "StowError" 191 (vI 2::vI 0::vI 0::vI 0::vI 0::vR 18::(.bool false)::vI 181::vR 19::.none::.none::.none::.none::vI 194::vI 2::(.str "/claim/cut.py" 195)::[])
def ho12:Obj:=⟨(.type "frame"),none,.plain,((some (.ref 20))::(some (.ref 3))::(some (.ref 17))::none::(some (.str "stow.errors" 187))::none::(some (.ref 0))::[]).toArray⟩
def ho14 (P:Params):Obj:=⟨(.type "dict"),none,.dict (en P "__module__" 196 (.str "stow.errors" 187)::en P "__firstlineno__" 200 (.int 2 199)::en P "__static_attributes__" 201 (.ref 22)::en P "__weakref__" 203 (.ref 25)::en P "__doc__" 204 .none::[]).toArray 3,#[]⟩
def ho15:Obj:=⟨(.type "type"),none,.cls ⟨"StowError",[(.type "ValueError")],[(.ref 24),(.type "ValueError"),(.type "Exception"),(.type "BaseException"),(.type "object")],23,"StowError",true,[],[(.ref 37),(.ref 56),(.ref 68),(.ref 80),(.ref 92),(.ref 104),(.ref 116)],false,none,false⟩,((some (.ref 15))::none::(some (.str "StowError" 189))::(some (.str "StowError" 197))::(some (.builtin "ValueError.__new__"))::(some (.bool true))::[]).toArray⟩
def ho16:Obj:=⟨(.type "getset_descriptor"),none,.fields ((.str "__weakref__" 202)::(.ref 24)::(.builtin "ExceptionGroup.__weakref__")::.none::[]).toArray,#[]⟩
def ho17:Obj:=⟨(.type "super"),none,.fields ((.ref 24)::(.ref 24)::(.ref 24)::[]).toArray,#[]⟩
def ho18:Obj:=⟨(.type "builtin_function_or_method"),none,.fields ((.builtin "object.__init_subclass__")::(.ref 24)::[]).toArray,#[]⟩
def ho19:Obj:=tu (vR 24::[])
def ho21 (P:Params):Obj:=⟨(.type "dict"),none,.dict (en P "__module__" 214 (.str "stow.errors" 187)::en P "__qualname__" 216 (.str "NoSize" 215)::en P "__firstlineno__" 218 (.int 4 217)::en P "__static_attributes__" 219 (.ref 35)::[]).toArray 4,#[]⟩
def ho24:Obj:=cp "NoSize" "NoSize" 209 (vI 4::vI 0::vI 0::vI 0::vI 0::vR 31::(.bool false)::vI 181::vR 32::.none::.none::.none::.none::vI 212::vI 4::(.str "/claim/cut.py" 213)::[])
def ho25:Obj:=⟨(.type "frame"),none,.plain,((some (.ref 33))::(some (.ref 3))::(some (.ref 30))::none::(some (.str "stow.errors" 187))::none::(some (.ref 0))::[]).toArray⟩
def ho27 (P:Params):Obj:=⟨(.type "dict"),none,.dict (en P "__module__" 214 (.str "stow.errors" 187)::en P "__firstlineno__" 218 (.int 4 217)::en P "__static_attributes__" 219 (.ref 35)::en P "__doc__" 220 .none::[]).toArray 2,#[]⟩
def ho28:Obj:=⟨(.type "type"),none,.cls ⟨"NoSize",[(.ref 24)],[(.ref 37),(.ref 24),(.type "ValueError"),(.type "Exception"),(.type "BaseException"),(.type "object")],36,"NoSize",true,[],[],false,none,false⟩,((some (.ref 28))::none::(some (.str "NoSize" 207))::(some (.str "NoSize" 215))::(some (.builtin "ValueError.__new__"))::(some (.bool true))::[]).toArray⟩
def ho29:Obj:=⟨(.type "super"),none,.fields ((.ref 37)::(.ref 37)::(.ref 37)::[]).toArray,#[]⟩
def ho30:Obj:=⟨(.type "builtin_function_or_method"),none,.fields ((.builtin "object.__init_subclass__")::(.ref 37)::[]).toArray,#[]⟩
def ho33 (P:Params):Obj:=⟨(.type "dict"),none,.dict (en P "__module__" 230 (.str "stow.errors" 187)::en P "__qualname__" 232 (.str "Broken" 231)::en P "__firstlineno__" 234 (.int 6 233)::en P "__init__" 242 (.ref 53)::en P "__static_attributes__" 244 (.ref 54)::[]).toArray 5,#[]⟩
def ho35:Obj:=fl (vI 8::vI 4::vR 52::[])
def ho36:Obj:=cp "Broken" "Broken" 225 (vI 6::vI 0::vI 0::vI 0::vI 0::vR 43::(.bool false)::vI 181::vR 44::.none::.none::.none::.none::vI 228::vI 6::(.str "/claim/cut.py" 229)::[])
def ho37:Obj:=⟨(.type "frame"),none,.plain,((some (.ref 45))::(some (.ref 3))::(some (.ref 42))::none::(some (.str "stow.errors" 187))::none::(some (.ref 0))::[]).toArray⟩
def ho40:Obj:=tu ((.str "self" 238)::(.str "cell" 239)::[])
def ho42:Obj:=fq "__init__" "Broken.__init__" (inClass (top 3) 0)
def ho43:Obj:=cp "__init__" "Broken.__init__" 235 (vI 8::vI 2::vI 0::vI 0::vI 3::vR 47::(.bool true)::vI 181::vR 48::.none::vR 49::vR 50::vR 51::vI 240::vI 8::(.str "/claim/cut.py" 241)::[])
def ho44:Obj:=fo "__init__" "Broken.__init__" (inClass (top 3) 0) .none .none .none (.str "stow.errors" 187) none (.ref 52) .none none
def ho45:Obj:=tu ((.str "cell" 243)::[])
def ho46 (P:Params):Obj:=⟨(.type "dict"),none,.dict (en P "__module__" 230 (.str "stow.errors" 187)::en P "__firstlineno__" 234 (.int 6 233)::en P "__init__" 242 (.ref 53)::en P "__static_attributes__" 244 (.ref 54)::en P "__doc__" 245 .none::[]).toArray 2,#[]⟩
def ho47:Obj:=⟨(.type "type"),none,.cls ⟨"Broken",[(.ref 24)],[(.ref 56),(.ref 24),(.type "ValueError"),(.type "Exception"),(.type "BaseException"),(.type "object")],55,"Broken",true,[],[],false,none,false⟩,((some (.ref 40))::none::(some (.str "Broken" 223))::(some (.str "Broken" 231))::(some (.builtin "ValueError.__new__"))::(some (.bool true))::[]).toArray⟩
def ho48:Obj:=⟨(.type "super"),none,.fields ((.ref 56)::(.ref 56)::(.ref 56)::[]).toArray,#[]⟩
def ho49:Obj:=⟨(.type "builtin_function_or_method"),none,.fields ((.builtin "object.__init_subclass__")::(.ref 56)::[]).toArray,#[]⟩
def ho52 (P:Params):Obj:=⟨(.type "dict"),none,.dict (en P "__module__" 255 (.str "stow.errors" 187)::en P "__qualname__" 257 (.str "NoPiece" 256)::en P "__firstlineno__" 259 (.int 10 258)::en P "__static_attributes__" 260 (.ref 66)::[]).toArray 4,#[]⟩
def ho55:Obj:=cp "NoPiece" "NoPiece" 250 (vI 10::vI 0::vI 0::vI 0::vI 0::vR 62::(.bool false)::vI 181::vR 63::.none::.none::.none::.none::vI 253::vI 10::(.str "/claim/cut.py" 254)::[])
def ho56:Obj:=⟨(.type "frame"),none,.plain,((some (.ref 64))::(some (.ref 3))::(some (.ref 61))::none::(some (.str "stow.errors" 187))::none::(some (.ref 0))::[]).toArray⟩
def ho58 (P:Params):Obj:=⟨(.type "dict"),none,.dict (en P "__module__" 255 (.str "stow.errors" 187)::en P "__firstlineno__" 259 (.int 10 258)::en P "__static_attributes__" 260 (.ref 66)::en P "__doc__" 261 .none::[]).toArray 2,#[]⟩
def ho59:Obj:=⟨(.type "type"),none,.cls ⟨"NoPiece",[(.ref 24)],[(.ref 68),(.ref 24),(.type "ValueError"),(.type "Exception"),(.type "BaseException"),(.type "object")],67,"NoPiece",true,[],[],false,none,false⟩,((some (.ref 59))::none::(some (.str "NoPiece" 248))::(some (.str "NoPiece" 256))::(some (.builtin "ValueError.__new__"))::(some (.bool true))::[]).toArray⟩
def ho60:Obj:=⟨(.type "super"),none,.fields ((.ref 68)::(.ref 68)::(.ref 68)::[]).toArray,#[]⟩
def ho61:Obj:=⟨(.type "builtin_function_or_method"),none,.fields ((.builtin "object.__init_subclass__")::(.ref 68)::[]).toArray,#[]⟩
def ho64 (P:Params):Obj:=⟨(.type "dict"),none,.dict (en P "__module__" 271 (.str "stow.errors" 187)::en P "__qualname__" 273 (.str "NoCell" 272)::en P "__firstlineno__" 275 (.int 12 274)::en P "__static_attributes__" 276 (.ref 78)::[]).toArray 4,#[]⟩
def ho67:Obj:=cp "NoCell" "NoCell" 266 (vI 12::vI 0::vI 0::vI 0::vI 0::vR 74::(.bool false)::vI 181::vR 75::.none::.none::.none::.none::vI 269::vI 12::(.str "/claim/cut.py" 270)::[])
def ho68:Obj:=⟨(.type "frame"),none,.plain,((some (.ref 76))::(some (.ref 3))::(some (.ref 73))::none::(some (.str "stow.errors" 187))::none::(some (.ref 0))::[]).toArray⟩
def ho70 (P:Params):Obj:=⟨(.type "dict"),none,.dict (en P "__module__" 271 (.str "stow.errors" 187)::en P "__firstlineno__" 275 (.int 12 274)::en P "__static_attributes__" 276 (.ref 78)::en P "__doc__" 277 .none::[]).toArray 2,#[]⟩
def ho71:Obj:=⟨(.type "type"),none,.cls ⟨"NoCell",[(.ref 24)],[(.ref 80),(.ref 24),(.type "ValueError"),(.type "Exception"),(.type "BaseException"),(.type "object")],79,"NoCell",true,[],[],false,none,false⟩,((some (.ref 71))::none::(some (.str "NoCell" 264))::(some (.str "NoCell" 272))::(some (.builtin "ValueError.__new__"))::(some (.bool true))::[]).toArray⟩
def ho72:Obj:=⟨(.type "super"),none,.fields ((.ref 80)::(.ref 80)::(.ref 80)::[]).toArray,#[]⟩
def ho73:Obj:=⟨(.type "builtin_function_or_method"),none,.fields ((.builtin "object.__init_subclass__")::(.ref 80)::[]).toArray,#[]⟩
def ho76 (P:Params):Obj:=⟨(.type "dict"),none,.dict (en P "__module__" 287 (.str "stow.errors" 187)::en P "__qualname__" 289 (.str "NoAsk" 288)::en P "__firstlineno__" 291 (.int 14 290)::en P "__static_attributes__" 292 (.ref 90)::[]).toArray 4,#[]⟩
def ho79:Obj:=cp "NoAsk" "NoAsk" 282 (vI 14::vI 0::vI 0::vI 0::vI 0::vR 86::(.bool false)::vI 181::vR 87::.none::.none::.none::.none::vI 285::vI 14::(.str "/claim/cut.py" 286)::[])
def ho80:Obj:=⟨(.type "frame"),none,.plain,((some (.ref 88))::(some (.ref 3))::(some (.ref 85))::none::(some (.str "stow.errors" 187))::none::(some (.ref 0))::[]).toArray⟩
def ho82 (P:Params):Obj:=⟨(.type "dict"),none,.dict (en P "__module__" 287 (.str "stow.errors" 187)::en P "__firstlineno__" 291 (.int 14 290)::en P "__static_attributes__" 292 (.ref 90)::en P "__doc__" 293 .none::[]).toArray 2,#[]⟩
def ho83:Obj:=⟨(.type "type"),none,.cls ⟨"NoAsk",[(.ref 24)],[(.ref 92),(.ref 24),(.type "ValueError"),(.type "Exception"),(.type "BaseException"),(.type "object")],91,"NoAsk",true,[],[],false,none,false⟩,((some (.ref 83))::none::(some (.str "NoAsk" 280))::(some (.str "NoAsk" 288))::(some (.builtin "ValueError.__new__"))::(some (.bool true))::[]).toArray⟩
def ho84:Obj:=⟨(.type "super"),none,.fields ((.ref 92)::(.ref 92)::(.ref 92)::[]).toArray,#[]⟩
def ho85:Obj:=⟨(.type "builtin_function_or_method"),none,.fields ((.builtin "object.__init_subclass__")::(.ref 92)::[]).toArray,#[]⟩
def ho88 (P:Params):Obj:=⟨(.type "dict"),none,.dict (en P "__module__" 303 (.str "stow.errors" 187)::en P "__qualname__" 305 (.str "NoBound" 304)::en P "__firstlineno__" 307 (.int 16 306)::en P "__static_attributes__" 308 (.ref 102)::[]).toArray 4,#[]⟩
def ho91:Obj:=cp "NoBound" "NoBound" 298 (vI 16::vI 0::vI 0::vI 0::vI 0::vR 98::(.bool false)::vI 181::vR 99::.none::.none::.none::.none::vI 301::vI 16::(.str "/claim/cut.py" 302)::[])
def ho92:Obj:=⟨(.type "frame"),none,.plain,((some (.ref 100))::(some (.ref 3))::(some (.ref 97))::none::(some (.str "stow.errors" 187))::none::(some (.ref 0))::[]).toArray⟩
def ho94 (P:Params):Obj:=⟨(.type "dict"),none,.dict (en P "__module__" 303 (.str "stow.errors" 187)::en P "__firstlineno__" 307 (.int 16 306)::en P "__static_attributes__" 308 (.ref 102)::en P "__doc__" 309 .none::[]).toArray 2,#[]⟩
def ho95:Obj:=⟨(.type "type"),none,.cls ⟨"NoBound",[(.ref 24)],[(.ref 104),(.ref 24),(.type "ValueError"),(.type "Exception"),(.type "BaseException"),(.type "object")],103,"NoBound",true,[],[],false,none,false⟩,((some (.ref 95))::none::(some (.str "NoBound" 296))::(some (.str "NoBound" 304))::(some (.builtin "ValueError.__new__"))::(some (.bool true))::[]).toArray⟩
def ho96:Obj:=⟨(.type "super"),none,.fields ((.ref 104)::(.ref 104)::(.ref 104)::[]).toArray,#[]⟩
def ho97:Obj:=⟨(.type "builtin_function_or_method"),none,.fields ((.builtin "object.__init_subclass__")::(.ref 104)::[]).toArray,#[]⟩
def ho100 (P:Params):Obj:=⟨(.type "dict"),none,.dict (en P "__module__" 319 (.str "stow.errors" 187)::en P "__qualname__" 321 (.str "NoRoom" 320)::en P "__firstlineno__" 323 (.int 18 322)::en P "__static_attributes__" 324 (.ref 114)::[]).toArray 4,#[]⟩
def ho103:Obj:=cp "NoRoom" "NoRoom" 314 (vI 18::vI 0::vI 0::vI 0::vI 0::vR 110::(.bool false)::vI 181::vR 111::.none::.none::.none::.none::vI 317::vI 18::(.str "/claim/cut.py" 318)::[])
def ho104:Obj:=⟨(.type "frame"),none,.plain,((some (.ref 112))::(some (.ref 3))::(some (.ref 109))::none::(some (.str "stow.errors" 187))::none::(some (.ref 0))::[]).toArray⟩
def ho106 (P:Params):Obj:=⟨(.type "dict"),none,.dict (en P "__module__" 319 (.str "stow.errors" 187)::en P "__firstlineno__" 323 (.int 18 322)::en P "__static_attributes__" 324 (.ref 114)::en P "__doc__" 325 .none::[]).toArray 2,#[]⟩
def ho107:Obj:=⟨(.type "type"),none,.cls ⟨"NoRoom",[(.ref 24)],[(.ref 116),(.ref 24),(.type "ValueError"),(.type "Exception"),(.type "BaseException"),(.type "object")],115,"NoRoom",true,[],[],false,none,false⟩,((some (.ref 107))::none::(some (.str "NoRoom" 312))::(some (.str "NoRoom" 320))::(some (.builtin "ValueError.__new__"))::(some (.bool true))::[]).toArray⟩
def ho108:Obj:=⟨(.type "super"),none,.fields ((.ref 116)::(.ref 116)::(.ref 116)::[]).toArray,#[]⟩
def ho109:Obj:=⟨(.type "builtin_function_or_method"),none,.fields ((.builtin "object.__init_subclass__")::(.ref 116)::[]).toArray,#[]⟩
def ho110 (P:Params):Obj:=⟨(.type "dict"),none,.dict (en P "__name__" 165 (.str "law_stow_k32_whole_halves" 697)::en P "__doc__" 166 .none::en P "__package__" 167 .none::en P "__loader__" 168 (.builtin "__main__.__loader__#opaque")::en P "__spec__" 169 .none::en P "__annotations__" 170 (.ref 6)::en P "__builtins__" 171 (.ref 4)::en P "__file__" 173 (.str "/claim/cut.py" 172)::en P "__cached__" 174 .none::en P "StowError" 206 (.ref 24)::en P "NoSize" 222 (.ref 37)::en P "Broken" 247 (.ref 56)::en P "NoPiece" 263 (.ref 68)::en P "NoCell" 279 (.ref 80)::en P "NoAsk" 295 (.ref 92)::en P "NoBound" 311 (.ref 104)::en P "NoRoom" 327 (.ref 116)::en P "MARKS" 331 (.int 2 330)::en P "check_ask" 339 (.ref 125)::en P "check_plain_ask" 347 (.ref 132)::en P "mark_of" 357 (.ref 139)::en P "long_of" 364 (.ref 146)::en P "live_of" 371 (.ref 153)::en P "LEAST_LIVE" 375 (.int 3 374)::en P "can_begin" 384 (.ref 160)::en P "bad_of_piece" 393 (.ref 167)::en P "looked" 404 (.ref 174)::en P "fresh_room" 412 (.ref 181)::en P "laid" 425 (.ref 188)::en P "piece_at" 434 (.ref 195)::en P "live_at" 443 (.ref 202)::en P "carried" 454 (.ref 209)::en P "Keeper" 607 (.ref 319)::en P "is_power" 616 (.ref 330)::en P "block_for" 623 (.ref 337)::en P "least_free" 629 (.ref 342)::en P "cut_down" 640 (.ref 349)::en P "grown_together" 649 (.ref 356)::en P "Halves" 696 (.ref 388)::en P "_law_cell_at" 706 (.ref 397)::en P "_law_whole" 713 (.ref 404)::en P "_law_walk" 724 (.ref 411)::en P "_law_number" 731 (.ref 418)::[]).toArray 43,#[]⟩
def ho111:Obj:=fl (vI 2::vI 0::vR 20::vI 4::vI 0::vR 33::vI 6::vI 0::vR 45::vI 10::vI 0::vR 64::vI 12::vI 0::vR 76::vI 14::vI 0::vR 88::vI 16::vI 0::vR 100::vI 18::vI 0::vR 112::vI 22::vI 0::vR 124::vI 25::vI 0::vR 131::vI 30::vI 0::vR 138::vI 34::vI 0::vR 145::vI 36::vI 0::vR 152::vI 40::vI 0::vR 159::vI 45::vI 0::vR 166::vI 52::vI 0::vR 173::vI 63::vI 0::vR 180::vI 71::vI 0::vR 187::vI 76::vI 0::vR 194::vI 81::vI 0::vR 201::vI 86::vI 0::vR 208::vI 90::vI 0::vR 215::vI 151::vI 0::vR 329::vI 153::vI 0::vR 336::vI 155::vI 0::vR 341::vI 161::vI 0::vR 348::vI 167::vI 0::vR 355::vI 172::vI 0::vR 362::vI 190::vI 0::vR 396::vI 194::vI 0::vR 403::vI 196::vI 0::vR 410::vI 213::vI 0::vR 417::[])
def ho114:Obj:=tu ((.str "count" 335)::(.str "bound" 336)::[])
def ho116:Obj:=fq "check_ask" "check_ask" (top 11)
def ho117:Obj:=cp "check_ask" "check_ask" 332 (vI 22::vI 2::vI 0::vI 0::vI 3::vR 119::(.bool true)::vI 181::vR 120::.none::vR 121::vR 122::vR 123::vI 337::vI 22::(.str "/claim/cut.py" 338)::[])
def ho118:Obj:=fo "check_ask" "check_ask" (top 11) .none .none .none (.str "stow.asks" 328) none (.ref 124) .none none
def ho121:Obj:=tu ((.str "count" 343)::(.str "bound" 344)::[])
def ho123:Obj:=fq "check_plain_ask" "check_plain_ask" (top 12)
def ho124:Obj:=cp "check_plain_ask" "check_plain_ask" 340 (vI 25::vI 2::vI 0::vI 0::vI 3::vR 126::(.bool true)::vI 181::vR 127::.none::vR 128::vR 129::vR 130::vI 345::vI 25::(.str "/claim/cut.py" 346)::[])
def ho125:Obj:=fo "check_plain_ask" "check_plain_ask" (top 12) .none .none .none (.str "stow.asks" 328) none (.ref 131) .none none
def ho128:Obj:=tu ((.str "long" 353)::(.str "live" 354)::[])
def ho130:Obj:=fq "mark_of" "mark_of" (top 14)
def ho131:Obj:=cp "mark_of" "mark_of" 350 (vI 30::vI 2::vI 0::vI 0::vI 3::vR 133::(.bool true)::vI 181::vR 134::.none::vR 135::vR 136::vR 137::vI 355::vI 30::(.str "/claim/cut.py" 356)::[])
def ho132:Obj:=fo "mark_of" "mark_of" (top 14) .none .none .none (.str "stow.marks" 348) none (.ref 138) .none none
def ho135:Obj:=tu ((.str "number" 361)::[])
def ho137:Obj:=fq "long_of" "long_of" (top 15)
def ho138:Obj:=cp "long_of" "long_of" 358 (vI 34::vI 1::vI 0::vI 0::vI 3::vR 140::(.bool true)::vI 181::vR 141::.none::vR 142::vR 143::vR 144::vI 362::vI 34::(.str "/claim/cut.py" 363)::[])
def ho139:Obj:=fo "long_of" "long_of" (top 15) .none .none .none (.str "stow.marks" 348) none (.ref 145) .none none
def ho142:Obj:=tu ((.str "number" 368)::[])
def ho144:Obj:=fq "live_of" "live_of" (top 16)
def ho145:Obj:=cp "live_of" "live_of" 365 (vI 36::vI 1::vI 0::vI 0::vI 3::vR 147::(.bool true)::vI 181::vR 148::.none::vR 149::vR 150::vR 151::vI 369::vI 36::(.str "/claim/cut.py" 370)::[])
def ho146:Obj:=fo "live_of" "live_of" (top 16) .none .none .none (.str "stow.marks" 348) none (.ref 152) .none none
def ho149:Obj:=tu ((.str "cells" 379)::(.str "at" 380)::(.str "long" 381)::[])
def ho151:Obj:=fq "can_begin" "can_begin" (top 19)
def ho152:Obj:=cp "can_begin" "can_begin" 376 (vI 40::vI 2::vI 0::vI 0::vI 3::vR 154::(.bool true)::vI 181::vR 155::.none::vR 156::vR 157::vR 158::vI 382::vI 40::(.str "/claim/cut.py" 383)::[])
def ho153:Obj:=fo "can_begin" "can_begin" (top 19) .none .none .none (.str "stow.looks" 372) none (.ref 159) .none none
def ho156:Obj:=tu ((.str "cells" 388)::(.str "at" 389)::(.str "last" 390)::[])
def ho158:Obj:=fq "bad_of_piece" "bad_of_piece" (top 20)
def ho159:Obj:=cp "bad_of_piece" "bad_of_piece" 385 (vI 45::vI 2::vI 0::vI 0::vI 3::vR 161::(.bool true)::vI 181::vR 162::.none::vR 163::vR 164::vR 165::vI 391::vI 45::(.str "/claim/cut.py" 392)::[])
def ho160:Obj:=fo "bad_of_piece" "bad_of_piece" (top 20) .none .none .none (.str "stow.looks" 372) none (.ref 166) .none none
def ho163:Obj:=tu ((.str "cells" 397)::(.str "pieces" 398)::(.str "at" 399)::(.str "bad" 400)::(.str "long" 401)::[])
def ho165:Obj:=fq "looked" "looked" (top 21)
def ho166:Obj:=cp "looked" "looked" 394 (vI 52::vI 1::vI 0::vI 0::vI 3::vR 168::(.bool true)::vI 181::vR 169::.none::vR 170::vR 171::vR 172::vI 402::vI 52::(.str "/claim/cut.py" 403)::[])
def ho167:Obj:=fo "looked" "looked" (top 21) .none .none .none (.str "stow.looks" 372) none (.ref 173) .none none
def ho170:Obj:=tu ((.str "count" 408)::(.str "cells" 409)::[])
def ho172:Obj:=fq "fresh_room" "fresh_room" (top 22)
def ho173:Obj:=cp "fresh_room" "fresh_room" 405 (vI 63::vI 1::vI 0::vI 0::vI 3::vR 175::(.bool true)::vI 181::vR 176::.none::vR 177::vR 178::vR 179::vI 410::vI 63::(.str "/claim/cut.py" 411)::[])
def ho174:Obj:=fo "fresh_room" "fresh_room" (top 22) .none .none .none (.str "stow.looks" 372) none (.ref 180) .none none
def ho177:Obj:=tu ((.str "cells" 418)::(.str "at" 419)::(.str "long" 420)::(.str "live" 421)::(.str "row" 422)::[])
def ho179:Obj:=fq "laid" "laid" (top 24)
def ho180:Obj:=cp "laid" "laid" 415 (vI 71::vI 4::vI 0::vI 0::vI 3::vR 182::(.bool true)::vI 181::vR 183::.none::vR 184::vR 185::vR 186::vI 423::vI 71::(.str "/claim/cut.py" 424)::[])
def ho181:Obj:=fo "laid" "laid" (top 24) .none .none .none (.str "stow.pieces" 413) none (.ref 187) .none none
def ho184:Obj:=tu ((.str "cells" 429)::(.str "at" 430)::(.str "piece" 431)::[])
def ho186:Obj:=fq "piece_at" "piece_at" (top 25)
def ho187:Obj:=cp "piece_at" "piece_at" 426 (vI 76::vI 2::vI 0::vI 0::vI 3::vR 189::(.bool true)::vI 181::vR 190::.none::vR 191::vR 192::vR 193::vI 432::vI 76::(.str "/claim/cut.py" 433)::[])
def ho188:Obj:=fo "piece_at" "piece_at" (top 25) .none .none .none (.str "stow.pieces" 413) none (.ref 194) .none none
def ho191:Obj:=tu ((.str "cells" 438)::(.str "at" 439)::(.str "piece" 440)::[])
def ho193:Obj:=fq "live_at" "live_at" (top 26)
def ho194:Obj:=cp "live_at" "live_at" 435 (vI 81::vI 2::vI 0::vI 0::vI 3::vR 196::(.bool true)::vI 181::vR 197::.none::vR 198::vR 199::vR 200::vI 441::vI 81::(.str "/claim/cut.py" 442)::[])
def ho195:Obj:=fo "live_at" "live_at" (top 26) .none .none .none (.str "stow.pieces" 413) none (.ref 201) .none none
def ho198:Obj:=tu ((.str "cells" 447)::(.str "source" 448)::(.str "goal" 449)::(.str "count" 450)::(.str "row" 451)::[])
def ho200:Obj:=fq "carried" "carried" (top 27)
def ho201:Obj:=cp "carried" "carried" 444 (vI 86::vI 4::vI 0::vI 0::vI 3::vR 203::(.bool true)::vI 181::vR 204::.none::vR 205::vR 206::vR 207::vI 452::vI 86::(.str "/claim/cut.py" 453)::[])
def ho202:Obj:=fo "carried" "carried" (top 27) .none .none .none (.str "stow.pieces" 413) none (.ref 208) .none none
def ho205 (P:Params):Obj:=⟨(.type "dict"),none,.dict (en P "__module__" 464 (.str "stow.keepers" 455)::en P "__qualname__" 466 (.str "Keeper" 465)::en P "__firstlineno__" 468 (.int 90 467)::en P "__init__" 476 (.ref 223)::en P "cells" 483 (.ref 230)::en P "pieces" 490 (.ref 237)::en P "lay" 498 (.ref 244)::en P "clear" 505 (.ref 251)::en P "many" 516 (.ref 258)::en P "get" 525 (.ref 265)::en P "put" 536 (.ref 272)::en P "ask" 546 (.ref 280)::en P "give" 557 (.ref 287)::en P "grow" 569 (.ref 295)::en P "room_begin" 577 (.ref 302)::en P "room_cell_of" 587 (.ref 309)::en P "room_moved" 598 (.ref 316)::en P "__static_attributes__" 600 (.ref 317)::[]).toArray 18,#[]⟩
def ho207:Obj:=fl (vI 92::vI 4::vR 222::vI 95::vI 4::vR 229::vI 98::vI 4::vR 236::vI 101::vI 4::vR 243::vI 107::vI 4::vR 250::vI 110::vI 4::vR 257::vI 114::vI 4::vR 264::vI 117::vI 4::vR 271::vI 121::vI 4::vR 279::vI 125::vI 4::vR 286::vI 129::vI 4::vR 294::vI 136::vI 4::vR 301::vI 139::vI 4::vR 308::vI 145::vI 4::vR 315::[])
def ho208:Obj:=cp "Keeper" "Keeper" 459 (vI 90::vI 0::vI 0::vI 0::vI 0::vR 213::(.bool false)::vI 181::vR 214::.none::.none::.none::.none::vI 462::vI 90::(.str "/claim/cut.py" 463)::[])
def ho209:Obj:=⟨(.type "frame"),none,.plain,((some (.ref 215))::(some (.ref 3))::(some (.ref 212))::none::(some (.str "stow.keepers" 455))::none::(some (.ref 0))::[]).toArray⟩
def ho212:Obj:=tu ((.str "self" 472)::(.str "size" 473)::[])
def ho214:Obj:=fq "__init__" "Keeper.__init__" (inClass (top 29) 0)
def ho215:Obj:=cp "__init__" "Keeper.__init__" 469 (vI 92::vI 2::vI 0::vI 0::vI 3::vR 217::(.bool true)::vI 181::vR 218::.none::vR 219::vR 220::vR 221::vI 474::vI 92::(.str "/claim/cut.py" 475)::[])
def ho216:Obj:=fo "__init__" "Keeper.__init__" (inClass (top 29) 0) .none .none .none (.str "stow.keepers" 455) none (.ref 222) .none none
def ho219:Obj:=tu ((.str "self" 480)::[])
def ho221:Obj:=fq "cells" "Keeper.cells" (inClass (top 29) 1)
def ho222:Obj:=cp "cells" "Keeper.cells" 477 (vI 95::vI 1::vI 0::vI 0::vI 3::vR 224::(.bool true)::vI 181::vR 225::.none::vR 226::vR 227::vR 228::vI 481::vI 95::(.str "/claim/cut.py" 482)::[])
def ho223:Obj:=fo "cells" "Keeper.cells" (inClass (top 29) 1) .none .none .none (.str "stow.keepers" 455) none (.ref 229) .none none
def ho226:Obj:=tu ((.str "self" 487)::[])
def ho228:Obj:=fq "pieces" "Keeper.pieces" (inClass (top 29) 2)
def ho229:Obj:=cp "pieces" "Keeper.pieces" 484 (vI 98::vI 1::vI 0::vI 0::vI 3::vR 231::(.bool true)::vI 181::vR 232::.none::vR 233::vR 234::vR 235::vI 488::vI 98::(.str "/claim/cut.py" 489)::[])
def ho230:Obj:=fo "pieces" "Keeper.pieces" (inClass (top 29) 2) .none .none .none (.str "stow.keepers" 455) none (.ref 236) .none none
def ho233:Obj:=tu ((.str "self" 494)::(.str "cells" 495)::[])
def ho235:Obj:=fq "lay" "Keeper.lay" (inClass (top 29) 3)
def ho236:Obj:=cp "lay" "Keeper.lay" 491 (vI 101::vI 2::vI 0::vI 0::vI 3::vR 238::(.bool true)::vI 181::vR 239::.none::vR 240::vR 241::vR 242::vI 496::vI 101::(.str "/claim/cut.py" 497)::[])
def ho237:Obj:=fo "lay" "Keeper.lay" (inClass (top 29) 3) .none .none .none (.str "stow.keepers" 455) none (.ref 243) .none none
def ho240:Obj:=tu ((.str "self" 502)::[])
def ho242:Obj:=fq "clear" "Keeper.clear" (inClass (top 29) 4)
def ho243:Obj:=cp "clear" "Keeper.clear" 499 (vI 107::vI 1::vI 0::vI 0::vI 3::vR 245::(.bool true)::vI 181::vR 246::.none::vR 247::vR 248::vR 249::vI 503::vI 107::(.str "/claim/cut.py" 504)::[])
def ho244:Obj:=fo "clear" "Keeper.clear" (inClass (top 29) 4) .none .none .none (.str "stow.keepers" 455) none (.ref 250) .none none
def ho247:Obj:=tu ((.str "self" 509)::(.str "place" 510)::(.str "at" 511)::(.str "long" 512)::(.str "live" 513)::[])
def ho249:Obj:=fq "many" "Keeper.many" (inClass (top 29) 5)
def ho250:Obj:=cp "many" "Keeper.many" 506 (vI 110::vI 2::vI 0::vI 0::vI 3::vR 252::(.bool true)::vI 181::vR 253::.none::vR 254::vR 255::vR 256::vI 514::vI 110::(.str "/claim/cut.py" 515)::[])
def ho251:Obj:=fo "many" "Keeper.many" (inClass (top 29) 5) .none .none .none (.str "stow.keepers" 455) none (.ref 257) .none none
def ho254:Obj:=tu ((.str "self" 520)::(.str "place" 521)::(.str "k" 522)::[])
def ho256:Obj:=fq "get" "Keeper.get" (inClass (top 29) 6)
def ho257:Obj:=cp "get" "Keeper.get" 517 (vI 114::vI 3::vI 0::vI 0::vI 3::vR 259::(.bool true)::vI 181::vR 260::.none::vR 261::vR 262::vR 263::vI 523::vI 114::(.str "/claim/cut.py" 524)::[])
def ho258:Obj:=fo "get" "Keeper.get" (inClass (top 29) 6) .none .none .none (.str "stow.keepers" 455) none (.ref 264) .none none
def ho261:Obj:=tu ((.str "self" 529)::(.str "place" 530)::(.str "k" 531)::(.str "number" 532)::(.str "cell" 533)::[])
def ho263:Obj:=fq "put" "Keeper.put" (inClass (top 29) 7)
def ho264:Obj:=cp "put" "Keeper.put" 526 (vI 117::vI 4::vI 0::vI 0::vI 3::vR 266::(.bool true)::vI 181::vR 267::.none::vR 268::vR 269::vR 270::vI 534::vI 117::(.str "/claim/cut.py" 535)::[])
def ho265:Obj:=fo "put" "Keeper.put" (inClass (top 29) 7) .none .none .none (.str "stow.keepers" 455) none (.ref 271) .none none
def ho266:Obj:=tu ((.int 1 537)::[])
def ho269:Obj:=tu ((.str "self" 541)::(.str "count" 542)::(.str "bound" 543)::[])
def ho271:Obj:=fq "ask" "Keeper.ask" (inClass (top 29) 8)
def ho272:Obj:=cp "ask" "Keeper.ask" 538 (vI 121::vI 3::vI 0::vI 0::vI 3::vR 274::(.bool true)::vI 181::vR 275::.none::vR 276::vR 277::vR 278::vI 544::vI 121::(.str "/claim/cut.py" 545)::[])
def ho273:Obj:=fo "ask" "Keeper.ask" (inClass (top 29) 8) (.ref 273) .none .none (.str "stow.keepers" 455) none (.ref 279) .none none
def ho276:Obj:=tu ((.str "self" 550)::(.str "place" 551)::(.str "at" 552)::(.str "long" 553)::(.str "live" 554)::[])
def ho278:Obj:=fq "give" "Keeper.give" (inClass (top 29) 9)
def ho279:Obj:=cp "give" "Keeper.give" 547 (vI 125::vI 2::vI 0::vI 0::vI 3::vR 281::(.bool true)::vI 181::vR 282::.none::vR 283::vR 284::vR 285::vI 555::vI 125::(.str "/claim/cut.py" 556)::[])
def ho280:Obj:=fo "give" "Keeper.give" (inClass (top 29) 9) .none .none .none (.str "stow.keepers" 455) none (.ref 286) .none none
def ho281:Obj:=tu ((.int 1 558)::[])
def ho284:Obj:=tu ((.str "self" 562)::(.str "place" 563)::(.str "count" 564)::(.str "bound" 565)::(.str "had" 566)::[])
def ho286:Obj:=fq "grow" "Keeper.grow" (inClass (top 29) 10)
def ho287:Obj:=cp "grow" "Keeper.grow" 559 (vI 129::vI 4::vI 0::vI 0::vI 3::vR 289::(.bool true)::vI 181::vR 290::.none::vR 291::vR 292::vR 293::vI 567::vI 129::(.str "/claim/cut.py" 568)::[])
def ho288:Obj:=fo "grow" "Keeper.grow" (inClass (top 29) 10) (.ref 288) .none .none (.str "stow.keepers" 455) none (.ref 294) .none none
def ho291:Obj:=tu ((.str "self" 573)::(.str "cells" 574)::[])
def ho293:Obj:=fq "room_begin" "Keeper.room_begin" (inClass (top 29) 11)
def ho294:Obj:=cp "room_begin" "Keeper.room_begin" 570 (vI 136::vI 2::vI 0::vI 0::vI 3::vR 296::(.bool true)::vI 181::vR 297::.none::vR 298::vR 299::vR 300::vI 575::vI 136::(.str "/claim/cut.py" 576)::[])
def ho295:Obj:=fo "room_begin" "Keeper.room_begin" (inClass (top 29) 11) .none .none .none (.str "stow.keepers" 455) none (.ref 301) .none none
def ho298:Obj:=tu ((.str "self" 581)::(.str "place" 582)::(.str "k" 583)::(.str "many" 584)::[])
def ho300:Obj:=fq "room_cell_of" "Keeper.room_cell_of" (inClass (top 29) 12)
def ho301:Obj:=cp "room_cell_of" "Keeper.room_cell_of" 578 (vI 139::vI 3::vI 0::vI 0::vI 3::vR 303::(.bool true)::vI 181::vR 304::.none::vR 305::vR 306::vR 307::vI 585::vI 139::(.str "/claim/cut.py" 586)::[])
def ho302:Obj:=fo "room_cell_of" "Keeper.room_cell_of" (inClass (top 29) 12) .none .none .none (.str "stow.keepers" 455) none (.ref 308) .none none
def ho305:Obj:=tu ((.str "self" 591)::(.str "place" 592)::(.str "count" 593)::(.str "bound" 594)::(.str "goal" 595)::[])
def ho307:Obj:=fq "room_moved" "Keeper.room_moved" (inClass (top 29) 13)
def ho308:Obj:=cp "room_moved" "Keeper.room_moved" 588 (vI 145::vI 4::vI 0::vI 0::vI 3::vR 310::(.bool true)::vI 181::vR 311::.none::vR 312::vR 313::vR 314::vI 596::vI 145::(.str "/claim/cut.py" 597)::[])
def ho309:Obj:=fo "room_moved" "Keeper.room_moved" (inClass (top 29) 13) .none .none .none (.str "stow.keepers" 455) none (.ref 315) .none none
def ho310:Obj:=tu ((.str "room_cells" 599)::[])
def ho311 (P:Params):Obj:=⟨(.type "dict"),none,.dict (en P "__module__" 464 (.str "stow.keepers" 455)::en P "__firstlineno__" 468 (.int 90 467)::en P "__init__" 476 (.ref 223)::en P "cells" 483 (.ref 230)::en P "pieces" 490 (.ref 237)::en P "lay" 498 (.ref 244)::en P "clear" 505 (.ref 251)::en P "many" 516 (.ref 258)::en P "get" 525 (.ref 265)::en P "put" 536 (.ref 272)::en P "ask" 546 (.ref 280)::en P "give" 557 (.ref 287)::en P "grow" 569 (.ref 295)::en P "room_begin" 577 (.ref 302)::en P "room_cell_of" 587 (.ref 309)::en P "room_moved" 598 (.ref 316)::en P "__static_attributes__" 600 (.ref 317)::en P "__dict__" 602 (.ref 320)::en P "__weakref__" 604 (.ref 321)::en P "__doc__" 605 .none::[]).toArray 4,#[]⟩
def ho312:Obj:=⟨(.type "type"),none,.cls ⟨"Keeper",[(.type "object")],[(.ref 319),(.type "object")],318,"Keeper",true,[],[(.ref 388)],false,none,false⟩,(none::none::(some (.str "Keeper" 457))::(some (.str "Keeper" 465))::(some (.builtin "object.__new__"))::(some (.bool true))::[]).toArray⟩
def ho313:Obj:=⟨(.type "getset_descriptor"),none,.fields ((.str "__dict__" 601)::(.ref 319)::(.builtin "function.__dict__")::(.builtin "function.__dict__#set")::[]).toArray,#[]⟩
def ho314:Obj:=⟨(.type "getset_descriptor"),none,.fields ((.str "__weakref__" 603)::(.ref 319)::(.builtin "ExceptionGroup.__weakref__")::.none::[]).toArray,#[]⟩
def ho315:Obj:=⟨(.type "super"),none,.fields ((.ref 319)::(.ref 319)::(.ref 319)::[]).toArray,#[]⟩
def ho316:Obj:=⟨(.type "builtin_function_or_method"),none,.fields ((.builtin "object.__init_subclass__")::(.ref 319)::[]).toArray,#[]⟩
def ho319:Obj:=tu ((.str "number" 613)::[])
def ho321:Obj:=fq "is_power" "is_power" (top 31)
def ho322:Obj:=cp "is_power" "is_power" 610 (vI 151::vI 1::vI 0::vI 0::vI 3::vR 324::(.bool true)::vI 181::vR 325::.none::vR 326::vR 327::vR 328::vI 614::vI 151::(.str "/claim/cut.py" 615)::[])
def ho323:Obj:=fo "is_power" "is_power" (top 31) .none .none .none (.str "stow.halves" 608) none (.ref 329) .none none
def ho326:Obj:=tu ((.str "need" 620)::[])
def ho328:Obj:=fq "block_for" "block_for" (top 32)
def ho329:Obj:=cp "block_for" "block_for" 617 (vI 153::vI 1::vI 0::vI 0::vI 3::vR 331::(.bool true)::vI 181::vR 332::.none::vR 333::vR 334::vR 335::vI 621::vI 153::(.str "/claim/cut.py" 622)::[])
def ho330:Obj:=fo "block_for" "block_for" (top 32) .none .none .none (.str "stow.halves" 608) none (.ref 336) .none none
def ho333:Obj:=fq "least_free" "least_free" (top 33)
def ho334:Obj:=cp "least_free" "least_free" 624 (vI 155::vI 2::vI 0::vI 0::vI 3::vR 338::(.bool true)::vI 181::vR 339::.none::.none::.none::vR 340::vI 627::vI 155::(.str "/claim/cut.py" 628)::[])
def ho335:Obj:=fo "least_free" "least_free" (top 33) .none .none .none (.str "stow.halves" 608) none (.ref 341) .none none
def ho338:Obj:=tu ((.str "cells" 633)::(.str "at" 634)::(.str "long" 635)::(.str "block" 636)::(.str "row" 637)::[])
def ho340:Obj:=fq "cut_down" "cut_down" (top 34)
def ho341:Obj:=cp "cut_down" "cut_down" 630 (vI 161::vI 4::vI 0::vI 0::vI 3::vR 343::(.bool true)::vI 181::vR 344::.none::vR 345::vR 346::vR 347::vI 638::vI 161::(.str "/claim/cut.py" 639)::[])
def ho342:Obj:=fo "cut_down" "cut_down" (top 34) .none .none .none (.str "stow.halves" 608) none (.ref 348) .none none
def ho345:Obj:=tu ((.str "pieces" 644)::(.str "at" 645)::(.str "long" 646)::[])
def ho347:Obj:=fq "grown_together" "grown_together" (top 35)
def ho348:Obj:=cp "grown_together" "grown_together" 641 (vI 167::vI 3::vI 0::vI 0::vI 3::vR 350::(.bool true)::vI 181::vR 351::.none::vR 352::vR 353::vR 354::vI 647::vI 167::(.str "/claim/cut.py" 648)::[])
def ho349:Obj:=fo "grown_together" "grown_together" (top 35) .none .none .none (.str "stow.halves" 608) none (.ref 355) .none none
def ho350:Obj:=tu (vR 319::[])
def ho352 (P:Params):Obj:=⟨(.type "dict"),none,.dict (en P "__module__" 657 (.str "stow.halves" 608)::en P "__qualname__" 659 (.str "Halves" 658)::en P "__firstlineno__" 661 (.int 172 660)::en P "__init__" 669 (.ref 370)::en P "ask" 682 (.ref 378)::en P "give" 692 (.ref 385)::en P "__static_attributes__" 693 (.ref 386)::[]).toArray 7,#[]⟩
def ho354:Obj:=fl (vI 174::vI 4::vR 369::vI 179::vI 4::vR 377::vI 186::vI 4::vR 384::[])
def ho355:Obj:=cp "Halves" "Halves" 652 (vI 172::vI 0::vI 0::vI 0::vI 0::vR 360::(.bool false)::vI 181::vR 361::.none::.none::.none::.none::vI 655::vI 172::(.str "/claim/cut.py" 656)::[])
def ho356:Obj:=⟨(.type "frame"),none,.plain,((some (.ref 362))::(some (.ref 3))::(some (.ref 359))::none::(some (.str "stow.halves" 608))::none::(some (.ref 0))::[]).toArray⟩
def ho359:Obj:=tu ((.str "self" 665)::(.str "size" 666)::[])
def ho361:Obj:=fq "__init__" "Halves.__init__" (inClass (top 36) 0)
def ho362:Obj:=cp "__init__" "Halves.__init__" 662 (vI 174::vI 2::vI 0::vI 0::vI 3::vR 364::(.bool true)::vI 181::vR 365::.none::vR 366::vR 367::vR 368::vI 667::vI 174::(.str "/claim/cut.py" 668)::[])
def ho363:Obj:=fo "__init__" "Halves.__init__" (inClass (top 36) 0) .none .none .none (.str "stow.halves" 608) none (.ref 369) .none none
def ho364:Obj:=tu ((.int 1 670)::[])
def ho367:Obj:=tu ((.str "self" 674)::(.str "count" 675)::(.str "bound" 676)::(.str "block" 677)::(.str "at" 678)::(.str "long" 679)::[])
def ho369:Obj:=fq "ask" "Halves.ask" (inClass (top 36) 1)
def ho370:Obj:=cp "ask" "Halves.ask" 671 (vI 179::vI 3::vI 0::vI 0::vI 3::vR 372::(.bool true)::vI 181::vR 373::.none::vR 374::vR 375::vR 376::vI 680::vI 179::(.str "/claim/cut.py" 681)::[])
def ho371:Obj:=fo "ask" "Halves.ask" (inClass (top 36) 1) (.ref 371) .none .none (.str "stow.halves" 608) none (.ref 377) .none none
def ho374:Obj:=tu ((.str "self" 686)::(.str "place" 687)::(.str "at" 688)::(.str "long" 689)::[])
def ho376:Obj:=fq "give" "Halves.give" (inClass (top 36) 2)
def ho377:Obj:=cp "give" "Halves.give" 683 (vI 186::vI 2::vI 0::vI 0::vI 3::vR 379::(.bool true)::vI 181::vR 380::.none::vR 381::vR 382::vR 383::vI 690::vI 186::(.str "/claim/cut.py" 691)::[])
def ho378:Obj:=fo "give" "Halves.give" (inClass (top 36) 2) .none .none .none (.str "stow.halves" 608) none (.ref 384) .none none
def ho380 (P:Params):Obj:=⟨(.type "dict"),none,.dict (en P "__module__" 657 (.str "stow.halves" 608)::en P "__firstlineno__" 661 (.int 172 660)::en P "__init__" 669 (.ref 370)::en P "ask" 682 (.ref 378)::en P "give" 692 (.ref 385)::en P "__static_attributes__" 693 (.ref 386)::en P "__doc__" 694 .none::[]).toArray 2,#[]⟩
def ho381:Obj:=⟨(.type "type"),none,.cls ⟨"Halves",[(.ref 319)],[(.ref 388),(.ref 319),(.type "object")],387,"Halves",true,[],[],false,none,false⟩,((some (.ref 357))::none::(some (.str "Halves" 650))::(some (.str "Halves" 658))::(some (.builtin "object.__new__"))::(some (.bool true))::[]).toArray⟩
def ho382:Obj:=⟨(.type "super"),none,.fields ((.ref 388)::(.ref 388)::(.ref 388)::[]).toArray,#[]⟩
def ho383:Obj:=⟨(.type "builtin_function_or_method"),none,.fields ((.builtin "object.__init_subclass__")::(.ref 388)::[]).toArray,#[]⟩
def ho386:Obj:=tu ((.str "_law_script" 702)::(.str "_law_k" 703)::[])
def ho388:Obj:=fq "_law_cell_at" "_law_cell_at" (top 38)
def ho389:Obj:=cp "_law_cell_at" "_law_cell_at" 699 (vI 190::vI 2::vI 0::vI 0::vI 3::vR 391::(.bool true)::vI 181::vR 392::.none::vR 393::vR 394::vR 395::vI 704::vI 190::(.str "/claim/cut.py" 705)::[])
def ho390:Obj:=fo "_law_cell_at" "_law_cell_at" (top 38) .none .none .none (.str "law_stow_k32_whole_halves" 697) none (.ref 396) .none none
def ho393:Obj:=tu ((.str "_law_found" 710)::[])
def ho395:Obj:=fq "_law_whole" "_law_whole" (top 39)
def ho396:Obj:=cp "_law_whole" "_law_whole" 707 (vI 194::vI 1::vI 0::vI 0::vI 3::vR 398::(.bool true)::vI 181::vR 399::.none::vR 400::vR 401::vR 402::vI 711::vI 194::(.str "/claim/cut.py" 712)::[])
def ho397:Obj:=fo "_law_whole" "_law_whole" (top 39) .none .none .none (.str "law_stow_k32_whole_halves" 697) none (.ref 403) .none none
def ho400:Obj:=tu ((.str "_law_cells" 717)::(.str "_law_told_here" 718)::(.str "_law_at" 719)::(.str "_law_long" 720)::(.str "_law_live" 721)::[])
def ho402:Obj:=fq "_law_walk" "_law_walk" (top 40)
def ho403:Obj:=cp "_law_walk" "_law_walk" 714 (vI 196::vI 1::vI 0::vI 0::vI 3::vR 405::(.bool true)::vI 181::vR 406::.none::vR 407::vR 408::vR 409::vI 722::vI 196::(.str "/claim/cut.py" 723)::[])
def ho404:Obj:=fo "_law_walk" "_law_walk" (top 40) .none .none .none (.str "law_stow_k32_whole_halves" 697) none (.ref 410) .none none
def ho407:Obj:=tu ((.str "_law_cell" 728)::[])
def ho409:Obj:=fq "_law_number" "_law_number" (top 41)
def ho410:Obj:=cp "_law_number" "_law_number" 725 (vI 213::vI 1::vI 0::vI 0::vI 3::vR 412::(.bool true)::vI 181::vR 413::.none::vR 414::vR 415::vR 416::vI 729::vI 213::(.str "/claim/cut.py" 730)::[])
def ho411:Obj:=fo "_law_number" "_law_number" (top 41) .none .none .none (.str "law_stow_k32_whole_halves" 697) none (.ref 417) .none none
def ho412 (P:Params):Obj:=⟨(.type "dict"),none,.dict (en P "__name__" 165 (.str "law_stow_k32_whole_halves" 697)::en P "__doc__" 166 .none::en P "__package__" 167 .none::en P "__loader__" 168 (.builtin "__main__.__loader__#opaque")::en P "__spec__" 169 .none::en P "__annotations__" 170 (.ref 6)::en P "__builtins__" 171 (.ref 4)::en P "__file__" 173 (.str "/claim/cut.py" 172)::en P "__cached__" 174 .none::en P "StowError" 206 (.ref 24)::en P "NoSize" 222 (.ref 37)::en P "Broken" 247 (.ref 56)::en P "NoPiece" 263 (.ref 68)::en P "NoCell" 279 (.ref 80)::en P "NoAsk" 295 (.ref 92)::en P "NoBound" 311 (.ref 104)::en P "NoRoom" 327 (.ref 116)::en P "MARKS" 331 (.int 2 330)::en P "check_ask" 339 (.ref 125)::en P "check_plain_ask" 347 (.ref 132)::en P "mark_of" 357 (.ref 139)::en P "long_of" 364 (.ref 146)::en P "live_of" 371 (.ref 153)::en P "LEAST_LIVE" 375 (.int 3 374)::en P "can_begin" 384 (.ref 160)::en P "bad_of_piece" 393 (.ref 167)::en P "looked" 404 (.ref 174)::en P "fresh_room" 412 (.ref 181)::en P "laid" 425 (.ref 188)::en P "piece_at" 434 (.ref 195)::en P "live_at" 443 (.ref 202)::en P "carried" 454 (.ref 209)::en P "Keeper" 607 (.ref 319)::en P "is_power" 616 (.ref 330)::en P "block_for" 623 (.ref 337)::en P "least_free" 629 (.ref 342)::en P "cut_down" 640 (.ref 349)::en P "grown_together" 649 (.ref 356)::en P "Halves" 696 (.ref 388)::en P "_law_cell_at" 706 (.ref 397)::en P "_law_whole" 713 (.ref 404)::en P "_law_walk" 724 (.ref 411)::en P "_law_number" 731 (.ref 418)::en P "_law_good" 737 (.ref 423)::en P "_law_told" 752 (.ref 430)::en P "_law_asked" 765 (.ref 437)::en P "_law_grown" 780 (.ref 444)::en P "_law_step" 786 (.ref 449)::en P "law" 798 (.ref 456)::[]).toArray 49,#[]⟩
def ho413:Obj:=fl (vI 2::vI 0::vR 20::vI 4::vI 0::vR 33::vI 6::vI 0::vR 45::vI 10::vI 0::vR 64::vI 12::vI 0::vR 76::vI 14::vI 0::vR 88::vI 16::vI 0::vR 100::vI 18::vI 0::vR 112::vI 22::vI 0::vR 124::vI 25::vI 0::vR 131::vI 30::vI 0::vR 138::vI 34::vI 0::vR 145::vI 36::vI 0::vR 152::vI 40::vI 0::vR 159::vI 45::vI 0::vR 166::vI 52::vI 0::vR 173::vI 63::vI 0::vR 180::vI 71::vI 0::vR 187::vI 76::vI 0::vR 194::vI 81::vI 0::vR 201::vI 86::vI 0::vR 208::vI 90::vI 0::vR 215::vI 151::vI 0::vR 329::vI 153::vI 0::vR 336::vI 155::vI 0::vR 341::vI 161::vI 0::vR 348::vI 167::vI 0::vR 355::vI 172::vI 0::vR 362::vI 190::vI 0::vR 396::vI 194::vI 0::vR 403::vI 196::vI 0::vR 410::vI 213::vI 0::vR 417::vI 217::vI 0::vR 422::vI 235::vI 0::vR 429::vI 249::vI 0::vR 436::vI 263::vI 0::vR 443::vI 281::vI 0::vR 448::vI 301::vI 0::vR 455::[])
def ho416:Obj:=fq "_law_good" "_law_good" (top 42)
def ho417:Obj:=cp "_law_good" "_law_good" 732 (vI 217::vI 2::vI 0::vI 0::vI 3::vR 419::(.bool true)::vI 181::vR 420::.none::.none::.none::vR 421::vI 735::vI 217::(.str "/claim/cut.py" 736)::[])
def ho418:Obj:=fo "_law_good" "_law_good" (top 42) .none .none .none (.str "law_stow_k32_whole_halves" 697) none (.ref 422) .none none
def ho421:Obj:=tu ((.str "_law_keeper" 741)::(.str "_law_held" 742)::(.str "_law_cell" 743)::(.str "_law_places" 744)::(.str "_law_place" 745)::(.str "_law_known" 746)::(.str "_law_many" 747)::(.str "_law_k" 748)::(.str "_law_found" 749)::[])
def ho423:Obj:=fq "_law_told" "_law_told" (top 43)
def ho424:Obj:=cp "_law_told" "_law_told" 738 (vI 235::vI 3::vI 0::vI 0::vI 3::vR 424::(.bool true)::vI 181::vR 425::.none::vR 426::vR 427::vR 428::vI 750::vI 235::(.str "/claim/cut.py" 751)::[])
def ho425:Obj:=fo "_law_told" "_law_told" (top 43) .none .none .none (.str "law_stow_k32_whole_halves" 697) none (.ref 429) .none none
def ho428:Obj:=tu ((.str "_law_keeper" 756)::(.str "_law_held" 757)::(.str "_law_count" 758)::(.str "_law_most" 759)::(.str "_law_before" 760)::(.str "_law_word" 761)::(.str "_law_place" 762)::[])
def ho430:Obj:=fq "_law_asked" "_law_asked" (top 44)
def ho431:Obj:=cp "_law_asked" "_law_asked" 753 (vI 249::vI 4::vI 0::vI 0::vI 3::vR 431::(.bool true)::vI 181::vR 432::.none::vR 433::vR 434::vR 435::vI 763::vI 249::(.str "/claim/cut.py" 764)::[])
def ho432:Obj:=fo "_law_asked" "_law_asked" (top 44) .none .none .none (.str "law_stow_k32_whole_halves" 697) none (.ref 436) .none none
def ho435:Obj:=tu ((.str "_law_keeper" 769)::(.str "_law_held" 770)::(.str "_law_place" 771)::(.str "_law_count" 772)::(.str "_law_least" 773)::(.str "_law_most" 774)::(.str "_law_before" 775)::(.str "_law_word" 776)::(.str "_law_goal" 777)::[])
def ho437:Obj:=fq "_law_grown" "_law_grown" (top 45)
def ho438:Obj:=cp "_law_grown" "_law_grown" 766 (vI 263::vI 6::vI 0::vI 0::vI 3::vR 438::(.bool true)::vI 181::vR 439::.none::vR 440::vR 441::vR 442::vI 778::vI 263::(.str "/claim/cut.py" 779)::[])
def ho439:Obj:=fo "_law_grown" "_law_grown" (top 45) .none .none .none (.str "law_stow_k32_whole_halves" 697) none (.ref 443) .none none
def ho442:Obj:=fq "_law_step" "_law_step" (top 46)
def ho443:Obj:=cp "_law_step" "_law_step" 781 (vI 281::vI 5::vI 0::vI 0::vI 3::vR 445::(.bool true)::vI 181::vR 446::.none::.none::.none::vR 447::vI 784::vI 281::(.str "/claim/cut.py" 785)::[])
def ho444:Obj:=fo "_law_step" "_law_step" (top 46) .none .none .none (.str "law_stow_k32_whole_halves" 697) none (.ref 448) .none none
def ho447:Obj:=tu ((.str "_law_script" 790)::(.str "_law_size" 791)::(.str "_law_keeper" 792)::(.str "_law_held" 793)::(.str "_law_pieces" 794)::(.str "_law_cell" 795)::[])
def ho449:Obj:=fq "law" "law" (top 47)
def ho450:Obj:=cp "law" "law" 787 (vI 301::vI 1::vI 0::vI 0::vI 3::vR 450::(.bool true)::vI 181::vR 451::.none::vR 452::vR 453::vR 454::vI 796::vI 301::(.str "/claim/cut.py" 797)::[])
def ho451:Obj:=fo "law" "law" (top 47) .none .none .none (.str "law_stow_k32_whole_halves" 697) none (.ref 455) .none none
noncomputable def heapA:Params→Heap:=fun P=>⟨Array.mk (PySem.W.boot_o_0 P::PySem.W.boot_o_1 P::PySem.W.boot_o_2 P::PySem.W.boot_o_3 P::PySem.W.boot_o_4 P::PySem.W.boot_o_5 P::PySem.W.boot_o_6 P::PySem.W.boot_o_7 P::PySem.W.boot_o_8 P::PySem.W.boot_o_9 P::PySem.W.boot_o_10 P::ho0::ho1::ho2::ho3::[]),⟨[],[],[],0,[],[],false,#[],[],0,false,false,false,0,[2000,10,10],false,0,true,[],[],0,false⟩⟩
def body0:List Stmt:=PySem.W.behindTheImports PySem.Challenge.pw_stow_k32_whole_halves
def sts0:List Stmt:=(body0.drop 0).take 9
def sts1:List Stmt:=(body0.drop 9).take 33
def sts2:List Stmt:=(body0.drop 42).take 6
def all0:List Stmt:=sts0++(sts1++(sts2++[]))
def env0:Env:={ scope:=(PySem.Challenge.pw_stow_k32_whole_halves).main.scope,locals:=mainNs,globals:=mainNs,cells:=[],code:=(.ref 13),frame:=some 14 }
def code0:Code:=.body all0 env0
theorem pre0 (w:World)(os:OsState):PySem.W.topGo treeTable PySem.Challenge.pw_stow_k32_whole_halves w 11 (some (.ref 6)) 12 ⟨PySem.W.boot_heap w.params,Array.mk [],PySem.W.boot_drawn,PySem.W.boot_toks,os⟩ (PySem.W.topStub PySem.Challenge.pw_stow_k32_whole_halves)=some (⟨heapA w.params,#[],⟨0,0,0,0⟩,187,os⟩,⟨denote treeTable (.body all0 env0),code0,⟨0,0,0,0⟩,[PySem.W.topFrame ⟨0,0,0,0⟩]⟩):=by kernel_rfl
noncomputable def treeB:Params→PySem.W.BT:=fun P=>(.node (PySem.W.boot_o_0 P) (.node (PySem.W.boot_o_1 P) (.node (PySem.W.boot_o_3 P) (.node (PySem.W.boot_o_7 P) .nil .nil) (.node ho0 .nil .nil)) (.node (PySem.W.boot_o_5 P) (.node (PySem.W.boot_o_9 P) .nil .nil) (.node ho2 .nil .nil))) (.node (PySem.W.boot_o_2 P) (.node (PySem.W.boot_o_4 P) (.node (PySem.W.boot_o_8 P) .nil .nil) (.node ho1 .nil .nil)) (.node (PySem.W.boot_o_6 P) (.node (PySem.W.boot_o_10 P) .nil .nil) (.node ho3 .nil .nil))))
theorem blk0 (w:World)(os:OsState):PySem.W.segRun treeTable PySem.Challenge.pw_stow_k32_whole_halves w 11 (some (.ref 6)) 1 1 ⟨heapA w.params,#[],⟨0,0,0,0⟩,187,os⟩ (PySem.W.blockOf all0 env0 code0 ⟨0,0,0,0⟩ [PySem.W.topFrame ⟨0,0,0,0⟩])=some (.next,(PySem.W.SharedT.mk (treeB w.params) 15 ⟨[],[],[],0,[],[],false,#[],[],0,false,false,false,0,[2000,10,10],false,0,true,[],[],0,false⟩ #[] ⟨0,0,0,0⟩ 187 os).abs,code0,⟨0,0,0,0⟩):=by kernel_rfl
noncomputable def treeG9:Params→PySem.W.BT:=fun P=>(.node (PySem.W.boot_o_0 P) (.node (PySem.W.boot_o_1 P) (.node (ho4 P) (.node (PySem.W.boot_o_7 P) (.node ho6 (.node ho0 (.node ho1 .nil .nil) (.node ho19 .nil .nil)) (.node ho0 (.node (ho70 P) .nil .nil) (.node ho1 .nil .nil))) (.node (ho14 P) (.node ho30 (.node ho19 .nil .nil) (.node (ho94 P) .nil .nil)) (.node (ho46 P) (.node ho1 .nil .nil) .nil))) (.node ho0 (.node ho1 (.node ho0 (.node (ho58 P) .nil .nil) (.node ho1 .nil .nil)) (.node ho42 (.node ho19 .nil .nil) (.node (ho106 P) .nil .nil))) (.node ho18 (.node ho0 (.node ho1 .nil .nil) (.node ho19 .nil .nil)) (.node ho19 (.node (ho82 P) .nil .nil) .nil)))) (.node (PySem.W.boot_o_5 P) (.node (PySem.W.boot_o_9 P) (.node (ho8 P) (.node ho24 (.node ho56 .nil .nil) (.node (ho88 P) .nil .nil)) (.node ho40 (.node ho72 .nil .nil) (.node ho104 .nil .nil))) (.node ho16 (.node ho7 (.node (ho64 P) .nil .nil) (.node ho96 .nil .nil)) (.node ho48 (.node ho80 .nil .nil) .nil))) (.node ho2 (.node ho12 (.node ho28 (.node ho60 .nil .nil) (.node ho92 .nil .nil)) (.node ho44 (.node (ho76 P) .nil .nil) (.node ho108 .nil .nil))) (.node ho7 (.node ho36 (.node ho68 .nil .nil) (.node (ho100 P) .nil .nil)) (.node (ho52 P) (.node ho84 .nil .nil) .nil))))) (.node (PySem.W.boot_o_2 P) (.node (PySem.W.boot_o_4 P) (.node (PySem.W.boot_o_8 P) (.node ho7 (.node ho1 (.node ho55 .nil .nil) (.node ho7 .nil .nil)) (.node ho1 (.node ho71 .nil .nil) (.node ho103 .nil .nil))) (.node ho15 (.node ho19 (.node ho7 .nil .nil) (.node ho95 .nil .nil)) (.node ho47 (.node ho79 .nil .nil) .nil))) (.node ho5 (.node ho11 (.node (ho27 P) (.node ho59 .nil .nil) (.node ho91 .nil .nil)) (.node ho43 (.node ho7 .nil .nil) (.node ho107 .nil .nil))) (.node ho19 (.node ho35 (.node ho67 .nil .nil) (.node ho7 .nil .nil)) (.node ho7 (.node ho83 .nil .nil) .nil)))) (.node (PySem.W.boot_o_6 P) (.node (PySem.W.boot_o_10 P) (.node ho0 (.node ho25 (.node ho0 .nil .nil) (.node ho0 .nil .nil)) (.node ho0 (.node ho73 .nil .nil) (.node ho0 .nil .nil))) (.node ho17 (.node (ho33 P) (.node ho0 .nil .nil) (.node ho97 .nil .nil)) (.node ho49 (.node ho0 .nil .nil) .nil))) (.node ho3 (.node ho0 (.node ho29 (.node ho61 .nil .nil) (.node ho0 .nil .nil)) (.node ho45 (.node ho0 .nil .nil) (.node ho109 .nil .nil))) (.node (ho21 P) (.node ho37 (.node ho0 .nil .nil) (.node ho0 .nil .nil)) (.node ho0 (.node ho85 .nil .nil) .nil))))))
theorem grp0 (w:World)(os:OsState):PySem.W.segRunT treeTable PySem.Challenge.pw_stow_k32_whole_halves w 11 (some (.ref 6)) 1 1719 (PySem.W.SharedT.mk (treeB w.params) 15 ⟨[],[],[],0,[],[],false,#[],[],0,false,false,false,0,[2000,10,10],false,0,true,[],[],0,false⟩ #[] ⟨0,0,0,0⟩ 187 os) (PySem.W.piecesOf sts0 env0 code0 ⟨0,0,0,0⟩ [PySem.W.topFrame ⟨0,0,0,0⟩])=some (.next,(PySem.W.SharedT.mk (treeG9 w.params) 119 ⟨[],[],[],0,[],[],false,#[],[],0,false,false,false,0,[2000,10,10],false,0,true,[],[],0,false⟩ #[] ⟨0,0,0,0⟩ 328 os),code0,⟨18,0,19,8⟩):=by kernel_rfl
noncomputable def treeG42:Params→PySem.W.BT:=fun P=>(.node (PySem.W.boot_o_0 P) (.node (PySem.W.boot_o_1 P) (.node (ho110 P) (.node (PySem.W.boot_o_7 P) (.node ho6 (.node ho0 (.node ho1 (.node ho1 (.node ho0 .nil .nil) (.node ho376 .nil .nil)) (.node ho184 (.node ho312 .nil .nil) .nil)) (.node ho19 (.node ho152 (.node ho280 .nil .nil) (.node ho0 .nil .nil)) (.node ho216 (.node ho1 .nil .nil) .nil))) (.node ho0 (.node (ho70 P) (.node ho0 (.node ho264 .nil .nil) (.node ho1 .nil .nil)) (.node ho200 (.node ho328 .nil .nil) .nil)) (.node ho1 (.node ho0 (.node ho0 .nil .nil) .nil) (.node ho1 (.node ho0 .nil .nil) .nil)))) (.node (ho14 P) (.node ho30 (.node ho19 (.node ho128 (.node ho256 .nil .nil) (.node ho0 .nil .nil)) (.node ho0 (.node ho0 .nil .nil) .nil)) (.node (ho94 P) (.node ho160 (.node ho288 .nil .nil) .nil) (.node ho0 (.node (ho352 P) .nil .nil) .nil))) (.node (ho46 P) (.node ho1 (.node ho144 (.node ho272 .nil .nil) (.node ho400 .nil .nil)) (.node ho208 (.node ho0 .nil .nil) .nil)) (.node ho0 (.node ho1 (.node ho1 .nil .nil) .nil) (.node ho240 (.node ho0 .nil .nil) .nil))))) (.node ho0 (.node ho1 (.node ho0 (.node (ho58 P) (.node ho124 (.node ho0 .nil .nil) (.node (ho380 P) .nil .nil)) (.node ho188 (.node ho316 .nil .nil) .nil)) (.node ho1 (.node ho156 (.node ho284 .nil .nil) .nil) (.node ho0 (.node ho348 .nil .nil) .nil))) (.node ho42 (.node ho19 (.node ho0 (.node ho1 .nil .nil) (.node ho396 .nil .nil)) (.node ho7 (.node ho1 .nil .nil) .nil)) (.node (ho106 P) (.node ho172 (.node ho300 .nil .nil) .nil) (.node ho236 (.node ho364 .nil .nil) .nil)))) (.node ho18 (.node ho0 (.node ho1 (.node ho132 (.node ho1 .nil .nil) (.node ho388 .nil .nil)) (.node ho0 (.node ho0 .nil .nil) .nil)) (.node ho19 (.node ho0 (.node ho0 .nil .nil) .nil) (.node ho228 (.node ho356 .nil .nil) .nil))) (.node ho19 (.node (ho82 P) (.node ho1 (.node ho276 .nil .nil) (.node ho404 .nil .nil)) (.node ho212 (.node ho340 .nil .nil) .nil)) (.node ho116 (.node ho180 (.node ho308 .nil .nil) .nil) (.node ho244 (.node ho0 .nil .nil) .nil)))))) (.node (PySem.W.boot_o_5 P) (.node (PySem.W.boot_o_9 P) (.node (ho8 P) (.node ho24 (.node ho56 (.node ho0 (.node ho250 .nil .nil) (.node ho378 .nil .nil)) (.node ho186 (.node ho314 .nil .nil) .nil)) (.node (ho88 P) (.node ho0 (.node ho0 .nil .nil) (.node ho410 .nil .nil)) (.node ho1 (.node ho0 .nil .nil) .nil))) (.node ho40 (.node ho72 (.node ho138 (.node ho266 .nil .nil) (.node ho0 .nil .nil)) (.node ho202 (.node ho330 .nil .nil) .nil)) (.node ho104 (.node ho170 (.node ho298 .nil .nil) .nil) (.node ho0 (.node ho362 .nil .nil) .nil)))) (.node ho16 (.node ho7 (.node (ho64 P) (.node ho130 (.node ho258 .nil .nil) (.node ho386 .nil .nil)) (.node ho194 (.node ho322 .nil .nil) .nil)) (.node ho96 (.node ho1 (.node ho1 .nil .nil) .nil) (.node ho226 (.node ho354 .nil .nil) .nil))) (.node ho48 (.node ho80 (.node ho146 (.node ho0 .nil .nil) (.node ho402 .nil .nil)) (.node ho0 (.node ho338 .nil .nil) .nil)) (.node ho114 (.node ho0 (.node ho0 .nil .nil) .nil) (.node ho242 (.node ho370 .nil .nil) .nil))))) (.node ho2 (.node ho12 (.node ho28 (.node ho60 (.node ho0 (.node ho254 .nil .nil) (.node ho382 .nil .nil)) (.node ho1 (.node ho1 .nil .nil) .nil)) (.node ho92 (.node ho158 (.node ho286 .nil .nil) .nil) (.node ho222 (.node ho350 .nil .nil) .nil))) (.node ho44 (.node (ho76 P) (.node ho142 (.node ho0 .nil .nil) (.node ho0 .nil .nil)) (.node ho0 (.node ho334 .nil .nil) .nil)) (.node ho108 (.node ho174 (.node ho302 .nil .nil) .nil) (.node ho0 (.node ho1 .nil .nil) .nil)))) (.node ho7 (.node ho36 (.node ho68 (.node ho1 (.node ho0 .nil .nil) (.node ho390 .nil .nil)) (.node ho198 (.node ho326 .nil .nil) .nil)) (.node (ho100 P) (.node ho166 (.node ho294 .nil .nil) .nil) (.node ho230 (.node ho1 .nil .nil) .nil))) (.node (ho52 P) (.node ho84 (.node ho0 (.node ho278 .nil .nil) (.node ho1 .nil .nil)) (.node ho214 (.node ho342 .nil .nil) .nil)) (.node ho118 (.node ho0 (.node ho310 .nil .nil) .nil) (.node ho1 (.node ho374 .nil .nil) .nil))))))) (.node (PySem.W.boot_o_2 P) (.node (PySem.W.boot_o_4 P) (.node (PySem.W.boot_o_8 P) (.node ho7 (.node ho1 (.node ho55 (.node ho121 (.node ho249 .nil .nil) (.node ho377 .nil .nil)) (.node ho0 (.node ho313 .nil .nil) .nil)) (.node ho7 (.node ho153 (.node ho281 .nil .nil) (.node ho409 .nil .nil)) (.node ho0 (.node ho345 .nil .nil) .nil))) (.node ho1 (.node ho71 (.node ho137 (.node ho265 .nil .nil) (.node ho393 .nil .nil)) (.node ho201 (.node ho329 .nil .nil) .nil)) (.node ho103 (.node ho1 (.node ho1 .nil .nil) .nil) (.node ho233 (.node ho361 .nil .nil) .nil)))) (.node ho15 (.node ho19 (.node ho7 (.node ho0 (.node ho257 .nil .nil) (.node ho1 .nil .nil)) (.node ho193 (.node ho321 .nil .nil) .nil)) (.node ho95 (.node ho0 (.node ho0 .nil .nil) .nil) (.node ho1 (.node ho0 .nil .nil) .nil))) (.node ho47 (.node ho79 (.node ho145 (.node ho273 .nil .nil) (.node ho0 .nil .nil)) (.node ho209 (.node ho1 .nil .nil) .nil)) (.node ho1 (.node ho177 (.node ho305 .nil .nil) .nil) (.node ho0 (.node ho369 .nil .nil) .nil))))) (.node ho111 (.node ho11 (.node (ho27 P) (.node ho59 (.node ho125 (.node ho1 .nil .nil) (.node ho381 .nil .nil)) (.node ho0 (.node ho0 .nil .nil) .nil)) (.node ho91 (.node ho0 (.node ho0 .nil .nil) .nil) (.node ho221 (.node ho349 .nil .nil) .nil))) (.node ho43 (.node ho7 (.node ho1 (.node ho269 .nil .nil) (.node ho397 .nil .nil)) (.node (ho205 P) (.node ho333 .nil .nil) .nil)) (.node ho107 (.node ho173 (.node ho301 .nil .nil) .nil) (.node ho237 (.node ho0 .nil .nil) .nil)))) (.node ho19 (.node ho35 (.node ho67 (.node ho0 (.node ho261 .nil .nil) (.node ho389 .nil .nil)) (.node ho1 (.node ho1 .nil .nil) .nil)) (.node ho7 (.node ho165 (.node ho293 .nil .nil) .nil) (.node ho229 (.node ho0 .nil .nil) .nil))) (.node ho7 (.node ho83 (.node ho149 (.node ho0 .nil .nil) (.node ho0 .nil .nil)) (.node ho0 (.node ho341 .nil .nil) .nil)) (.node ho117 (.node ho181 (.node ho309 .nil .nil) .nil) (.node ho0 (.node ho1 .nil .nil) .nil)))))) (.node (PySem.W.boot_o_6 P) (.node (PySem.W.boot_o_10 P) (.node ho0 (.node ho25 (.node ho0 (.node ho123 (.node ho251 .nil .nil) (.node ho0 .nil .nil)) (.node ho187 (.node ho315 .nil .nil) .nil)) (.node ho0 (.node ho1 (.node ho1 .nil .nil) (.node ho411 .nil .nil)) (.node ho219 (.node ho347 .nil .nil) .nil))) (.node ho0 (.node ho73 (.node ho139 (.node ho0 .nil .nil) (.node ho395 .nil .nil)) (.node ho0 (.node ho0 .nil .nil) .nil)) (.node ho0 (.node ho0 (.node ho0 .nil .nil) .nil) (.node ho235 (.node ho363 .nil .nil) .nil)))) (.node ho17 (.node (ho33 P) (.node ho0 (.node ho131 (.node ho0 .nil .nil) (.node ho0 .nil .nil)) (.node ho195 (.node ho323 .nil .nil) .nil)) (.node ho97 (.node ho163 (.node ho291 .nil .nil) .nil) (.node ho0 (.node ho355 .nil .nil) .nil))) (.node ho49 (.node ho0 (.node ho0 (.node ho1 .nil .nil) (.node ho403 .nil .nil)) (.node ho1 (.node ho0 .nil .nil) .nil)) (.node ho0 (.node ho179 (.node ho307 .nil .nil) .nil) (.node ho243 (.node ho371 .nil .nil) .nil))))) (.node ho3 (.node ho0 (.node ho29 (.node ho61 (.node ho1 (.node ho0 .nil .nil) (.node ho383 .nil .nil)) (.node ho191 (.node ho319 .nil .nil) .nil)) (.node ho0 (.node ho159 (.node ho287 .nil .nil) .nil) (.node ho223 (.node ho7 .nil .nil) .nil))) (.node ho45 (.node ho0 (.node ho0 (.node ho271 .nil .nil) (.node ho1 .nil .nil)) (.node ho207 (.node ho335 .nil .nil) .nil)) (.node ho109 (.node ho0 (.node ho0 .nil .nil) .nil) (.node ho1 (.node ho367 .nil .nil) .nil)))) (.node (ho21 P) (.node ho37 (.node ho0 (.node ho135 (.node ho263 .nil .nil) (.node ho0 .nil .nil)) (.node ho0 (.node ho0 .nil .nil) .nil)) (.node ho0 (.node ho167 (.node ho295 .nil .nil) .nil) (.node ho0 (.node ho359 .nil .nil) .nil))) (.node ho0 (.node ho85 (.node ho151 (.node ho279 .nil .nil) (.node ho407 .nil .nil)) (.node ho215 (.node ho0 .nil .nil) .nil)) (.node ho0 (.node ho1 (.node (ho311 P) .nil .nil) .nil) (.node ho247 (.node ho0 .nil .nil) .nil))))))))
theorem grp1 (w:World)(os:OsState):PySem.W.segRunT treeTable PySem.Challenge.pw_stow_k32_whole_halves w 11 (some (.ref 6)) 1 1726 (PySem.W.SharedT.mk (treeG9 w.params) 119 ⟨[],[],[],0,[],[],false,#[],[],0,false,false,false,0,[2000,10,10],false,0,true,[],[],0,false⟩ #[] ⟨0,0,0,0⟩ 328 os) (PySem.W.piecesOf sts1 env0 code0 ⟨18,0,19,8⟩ [PySem.W.topFrame ⟨0,0,0,0⟩])=some (.next,(PySem.W.SharedT.mk (treeG42 w.params) 419 ⟨[],[],[],0,[],[],false,#[],[],0,false,false,false,0,[2000,10,10],false,0,true,[],[],0,false⟩ #[] ⟨0,0,0,0⟩ 732 os),code0,⟨213,0,216,50⟩):=by kernel_rfl
noncomputable def treeG48:Params→PySem.W.BT:=fun P=>(.node (PySem.W.boot_o_0 P) (.node (PySem.W.boot_o_1 P) (.node (ho412 P) (.node (PySem.W.boot_o_7 P) (.node ho6 (.node ho0 (.node ho1 (.node ho1 (.node ho0 .nil .nil) (.node ho376 .nil .nil)) (.node ho184 (.node ho312 .nil .nil) (.node ho442 .nil .nil))) (.node ho19 (.node ho152 (.node ho280 .nil .nil) (.node ho0 .nil .nil)) (.node ho216 (.node ho1 .nil .nil) .nil))) (.node ho0 (.node (ho70 P) (.node ho0 (.node ho264 .nil .nil) (.node ho1 .nil .nil)) (.node ho200 (.node ho328 .nil .nil) .nil)) (.node ho1 (.node ho0 (.node ho0 .nil .nil) (.node ho0 .nil .nil)) (.node ho1 (.node ho0 .nil .nil) .nil)))) (.node (ho14 P) (.node ho30 (.node ho19 (.node ho128 (.node ho256 .nil .nil) (.node ho0 .nil .nil)) (.node ho0 (.node ho0 .nil .nil) (.node ho450 .nil .nil))) (.node (ho94 P) (.node ho160 (.node ho288 .nil .nil) (.node ho418 .nil .nil)) (.node ho0 (.node (ho352 P) .nil .nil) .nil))) (.node (ho46 P) (.node ho1 (.node ho144 (.node ho272 .nil .nil) (.node ho400 .nil .nil)) (.node ho208 (.node ho0 .nil .nil) .nil)) (.node ho0 (.node ho1 (.node ho1 .nil .nil) (.node ho1 .nil .nil)) (.node ho240 (.node ho0 .nil .nil) .nil))))) (.node ho0 (.node ho1 (.node ho0 (.node (ho58 P) (.node ho124 (.node ho0 .nil .nil) (.node (ho380 P) .nil .nil)) (.node ho188 (.node ho316 .nil .nil) (.node ho1 .nil .nil))) (.node ho1 (.node ho156 (.node ho284 .nil .nil) (.node ho0 .nil .nil)) (.node ho0 (.node ho348 .nil .nil) .nil))) (.node ho42 (.node ho19 (.node ho0 (.node ho1 .nil .nil) (.node ho396 .nil .nil)) (.node ho7 (.node ho1 .nil .nil) .nil)) (.node (ho106 P) (.node ho172 (.node ho300 .nil .nil) (.node ho430 .nil .nil)) (.node ho236 (.node ho364 .nil .nil) .nil)))) (.node ho18 (.node ho0 (.node ho1 (.node ho132 (.node ho1 .nil .nil) (.node ho388 .nil .nil)) (.node ho0 (.node ho0 .nil .nil) .nil)) (.node ho19 (.node ho0 (.node ho0 .nil .nil) (.node ho0 .nil .nil)) (.node ho228 (.node ho356 .nil .nil) .nil))) (.node ho19 (.node (ho82 P) (.node ho1 (.node ho276 .nil .nil) (.node ho404 .nil .nil)) (.node ho212 (.node ho340 .nil .nil) .nil)) (.node ho116 (.node ho180 (.node ho308 .nil .nil) (.node ho438 .nil .nil)) (.node ho244 (.node ho0 .nil .nil) .nil)))))) (.node (PySem.W.boot_o_5 P) (.node (PySem.W.boot_o_9 P) (.node (ho8 P) (.node ho24 (.node ho56 (.node ho0 (.node ho250 .nil .nil) (.node ho378 .nil .nil)) (.node ho186 (.node ho314 .nil .nil) (.node ho444 .nil .nil))) (.node (ho88 P) (.node ho0 (.node ho0 .nil .nil) (.node ho410 .nil .nil)) (.node ho1 (.node ho0 .nil .nil) .nil))) (.node ho40 (.node ho72 (.node ho138 (.node ho266 .nil .nil) (.node ho0 .nil .nil)) (.node ho202 (.node ho330 .nil .nil) .nil)) (.node ho104 (.node ho170 (.node ho298 .nil .nil) (.node ho428 .nil .nil)) (.node ho0 (.node ho362 .nil .nil) .nil)))) (.node ho16 (.node ho7 (.node (ho64 P) (.node ho130 (.node ho258 .nil .nil) (.node ho386 .nil .nil)) (.node ho194 (.node ho322 .nil .nil) .nil)) (.node ho96 (.node ho1 (.node ho1 .nil .nil) (.node ho1 .nil .nil)) (.node ho226 (.node ho354 .nil .nil) .nil))) (.node ho48 (.node ho80 (.node ho146 (.node ho0 .nil .nil) (.node ho402 .nil .nil)) (.node ho0 (.node ho338 .nil .nil) .nil)) (.node ho114 (.node ho0 (.node ho0 .nil .nil) (.node ho0 .nil .nil)) (.node ho242 (.node ho370 .nil .nil) .nil))))) (.node ho2 (.node ho12 (.node ho28 (.node ho60 (.node ho0 (.node ho254 .nil .nil) (.node ho382 .nil .nil)) (.node ho1 (.node ho1 .nil .nil) (.node ho0 .nil .nil))) (.node ho92 (.node ho158 (.node ho286 .nil .nil) (.node ho416 .nil .nil)) (.node ho222 (.node ho350 .nil .nil) .nil))) (.node ho44 (.node (ho76 P) (.node ho142 (.node ho0 .nil .nil) (.node ho0 .nil .nil)) (.node ho0 (.node ho334 .nil .nil) .nil)) (.node ho108 (.node ho174 (.node ho302 .nil .nil) (.node ho432 .nil .nil)) (.node ho0 (.node ho1 .nil .nil) .nil)))) (.node ho7 (.node ho36 (.node ho68 (.node ho1 (.node ho0 .nil .nil) (.node ho390 .nil .nil)) (.node ho198 (.node ho326 .nil .nil) .nil)) (.node (ho100 P) (.node ho166 (.node ho294 .nil .nil) (.node ho424 .nil .nil)) (.node ho230 (.node ho1 .nil .nil) .nil))) (.node (ho52 P) (.node ho84 (.node ho0 (.node ho278 .nil .nil) (.node ho1 .nil .nil)) (.node ho214 (.node ho342 .nil .nil) .nil)) (.node ho118 (.node ho0 (.node ho310 .nil .nil) (.node ho0 .nil .nil)) (.node ho1 (.node ho374 .nil .nil) .nil))))))) (.node (PySem.W.boot_o_2 P) (.node (PySem.W.boot_o_4 P) (.node (PySem.W.boot_o_8 P) (.node ho7 (.node ho1 (.node ho55 (.node ho121 (.node ho249 .nil .nil) (.node ho377 .nil .nil)) (.node ho0 (.node ho313 .nil .nil) (.node ho443 .nil .nil))) (.node ho7 (.node ho153 (.node ho281 .nil .nil) (.node ho409 .nil .nil)) (.node ho0 (.node ho345 .nil .nil) .nil))) (.node ho1 (.node ho71 (.node ho137 (.node ho265 .nil .nil) (.node ho393 .nil .nil)) (.node ho201 (.node ho329 .nil .nil) .nil)) (.node ho103 (.node ho1 (.node ho1 .nil .nil) (.node ho1 .nil .nil)) (.node ho233 (.node ho361 .nil .nil) .nil)))) (.node ho15 (.node ho19 (.node ho7 (.node ho0 (.node ho257 .nil .nil) (.node ho1 .nil .nil)) (.node ho193 (.node ho321 .nil .nil) (.node ho451 .nil .nil))) (.node ho95 (.node ho0 (.node ho0 .nil .nil) (.node ho0 .nil .nil)) (.node ho1 (.node ho0 .nil .nil) .nil))) (.node ho47 (.node ho79 (.node ho145 (.node ho273 .nil .nil) (.node ho0 .nil .nil)) (.node ho209 (.node ho1 .nil .nil) .nil)) (.node ho1 (.node ho177 (.node ho305 .nil .nil) (.node ho435 .nil .nil)) (.node ho0 (.node ho369 .nil .nil) .nil))))) (.node ho413 (.node ho11 (.node (ho27 P) (.node ho59 (.node ho125 (.node ho1 .nil .nil) (.node ho381 .nil .nil)) (.node ho0 (.node ho0 .nil .nil) (.node ho447 .nil .nil))) (.node ho91 (.node ho0 (.node ho0 .nil .nil) (.node ho1 .nil .nil)) (.node ho221 (.node ho349 .nil .nil) .nil))) (.node ho43 (.node ho7 (.node ho1 (.node ho269 .nil .nil) (.node ho397 .nil .nil)) (.node (ho205 P) (.node ho333 .nil .nil) .nil)) (.node ho107 (.node ho173 (.node ho301 .nil .nil) (.node ho431 .nil .nil)) (.node ho237 (.node ho0 .nil .nil) .nil)))) (.node ho19 (.node ho35 (.node ho67 (.node ho0 (.node ho261 .nil .nil) (.node ho389 .nil .nil)) (.node ho1 (.node ho1 .nil .nil) .nil)) (.node ho7 (.node ho165 (.node ho293 .nil .nil) (.node ho423 .nil .nil)) (.node ho229 (.node ho0 .nil .nil) .nil))) (.node ho7 (.node ho83 (.node ho149 (.node ho0 .nil .nil) (.node ho0 .nil .nil)) (.node ho0 (.node ho341 .nil .nil) .nil)) (.node ho117 (.node ho181 (.node ho309 .nil .nil) (.node ho439 .nil .nil)) (.node ho0 (.node ho1 .nil .nil) .nil)))))) (.node (PySem.W.boot_o_6 P) (.node (PySem.W.boot_o_10 P) (.node ho0 (.node ho25 (.node ho0 (.node ho123 (.node ho251 .nil .nil) (.node ho0 .nil .nil)) (.node ho187 (.node ho315 .nil .nil) (.node ho0 .nil .nil))) (.node ho0 (.node ho1 (.node ho1 .nil .nil) (.node ho411 .nil .nil)) (.node ho219 (.node ho347 .nil .nil) .nil))) (.node ho0 (.node ho73 (.node ho139 (.node ho0 .nil .nil) (.node ho395 .nil .nil)) (.node ho0 (.node ho0 .nil .nil) .nil)) (.node ho0 (.node ho0 (.node ho0 .nil .nil) (.node ho0 .nil .nil)) (.node ho235 (.node ho363 .nil .nil) .nil)))) (.node ho17 (.node (ho33 P) (.node ho0 (.node ho131 (.node ho0 .nil .nil) (.node ho0 .nil .nil)) (.node ho195 (.node ho323 .nil .nil) .nil)) (.node ho97 (.node ho163 (.node ho291 .nil .nil) (.node ho421 .nil .nil)) (.node ho0 (.node ho355 .nil .nil) .nil))) (.node ho49 (.node ho0 (.node ho0 (.node ho1 .nil .nil) (.node ho403 .nil .nil)) (.node ho1 (.node ho0 .nil .nil) .nil)) (.node ho0 (.node ho179 (.node ho307 .nil .nil) (.node ho437 .nil .nil)) (.node ho243 (.node ho371 .nil .nil) .nil))))) (.node ho3 (.node ho0 (.node ho29 (.node ho61 (.node ho1 (.node ho0 .nil .nil) (.node ho383 .nil .nil)) (.node ho191 (.node ho319 .nil .nil) (.node ho449 .nil .nil))) (.node ho0 (.node ho159 (.node ho287 .nil .nil) (.node ho417 .nil .nil)) (.node ho223 (.node ho7 .nil .nil) .nil))) (.node ho45 (.node ho0 (.node ho0 (.node ho271 .nil .nil) (.node ho1 .nil .nil)) (.node ho207 (.node ho335 .nil .nil) .nil)) (.node ho109 (.node ho0 (.node ho0 .nil .nil) (.node ho0 .nil .nil)) (.node ho1 (.node ho367 .nil .nil) .nil)))) (.node (ho21 P) (.node ho37 (.node ho0 (.node ho135 (.node ho263 .nil .nil) (.node ho0 .nil .nil)) (.node ho0 (.node ho0 .nil .nil) .nil)) (.node ho0 (.node ho167 (.node ho295 .nil .nil) (.node ho425 .nil .nil)) (.node ho0 (.node ho359 .nil .nil) .nil))) (.node ho0 (.node ho85 (.node ho151 (.node ho279 .nil .nil) (.node ho407 .nil .nil)) (.node ho215 (.node ho0 .nil .nil) .nil)) (.node ho0 (.node ho1 (.node (ho311 P) .nil .nil) (.node ho1 .nil .nil)) (.node ho247 (.node ho0 .nil .nil) .nil))))))))
theorem grp2 (w:World)(os:OsState):PySem.W.segRunT treeTable PySem.Challenge.pw_stow_k32_whole_halves w 11 (some (.ref 6)) 1 196 (PySem.W.SharedT.mk (treeG42 w.params) 419 ⟨[],[],[],0,[],[],false,#[],[],0,false,false,false,0,[2000,10,10],false,0,true,[],[],0,false⟩ #[] ⟨0,0,0,0⟩ 732 os) (PySem.W.piecesOf sts2 env0 code0 ⟨213,0,216,50⟩ [PySem.W.topFrame ⟨0,0,0,0⟩])=some (.next,(PySem.W.SharedT.mk (treeG48 w.params) 457 ⟨[],[],[],0,[],[],false,#[],[],0,false,false,false,0,[2000,10,10],false,0,true,[],[],0,false⟩ #[] ⟨0,0,0,0⟩ 799 os),code0,⟨301,0,316,15⟩):=by kernel_rfl
theorem fin0 (w:World)(os:OsState):PySem.W.topRun treeTable PySem.Challenge.pw_stow_k32_whole_halves w 11 (some (.ref 6)) 2 ⟨PySem.W.absHeap (treeG48 w.params) 457 ⟨[],[],[],0,[],[],false,#[],[],0,false,false,false,0,[2000,10,10],false,0,true,[],[],0,false⟩,#[],⟨0,0,0,0⟩,799,os⟩ (PySem.W.restOf [] env0 code0 ⟨301,0,316,15⟩ [PySem.W.topFrame ⟨0,0,0,0⟩])=some ⟨PySem.W.absHeap (treeG48 w.params) 457 ⟨[],[],[],0,[],[],false,#[],[],0,false,false,false,0,[2000,10,10],false,0,true,[],[],0,false⟩,#[],⟨0,0,0,0⟩,799,os⟩:=by kernel_rfl
theorem run0 (w:World)(os:OsState):PySem.W.topRun treeTable PySem.Challenge.pw_stow_k32_whole_halves w 11 (some (.ref 6)) (12+(1+(1719+(1726+(196+2))))) ⟨PySem.W.boot_heap w.params,Array.mk [],PySem.W.boot_drawn,PySem.W.boot_toks,os⟩ (PySem.W.topStub PySem.Challenge.pw_stow_k32_whole_halves)=some ⟨PySem.W.absHeap (treeG48 w.params) 457 ⟨[],[],[],0,[],[],false,#[],[],0,false,false,false,0,[2000,10,10],false,0,true,[],[],0,false⟩,#[],⟨0,0,0,0⟩,799,os⟩:=PySem.W.go_top (pre0 w os) (PySem.W.piece_block (blk0 w os) (PySem.W.piece_app (PySem.W.segRun_of (grp0 w os)) (PySem.W.piece_app (PySem.W.segRun_of (grp1 w os)) (PySem.W.piece_app (PySem.W.segRun_of (grp2 w os)) (fin0 w os)))))
theorem open0 (w:World):(PySem.W.fencedOpening treeTable PySem.Challenge.pw_stow_k32_whole_halves w 4356).map (fun s=>(s.heap,s.gens,s.drawn,s.toks))=some (PySem.W.boot_heap w.params,Array.mk [],PySem.W.boot_drawn,PySem.W.boot_toks):=PySem.W.boot_open (by kernel_rfl) rfl (fun s=>by kernel_rfl) w
noncomputable def heap0:Params→PySem.W.Frag:=fun P =>
 (nat_lit 2,PySem.W.boot_o_2 P) ::
 (nat_lit 3,ho412 P) ::
 (nat_lit 17,ho8 P) ::
 (nat_lit 23,ho14 P) ::
 (nat_lit 24,ho15) ::
 (nat_lit 30,ho21 P) ::
 (nat_lit 36,ho27 P) ::
 (nat_lit 37,ho28) ::
 (nat_lit 42,ho33 P) ::
 (nat_lit 52,ho43) ::
 (nat_lit 53,ho44) ::
 (nat_lit 55,ho46 P) ::
 (nat_lit 56,ho47) ::
 (nat_lit 61,ho52 P) ::
 (nat_lit 67,ho58 P) ::
 (nat_lit 68,ho59) ::
 (nat_lit 73,ho64 P) ::
 (nat_lit 79,ho70 P) ::
 (nat_lit 80,ho71) ::
 (nat_lit 85,ho76 P) ::
 (nat_lit 91,ho82 P) ::
 (nat_lit 92,ho83) ::
 (nat_lit 97,ho88 P) ::
 (nat_lit 103,ho94 P) ::
 (nat_lit 104,ho95) ::
 (nat_lit 109,ho100 P) ::
 (nat_lit 115,ho106 P) ::
 (nat_lit 116,ho107) ::
 (nat_lit 124,ho117) ::
 (nat_lit 125,ho118) ::
 (nat_lit 131,ho124) ::
 (nat_lit 132,ho125) ::
 (nat_lit 138,ho131) ::
 (nat_lit 139,ho132) ::
 (nat_lit 145,ho138) ::
 (nat_lit 146,ho139) ::
 (nat_lit 152,ho145) ::
 (nat_lit 153,ho146) ::
 (nat_lit 159,ho152) ::
 (nat_lit 160,ho153) ::
 (nat_lit 166,ho159) ::
 (nat_lit 167,ho160) ::
 (nat_lit 173,ho166) ::
 (nat_lit 174,ho167) ::
 (nat_lit 180,ho173) ::
 (nat_lit 181,ho174) ::
 (nat_lit 187,ho180) ::
 (nat_lit 188,ho181) ::
 (nat_lit 194,ho187) ::
 (nat_lit 195,ho188) ::
 (nat_lit 201,ho194) ::
 (nat_lit 202,ho195) ::
 (nat_lit 208,ho201) ::
 (nat_lit 209,ho202) ::
 (nat_lit 212,ho205 P) ::
 (nat_lit 222,ho215) ::
 (nat_lit 223,ho216) ::
 (nat_lit 229,ho222) ::
 (nat_lit 230,ho223) ::
 (nat_lit 236,ho229) ::
 (nat_lit 237,ho230) ::
 (nat_lit 243,ho236) ::
 (nat_lit 244,ho237) ::
 (nat_lit 250,ho243) ::
 (nat_lit 251,ho244) ::
 (nat_lit 257,ho250) ::
 (nat_lit 258,ho251) ::
 (nat_lit 264,ho257) ::
 (nat_lit 265,ho258) ::
 (nat_lit 271,ho264) ::
 (nat_lit 272,ho265) ::
 (nat_lit 288,ho281) ::
 (nat_lit 294,ho287) ::
 (nat_lit 295,ho288) ::
 (nat_lit 301,ho294) ::
 (nat_lit 302,ho295) ::
 (nat_lit 308,ho301) ::
 (nat_lit 309,ho302) ::
 (nat_lit 315,ho308) ::
 (nat_lit 316,ho309) ::
 (nat_lit 318,ho311 P) ::
 (nat_lit 319,ho312) ::
 (nat_lit 329,ho322) ::
 (nat_lit 330,ho323) ::
 (nat_lit 336,ho329) ::
 (nat_lit 337,ho330) ::
 (nat_lit 341,ho334) ::
 (nat_lit 342,ho335) ::
 (nat_lit 348,ho341) ::
 (nat_lit 349,ho342) ::
 (nat_lit 355,ho348) ::
 (nat_lit 356,ho349) ::
 (nat_lit 359,ho352 P) ::
 (nat_lit 369,ho362) ::
 (nat_lit 370,ho363) ::
 (nat_lit 371,ho364) ::
 (nat_lit 377,ho370) ::
 (nat_lit 378,ho371) ::
 (nat_lit 384,ho377) ::
 (nat_lit 385,ho378) ::
 (nat_lit 387,ho380 P) ::
 (nat_lit 388,ho381) ::
 (nat_lit 396,ho389) ::
 (nat_lit 397,ho390) ::
 (nat_lit 403,ho396) ::
 (nat_lit 404,ho397) ::
 (nat_lit 410,ho403) ::
 (nat_lit 411,ho404) ::
 (nat_lit 417,ho410) ::
 (nat_lit 418,ho411) ::
 (nat_lit 422,ho417) ::
 (nat_lit 423,ho418) ::
 (nat_lit 429,ho424) ::
 (nat_lit 430,ho425) ::
 (nat_lit 436,ho431) ::
 (nat_lit 437,ho432) ::
 (nat_lit 443,ho438) ::
 (nat_lit 444,ho439) ::
 (nat_lit 448,ho443) ::
 (nat_lit 449,ho444) ::
 (nat_lit 455,ho450) ::
 (nat_lit 456,ho451) ::
 []
def at0:List Addr:=2::3::17::23::24::30::36::37::42::52::53::55::56::61::67::68::73::79::80::85::91::92::97::103::104::109::115::116::124::125::131::132::138::139::145::146::152::153::159::160::166::167::173::174::180::181::187::188::194::195::201::202::208::209::212::222::223::229::230::236::237::243::244::250::251::257::258::264::265::271::272::288::294::295::301::302::308::309::315::316::318::319::329::330::336::337::341::342::348::349::355::356::359::369::370::371::377::378::384::385::387::388::396::397::403::404::410::411::417::418::422::423::429::430::436::437::443::444::448::449::455::456::[]
def loose0:List Str:="StowError"::"NoSize"::"Broken"::"NoPiece"::"NoCell"::"NoAsk"::"NoBound"::"NoRoom"::"MARKS"::"check_ask"::"check_plain_ask"::"mark_of"::"long_of"::"live_of"::"LEAST_LIVE"::"can_begin"::"bad_of_piece"::"looked"::"fresh_room"::"laid"::"piece_at"::"live_at"::"carried"::"Keeper"::"is_power"::"block_for"::"least_free"::"cut_down"::"grown_together"::"Halves"::"_law_cell_at"::"_law_whole"::"_law_walk"::"_law_number"::"_law_good"::"_law_told"::"_law_asked"::"_law_grown"::"_law_step"::[]
theorem at0_eq (P:Params):at0=(heap0 P).map (·.1):=by kernel_rfl
abbrev seen0 (s:Shared):Bool:=PySem.W.recOk (PySem.W.RowW.records (PySem.W.OpenRow.toRowW (PySem.Challenge.rw_stow_k32_whole_halves).row)) s
theorem left0:PySem.W.LeftO PySem.Challenge.pw_stow_k32_whole_halves (PySem.W.view PySem.Challenge.pw_stow_k32_whole_halves [47]) loose0 seen0 (fun s=>at0.map s.heap.get?) (fun w=>(heap0 w.params).map fun p=>some p.2) 4356 :=
 PySem.W.LeftO.of_pieces (H₁:=fun P=>PySem.W.absHeap (treeG48 P) 457 ⟨[],[],[],0,[],[],false,#[],[],0,false,false,false,0,[2000,10,10],false,0,true,[],[],0,false⟩) (gs₁:=#[]) (d₁:=⟨0,0,0,0⟩) (k₁:=799) (m₀:=11) (ann:=(some (.ref 6))) open0 (fun w=>by kernel_rfl) run0 rfl (fun w=>funext fun os=>by kernel_rfl)
end Stow
set_option Elab.async false
set_option linter.all false
set_option maxRecDepth 100000
namespace L2
open PySem PySem.Spec PyProof.Rows
abbrev Key:=Sum Int Str
def keyIs:Key→Value→Bool
 | .inl k,v=>Value.isInt k v
 | .inr x,v=>Value.isStrOf x v
def keyH (w:World):Key→Int
 | .inl k=>hashInt k
 | .inr x=>hashStr w x
theorem keyIs_shape:∀{k:Key} {v:Value},keyIs k v=true→(∃i t,k=Sum.inl i∧v=Value.int i t)∨(∃x t,k=Sum.inr x∧v=Value.str x t)
 | .inl i,v,h=>by
   obtain⟨t,e⟩:=Value.isInt_shape (k:=i) (v:=v) h
   exact .inl ⟨i,t,rfl,e⟩
 | .inr x,v,h=>by
   obtain⟨t,e⟩:=Value.isStrOf_shape (x:=x) (v:=v) h
   exact .inr ⟨x,t,rfl,e⟩
theorem keyIs_int (i:Int)(t:Tok):keyIs (.inl i) (.int i t)=true:=by simp [keyIs,Value.isInt]
theorem keyIs_str (x:Str)(t:Tok):keyIs (.inr x) (.str x t)=true:=by simp [keyIs,Value.isStrOf]
theorem key_ll (a b:Int):decide ((Sum.inl a:Key)=Sum.inl b)=(a==b):=by
 by_cases e:a=b
 · subst e;simp
 · have h:¬(Sum.inl a:Key)=Sum.inl b:=fun q=>e (Sum.inl.inj q)
   rw[decide_eq_false h]
   exact(beq_eq_false_iff_ne.mpr e).symm
theorem key_rr (a b:Str):decide ((Sum.inr a:Key)=Sum.inr b)=decide (a=b):=by
 by_cases e:a=b
 · subst e;simp
 · have h:¬(Sum.inr a:Key)=Sum.inr b:=fun q=>e (Sum.inr.inj q)
   rw[decide_eq_false h,decide_eq_false e]
theorem key_lr (a:Int)(b:Str):decide ((Sum.inl a:Key)=Sum.inr b)=false:=decide_eq_false (fun q=>nomatch q)
theorem key_rl (a:Str)(b:Int):decide ((Sum.inr a:Key)=Sum.inl b)=false:=decide_eq_false (fun q=>nomatch q)
def mixKind (prog:Program)(w:World):PySem.KeyKind prog w Key where
 is:=keyIs
 hash:=keyH w
 inj:=fun v a b ha hb=>by
   rcases keyIs_shape ha with ⟨i,t,rfl,rfl⟩ | ⟨x,t,rfl,rfl⟩
   · rcases keyIs_shape hb with ⟨j,u,rfl,e⟩ | ⟨y,u,rfl,e⟩
     · injection e with e1 _;rw[e1]
     · exact nomatch e
   · rcases keyIs_shape hb with ⟨j,u,rfl,e⟩ | ⟨y,u,rfl,e⟩
     · exact nomatch e
     · injection e with e1 _;rw[e1]
 byValue:=fun k v h=>by
   rcases keyIs_shape h with ⟨i,t,rfl,rfl⟩ | ⟨x,t,rfl,rfl⟩ <;> rfl
 pyHash:=fun hv h=>by
   rcases keyIs_shape hv with ⟨i,t,rfl,rfl⟩ | ⟨x,t,rfl,rfl⟩
   · exact wpAny_pyHash_int h
   · exact wpAny_pyHash_str h
 eqBool:=fun hu hv h=>by
   rcases keyIs_shape hu with ⟨i,t,rfl,rfl⟩ | ⟨x,t,rfl,rfl⟩
   · rcases keyIs_shape hv with ⟨j,u,rfl,rfl⟩ | ⟨y,u,rfl,rfl⟩
     · rw[key_ll] at h;exact wpAny_eqBool_int h
     · rw[key_lr] at h;exact SeqAt.EqAt.int_str i t y u _ _ _ _ h
   · rcases keyIs_shape hv with ⟨j,u,rfl,rfl⟩ | ⟨y,u,rfl,rfl⟩
     · rw[key_rl] at h;exact SeqAt.EqAt.str_int x t j u _ _ _ _ h
     · rw[key_rr] at h;exact wpAny_eqBool_str h
 «strs»:=fun k x t v h=>by
   rcases keyIs_shape h with ⟨i,u,rfl,e⟩ | ⟨y,u,rfl,e⟩
   · exact nomatch e
   · injection e with e1 _
     subst e1
     cases v <;> rfl
theorem mixKind_int (prog:Program)(w:World)(i:Int)(t:Tok):(mixKind prog w).is (.inl i) (.int i t)=true:=keyIs_int i t
theorem mixKind_str (prog:Program)(w:World)(x:Str)(t:Tok):(mixKind prog w).is (.inr x) (.str x t)=true:=keyIs_str x t
end L2
namespace L2
open PySem PySem.Spec PyProof.Rows
inductive V where
 | non | bl (b:Bool) | int (i:Int) | str (x:Str) | byt (b:Array UInt8) | flt (b:UInt64) | ref (a:Addr) | ty (n:String)
 deriving DecidableEq
def RelV:V→Value→Prop
 | .non,u=>u=Value.none
 | .bl b,u=>u=Value.bool b
 | .int i,u=>∃t,u=Value.int i t
 | .str x,u=>∃t,u=Value.str x t
 | .byt b,u=>∃t,u=Value.bytes b t
 | .flt b,u=>∃t,u=Value.float b t
 | .ref a,u=>u=Value.ref a
 | .ty n,u=>u=Value.type n
abbrev Vals:List V→List Value→Prop:=Paired RelV
theorem Vals.length {xs:List V}{us:List Value}(r:Vals xs us):xs.length=us.length:=Paired.length r
theorem Vals.get:∀{xs:List V} {us:List Value} {i:Nat} {x:V},Vals xs us→xs[i]?=some x→∃u,us[i]?=some u∧RelV x u
 | _,_,_,_,.nil,e=>by simp at e
 | _,_,0,_,.cons r _,e=>by simp at e;subst e;exact⟨_,rfl,r⟩
 | _,_,i+1,x,.cons _ t,e=>by
   obtain⟨u,h1,h2⟩:=Vals.get (i:=i) (x:=x) t (by simpa using e)
   exact⟨u,by simpa using h1,h2⟩
theorem Vals.set {x:V}{u:Value}(r:RelV x u):∀{xs:List V} {us:List Value} (i:Nat),Vals xs us→Vals (xs.set i x) (us.set i u)
 | _,_,_,.nil=>.nil
 | _,_,0,.cons _ t=>.cons r t
 | _,_,i+1,.cons q t=>.cons q (Vals.set r i t)
theorem Vals.append:∀{xs ys:List V} {us ws:List Value},Vals xs us→Vals ys ws→Vals (xs++ys) (us++ws)
 | _,_,_,_,.nil,s=>s
 | _,_,_,_,.cons r t,s=>.cons r (Vals.append t s)
theorem Vals.take:∀{xs:List V} {us:List Value} (n:Nat),Vals xs us→Vals (xs.take n) (us.take n)
 | _,_,0,_=>.nil
 | _,_,_+1,.nil=>.nil
 | _,_,n+1,.cons r t=>.cons r (Vals.take n t)
theorem Vals.drop:∀{xs:List V} {us:List Value} (n:Nat),Vals xs us→Vals (xs.drop n) (us.drop n)
 | _,_,0,r=>r
 | _,_,_+1,.nil=>.nil
 | _,_,n+1,.cons _ t=>Vals.drop n t
theorem Vals.none_of:∀{xs:List V} {us:List Value} {i:Nat},Vals xs us→xs[i]?=none→us[i]?=none:=fun {xs us i} r e=>by
 have h1:=r.length
 have h2:xs.length≤i:=List.getElem?_eq_none_iff.mp e
 exact List.getElem?_eq_none_iff.mpr (by omega)
def RelO:Option V→Option Value→Prop
 | some v,some u=>RelV v u
 | none,none=>True
 | _,_=>False
def KV {κ:Type}:List (κ×V)→List (κ×Value)→Prop:=Paired fun (p:κ×V) (q:κ×Value)=>p.1=q.1∧RelV p.2 q.2
def kV:Key→V
 | .inl i=>.int i
 | .inr x=>.str x
inductive HO where
 /-- a list -/
 | lst (xs:List V)
 /-- a tuple (never changes) -/
 | tup (xs:List V)
 /-- a dict whose keys are ints and texts;one whose keys are tuples of ints and texts (the empty one is both) -/
 | dK (kvs:List (Key×V)) | dT (kvs:List (List Key×V))
 /-- a set of ints: its members,its size -/
 | set (S:Int→Bool) (n:Nat)
 /-- an instance of the class at C,its dict at dx,its attributes -/
 | ins (C dx:Addr) (fs:List (Str×V))
 /-- the dict of the instance at x -/
 | own (x:Addr)
 /-- the dict of an exception -/
 | xd (fs:List (Str×V))
 /-- a bound method,f of x -/
 | met (f x:Addr)
 /-- a range object lo,lo+1,.. below hi -/
 | rng (lo hi:Int)
 /-- a thing that is known to the object (the script;a dict while a loop walks it): read,never written while it is so -/
 | frz (o:Obj) (u:HO)
 /-- a code object's table -/
 | tbl (ps:Array Value)
 /-- any other thing,by what is true of its one object (a def of one's own: SetO a S n:=HO.ext fun h=>..) -/
 | ext (φ:Heap→Prop)
abbrev Hp:=Addr→Option HO
def upd (H:Hp)(a:Addr)(o:HO):Hp:=fun b=>if b=a then some o else H b
theorem upd_same {H:Hp}{a:Addr}{o:HO}:upd H a o a=some o:=by unfold upd;rw[if_pos rfl]
theorem upd_ne {H:Hp}{a b:Addr}{o:HO}(h:b≠a):upd H a o b=H b:=by unfold upd;rw[if_neg h]
theorem ne_of {H:Hp}{a b:Addr}{o u:HO}(h:H a=some o)(h':H b=some u)(d:o≠u):a≠b:=by
 intro e;subst e;rw[h] at h';exact d (Option.some.inj h')
theorem ne_of_none {H:Hp}{a b:Addr}{o:HO}(h:H a=some o)(h':H b=none):a≠b:=by
 intro e;subst e;rw[h] at h';cases h'
section
variable (P:Program)(w:World)
def ObjOk (H:Hp)(h:Heap)(a:Addr):HO→Prop
 | .lst xs=>xs.length≤sizeLine∧∃(its:List Value) (n:Nat),Vals xs its∧h.get? a=some { cls:=.type "list",data:=.seq its.toArray n }
 | .tup xs=>xs.length≤sizeLine∧∃its:List Value,Vals xs its∧IsTup h a its.toArray
 | .dK kvs=>kvs.length≤sizeLine∧(a==sysModules)=false∧∃vs,KV kvs vs∧h.DictOf (mixKind P w) a vs
 | .dT kvs=>kvs.length≤sizeLine∧(a==sysModules)=false∧∃xs:List (List Key×Addr×Value),
     Paired (fun (p:List Key×V) (q:List Key×Addr×Value)=>p.1=q.1∧H q.2.1=some (.tup (p.1.map kV))∧RelV p.2 q.2.2) kvs xs ∧
     ∃o es ep,h.get? a=some o∧o.ExactDict∧o.data = .dict es ep∧es.toList=xs.map (entryOfKey (tupleKind (mixKind P w)))∧(xs.map (·.1)).Nodup
 | .set S n=>h.SetOf (intKind P w) a S n
 | .ins C dx fs=>H dx=some (.own a)∧fs.length≤1000∧dx≠a∧h.get? a=some (PySem.W.instObj C dx) ∧
     ∃mA,h.Ns1 dx mA∧(∀f,RelO (fs.lookup f) (mA f))∧PySem.Within mA (fs.map (·.1))
 | .own _=>∃o,h.get? a=some o
 | .xd fs=>∃mA,h.Ns1 a mA∧∀f,RelO (fs.lookup f) (mA f)
 | .rng lo hi=>∃t u v,h.get? a=some { cls:=.type "range",data:=.fields #[.int lo t,.int hi u,.int 1 v] }
 | .frz o u=>h.get? a=some o∧ObjOk H h a u
 | .tbl ps=>h.get? a=some { cls:=.none,data:=.fields ps }
 | .met f x=>h.get? a=some (PySem.W.methodObj (.ref f) (.ref x))
 | .ext φ=>φ h∧(∃o,h.get? a=some o)∧∀h1 h2:Heap,φ h1→(∀o,h1.get? a=some o→h2.get? a=some o)→φ h2
def HOk (H:Hp)(h:Heap):Prop:=∀a o,H a=some o→ObjOk P w H h a o
end
section
variable {P:Program}{w:World}{H H':Hp}{h h':Heap}{a:Addr}{o:HO}
theorem ObjOk.lt (x:ObjOk P w H h a o):a<h.objs.size:=by
 cases o with
 | lst xs=>obtain⟨_,_,_,_,e⟩:=x;exact Heap.lt_size e
 | tup xs=>obtain⟨_,_,_,p⟩:=x;exact p.lt
 | dK kvs=>obtain⟨_,_,_,_,o,_,_,e,_⟩:=x;exact Heap.lt_size e
 | dT kvs=>obtain⟨_,_,_,_,o,_,_,e,_⟩:=x;exact Heap.lt_size e
 | set S n=>obtain⟨o,_,_,_,e,_⟩:=x;exact Heap.lt_size e
 | ins C dx fs=>obtain⟨_,_,_,e,_⟩:=x;exact Heap.lt_size e
 | own y=>obtain⟨_,e⟩:=x;exact Heap.lt_size e
 | xd fs=>obtain⟨_,⟨_,_,_,e,_⟩,_⟩:=x;exact Heap.lt_size e
 | rng lo hi=>obtain⟨_,_,_,e⟩:=x;exact Heap.lt_size e
 | frz ob u=>obtain⟨e,_⟩:=x;exact Heap.lt_size e
 | tbl ps=>exact Heap.lt_size (show h.get? a=some _ from x)
 | met f y=>exact Heap.lt_size (show h.get? a=some _ from x)
 | ext φ=>obtain⟨_,⟨_,e⟩,_⟩:=x;exact Heap.lt_size e
theorem Paired.mapP {α β:Type}{F G:α→β→Prop}:∀{l₁:List α} {l₂:List β},Paired F l₁ l₂→(∀a b,F a b→G a b)→Paired G l₁ l₂
 | _,_,.nil,_=>.nil
 | _,_,.cons r t,f=>.cons (f _ _ r) (Paired.mapP t f)
theorem ObjOk.stay (x:ObjOk P w H h a o)(k:∀b u,(b=a∨H b=some (.own a))→h.get? b=some u→h'.get? b=some u)
   (ho:∀b,H b=some (.own a)→H' b=some (.own a)) (ht:∀b xs,H b=some (.tup xs)→H' b=some (.tup xs)):ObjOk P w H' h' a o:=by
 induction o with
 | lst xs=>obtain⟨z,its,n,r,e⟩:=x;exact⟨z,its,n,r,k _ _ (.inl rfl) e⟩
 | tup xs=>obtain⟨z,its,r,ob,e,c⟩:=x;exact⟨z,its,r,ob,k _ _ (.inl rfl) e,c⟩
 | dK kvs=>obtain⟨z,y,vs,r,ob,es,ep,e,c⟩:=x;exact⟨z,y,vs,r,ob,es,ep,k _ _ (.inl rfl) e,c⟩
 | dT kvs =>
   obtain⟨z,y,xs,r,ob,es,ep,e,c⟩:=x
   exact⟨z,y,xs,Paired.mapP r fun p q z=>⟨z.1,ht _ _ z.2.1,z.2.2⟩,ob,es,ep,k _ _ (.inl rfl) e,c⟩
 | set S n=>obtain⟨ob,es,ep,t,e,c⟩:=x;exact⟨ob,es,ep,t,k _ _ (.inl rfl) e,c⟩
 | ins C dx fs =>
   obtain⟨d,z,ne,e,mA,⟨od,es,ep,e2,c⟩,r⟩:=x
   exact⟨ho _ d,z,ne,k _ _ (.inl rfl) e,mA,⟨od,es,ep,k _ _ (.inr d) e2,c⟩,r⟩
 | own y=>obtain⟨ob,e⟩:=x;exact⟨ob,k _ _ (.inl rfl) e⟩
 | xd fs=>obtain⟨mA,⟨od,es,ep,e,c⟩,r⟩:=x;exact⟨mA,⟨od,es,ep,k _ _ (.inl rfl) e,c⟩,r⟩
 | rng lo hi=>obtain⟨t,u,v,e⟩:=x;exact⟨t,u,v,k _ _ (.inl rfl) e⟩
 | frz ob u ih=>obtain⟨e,q⟩:=x;exact⟨k _ _ (.inl rfl) e,ih q⟩
 | tbl ps =>
   have e:h.get? a=some { cls:=.none,data:=.fields ps }:=x
   show h'.get? a=some { cls:=.none,data:=.fields ps }
   exact k a _ (.inl rfl) e
 | met f y =>
   have e:h.get? a=some (PySem.W.methodObj (.ref f) (.ref y)):=x
   show h'.get? a=some (PySem.W.methodObj (.ref f) (.ref y))
   exact k a _ (.inl rfl) e
 | ext φ=>obtain⟨p,⟨o,e⟩,st⟩:=x;exact⟨st _ _ p fun o q=>k _ _ (.inl rfl) q,⟨o,k _ _ (.inl rfl) e⟩,st⟩
theorem HOk.lt (x:HOk P w H h)(e:H a=some o):a<h.objs.size:=(x a o e).lt
theorem HOk.fresh (x:HOk P w H h)(e:h.objs.size≤a):H a=none:=by
 cases q:H a with
 | none=>rfl
 | some u=>exact absurd (Nat.lt_of_lt_of_le (x.lt q) e) (Nat.lt_irrefl _)
theorem HOk.kept (x:HOk P w H h)(k:∀b u,h.get? b=some u→h'.get? b=some u):HOk P w H h':=fun a o e =>
 (x a o e).stay (fun b u _ q=>k b u q) (fun _ q=>q) fun _ _ q=>q
theorem HOk.laid (x:HOk P w H h)(k:∀b u,h.get? b=some u→h'.get? b=some u)(hp:h.objs.size≤a)(new:ObjOk P w (upd H a o) h' a o):HOk P w (upd H a o) h':=fun b u e=>by
 have hn:=x.fresh hp
 by_cases hb:b=a
 · subst hb;rw[upd_same] at e;cases e;exact new
 · rw[upd_ne hb] at e
   exact(x b u e).stay (fun c v _ q=>k c v q) (fun c q=>by rw[upd_ne (ne_of_none q hn)];exact q) fun c xs q=>by rw[upd_ne (ne_of_none q hn)];exact q
end
def Rd (H:Hp)(a:Addr)(u:HO):Prop:=H a=some u∨∃o,H a=some (.frz o u)
theorem Rd.of {H:Hp}{a:Addr}{u:HO}(h:H a=some u):Rd H a u:=.inl h
theorem Rd.ok {P:Program}{w:World}{H:Hp}{h:Heap}{a:Addr}{u:HO}(r:Rd H a u)(x:HOk P w H h):ObjOk P w H h a u:=by
 rcases r with r | ⟨o,r⟩
 · exact x a u r
 · obtain⟨_,q⟩:=x a _ r
   exact q
def Mut:Option HO→Prop
 | some (.lst _)=>True
 | some (.dK _)=>True
 | some (.dT _)=>True
 | some (.set _ _)=>True
 | some (.ins _ _ _)=>True
 | some (.ext _)=>True
 | _=>False
section
variable {P:Program}{w:World}{H:Hp}{h h':Heap}{x e:Addr}{o':HO}
theorem HOk.write (ok:HOk P w H h)(mu:Mut (H x))(he:e=x∨H e=some (.own x))(k:∀b u,b≠e→h.get? b=some u→h'.get? b=some u)(heo:∃u,h'.get? e=some u)
   (new:ObjOk P w (upd H x o') h' x o'):HOk P w (upd H x o') h':=fun b u q=>by
 have nown:∀c y,H c=some (.own y)→c≠x:=fun c y r z=>by subst z;rw[r] at mu;exact mu
 have ntup:∀c xs,H c=some (.tup xs)→c≠x:=fun c xs r z=>by subst z;rw[r] at mu;exact mu
 by_cases hb:b=x
 · subst hb;rw[upd_same] at q;cases q;exact new
 · rw[upd_ne hb] at q
   by_cases hbe:b=e
   · have q':H b=some (.own x):=by
       rcases he with z | z
       · exact absurd (hbe.trans z) hb
       · rw[hbe];exact z
     rw[q] at q';cases q'
     obtain⟨v,hv⟩:=heo
     exact⟨v,by rw[hbe];exact hv⟩
   · refine(ok b u q).stay (fun c v hc r=>k c v ?_ r) (fun c r=>by rw[upd_ne (nown c b r)];exact r) fun c xs r=>by rw[upd_ne (ntup c xs r)];exact r
     rcases hc with rfl | hc
     · exact hbe
     · rintro rfl
       rcases he with z | z
       · exact nown c b hc z
       · rw[hc] at z;cases z;exact hb rfl
end
structure Un (fs ex:List Addr)(H H':Hp)(h h':Heap):Prop where
 keep:∀b o,h.get? b=some o→H b=none→b ∉ fs→b ∉ ex→h'.get? b=some o
 slot:∀b o,h.get? b=some o→H b=none→b∈fs→b ∉ ex→∃sl,h'.get? b=some { o with slots:=sl }
 free:∀b o,h.get? b=some o→H b=none→b ∉ ex→H' b=none
 there:∀b o,h.get? b=some o→b ∉ ex→∃o',h'.get? b=some o'
 tups:∀b xs,H b=some (.tup xs)→H' b=some (.tup xs)
 frzs:∀b o u,H b=some (.frz o u)→H' b=some (.frz o u)
 tbls:∀b ps,H b=some (.tbl ps)→∃more,H' b=some (.tbl (ps++more))
section
variable {fs fs' ex ex':List Addr}{H H1 H2:Hp}{h h1 h2 h':Heap}{a x e:Addr}{o:HO}
theorem Un.any (u:Un fs ex H H1 h h1){b:Addr}{ob:Obj}(q:h.get? b=some ob)(n:H b=none)(hx:b ∉ ex):∃sl,h1.get? b=some { ob with slots:=sl }:=by
 by_cases hb:b∈fs
 · exact u.slot b ob q n hb hx
 · exact⟨ob.slots,u.keep b ob q n hb hx⟩
theorem Un.trans (a:Un fs ex H H1 h h1)(b:Un fs ex H1 H2 h1 h2):Un fs ex H H2 h h2 where
 keep:=fun c ob q n hc hx=>b.keep c ob (a.keep c ob q n hc hx) (a.free c ob q n hx) hc hx
 slot:=fun c ob q n hc hx=>by
   obtain⟨sl,e1⟩:=a.slot c ob q n hc hx
   obtain⟨sl',e2⟩:=b.slot c _ e1 (a.free c ob q n hx) hc hx
   exact⟨sl',e2⟩
 free:=fun c ob q n hx=>by
   obtain⟨o',e1⟩:=a.there c ob q hx
   exact b.free c o' e1 (a.free c ob q n hx) hx
 there:=fun c ob q hx=>by
   obtain⟨o',e1⟩:=a.there c ob q hx
   exact b.there c o' e1 hx
 tups:=fun c xs q=>b.tups c xs (a.tups c xs q)
 frzs:=fun c ob xs q=>b.frzs c ob xs (a.frzs c ob xs q)
 tbls:=fun c ps q=>by
   obtain⟨m1,e1⟩:=a.tbls c ps q
   obtain⟨m2,e2⟩:=b.tbls c _ e1
   exact⟨m1++m2,by rw[e2,Array.append_assoc]⟩
theorem Un.kept (k:∀b u,h.get? b=some u→h'.get? b=some u):Un fs ex H H h h' :=
 ⟨fun b ob q _ _ _=>k b ob q,fun b ob q _ _ _=>⟨ob.slots,k b ob q⟩,fun _ _ _ n _=>n,fun b ob q _=>⟨ob,k b ob q⟩,fun _ _ q=>q,fun _ _ _ q=>q,fun _ ps q=>⟨#[],by rw[q];simp⟩⟩
theorem Un.refl:Un fs ex H H h h:=Un.kept fun _ _ q=>q
theorem Un.laid (k:∀b u,h.get? b=some u→h'.get? b=some u)(hp:h.objs.size≤a)(hn:H a=none):Un fs ex H (upd H a o) h h' where
 keep:=fun b u q _ _ _=>k b u q
 slot:=fun b u q _ _ _=>⟨u.slots,k b u q⟩
 free:=fun b u q n _=>by rw[upd_ne (Nat.ne_of_lt (Nat.lt_of_lt_of_le (Heap.lt_size q) hp))];exact n
 there:=fun b u q _=>⟨u,k b u q⟩
 tups:=fun b xs q=>by rw[upd_ne (ne_of_none q hn)];exact q
 frzs:=fun b u xs q=>by rw[upd_ne (ne_of_none q hn)];exact q
 tbls:=fun b ps q=>⟨#[],by rw[upd_ne (ne_of_none q hn),q];simp⟩
theorem Un.write (mu:Mut (H x))(he:e=x∨H e=some (.own x))(k:∀b u,b≠e→h.get? b=some u→h'.get? b=some u)(heo:∃u,h'.get? e=some u):Un fs ex H (upd H x o) h h':=by
 have hx:∀b,H b=none→b≠x:=fun b n z=>by subst z;rw[n] at mu;exact mu
 have hb:∀b,H b=none→b≠e:=fun b n z=>by
   subst z
   rcases he with r | r
   · exact hx b n r
   · rw[n] at r;cases r
 have hm:∀b u,H b=some u→¬Mut (some u)→b≠x:=fun b u q nm z=>by subst z;rw[q] at mu;exact nm mu
 refine⟨fun b u q n _ _=>k b u (hb b n) q,fun b u q n _ _=>⟨u.slots,k b u (hb b n) q⟩,fun b u q n _=>by rw[upd_ne (hx b n)];exact n,fun b u q _=>?_,
   fun b xs q=>by rw[upd_ne (hm b _ q fun z=>z)];exact q,fun b u xs q=>by rw[upd_ne (hm b _ q fun z=>z)];exact q,fun b ps q=>⟨#[],by rw[upd_ne (hm b _ q fun z=>z),q];simp⟩⟩
 by_cases hbe:b=e
 · subst hbe;exact heo
 · exact⟨u,k b u hbe q⟩
theorem Un.mono (u:Un fs ex H H1 h h1)(hs:∀b∈fs,b∈fs')(hx:∀b∈ex,b∈ex'):Un fs' ex' H H1 h h1 :=
 ⟨fun b ob q n hb he=>u.keep b ob q n (fun z=>hb (hs b z)) fun z=>he (hx b z),fun _ _ q n _ he=>u.any q n fun z=>he (hx _ z),fun b ob q n he=>u.free b ob q n fun z=>he (hx b z),fun b ob q he=>u.there b ob q fun z=>he (hx b z),u.tups,u.frzs,u.tbls⟩
end
def trk (h:Heap)(H:Hp):List Addr:=(List.range h.objs.size).filter fun a=>(H a).isSome
def hidT (h:Heap)(H:Hp):Heap:=PySem.W.hideAll h (trk h H)
theorem hidT_size (h:Heap)(H:Hp):(hidT h H).objs.size=h.objs.size:=PySem.W.hideAll_size _ _
theorem hidT_get {h:Heap}{H:Hp}{b:Addr}{o:Obj}(e:h.get? b=some o)(n:H b=none):(hidT h H).get? b=some o :=
 PySem.W.hideAll_get _ e fun hm=>by
   have q:(H b).isSome=true:=(List.mem_filter.mp hm).2
   rw[n] at q;simp at q
theorem of_hidT {h:Heap}{H:Hp}{b:Addr}{o:Obj}(e:(hidT h H).get? b=some o):h.get? b=some o∧H b=none:=by
 have e':h.get? b=some o:=PySem.W.of_hideAll (trk h H) e
 refine⟨e',?_⟩
 cases q:H b with
 | none=>rfl
 | some x =>
   have hm:b∈trk h H:=List.mem_filter.mpr ⟨List.mem_range.mpr (Heap.lt_size e'),by simp [q]⟩
   have z:(hidT h H).get? b=none:=PySem.W.hideAll_none (trk h H) hm
   rw[z] at e;cases e
def allNews (g h:Heap)(L:Addr):List (Addr×Obj):=(List.range h.objs.size).filterMap fun a=>if a=L∨(g.get? a).isSome=true then none else (h.get? a).map fun o=>(a,o)
def rest (g h:Heap)(L d:Addr):List (Addr×Obj):=(allNews g h L).filter fun p=>decide (p.1≠d)
end L2
namespace L2
open PySem PySem.Spec PyProof.Rows
structure Mod (K:PySem.W.Frag)(mg:Str→Option Value)(base:Heap):Prop where
 kin:K.In base
 glob:base.Ns mainGlobals mg
 blt:∃mb,base.Ns builtinsNs mb∧∀x:Str,x≠"__name__"→mb x=bootBuiltins x
 nolimit:base.NoLimit
structure Cx where
 prog:Program
 w:World
 K:PySem.W.Frag
 mg:Str→Option Value
 base:Heap
 A:Around
 N:List Str
 s₀:Shared
 H₀:Hp
 env:Env
 outer:List Env
 stack:List Env
 ex:List Addr
 fn:Str→Bool
 calm:Bool
 pn:List (Addr×Obj)
 xe:Value→Shared→Prop
def frs (l:List Env):List Addr:=l.filterMap (·.frame)
abbrev Cx.fs (X:Cx):List Addr:=frs X.outer
def Vis (sc:Scope)(x:Str):Prop:=sc.names.lookup x=some .local∨sc.names.lookup x=some .cell∨sc.names.lookup x=some .free
def Loc (sc:Scope)(x:Str):Prop:=sc.names.lookup x=some .local∨sc.names.lookup x=some .cell
def Look (env:Env)(h:Heap)(m:Str→Option Value)(x:Str)(u:Value):Prop :=
 (env.kindOf x=some .local∧m x=some u)∨((env.kindOf x=some .cell∨env.kindOf x=some .free)∧∃c,env.cells.lookup x=some c∧h.IsCell c (some u))
structure Cx.Ok (X:Cx):Prop where
 mod:Mod X.K X.mg X.base
 kind:X.env.scope.kind = .function
 glob:X.env.globals=mainGlobals
 blt:X.env.builtins=builtinsNs
 above:X.s₀.heap.objs.size≤X.env.locals
 inj:∀x y c,X.env.cells.lookup x=some c→X.env.cells.lookup y=some c→x=y
 has:∀x,(X.env.kindOf x=some .cell∨X.env.kindOf x=some .free)→∃c,X.env.cells.lookup x=some c
 cab:∀x c,X.fn x=true→X.env.cells.lookup x=some c→X.s₀.heap.objs.size≤c
 hd:X.calm=true→X.A.handled=none
 frames:X.A.frames=some X.stack
 stk:X.stack=X.outer∨(X.stack=X.env::X.outer∧X.env.frame=some X.env.locals)
 exf:∀b∈X.ex,b≠X.env.locals∧∀x c,X.env.cells.lookup x=some c→c≠b
 bs:∀b o,X.base.get? b=some o→X.s₀.heap.get? b=some o∧X.H₀ b=none
 bsz:X.base.objs.size≤X.s₀.heap.objs.size
 noex:∀b o,X.base.get? b=some o→b ∉ X.ex
 exfs:∀b∈X.ex,b ∉ X.fs
 funs:X.s₀.heap.FunFrames X.base X.outer
 frf:∀b∈X.fs,X.H₀ b=none
structure Inv (X:Cx)(pins:List (Addr×Obj))(σ:List (Option V))(H:Hp)(s:Shared):Prop where
 ok:X.Ok
 os:s.os=X.s₀.os
 bare:AllBare s.gens
 base:Un X.fs X.ex X.H₀ H X.s₀.heap s.heap
 loc:∃m,s.heap.Ns X.env.locals m∧∀(i:Nat) (x:Str) (v:V),X.N[i]?=some x→σ[i]?=some (some v)→Vis X.env.scope x→∃u,RelV v u∧Look X.env s.heap m x u
 cell:∀x c,X.env.cells.lookup x=some c→∃v,s.heap.IsCell c v
 free:H X.env.locals=none
 freeC:∀x c,X.env.cells.lookup x=some c→H c=none
 pin:∀p∈X.pn++pins,s.heap.get? p.1=some p.2∧H p.1=none∧p.1≠X.env.locals∧p.1 ∉ X.fs∧∀v,p.2.data≠.cell v
 hok:HOk X.prog X.w H s.heap
 len:σ.length=X.N.length
section
variable {X:Cx}{pins:List (Addr×Obj)}{σ:List (Option V)}{H H':Hp}{s:Shared}{h':Heap}
theorem Cx.Ok.nofr (ok:X.Ok){b:Addr}{o:Obj}(e:X.base.get? b=some o):b ∉ X.fs:=fun hb=>by
 have:=(ok.funs.mem hb).1
 rw[e] at this;cases this
theorem Inv.bs (I:Inv X pins σ H s):∀b o,X.base.get? b=some o→s.heap.get? b=some o∧H b=none:=fun b o e =>
 ⟨I.base.keep b o (I.ok.bs b o e).1 (I.ok.bs b o e).2 (I.ok.nofr e) (I.ok.noex b o e),I.base.free b o (I.ok.bs b o e).1 (I.ok.bs b o e).2 (I.ok.noex b o e)⟩
theorem Inv.bk (I:Inv X pins σ H s):∀b o,X.base.get? b=some o→s.heap.get? b=some o:=fun b o e=>(I.bs b o e).1
theorem Inv.mod (I:Inv X pins σ H s):Mod X.K X.mg X.base:=I.ok.mod
theorem Inv.kIn (I:Inv X pins σ H s):X.K.In s.heap:=I.ok.mod.kin.keeps I.bk
theorem Inv.nolimit (I:Inv X pins σ H s):s.heap.NoLimit:=I.ok.mod.nolimit.keeps I.bk
theorem Inv.fr (I:Inv X pins σ H s):∃m,Fr X.base X.env.locals s.heap m :=
 let ⟨m,hn,_⟩:=I.loc
 ⟨m,hn,I.bk,Nat.le_trans I.ok.bsz I.ok.above⟩
theorem Inv.lt (I:Inv X pins σ H s):X.env.locals<s.heap.objs.size:=let ⟨_,hn,_⟩:=I.loc;hn.lt
theorem Inv.sz (I:Inv X pins σ H s):X.s₀.heap.objs.size≤s.heap.objs.size:=Nat.le_trans I.ok.above (Nat.le_of_lt I.lt)
theorem Inv.nofs (I:Inv X pins σ H s){a:Addr}(h:s.heap.objs.size≤a):a ∉ X.fs:=fun hb=>by
 obtain⟨_,o,ho,_⟩:=I.ok.funs.mem hb
 exact absurd (Nat.lt_of_lt_of_le (Heap.lt_size ho) (Nat.le_trans I.sz h)) (Nat.lt_irrefl _)
theorem Inv.cne (I:Inv X pins σ H s):∀x c,X.env.cells.lookup x=some c→c≠X.env.locals:=fun x c e z=>by
 obtain⟨v,o,ho,hd⟩:=I.cell x c e
 obtain⟨m,⟨o',es,ep,ho',hd',_⟩,_⟩:=I.loc
 rw[z,ho'] at ho;cases ho;rw[hd'] at hd;cases hd
theorem Inv.funs (I:Inv X pins σ H s):s.heap.FunFrames X.base X.outer:=by
 have all:∀(l:List Env),(∀b∈frs l,b∈X.fs)→X.s₀.heap.FunFrames X.base l→s.heap.FunFrames X.base l:=by
   intro l
   induction l with
   | nil=>intro _ _;trivial
   | cons env r ih =>
     intro hs hl
     obtain⟨hk,⟨L,o,hf,hn,ho,hd⟩,hr⟩:=hl
     have hL:L∈X.fs:=hs L (by unfold frs;rw[List.filterMap_cons,hf];exact List.mem_cons_self)
     obtain⟨sl,e⟩:=I.base.slot L o ho (I.ok.frf L hL) hL fun z=>I.ok.exfs L z hL
     exact⟨hk,⟨L,_,hf,hn,e,hd⟩,ih (fun b hb=>hs b (by unfold frs;rw[List.filterMap_cons,hf];exact List.mem_cons_of_mem _ hb)) hr⟩
 exact all X.outer (fun _ hb=>hb) I.ok.funs
theorem Inv.stack (I:Inv X pins σ H s):s.heap.FunFrames X.base X.stack:=by
 rcases I.ok.stk with e | ⟨e,hf⟩
 · rw[e];exact I.funs
 · rw[e]
   obtain⟨m,hn,_⟩:=I.loc
   refine .cons (by rw[I.ok.kind];decide) hf hn ?_ I.funs
   exact Heap.get?_none_of_le (Nat.le_trans I.ok.bsz I.ok.above)
theorem Inv.stkSub (I:Inv X pins σ H s):∀b∈frs X.stack,b∈X.env.locals::X.fs:=fun b hb=>by
 rcases I.ok.stk with e | ⟨e,hf⟩
 · rw[e] at hb;exact List.mem_cons_of_mem _ hb
 · rw[e] at hb
   unfold frs at hb
   rw[List.filterMap_cons,hf] at hb
   exact hb
theorem Inv.stkFree (I:Inv X pins σ H s):∀b∈frs X.stack,H b=none:=fun b hb=>by
 rcases List.mem_cons.mp (I.stkSub b hb) with e | hb
 · rw[e];exact I.free
 · obtain⟨_,o,ho,_⟩:=I.ok.funs.mem hb
   exact I.base.free b o ho (I.ok.frf b hb) fun z=>I.ok.exfs b z hb
theorem Inv.step {g':Array GenState}{t':Nat}{d':Drawn}{ch:List Addr}(I:Inv X pins σ H s)
   (hch:∀b∈ch,(b∈X.ex∨X.s₀.heap.objs.size≤b)∧b≠X.env.locals∧(∀x c,X.env.cells.lookup x=some c→c≠b)∧∀p∈X.pn++pins,p.1≠b)
   (keep:∀b o,b≠X.env.locals→b ∉ X.fs→b ∉ ch→s.heap.get? b=some o→H b=none→h'.get? b=some o)
   (slot:∀b o,b≠X.env.locals→b∈X.fs→b ∉ ch→s.heap.get? b=some o→H b=none→∃sl,h'.get? b=some { o with slots:=sl }) (free:∀b o,b ∉ ch→s.heap.get? b=some o→H b=none→H' b=none)
   (there:∀b o,b ∉ ch→s.heap.get? b=some o→∃o',h'.get? b=some o')
   (tups:∀b xs,H b=some (.tup xs)→H' b=some (.tup xs)) (frzs:∀b o u,H b=some (.frz o u)→H' b=some (.frz o u)) (tbls:∀b ps,H b=some (.tbl ps)→∃more,H' b=some (.tbl (ps++more)))
   (ns:∀m,s.heap.Ns X.env.locals m→h'.Ns X.env.locals m) (hok:HOk X.prog X.w H' h') (hg:AllBare g') :
   Inv X pins σ H' { s with heap:=h',gens:=g',drawn:=d',toks:=t' }:=by
 have neL:∀b o,X.s₀.heap.get? b=some o→b≠X.env.locals:=fun b o e=>Nat.ne_of_lt (Nat.lt_of_lt_of_le (Heap.lt_size e) I.ok.above)
 have neC:∀b o,X.s₀.heap.get? b=some o→b ∉ X.ex→b ∉ ch:=fun b o e hx hb=>by
   rcases(hch b hb).1 with z | z
   · exact hx z
   · exact absurd (Nat.lt_of_lt_of_le (Heap.lt_size e) z) (Nat.lt_irrefl _)
 have cellK:∀x c,X.env.cells.lookup x=some c→∀v,s.heap.IsCell c v→h'.IsCell c v:=fun x c e v ⟨o,ho,hd⟩=>by
   have nch:c ∉ ch:=fun z=>(hch c z).2.2.1 x c e rfl
   by_cases hc:c∈X.fs
   · obtain⟨sl,q⟩:=slot c o (I.cne x c e) hc nch ho (I.freeC x c e)
     exact⟨_,q,hd⟩
   · exact⟨o,keep c o (I.cne x c e) hc nch ho (I.freeC x c e),hd⟩
 refine⟨I.ok,I.os,hg,⟨fun b o e n hb hx=>?_,fun b o e n hb hx=>?_,fun b o e n hx=>?_,fun b o e hx=>?_,fun b xs e=>tups b xs (I.base.tups b xs e),fun b o xs e=>frzs b o xs (I.base.frzs b o xs e),fun b ps e=>?_⟩,?_,fun x c e=>?_,?_,fun x c e=>?_,fun p hp=>?_,hok,I.len⟩
 · exact keep b o (neL b o e) hb (neC b o e hx) (I.base.keep b o e n hb hx) (I.base.free b o e n hx)
 · obtain⟨sl,e1⟩:=I.base.slot b o e n hb hx
   obtain⟨sl',e2⟩:=slot b _ (neL b o e) hb (neC b o e hx) e1 (I.base.free b o e n hx)
   exact⟨sl',e2⟩
 · obtain⟨o',e1⟩:=I.base.there b o e hx
   exact free b o' (neC b o e hx) e1 (I.base.free b o e n hx)
 · obtain⟨o',e1⟩:=I.base.there b o e hx
   exact there b o' (neC b o e hx) e1
 · obtain⟨m1,e1⟩:=I.base.tbls b ps e
   obtain⟨m2,e2⟩:=tbls b _ e1
   exact⟨m1++m2,by rw[e2,Array.append_assoc]⟩
 · obtain⟨m,hn,hl⟩:=I.loc
   refine⟨m,ns m hn,fun i x v e1 e2 e3=>?_⟩
   obtain⟨u,r,l⟩:=hl i x v e1 e2 e3
   refine⟨u,r,?_⟩
   rcases l with l | ⟨k,c,e,z⟩
   · exact .inl l
   · exact .inr ⟨k,c,e,cellK x c e _ z⟩
 · obtain⟨v,z⟩:=I.cell x c e
   exact⟨v,cellK x c e v z⟩
 · obtain⟨m,⟨o,_,_,ho,_⟩,_⟩:=I.loc
   exact free _ o (fun z=>(hch _ z).2.1 rfl) ho I.free
 · obtain⟨v,o,ho,hd⟩:=I.cell x c e
   exact free c o (fun z=>(hch c z).2.2.1 x c e rfl) ho (I.freeC x c e)
 · obtain⟨e,n,ne,nf,d⟩:=I.pin p hp
   have nch:p.1 ∉ ch:=fun z=>(hch p.1 z).2.2.2 p hp rfl
   exact⟨keep p.1 p.2 ne nf nch e n,free p.1 p.2 nch e n,ne,nf,d⟩
theorem Inv.un {t':Nat}(I:Inv X pins σ H s)(u:Un X.fs [] H H' s.heap h')(hok:HOk X.prog X.w H' h'):Inv X pins σ H' { s with heap:=h',toks:=t' }:=by
 obtain⟨m,⟨o,es,ep,ho,r⟩,_⟩:=id I.loc
 obtain⟨sl,hL⟩:=u.any ho I.free (by simp)
 exact I.step (g':=s.gens) (d':=s.drawn) (ch:=[]) (fun _ z=>nomatch z) (fun b o _ hb _ e n=>u.keep b o e n hb (by simp)) (fun b o _ hb _ e n=>u.slot b o e n hb (by simp)) (fun b o _ e n=>u.free b o e n (by simp)) (fun b o _ e=>u.there b o e (by simp)) u.tups u.frzs u.tbls (fun m' hm=>by
   obtain⟨o',es',ep',ho',r'⟩:=hm
   rw[ho] at ho';cases ho'
   exact⟨_,es',ep',hL,r'⟩) hok I.bare
theorem Inv.call {g':Array GenState}{t':Nat}{d':Drawn}{ch:List Addr}(I:Inv X pins σ H s)(u:Un (frs X.stack) ch H H' s.heap h')(hok:HOk X.prog X.w H' h')(hg:AllBare g')
   (hch:∀b∈ch,(b∈X.ex∨X.s₀.heap.objs.size≤b)∧b≠X.env.locals∧(∀x c,X.env.cells.lookup x=some c→c≠b)∧∀p∈X.pn++pins,p.1≠b) :
   Inv X pins σ H' { s with heap:=h',gens:=g',drawn:=d',toks:=t' }:=by
 obtain⟨m,⟨o,es,ep,ho,r⟩,_⟩:=id I.loc
 obtain⟨sl,hL⟩:=u.any ho I.free fun z=>(hch _ z).2.1 rfl
 exact I.step (ch:=ch) hch (fun b o hL hb hc e n=>u.keep b o e n (fun z=>(List.mem_cons.mp (I.stkSub b z)).elim hL hb) hc) (fun b o _ _ hc e n=>u.any e n hc) (fun b o hc e n=>u.free b o e n hc) (fun b o hc e=>u.there b o e hc) u.tups u.frzs u.tbls (fun m' hm=>by
   obtain⟨o',es',ep',ho',r'⟩:=hm
   rw[ho] at ho';cases ho'
   exact⟨_,es',ep',hL,r'⟩) hok hg
theorem Inv.turned {t':Nat}{it:Addr}(I:Inv X pins σ H s)(k:∀b o,b≠it→s.heap.get? b=some o→h'.get? b=some o)(hn:H it=none)(hL:it≠X.env.locals)
   (h1:it∈X.ex∨X.s₀.heap.objs.size≤it) (h2:∀x c,X.env.cells.lookup x=some c→c≠it) (h3:∀p∈X.pn++pins,p.1≠it):Inv X pins σ H { s with heap:=h',toks:=t' }:=by
 have nit:∀b u,H b=some u→b≠it:=fun b u e z=>by rw[z,hn] at e;cases e
 refine I.step (g':=s.gens) (d':=s.drawn) (ch:=[it]) (fun b hb=>?_) (fun b o _ _ hc e _=>k b o (fun z=>hc (by simp [z])) e) (fun b o _ _ hc e _=>⟨o.slots,k b o (fun z=>hc (by simp [z])) e⟩) (fun _ _ _ _ n=>n)
   (fun b o hc e=>⟨o,k b o (fun z=>hc (by simp [z])) e⟩) (fun _ _ e=>e) (fun _ _ _ e=>e) (fun b ps e=>⟨#[],by rw[e];simp⟩) (fun m hm=>?_) (fun b u e=>?_) I.bare
 · have e:b=it:=by simpa using hb
   subst e
   exact⟨h1,hL,h2,h3⟩
 · obtain⟨o,es,ep,ho,r⟩:=hm
   exact⟨o,es,ep,k _ o (Ne.symm hL) ho,r⟩
 · refine(I.hok b u e).stay (fun c v hc q=>k c v ?_ q) (fun _ q=>q) fun _ _ q=>q
   rcases hc with z | z
   · rw[z];exact nit b u e
   · exact nit c _ z
theorem Inv.tok (I:Inv X pins σ H s)(t:Nat):Inv X pins σ H { s with toks:=t }:=I.un (h':=s.heap) (t':=t) Un.refl I.hok
theorem Inv.kept {t':Nat}(I:Inv X pins σ H s)(k:∀b u,s.heap.get? b=some u→h'.get? b=some u):Inv X pins σ H { s with heap:=h',toks:=t' }:=I.un (Un.kept k) (I.hok.kept k)
theorem Inv.laid {a:Addr}{o:HO}{t':Nat}(I:Inv X pins σ H s)(k:∀b u,s.heap.get? b=some u→h'.get? b=some u)(hp:s.heap.objs.size≤a)(new:ObjOk X.prog X.w (upd H a o) h' a o) :
   Inv X pins σ (upd H a o) { s with heap:=h',toks:=t' }:=I.un (Un.laid k hp (I.hok.fresh hp)) (I.hok.laid k hp new)
theorem Inv.write {x e:Addr}{o:HO}{t':Nat}(I:Inv X pins σ H s)(mu:Mut (H x))(he:e=x∨H e=some (.own x))(k:∀b u,b≠e→s.heap.get? b=some u→h'.get? b=some u)(heo:∃u,h'.get? e=some u)
   (new:ObjOk X.prog X.w (upd H x o) h' x o):Inv X pins σ (upd H x o) { s with heap:=h',toks:=t' }:=I.un (Un.write mu he k heo) (I.hok.write mu he k heo new)
theorem Inv.pins_of {pins':List (Addr×Obj)}(I:Inv X pins σ H s)(h:∀p∈pins',s.heap.get? p.1=some p.2∧H p.1=none∧p.1≠X.env.locals∧p.1 ∉ X.fs∧∀v,p.2.data≠.cell v):Inv X pins' σ H s :=
 ⟨I.ok,I.os,I.bare,I.base,I.loc,I.cell,I.free,I.freeC,fun p hp=>(List.mem_append.mp hp).elim (fun z=>I.pin p (List.mem_append_left _ z)) (h p),I.hok,I.len⟩
theorem nodup_ix {N:List Str}(hN:N.Nodup){i j:Nat}{x:Str}(a:N[i]?=some x)(b:N[j]?=some x):i=j:=by
 obtain⟨h1,e1⟩:=List.getElem?_eq_some_iff.mp a
 obtain⟨h2,e2⟩:=List.getElem?_eq_some_iff.mp b
 exact(List.getElem_inj hN).mp (e1.trans e2.symm)
theorem store_ok2 {M:Model}{A:Around}{E:Value→Shared→Prop}{i:Nat}{x:Str}{v:V}{u:Value}{Q:Unit→Shared→Prop}(I:Inv X pins σ H s)(hN:X.N.Nodup)(hi:X.N[i]?=some x)(hx:Loc X.env.scope x)(r:RelV v u)
   (h:∀s',Inv X pins (σ.set i (some v)) H s'→(∃a,Heap.SameBut a s.heap s'.heap∧(a=X.env.locals∨X.env.cells.lookup x=some a))→Q () s') (hf:X.fn x=true∨X.env.scope.names.lookup x=some .local:=by first | exact .inl rfl | exact .inr rfl | assumption):wpAny M A (storeName X.env x u) Q E s:=by
 obtain⟨m,hn,hl⟩:=id I.loc
 have hcls:(X.env.scope.kind==.class||(X.env.scope.kind==.module&&X.env.locals != X.env.globals))=false:=by rw[I.ok.kind];rfl
 have hiσ:i<σ.length:=by rw[I.len];exact(List.getElem?_eq_some_iff.mp hi).1
 have cne:=I.cne
 have tracked:∀{a:Addr} {h':Heap},(∃o,s.heap.get? a=some o∧H a=none)→Heap.SameBut a s.heap h'→HOk X.prog X.w H h':=fun {a h'} ha hs b ob e=>by
   obtain⟨_,_,hfree⟩:=ha
   refine(I.hok b ob e).stay (fun c w' hc q=>(hs.2 c ?_).trans q) (fun _ q=>q) fun _ _ q=>q
   rintro rfl
   rcases hc with rfl | hc
   · rw[hfree] at e;cases e
   · rw[hfree] at hc;cases hc
 rcases hx with hk | hk
 · refine wpAny_storeName_local hk hn (fun h' hn' hs=>?_) hcls
   obtain⟨oL,_,_,hoL,_⟩:=id hn
   refine h _ ⟨I.ok,I.os,I.bare,⟨fun b o e n hb hx=>?_,fun b o e n hb hx=>?_,I.base.free,fun b o e hx=>?_,I.base.tups,I.base.frzs,I.base.tbls⟩,⟨_,hn',fun j y v' e1 e2 e3=>?_⟩,fun y c e=>?_,I.free,I.freeC,fun p hp=>?_,tracked ⟨oL,hoL,I.free⟩ hs,by simpa using I.len⟩ ⟨_,hs,.inl rfl⟩
   · exact(hs.2 b (Nat.ne_of_lt (Nat.lt_of_lt_of_le (Heap.lt_size e) I.ok.above))).trans (I.base.keep b o e n hb hx)
   · obtain⟨sl,e1⟩:=I.base.slot b o e n hb hx
     exact⟨sl,(hs.2 b (Nat.ne_of_lt (Nat.lt_of_lt_of_le (Heap.lt_size e) I.ok.above))).trans e1⟩
   · obtain⟨o',e1⟩:=I.base.there b o e hx
     exact⟨o',(hs.2 b (Nat.ne_of_lt (Nat.lt_of_lt_of_le (Heap.lt_size e) I.ok.above))).trans e1⟩
   · by_cases hj:j=i
     · subst hj
       rw[hi] at e1;cases e1
       rw[List.getElem?_set_self hiσ] at e2
       cases e2
       exact⟨u,r,.inl ⟨hk,by simp⟩⟩
     · rw[List.getElem?_set_ne (Ne.symm hj)] at e2
       obtain⟨u',r',q⟩:=hl j y v' e1 e2 e3
       refine⟨u',r',?_⟩
       rcases q with ⟨k,e⟩ | ⟨k,c,e,z⟩
       · refine .inl ⟨k,?_⟩
         have:y≠x:=fun e=>hj (nodup_ix hN e1 (e▸hi))
         simp [this,e]
       · exact .inr ⟨k,c,e,z.sameBut hs (cne y c e)⟩
   · obtain⟨w',z⟩:=I.cell y c e
     exact⟨w',z.sameBut hs (cne y c e)⟩
   · obtain⟨e,n,ne,nf,d⟩:=I.pin p hp
     exact⟨(hs.2 p.1 ne).trans e,n,ne,nf,d⟩
 · have hfn:X.fn x=true:=by
     rcases hf with z | z
     · exact z
     · rw[z] at hk;cases hk
   obtain⟨c,hc⟩:=I.ok.has x (.inl hk)
   obtain⟨w',z⟩:=I.cell x c hc
   refine wpAny_storeName_cell I.ok.kind hk hc z (fun h' hc' hs=>?_)
   obtain⟨oc,hoc,hocd⟩:=id z
   refine h { s with heap:=h' } ⟨I.ok,I.os,I.bare,⟨fun b o e n hb hx=>?_,fun b o e n hb hx=>?_,I.base.free,fun b o e hx=>?_,I.base.tups,I.base.frzs,I.base.tbls⟩,⟨m,hn.sameBut hs (Ne.symm (cne x c hc)),fun j y v' e1 e2 e3=>?_⟩,fun y c' e=>?_,I.free,I.freeC,fun p hp=>?_,tracked ⟨oc,hoc,I.freeC x c hc⟩ hs,by simpa using I.len⟩ ⟨c,hs,.inr hc⟩
   · exact(hs.2 b (Nat.ne_of_lt (Nat.lt_of_lt_of_le (Heap.lt_size e) (I.ok.cab x c hfn hc)))).trans (I.base.keep b o e n hb hx)
   · obtain⟨sl,e1⟩:=I.base.slot b o e n hb hx
     exact⟨sl,(hs.2 b (Nat.ne_of_lt (Nat.lt_of_lt_of_le (Heap.lt_size e) (I.ok.cab x c hfn hc)))).trans e1⟩
   · obtain⟨o',e1⟩:=I.base.there b o e hx
     exact⟨o',(hs.2 b (Nat.ne_of_lt (Nat.lt_of_lt_of_le (Heap.lt_size e) (I.ok.cab x c hfn hc)))).trans e1⟩
   · by_cases hj:j=i
     · subst hj
       rw[hi] at e1;cases e1
       rw[List.getElem?_set_self hiσ] at e2
       cases e2
       exact⟨u,r,.inr ⟨.inl hk,c,hc,hc'⟩⟩
     · rw[List.getElem?_set_ne (Ne.symm hj)] at e2
       obtain⟨u',r',q⟩:=hl j y v' e1 e2 e3
       refine⟨u',r',?_⟩
       rcases q with q | ⟨k,c',e,z'⟩
       · exact .inl q
       · refine .inr ⟨k,c',e,z'.sameBut hs ?_⟩
         rintro rfl
         exact hj (nodup_ix hN e1 (I.ok.inj _ _ _ e hc▸hi))
   · by_cases hcc:c'=c
     · subst hcc;exact⟨_,hc'⟩
     · obtain⟨w2,z2⟩:=I.cell y c' e
       exact⟨w2,z2.sameBut hs hcc⟩
   · obtain⟨e,n,ne,nf,d⟩:=I.pin p hp
     refine⟨(hs.2 p.1 ?_).trans e,n,ne,nf,d⟩
     intro q
     rw[q,hoc] at e
     have q':oc=p.2:=Option.some.inj e
     exact d w' (by rw[←q'];exact hocd)
theorem store_ok {M:Model}{A:Around}{E:Value→Shared→Prop}{i:Nat}{x:Str}{v:V}{u:Value}{Q:Unit→Shared→Prop}(I:Inv X pins σ H s)(hN:X.N.Nodup)(hi:X.N[i]?=some x)(hx:Loc X.env.scope x)(r:RelV v u)
   (h:∀s',Inv X pins (σ.set i (some v)) H s'→Q () s') (hf:X.fn x=true∨X.env.scope.names.lookup x=some .local:=by first | exact .inl rfl | exact .inr rfl | assumption):wpAny M A (storeName X.env x u) Q E s :=
 store_ok2 I hN hi hx r (fun s' I' _=>h s' I') hf
theorem Inv.call' {s':Shared}{ch:List Addr}(I:Inv X pins σ H s)(ho:s'.os=s.os)(u:Un (frs X.stack) ch H H' s.heap s'.heap)(hok:HOk X.prog X.w H' s'.heap)(hg:AllBare s'.gens)
   (hch:∀b∈ch,(b∈X.ex∨X.s₀.heap.objs.size≤b)∧b≠X.env.locals∧(∀x c,X.env.cells.lookup x=some c→c≠b)∧∀p∈X.pn++pins,p.1≠b):Inv X pins σ H' s':=by
 obtain⟨h',g',d',t',o'⟩:=s'
 have e:o'=s.os:=ho
 subst e
 exact I.call (g':=g') (t':=t') (d':=d') u hok hg hch
end
abbrev XK:=Value→Option Addr→Hp→Prop
abbrev St:=List (Option V)
abbrev VK:=V→Hp→Prop
abbrev TE:=St→Hp→VK→Prop
abbrev TT:=St→Hp→(Bool→Hp→Prop)→Prop
abbrev TA:=St→Hp→(List V→Hp→Prop)→Prop
structure Ends where
 nx:St→Hp→Prop
 rt:VK
 bk:St→Hp→Prop:=fun _ _=>False
 ct:St→Hp→Prop:=fun _ _=>False
abbrev TS:=Ends→St→Hp→Prop
def EP (X:Cx)(pins:List (Addr×Obj))(σ:St)(Q:VK)(u:Value)(s':Shared):Prop:=∃v H',Inv X pins σ H' s'∧RelV v u∧Q v H'
def TP (X:Cx)(pins:List (Addr×Obj))(σ:St)(Q:Bool→Hp→Prop)(b:Bool)(s':Shared):Prop:=∃H',Inv X pins σ H' s'∧Q b H'
def AP (X:Cx)(pins:List (Addr×Obj))(σ:St)(Q:List V→Hp→Prop)(us:List Value)(s':Shared):Prop:=∃vs H',Inv X pins σ H' s'∧Vals vs us∧Q vs H'
def SP (X:Cx)(pins:List (Addr×Obj))(D:Ends)(f:Flow)(s':Shared):Prop :=
 match f with
 | .next=>∃σ' H',Inv X pins σ' H' s'∧D.nx σ' H'
 | .brk=>∃σ' H',Inv X pins σ' H' s'∧D.bk σ' H'
 | .cont=>∃σ' H',Inv X pins σ' H' s'∧D.ct σ' H'
 | .ret u=>∃v σ' H',Inv X pins σ' H' s'∧RelV v u∧D.rt v H'
def PE (X:Cx)(e:Expr)(t:TE):Prop :=
 ∀(pins:List (Addr×Obj)) (s:Shared) (σ:St) (H:Hp) (Q:VK),Inv X pins σ H s→t σ H Q→wpAny (model X.prog X.w) X.A (eval e X.env) (EP X pins σ Q) X.xe s
def PT (X:Cx)(e:Expr)(t:TT):Prop :=
 ∀(pins:List (Addr×Obj)) (s:Shared) (σ:St) (H:Hp) (Q:Bool→Hp→Prop),Inv X pins σ H s→t σ H Q→wpAny (model X.prog X.w) X.A (isTrue e X.env (eval e X.env)) (TP X pins σ Q) X.xe s
def PW (X:Cx)(e:Expr)(t:TT):Prop :=
 ∀(whole:Sem Value) (pins:List (Addr×Obj)) (s:Shared) (σ:St) (H:Hp) (Q:Bool→Hp→Prop),Inv X pins σ H s→t σ H Q→wpAny (model X.prog X.w) X.A (isTrue e X.env whole) (TP X pins σ Q) X.xe s
theorem PW.pt {X:Cx}{e:Expr}{t:TT}(h:PW X e t):PT X e t:=h _
def PA (X:Cx)(es:List Expr)(t:TA):Prop :=
 ∀(pos:Pos) (pins:List (Addr×Obj)) (s:Shared) (σ:St) (H:Hp) (Q:List V→Hp→Prop),Inv X pins σ H s→t σ H Q→wpAny (model X.prog X.w) X.A (spliced (backTo pos (starEach es X.env))) (AP X pins σ Q) X.xe s
def PS (X:Cx)(st:Stmt)(t:TS):Prop :=
 ∀(pins:List (Addr×Obj)) (s:Shared) (σ:St) (H:Hp) (D:Ends),Inv X pins σ H s→t D σ H→wpAny (model X.prog X.w) X.A (exec st X.env) (SP X pins D) X.xe s
def PSs (X:Cx)(st:List Stmt)(t:TS):Prop :=
 ∀(pins:List (Addr×Obj)) (s:Shared) (σ:St) (H:Hp) (D:Ends),Inv X pins σ H s→t D σ H→wpAny (model X.prog X.w) X.A (execs st X.env) (SP X pins D) X.xe s
theorem thn {α:Type}{t:Sem α}{Q Q':α→Shared→Prop}{M:Model}{A:Around}{E:Value→Shared→Prop}{s:Shared}(h:wpAny M A t Q E s)(hQ:∀a s,Q a s→Q' a s):wpAny M A t Q' E s:=wpAny_mono h hQ fun _ _ x=>x
end L2
namespace L2
open PySem PySem.Spec PyProof.Rows
section
variable {X:Cx}
theorem bin {a b:Expr}{ta tb:TE}(ha:PE X a ta)(hb:PE X b tb){pins:List (Addr×Obj)}{s:Shared}{σ:St}{H:Hp}{R:V→V→Hp→Prop}(I:Inv X pins σ H s)(h:ta σ H fun x H1=>tb σ H1 fun y H2=>R x y H2)
   {α:Type} {Q:α→Shared→Prop} {f:Value→Value→Sem α}
   (hf:∀v u s2 x y H2,Inv X pins σ H2 s2→RelV x v→RelV y u→R x y H2→wpAny (model X.prog X.w) X.A (f v u) Q X.xe s2) :
   wpAny (model X.prog X.w) X.A (eval a X.env) (fun v s₁=>wpAny (model X.prog X.w) X.A (eval b X.env) (fun u s₂=>wpAny (model X.prog X.w) X.A (f v u) Q X.xe s₂) X.xe s₁) X.xe s:=by
 refine thn (ha pins s σ H _ I h) fun v s1 ⟨x,H1,I1,r1,q1⟩=>?_
 refine thn (hb pins s1 σ H1 _ I1 q1) fun u s2 ⟨y,H2,I2,r2,q2⟩=>?_
 exact hf v u s2 x y H2 I2 r1 r2 q2
def tVar (i:Nat):TE:=fun σ H Q=>∃v,σ[i]?=some (some v)∧Q v H
def tC (v:V):TE:=fun _ H Q=>Q v H
theorem pe_var {i:Nat}{x:Str}{pos:Pos}(hN:X.N[i]?=some x)(hv:Vis X.env.scope x)(hd:(x==("__debug__":Str))=false:=by decide)(hcd:(x==("__classdict__":Str))=false:=by decide):PE X (.Name x pos) (tVar i):=by
 intro pins s σ H Q I h
 obtain⟨v,e,h⟩:=h
 obtain⟨m,hn,hl⟩:=I.loc
 obtain⟨u,r,l⟩:=hl i x v hN e hv
 have fin:EP X pins σ Q u s:=⟨v,H,I,r,h⟩
 rcases l with ⟨hk,hm⟩ | ⟨hk,c,hc,hcell⟩
 · exact wpAny_Name (wpAny_loadName_local I.ok.kind hk hn hm fin) hd
 · rcases hk with hk | hk
   · exact wpAny_Name (wpAny_loadName_cell I.ok.kind hk hc hcell fin) hd
   · exact wpAny_Name (wpAny_loadName_free I.ok.kind hk hc hcell fin hcd) hd
theorem pe_int {i j pos}:PE X (.Constant (.int i) j pos) (tC (.int i)):=fun _ _ _ H _ I h=>wpAny_Constant_int ⟨.int i,H,I.tok _,⟨_,rfl⟩,h⟩
theorem pe_bl {b j pos}:PE X (.Constant (.bool b) j pos) (tC (.bl b)):=fun _ _ _ H _ I h=>Constant_bool ⟨.bl b,H,I,rfl,h⟩
theorem pe_non {j pos}:PE X (.Constant .none j pos) (tC .non):=fun _ _ _ H _ I h=>Constant_none ⟨.non,H,I,rfl,h⟩
theorem pe_str {x j pos}:PE X (.Constant (.str x) j pos) (tC (.str x)):=fun _ _ _ H _ I h=>Calls.Constant_str ⟨.str x,H,I.tok _,⟨_,rfl⟩,h⟩
def Gl (X:Cx)(x:Str):Prop:=X.env.kindOf x=some .globalImplicit
theorem ld_glob {E:Value→Shared→Prop}{pins:List (Addr×Obj)}{s:Shared}{σ:St}{H:Hp}{x:Str}{u:Value}{pos:Pos}{Q:Value→Shared→Prop}(I:Inv X pins σ H s)(hg:Gl X x)(hm:X.mg x=some u)(h:Q u s)
   (hd:(x==("__debug__":Str))=false:=by decide):wpAny (model X.prog X.w) X.A (eval (.Name x pos) X.env) Q E s :=
 Calls.Name_function_global I.ok.kind hg (Calls.loadGlobal_global (by rw[I.ok.glob];exact I.mod.glob.keeps I.bk) hm h) hd
theorem ld_blt {E:Value→Shared→Prop}{pins:List (Addr×Obj)}{s:Shared}{σ:St}{H:Hp}{x:Str}{u:Value}{pos:Pos}{Q:Value→Shared→Prop}(I:Inv X pins σ H s)(hg:Gl X x)(hm:X.mg x=none)(hv:bootBuiltins x=some u)(h:Q u s)
   (hn:x≠"__name__":=by decide) (hd:(x==("__debug__":Str))=false:=by decide):wpAny (model X.prog X.w) X.A (eval (.Name x pos) X.env) Q E s:=by
 obtain⟨mb,h1,h2⟩:=I.mod.blt
 exact Calls.Name_function_global I.ok.kind hg (Calls.loadGlobal_builtin (by rw[I.ok.glob];exact I.mod.glob.keeps I.bk) hm (by rw[I.ok.blt];exact h1.keeps I.bk) ((h2 x hn).trans hv) h) hd
theorem pe_glob {x:Str}{v:V}{u:Value}{pos:Pos}(hg:Gl X x)(hm:X.mg x=some u)(r:RelV v u)(hd:(x==("__debug__":Str))=false:=by decide):PE X (.Name x pos) (tC v) :=
 fun _ _ _ H _ I h=>ld_glob I hg hm ⟨v,H,I,r,h⟩ hd
theorem pe_bltn {x:Str}{v:V}{u:Value}{pos:Pos}(hg:Gl X x)(hm:X.mg x=none)(hv:bootBuiltins x=some u)(r:RelV v u)(hn:x≠"__name__":=by decide)(hd:(x==("__debug__":Str))=false:=by decide):PE X (.Name x pos) (tC v) :=
 fun _ _ _ H _ I h=>ld_blt I hg hm hv ⟨v,H,I,r,h⟩ hn hd
variable {a b:Expr}{ta tb:TE}{pos:Pos}
def PC (X:Cx)(op:CmpOp)(a b:Expr)(t:TE):Prop :=
 ∀(pins:List (Addr×Obj)) (s:Shared) (σ:St) (H:Hp) (Q:VK),Inv X pins σ H s→t σ H Q →
   wpAny (model X.prog X.w) X.A (eval a X.env) (fun v s₁=>wpAny (model X.prog X.w) X.A (eval b X.env) (fun u s₂=>wpAny (model X.prog X.w) X.A (compareOp op v u) (EP X pins σ Q) X.xe s₂) X.xe s₁) X.xe s
theorem nobehind (b:Expr){op:CmpOp}(h:op≠.In)(h2:op≠.NotIn):behindInMarks op b=false:=by
 have e1:(op==CmpOp.In)=false:=by cases op <;> first | rfl | exact absurd rfl h
 have e2:(op==CmpOp.NotIn)=false:=by cases op <;> first | rfl | exact absurd rfl h2
 cases b <;> simp [behindInMarks,e1,e2]
def tB (t:TE):TT:=fun σ H Q=>t σ H fun x H1=>∃c,x = .bl c∧Q c H1
theorem pt_cmp {op:CmpOp}{t:TE}(h:PC X op a b t)(h1:behindInMarks op b=false:=by first | exact nobehind _ (by decide) (by decide) | rfl):PT X (.Compare a [op] [b] pos) (tB t):=by
 intro pins s σ H Q I hw
 refine wpAny_isTrue_Compare1 (thn (h pins s σ H _ I hw) fun v s1 h1=>thn h1 fun u s2 h2=>thn h2 fun c s3 ⟨x,H1,I1,r1,q1⟩=>?_) h1
 obtain⟨d,rfl,q⟩:=q1
 cases r1
 exact wpAny_truthy_bool ⟨H1,I1,q⟩
theorem pt_val {e:Expr}{t:TE}(h:PE X e t)(he:∀whole,isTrue e X.env whole=(do let v ←whole;standAt e.pos;holding [v] (truthy v)):=by intro _;rfl):PT X e (tB t):=by
 intro pins s σ H Q I hw
 refine isTrue_plain (thn (h pins s σ H _ I hw) fun v s1 ⟨x,H1,I1,r1,q1⟩=>?_) (he _)
 obtain⟨d,rfl,q⟩:=q1
 cases r1
 exact wpAny_truthy_bool ⟨H1,I1,q⟩
variable {tA tB':TT}{rest:List Expr}
def tAnd (t u:TT):TT:=fun σ H Q=>t σ H fun c H1=>if c=true then u σ H1 Q else Q false H1
def tOr (t u:TT):TT:=fun σ H Q=>t σ H fun c H1=>if c=true then Q true H1 else u σ H1 Q
def tNot (t:TT):TT:=fun σ H Q=>t σ H fun c H1=>Q (!c) H1
theorem pw_and1 (ha:PT X a tA):PW X (.BoolOp .And [a] pos) tA:=by
 intro wh pins s σ H Q I h
 refine isTrue_and (thn (ha pins s σ H Q I h) fun c s1 e=>?_)
 cases c with
 | true=>exact isTrue_and_nil e
 | false=>exact e
theorem pw_or1 (ha:PT X a tA):PW X (.BoolOp .Or [a] pos) tA:=by
 intro wh pins s σ H Q I h
 refine isTrue_or (thn (ha pins s σ H Q I h) fun c s1 e=>?_)
 cases c with
 | false=>exact isTrue_or_nil e
 | true=>exact e
theorem pw_and (ha:PT X a tA)(hb:PW X (.BoolOp .And (b::rest) pos) tB'):PW X (.BoolOp .And (a::b::rest) pos) (tAnd tA tB'):=by
 intro wh pins s σ H Q I h
 refine isTrue_and (thn (ha pins s σ H _ I h) fun c s1 ⟨H1,I1,q1⟩=>?_)
 cases c with
 | true=>exact hb wh pins s1 σ H1 Q I1 q1
 | false=>exact⟨H1,I1,q1⟩
theorem pw_or (ha:PT X a tA)(hb:PW X (.BoolOp .Or (b::rest) pos) tB'):PW X (.BoolOp .Or (a::b::rest) pos) (tOr tA tB'):=by
 intro wh pins s σ H Q I h
 refine isTrue_or (thn (ha pins s σ H _ I h) fun c s1 ⟨H1,I1,q1⟩=>?_)
 cases c with
 | true=>exact⟨H1,I1,q1⟩
 | false=>exact hb wh pins s1 σ H1 Q I1 q1
theorem pt_not (ha:PT X a tA):PT X (.UnaryOp .Not a pos) (tNot tA):=by
 intro pins s σ H Q I h
 exact isTrue_not (ha pins s σ H (fun c H1=>Q (!c) H1) I h)
def tAndV (ta tb:TE):TE:=fun σ H Q=>ta σ H fun x H1=>∃c,x = .bl c∧if c=true then tb σ H1 Q else Q (.bl false) H1
def tOrV (ta tb:TE):TE:=fun σ H Q=>ta σ H fun x H1=>∃c,x = .bl c∧if c=true then Q (.bl true) H1 else tb σ H1 Q
def tNotV (ta:TE):TE:=fun σ H Q=>ta σ H fun x H1=>∃c,x = .bl c∧Q (.bl (!c)) H1
theorem pe_one {op}{t:TE}(h:PE X a t):PE X (.BoolOp op [a] pos) t:=fun pins s σ H Q I hw=>BoolOp_one (h pins s σ H Q I hw)
theorem pe_and (ha:PE X a ta)(hb:PE X (.BoolOp .And (b::rest) pos) tb):PE X (.BoolOp .And (a::b::rest) pos) (tAndV ta tb):=by
 intro pins s σ H Q I h
 refine BoolOp_and (thn (ha pins s σ H _ I h) fun v s1 ⟨x,H1,I1,r1,q1⟩=>?_)
 obtain⟨c,rfl,q1⟩:=q1
 cases r1
 refine wpAny_truthy_bool ?_
 cases c with
 | true=>exact hb pins s1 σ H1 Q I1 q1
 | false=>exact⟨.bl false,H1,I1,rfl,q1⟩
theorem pe_or (ha:PE X a ta)(hb:PE X (.BoolOp .Or (b::rest) pos) tb):PE X (.BoolOp .Or (a::b::rest) pos) (tOrV ta tb):=by
 intro pins s σ H Q I h
 refine BoolOp_or (thn (ha pins s σ H _ I h) fun v s1 ⟨x,H1,I1,r1,q1⟩=>?_)
 obtain⟨c,rfl,q1⟩:=q1
 cases r1
 refine wpAny_truthy_bool ?_
 cases c with
 | false=>exact hb pins s1 σ H1 Q I1 q1
 | true=>exact⟨.bl true,H1,I1,rfl,q1⟩
theorem pe_not (ha:PE X a ta):PE X (.UnaryOp .Not a pos) (tNotV ta):=by
 intro pins s σ H Q I h
 refine UnaryOp_ (thn (ha pins s σ H _ I h) fun v s1 ⟨x,H1,I1,r1,q1⟩=>?_)
 obtain⟨c,rfl,q1⟩:=q1
 cases r1
 exact not_of (wpAny_truthy_bool ⟨.bl (!c),H1,I1,rfl,q1⟩)
end
end L2
namespace L2
open PySem PySem.Spec PyProof.Rows
def SqL (K:PySem.W.Frag)(H:Hp)(a:Addr)(xs:List V):Prop :=
 Rd H a (.lst xs) ∨
   ∃(o:Obj) (its:Array Value) (n:Nat),K.lookup a=some o∧o.cls = .type "list"∧o.dict=none∧o.data = .seq its n∧its.size≤sizeLine∧Vals xs its.toList
def SqT (K:PySem.W.Frag)(H:Hp)(a:Addr)(xs:List V):Prop :=
 Rd H a (.tup xs) ∨
   ∃(o:Obj) (its:Array Value) (n:Nat),K.lookup a=some o∧o.cls = .type "tuple"∧o.data = .seq its n∧its.size≤sizeLine∧Vals xs its.toList
def absV:Value→Option V
 | .none=>some .non
 | .bool b=>some (.bl b)
 | .int i _=>some (.int i)
 | .str x _=>some (.str x)
 | .bytes b _=>some (.byt b)
 | .float b _=>some (.flt b)
 | .ref a=>some (.ref a)
 | .type n=>some (.ty n)
 | _=>none
theorem RelV.abs {x:V}{u:Value}(r:RelV x u):absV u=some x:=by
 cases x with
 | non=>cases r;rfl
 | bl _=>cases r;rfl
 | int _=>obtain⟨t,rfl⟩:=r;rfl
 | str _=>obtain⟨t,rfl⟩:=r;rfl
 | byt _=>obtain⟨t,rfl⟩:=r;rfl
 | flt _=>obtain⟨t,rfl⟩:=r;rfl
 | ref _=>cases r;rfl
 | ty _=>cases r;rfl
theorem RelV.inj {x y:V}{u:Value}(r:RelV x u)(q:RelV y u):x=y:=Option.some.inj (r.abs.symm.trans q.abs)
theorem Vals.inj:∀{xs ys:List V} {us:List Value},Vals xs us→Vals ys us→xs=ys
 | _,_,_,.nil,.nil=>rfl
 | _,_,_,.cons r t,.cons r' t'=>by rw[r.inj r',Vals.inj t t']
section
variable {X:Cx}{pins:List (Addr×Obj)}{σ:St}{H:Hp}{s:Shared}{a:Addr}{xs ys:List V}
theorem SqL.of {K:PySem.W.Frag}(h:H a=some (.lst xs)):SqL K H a xs:=.inl (.inl h)
theorem SqT.of {K:PySem.W.Frag}(h:H a=some (.tup xs)):SqT K H a xs:=.inl (.inl h)
theorem Inv.list (I:Inv X pins σ H s)(h:SqL X.K H a xs):∃its:List Value,Vals xs its∧PlainL s.heap a its.toArray∧xs.length≤sizeLine:=by
 rcases h with h | ⟨o,its,n,hk,hc,hd,hs,hz,r⟩
 · obtain⟨z,its,n,r,e⟩:=h.ok I.hok
   exact⟨its,r,⟨_,n,e,rfl,rfl,rfl⟩,z⟩
 · refine⟨its.toList,r,⟨o,n,I.kIn a o hk,hc,hd,by simpa using hs⟩,?_⟩
   have e:=r.length
   simp only [Array.length_toList] at e
   omega
theorem Inv.tuple (I:Inv X pins σ H s)(h:SqT X.K H a xs):∃its:List Value,Vals xs its∧IsTup s.heap a its.toArray∧xs.length≤sizeLine:=by
 rcases h with h | ⟨o,its,n,hk,hc,hs,hz,r⟩
 · obtain⟨z,its,r,p⟩:=h.ok I.hok
   exact⟨its,r,p,z⟩
 · refine⟨its.toList,r,⟨o,I.kIn a o hk,hc,n,by simpa using hs⟩,?_⟩
   have e:=r.length
   simp only [Array.length_toList] at e
   omega
theorem Inv.list_inj (I:Inv X pins σ H s)(h:SqL X.K H a xs)(h':SqL X.K H a ys):xs=ys:=by
 obtain⟨its,r,⟨o,n,e,_,_,d⟩,_⟩:=I.list h
 obtain⟨its',r',⟨o',n',e',_,_,d'⟩,_⟩:=I.list h'
 rw[e] at e';cases e'
 rw[d] at d'
 injection d' with d1 _
 have:its=its':=by simpa using congrArg Array.toList d1
 subst this
 exact r.inj r'
end
abbrev Cx.wish (X:Cx)(E:Value→Shared→Prop):Cx:={ X with xe:=E }
abbrev Cx.nox (X:Cx):Cx:=X.wish fun _ _=>False
theorem Cx.Ok.wish {X:Cx}(ok:X.Ok)(E:Value→Shared→Prop):(X.wish E).Ok :=
 ⟨ok.mod,ok.kind,ok.glob,ok.blt,ok.above,ok.inj,ok.has,ok.cab,ok.hd,ok.frames,ok.stk,ok.exf,ok.bs,ok.bsz,ok.noex,ok.exfs,ok.funs,ok.frf⟩
theorem Cx.Ok.unwish {X:Cx}{E:Value→Shared→Prop}(ok:(X.wish E).Ok):X.Ok :=
 ⟨ok.mod,ok.kind,ok.glob,ok.blt,ok.above,ok.inj,ok.has,ok.cab,ok.hd,ok.frames,ok.stk,ok.exf,ok.bs,ok.bsz,ok.noex,ok.exfs,ok.funs,ok.frf⟩
section
variable {X:Cx}{pins:List (Addr×Obj)}{σ:St}{H:Hp}{s:Shared}{E:Value→Shared→Prop}
theorem Inv.wish (I:Inv X pins σ H s)(E:Value→Shared→Prop):Inv (X.wish E) pins σ H s:=⟨I.ok.wish E,I.os,I.bare,I.base,I.loc,I.cell,I.free,I.freeC,I.pin,I.hok,I.len⟩
theorem Inv.unwish (I:Inv (X.wish E) pins σ H s):Inv X pins σ H s:=⟨I.ok.unwish,I.os,I.bare,I.base,I.loc,I.cell,I.free,I.freeC,I.pin,I.hok,I.len⟩
theorem SP.unwish {D:Ends}{f:Flow}{s':Shared}(h:SP (X.wish E) pins D f s'):SP X pins D f s':=by
 cases f with
 | next=>obtain⟨σ',H',I,q⟩:=h;exact⟨σ',H',I.unwish,q⟩
 | brk=>obtain⟨σ',H',I,q⟩:=h;exact⟨σ',H',I.unwish,q⟩
 | cont=>obtain⟨σ',H',I,q⟩:=h;exact⟨σ',H',I.unwish,q⟩
 | ret u=>obtain⟨v,σ',H',I,r,q⟩:=h;exact⟨v,σ',H',I.unwish,r,q⟩
theorem PE.nox {e:Expr}{t:TE}(h:PE X.nox e t):PE X e t:=fun pins s σ H Q I hw =>
 wpAny_mono (h pins s σ H Q (I.wish _) hw) (fun _ _ ⟨v,H',I',r,q⟩=>⟨v,H',I'.unwish,r,q⟩) fun _ _ z=>False.elim z
theorem PT.nox {e:Expr}{t:TT}(h:PT X.nox e t):PT X e t:=fun pins s σ H Q I hw =>
 wpAny_mono (h pins s σ H Q (I.wish _) hw) (fun _ _ ⟨H',I',q⟩=>⟨H',I'.unwish,q⟩) fun _ _ z=>False.elim z
theorem PSs.nox {st:List Stmt}{t:TS}(h:PSs X.nox st t):PSs X st t:=fun pins s σ H D I hw =>
 wpAny_mono (h pins s σ H D (I.wish _) hw) (fun _ _ q=>q.unwish) fun _ _ z=>False.elim z
end
section
variable {X:Cx}{st:Stmt}{rest:List Stmt}{t u:TS}{e:Expr}{te:TE}{pos:Pos}
def tNext:TS:=fun D σ H=>D.nx σ H
def tSeq (t u:TS):TS:=fun D σ H=>t { D with nx:=u D } σ H
theorem pss_nil:PSs X [] tNext:=fun _ _ σ H _ I h=>wpAny_execs_nil ⟨σ,H,I,h⟩
theorem pss_cons (h1:PS X st t)(h2:PSs X rest u):PSs X (st::rest) (tSeq t u):=by
 intro pins s σ H D I h
 refine wpAny_execs_cons (thn (h1 pins s σ H { D with nx:=u D } I h) fun f s1 q=>?_)
 cases f with
 | next =>
   obtain⟨σ',H',I',q⟩:=q
   exact h2 pins s1 σ' H' D I' q
 | ret v=>exact q
 | brk=>exact q
 | cont=>exact q
theorem pss_one (h1:PS X st t):PSs X [st] t:=by
 intro pins s σ H D I h
 refine wpAny_execs_cons (thn (h1 pins s σ H D I h) fun f s1 q=>?_)
 cases f with
 | next=>exact wpAny_execs_nil q
 | ret v=>exact q
 | brk=>exact q
 | cont=>exact q
theorem Inv.quiet {pins:List (Addr×Obj)}{σ:St}{H:Hp}{s:Shared}(I:Inv X pins σ H s):interactive X.env=false:=by simp [interactive,I.ok.kind]
def tDrop (te:TE):TS:=fun D σ H=>te σ H fun _ H1=>D.nx σ H1
theorem ps_expr (he:PE X e te)(hs:swapsWith e none pos.line X.env=pure false:=by rfl):PS X (.Expr e pos) (tDrop te):=by
 intro pins s σ H D I h
 exact wpAny_Expr_any (thn (he pins s σ H _ I h) fun v s1 ⟨x,H1,I1,r1,q1⟩=>⟨σ,H1,I1,q1⟩) I.quiet hs
def tRet (te:TE):TS:=fun D σ H=>te σ H D.rt
theorem ps_ret (he:PE X e te):PS X (.Return (some e) pos) (tRet te):=by
 intro pins s σ H D I h
 exact wpAny_Return_some (thn (he pins s σ H _ I h) fun v s1 ⟨x,H1,I1,r1,q1⟩=>⟨x,σ,H1,I1,r1,q1⟩)
def tIfS (c:TT)(t u:TS):TS:=fun D σ H=>c σ H fun b H1=>if b=true then t D σ H1 else u D σ H1
theorem ps_if {c:Expr}{a b:List Stmt}{tc:TT}(hc:PT X c tc)(ha:PSs X a t)(hb:PSs X b u):PS X (.If c a b pos) (tIfS tc t u):=by
 intro pins s σ H D I h
 refine wpAny_If (thn (hc pins s σ H _ I h) fun d s1 ⟨H1,I1,q1⟩=>?_)
 cases d with
 | true=>exact ha pins s1 σ H1 D I1 q1
 | false=>exact hb pins s1 σ H1 D I1 q1
def tNever:TS:=fun _ _ _=>False
theorem ps_never:PS X st tNever:=fun _ _ _ _ _ _ h=>h.elim
end
abbrev TG:=V→St→Hp→(St→Hp→Prop)→Prop
abbrev TGs:=List V→St→Hp→(St→Hp→Prop)→Prop
def PG (X:Cx)(target:Expr)(t:TG):Prop :=
 ∀(pins:List (Addr×Obj)) (s:Shared) (σ:St) (H:Hp) (v:V) (u:Value) (Q:St→Hp→Prop),Inv X pins σ H s→RelV v u→t v σ H Q →
   wpAny (model X.prog X.w) X.A (assign target X.env u) (fun _ s'=>∃σ' H',Inv X pins σ' H' s'∧Q σ' H') X.xe s
def PGs (X:Cx)(ts:List Expr)(t:TGs):Prop :=
 ∀(pins:List (Addr×Obj)) (s:Shared) (σ:St) (H:Hp) (vs:List V) (us:List Value) (Q:St→Hp→Prop),Inv X pins σ H s→Vals vs us→t vs σ H Q →
   wpAny (model X.prog X.w) X.A (assignInOrder ((assignEach ts X.env).map (·.2)) us) (fun _ s'=>∃σ' H',Inv X pins σ' H' s'∧Q σ' H') X.xe s
abbrev TSet:=V→V→V→Hp→(Hp→Prop)→Prop
def PSet (X:Cx)(t:TSet):Prop :=
 ∀(pins:List (Addr×Obj)) (s:Shared) (σ:St) (H:Hp) (o i v:V) (ov iv u:Value) (Q:Hp→Prop),Inv X pins σ H s→RelV o ov→RelV i iv→RelV v u→t o i v H Q →
   wpAny (model X.prog X.w) X.A (setItem ov iv u) (fun _ s'=>∃H',Inv X pins σ H' s'∧Q H') X.xe s
section
variable {X:Cx}{pos:Pos}
def gName (i:Nat):TG:=fun v σ H Q=>Q (σ.set i (some v)) H
theorem pg_name {i:Nat}{x:Str}(hN:X.N.Nodup)(hi:X.N[i]?=some x)(hx:Loc X.env.scope x)(hf:X.fn x=true∨X.env.scope.names.lookup x=some .local:=by first | exact .inl rfl | exact .inr rfl | assumption):PG X (.Name x pos) (gName i):=by
 intro pins s σ H v u Q I r h
 exact wpAny_assign_Name (store_ok I hN hi hx r (fun s' I'=>⟨_,H,I',h⟩) hf)
def gNil:TGs:=fun vs σ H Q=>vs=[]∧Q σ H
def gCons (t:TG)(u:TGs):TGs:=fun vs σ H Q=>∃v r,vs=v::r∧t v σ H fun σ' H'=>u r σ' H' Q
theorem pgs_nil:PGs X [] gNil:=by
 intro pins s σ H vs us Q I r h
 obtain⟨e,h⟩:=h
 subst e
 cases r
 exact assignInOrder_nil ⟨σ,H,I,h⟩
theorem pgs_cons {e:Expr}{es:List Expr}{t:TG}{u:TGs}(h1:PG X e t)(h2:PGs X es u)
   (hs:(assignEach (e::es) X.env).map (·.2)=assign e X.env::(assignEach es X.env).map (·.2):=by rfl):PGs X (e::es) (gCons t u):=by
 intro pins s σ H vs us Q I r h
 obtain⟨v,vr,e1,h⟩:=h
 subst e1
 cases r with
 | cons r rr =>
   rw[hs]
   refine assignInOrder_cons (thn (h1 pins s σ H _ _ _ I r h) fun _ s1 ⟨σ1,H1,I1,q1⟩=>?_)
   exact h2 pins s1 σ1 H1 _ _ Q I1 rr q1
def gTup (K:PySem.W.Frag)(n:Nat)(t:TGs):TG:=fun v σ H Q=>∃a xs,v = .ref a∧SqT K H a xs∧xs.length=n∧t xs σ H Q
theorem pg_tup {es:List Expr}{k:Nat}{t:TGs}{n:Nat}(hc:X.calm=true)(h:PGs X es t)
   (hn:(assignEach es X.env).length=n:=by rfl) (hst:(assignEach es X.env).findIdx? (·.1)=none:=by rfl):PG X (.Tuple es k pos) (gTup X.K n t):=by
 intro pins s σ H v u Q I r hw
 obtain⟨a,xs,e1,hq,hl,hw⟩:=hw
 subst e1
 cases r
 obtain⟨its,rv,ht,hz⟩:=I.tuple hq
 refine assign_Tuple_tuple (I.ok.hd hc) ht (by simp [hn,←hl,rv.length]) hst fun h' hx=>?_
 have I1:Inv X pins σ H { s with heap:=h' }:=I.kept (t':=s.toks) fun b o e=>hx b o (Nat.ne_of_lt (Heap.lt_size e)) e
 exact h pins _ σ H xs _ Q I1 (by simpa using rv) hw
def gSub (to ti:TE)(t:TSet):TG:=fun v σ H Q=>to σ H fun o H1=>ti σ H1 fun i H2=>t o i v H2 fun H3=>Q σ H3
theorem pg_sub {o i:Expr}{to ti:TE}{t:TSet}(ho:PE X o to)(hi:PE X i ti)(hs:PSet X t)
   (ha:∀v,assign (.Subscript o i pos) X.env v=(do
     let ov ←holding [v] (eval o X.env)
     let iv ←holding [v,ov] (eval i X.env)
     standAt pos
     holding [v,ov,iv] (setItem ov iv v)
     release [v,ov,iv] []):=by intro _;rfl):PG X (.Subscript o i pos) (gSub to ti t):=by
 intro pins s σ H v u Q I r h
 rw[ha]
 refine wpAny_bind (wpAny_holding (thn (ho pins s σ H _ I h) fun ov s1 ⟨x,H1,I1,r1,q1⟩=>?_))
 refine wpAny_bind (wpAny_holding (thn (hi pins s1 σ H1 _ I1 q1) fun iv s2 ⟨y,H2,I2,r2,q2⟩=>?_))
 refine wpAny_bind (wpAny_standAt (wpAny_bind (wpAny_holding (thn (hs pins s2 σ H2 x y v ov iv u _ I2 r1 r2 r q2) fun _ s3 ⟨H3,I3,q3⟩=>?_))))
 exact wpAny_release ⟨σ,H3,I3,q3⟩
def tAsg (te:TE)(g:TG):TS:=fun D σ H=>te σ H fun x H1=>g x σ H1 D.nx
theorem ps_asg {tg e:Expr}{te:TE}{g:TG}(he:PE X e te)(hg:PG X tg g)(hs:swapsWithSole [tg] e pos.line X.env=pure false:=by rfl)(hw:swappedStores [tg] e X.env=pure none:=by rfl)
   (h1:(assignEach [tg] X.env).map (·.2)=[assign tg X.env]:=by rfl):PS X (.Assign [tg] e pos) (tAsg te g):=by
 intro pins s σ H D I h
 refine wpAny_Assign_stores (thn (he pins s σ H _ I h) fun v s1 ⟨x,H1,I1,r1,q1⟩=>?_) hs hw
 rw[h1]
 exact thn (hg pins s1 σ H1 x v _ I1 r1 q1) fun _ s2 q=>q
theorem ps_set {i:Nat}{x:Str}{e:Expr}{te:TE}{pos':Pos}(hN:X.N.Nodup)(hi:X.N[i]?=some x)(hx:Loc X.env.scope x)(he:PE X e te)(hs:swapsWith e (some (.Name x pos')) pos.line X.env=pure false:=by rfl)(hf:X.fn x=true∨X.env.scope.names.lookup x=some .local:=by first | exact .inl rfl | exact .inr rfl | assumption) :
   PS X (.Assign [.Name x pos'] e pos) (tAsg te (gName i)):=by
 intro pins s σ H D I h
 refine wpAny_Assign_Name (thn (he pins s σ H _ I h) fun v s1 ⟨y,H1,I1,r1,q1⟩=>?_) hs
 exact store_ok I1 hN hi hx r1 (fun s2 I2=>⟨_,H1,I2,q1⟩) hf
end
section
variable {X:Cx}{pos:Pos}
def tWhile (c:TT)(tb:TS):TS:=fun D σ H=>∃W:Nat→St→Hp→Prop,(∃m,W m σ H)∧∀m σ H,W m σ H →
 c σ H fun b H1=>if b=true then ∃N:St→Hp→Prop,(∀σ' H',N σ' H'→∃m',m'<m∧W m' σ' H')∧tb { D with nx:=N,ct:=N,bk:=D.nx } σ H1 else D.nx σ H1
theorem ps_while {c:Expr}{body:List Stmt}{tc:TT}{tb:TS}(hp:PassesOwn (model X.prog X.w) X.A X.env X.xe)(hc:PT X c tc)(hb:PSs X body tb):PS X (.While c body [] pos) (tWhile tc tb):=by
 intro pins s σ H D I h
 obtain⟨W,⟨m0,w0⟩,turn⟩:=h
 refine wpAny_While (codeAny_whileLoop (fun n s'=>∃σ' H',Inv X pins σ' H' s'∧W n σ' H') ?_ m0 ⟨σ,H,I,w0⟩)
 rintro n s1 ⟨σ1,H1,I1,w1⟩
 refine wpAny_passesOwn hp (thn (hc pins s1 σ1 H1 _ I1 (turn n σ1 H1 w1)) fun b s2 ⟨H2,I2,q2⟩=>?_)
 cases b with
 | true =>
   obtain⟨N,hN,q2⟩:=q2
   rw[if_pos rfl]
   refine wpAny_passesOwn hp (thn (hb pins s2 σ1 H2 _ I2 q2) fun f s3 q3=>?_)
   cases f with
   | next =>
     obtain⟨σ3,H3,I3,n3⟩:=q3
     obtain⟨m',hm,w3⟩:=hN σ3 H3 n3
     exact⟨m',hm,σ3,H3,I3,w3⟩
   | cont =>
     obtain⟨σ3,H3,I3,n3⟩:=q3
     obtain⟨m',hm,w3⟩:=hN σ3 H3 n3
     exact⟨m',hm,σ3,H3,I3,w3⟩
   | brk=>exact q3
   | ret v=>exact q3
 | false =>
   rw[if_neg Bool.false_ne_true]
   exact wpAny_execs_nil ⟨σ1,H2,I2,q2⟩
end
structure It where
 go:Nat→Hp→Prop
 yld:Nat→Hp→V→Hp→Prop
 stop:Nat→Hp→Prop
def FpOk (X:Cx)(pins:List (Addr×Obj))(H:Hp)(b:Addr):Prop :=
 H b=none∧b≠X.env.locals∧b ∉ X.fs∧(b∈X.ex∨X.s₀.heap.objs.size≤b)∧(∀x c,X.env.cells.lookup x=some c→c≠b)∧∀p∈X.pn++pins,p.1≠b
theorem Inv.fpOk {X:Cx}{pins:List (Addr×Obj)}{σ:St}{H H':Hp}{s:Shared}{b:Addr}(I:Inv X pins σ H s)(hb:s.heap.objs.size≤b)(hn:H' b=none):FpOk X pins H' b:=by
 refine⟨hn,Nat.ne_of_gt (Nat.lt_of_lt_of_le I.lt hb),I.nofs hb,.inr (Nat.le_trans I.sz hb),fun x c e z=>?_,fun p hp z=>?_⟩
 · obtain⟨v,q⟩:=I.cell x c e
   exact absurd (Nat.lt_of_lt_of_le q.lt (by rw[z];exact hb)) (Nat.lt_irrefl _)
 · exact absurd (Nat.lt_of_lt_of_le (Heap.lt_size (I.pin p hp).1) (by rw[z];exact hb)) (Nat.lt_irrefl _)
structure Turn (P:Program)(w:World)(K:PySem.W.Frag)(tg:Expr)(J:It)(fp:List Addr)(it:Addr)(tn:Nat→Heap→Prop):Prop where
 mem:it∈fp
 obj:∀i h,tn i h→∀b∈fp,∃o,h.get? b=some o∧∀v,o.data≠.cell v
 keep:∀i h h',tn i h→(∀b∈fp,∀o,h.get? b=some o→h'.get? b=some o)→tn i h'
 item:∀(X:Cx),X.prog=P→X.w=w→X.K=K→X.calm=true→∀(i:Nat) (pins:List (Addr×Obj)) (s:Shared) (σ:St) (H:Hp) (E:Value→Shared→Prop),Inv X pins σ H s→(∀b∈fp,FpOk X pins H b)→tn i s.heap→J.go i H →
   wpAny (model P w) X.A (pyNext (.ref it)) (fun r s1=>∃u,r=some u ∧
     wpAny (model P w) X.A (letOwnedTupleGo tg (.ref it) u) (fun _ s2=>∃x H',Inv X pins σ H' s2∧RelV x u∧J.yld i H x H'∧tn (i+1) s2.heap∧∀b∈fp,H' b=none) E s1) E s
 done:∀(X:Cx),X.prog=P→X.w=w→X.K=K→X.calm=true→∀(i:Nat) (pins:List (Addr×Obj)) (s:Shared) (σ:St) (H:Hp) (E:Value→Shared→Prop),Inv X pins σ H s→(∀b∈fp,FpOk X pins H b)→tn i s.heap→J.stop i H →
   wpAny (model P w) X.A (pyNext (.ref it)) (fun r s1=>r=none∧Inv X pins σ H s1) E s
 self:∀(A:Around) (i:Nat) (s:Shared) (Q:Value→Shared→Prop) (E:Value→Shared→Prop),tn i s.heap→Q (.ref it) s→wpAny (model P w) A (pyIter (.ref it)) Q E s
abbrev TI:=St→Hp→(It→Hp→Prop)→Prop
def PIE (X:Cx)(pins:List (Addr×Obj))(σ:St)(tg:Expr)(R:It→Hp→Prop)(itv:Value)(s2:Shared):Prop :=
 ∃(it:Addr) (fp:List Addr) (tn:Nat→Heap→Prop) (J:It) (H':Hp),itv = .ref it∧Inv X pins σ H' s2∧Turn X.prog X.w X.K tg J fp it tn∧tn 0 s2.heap∧(∀b∈fp,FpOk X pins H' b)∧R J H'
def PI (X:Cx)(tg iter:Expr)(wi:TI):Prop :=
 ∀(pins:List (Addr×Obj)) (s:Shared) (σ:St) (H:Hp) (R:It→Hp→Prop),Inv X pins σ H s→wi σ H R →
   wpAny (model X.prog X.w) X.A (eval iter X.env) (fun v s1=>wpAny (model X.prog X.w) X.A (pyIter v) (PIE X pins σ tg R) X.xe s1) X.xe s
theorem go_of {M:Model}{A:Around}{E:Value→Shared→Prop}{s:Shared}{tg:Expr}{it:Addr}{u:Value}{o:Obj}{n:String}{vs:Array Value}{Q:Unit→Shared→Prop}(ho:s.heap.get? it=some o)(hc:o.cls = .type n)(hd:o.data = .fields vs)
   (hn:["enumerate","zip","dict_itemiterator","dict_reverseitemiterator","odict_iterator","itertools.zip_longest","itertools.pairwise"].contains n=false) (hQ:Q () s):wpAny M A (letOwnedTupleGo tg (.ref it) u) Q E s:=by
 unfold letOwnedTupleGo
 cases tg <;> first
   | exact wpAny_pure hQ
   | (cases u <;> first
       | exact wpAny_pure hQ
       | (refine wpAny_bind (wpAny_load ho ?_)
          rw[hc,hd]
          show wpAny M A (if (["enumerate","zip","dict_itemiterator","dict_reverseitemiterator","odict_iterator","itertools.zip_longest","itertools.pairwise"].contains n&&vs[0]?==some (rawInt _))=true then _ else _) Q E s
          rw[if_neg (by intro h;rw[hn,Bool.false_and] at h;cases h)]
          exact wpAny_pure hQ))
def Itl (K:PySem.W.Frag)(a:Addr):It :=
 ⟨fun i H=>∃xs x,SqL K H a xs∧xs[i]?=some x,fun i H x H'=>H'=H∧∀xs,SqL K H a xs→xs[i]?=some x,fun i H=>∃xs,SqL K H a xs∧xs.length≤i⟩
theorem turn_list {P:Program}{w:World}{K:PySem.W.Frag}{tg:Expr}(a it:Addr):Turn P w K tg (Itl K a) [it] it (fun i h=>h.IsListIter it a i) where
 mem:=by simp
 obj:=fun i h st b hb=>by
   have e:b=it:=by simpa using hb
   subst e
   obtain⟨o,e,c,d⟩:=st
   exact⟨o,e,fun v z=>by rw[d] at z;cases z⟩
 keep:=fun i h h' st k=>st.at fun o e=>k it (by simp) o e
 item:=by
   intro X hP hw hK hc i pins s σ H E I hf st hg
   subst hP hw hK
   obtain⟨xs,x,hq,hx⟩:=hg
   obtain⟨its,rv,p,hz⟩:=I.list hq
   obtain⟨u,hu,ru⟩:=rv.get hx
   obtain⟨f0,f1,f2,f3,f4,f5⟩:=hf it (by simp)
   refine wpAny_pyNext_list_item st p.isList (x:=u) (by simpa using hu) fun h' st' sb=>?_
   have I1:Inv X pins σ H { s with heap:=h' }:=I.turned (t':=s.toks) (fun b o hb e=>(sb.2 b hb).trans e) f0 f1 f3 f4 f5
   obtain⟨o,e,c,d⟩:=id st'
   exact⟨u,rfl,go_of (s:={ s with heap:=h' }) e c d (by decide) ⟨x,H,I1,ru,⟨rfl,fun ys hy=>by rw[I.list_inj hy hq];exact hx⟩,st',fun b hb=>(hf b hb).1⟩⟩
 done:=by
   intro X hP hw hK hc i pins s σ H E I hf st hg
   subst hP hw hK
   obtain⟨xs,hq,hx⟩:=hg
   obtain⟨its,rv,p,hz⟩:=I.list hq
   obtain⟨f0,f1,f2,f3,f4,f5⟩:=hf it (by simp)
   have hl:=rv.length
   exact wpAny_pyNext_list_end (I.ok.hd hc) st p.isList (by simp;omega) fun h' eb=>⟨rfl,I.turned (t':=s.toks) (fun b o hb e=>eb b o hb e) f0 f1 f3 f4 f5⟩
 self:=fun _ _ _ _ _ st h=>wpAny_pyIter_listiter st h
end L2
namespace L2
open PySem PySem.Spec PyProof.Rows
section
variable {X:Cx}{tg:Expr}
def iList (K:PySem.W.Frag)(tl:TE):TI:=fun σ H R=>tl σ H fun x H1=>∃a,x = .ref a∧(∃xs,SqL K H1 a xs)∧R (Itl K a) H1
theorem pi_list {l:Expr}{tl:TE}(hl:PE X l tl):PI X tg l (iList X.K tl):=by
 intro pins s σ H R I h
 refine thn (hl pins s σ H _ I h) fun v s1 ⟨x,H1,I1,r1,q1⟩=>?_
 obtain⟨a,e,⟨xs,hq⟩,q⟩:=q1
 subst e
 cases r1
 obtain⟨its,rv,p,hz⟩:=I1.list hq
 refine wpAny_pyIter_list p.isList ?_
 refine⟨s1.heap.objs.size,[s1.heap.objs.size],_,_,H1,rfl,I1.kept (t':=s1.toks) fun b o e=>Heap.get?_push_of_some _ e,turn_list a _,⟨_,Heap.get?_push_size _ rfl,rfl,rfl⟩,fun b hb=>?_,q⟩
 have e:b=s1.heap.objs.size:=by simpa using hb
 subst e
 exact I1.fpOk (Nat.le_refl _) (I1.hok.fresh (Nat.le_refl _))
def tFor (wi:TI)(g:TG)(tb:TS):TS:=fun D σ H=>wi σ H fun J H1=>∃W:Nat→Nat→St→Hp→Prop,(∃m,W 0 m σ H1)∧∀i m σ H,W i m σ H →
 (J.stop i H∧D.nx σ H)∨(J.go i H∧∃N:St→Hp→Prop,(∀σ' H',N σ' H'→∃m',m'<m∧W (i+1) m' σ' H')∧∀x H',J.yld i H x H'→g x σ H' fun σ2 H2=>tb { D with nx:=N,ct:=N,bk:=D.nx } σ2 H2)
def pinsAt (fp:List Addr)(h:Heap):List (Addr×Obj):=fp.filterMap fun b=>(h.get? b).map fun o=>(b,o)
theorem mem_pinsAt {fp:List Addr}{h:Heap}{b:Addr}{o:Obj}(hb:b∈fp)(e:h.get? b=some o):(b,o)∈pinsAt fp h:=List.mem_filterMap.mpr ⟨b,hb,by rw[e];rfl⟩
theorem of_pinsAt {fp:List Addr}{h:Heap}{p:Addr×Obj}(hp:p∈pinsAt fp h):p.1∈fp∧h.get? p.1=some p.2:=by
 obtain⟨b,hb,e⟩:=List.mem_filterMap.mp hp
 cases q:h.get? b with
 | none=>rw[q] at e;cases e
 | some o =>
   rw[q] at e
   have e':(b,o)=p:=Option.some.inj e
   subst e'
   exact⟨hb,q⟩
theorem Inv.pinned {pins:List (Addr×Obj)}{σ:St}{H:Hp}{s:Shared}{fp:List Addr}(I:Inv X pins σ H s)(hf:∀b∈fp,FpOk X pins H b)(ho:∀b∈fp,∃o,s.heap.get? b=some o∧∀v,o.data≠.cell v):Inv X (pins++pinsAt fp s.heap) σ H s :=
 I.pins_of fun p hp=>(List.mem_append.mp hp).elim (fun z=>I.pin p (List.mem_append_right _ z)) fun z=>by
   obtain⟨hb,e⟩:=of_pinsAt z
   obtain⟨f0,f1,f2,_⟩:=hf p.1 hb
   obtain⟨o,e',d⟩:=ho p.1 hb
   rw[e] at e';cases e'
   exact⟨e,f0,f1,f2,d⟩
theorem Inv.unpinned {pins pl:List (Addr×Obj)}{σ:St}{H:Hp}{s:Shared}(I:Inv X (pins++pl) σ H s):Inv X pins σ H s:=I.pins_of fun p hp=>I.pin p (List.mem_append_right _ (List.mem_append_left _ hp))
theorem ps_for {iter:Expr}{body:List Stmt}{wi:TI}{g:TG}{tb:TS}{pos:Pos}(hp:PassesOwn (model X.prog X.w) X.A X.env X.xe)(hc:X.calm=true)(hi:PI X tg iter wi)(hg:PG X tg g)(hb:PSs X body tb)
   (hs:∀x,foldedSetIterable iter X.env x=pure x:=by intro _;rfl):PS X (.For tg iter body [] pos) (tFor wi g tb):=by
 intro pins s σ H D I h
 refine wpAny_For (thn (hi pins s σ H _ I h) fun v s1 h1=>thn h1 fun itv s2 h2=>?_) hs
 obtain⟨it,fp,tn,J,H2,e,I2,T,st2,f2,W,⟨m0,w0⟩,turn⟩:=h2
 subst e
 -- what stays true of the iterator's objects through the loop
 have stat:∀{H':Hp},(∀b∈fp,H' b=none)→∀b∈fp,FpOk X pins H' b:=fun hn b hb=>⟨hn b hb,(f2 b hb).2⟩
 refine codeAny_forLoop_any (fun n s'=>∃i σ' H',Inv X pins σ' H' s'∧tn i s'.heap∧(∀b∈fp,H' b=none)∧W i n σ' H') ?_ m0 ⟨0,σ,H2,I2,st2,fun b hb=>(f2 b hb).1,w0⟩
 rintro n s3 ⟨i,σ3,H3,I3,st3,fr3,w3⟩
 rcases turn i n σ3 H3 w3 with ⟨stop,qn⟩ | ⟨go,N,hN,step⟩
 · refine wpAny_passesOwn hp (thn (T.done X rfl rfl rfl hc i pins s3 σ3 H3 X.xe I3 (stat fr3) st3 stop) fun r s4 ⟨hr,I4⟩=>?_)
   subst hr
   exact wpAny_execs_nil ⟨σ3,H3,I4,qn⟩
 · refine wpAny_passesOwn hp (thn (T.item X rfl rfl rfl hc i pins s3 σ3 H3 X.xe I3 (stat fr3) st3 go) fun r s4 ⟨u,hr,h4⟩=>?_)
   subst hr
   refine wpAny_passesOwn hp (thn h4 fun _ s5 ⟨x,H5,I5,r5,y5,st5,fr5⟩=>?_)
   have I5':=I5.pinned (stat fr5) (T.obj _ _ st5)
   refine wpAny_passesOwn hp (thn (hg _ s5 σ3 H5 x u _ I5' r5 (step x H5 y5)) fun _ s6 ⟨σ6,H6,I6,q6⟩=>?_)
   refine wpAny_passesOwn hp (thn (hb _ s6 σ6 H6 _ I6 q6) fun f s7 q7=>?_)
   have again:∀{σ7:St} {H7:Hp},Inv X (pins++pinsAt fp s5.heap) σ7 H7 s7→N σ7 H7→∃m,m<n∧∃i σ' H',Inv X pins σ' H' s7∧tn i s7.heap∧(∀b∈fp,H' b=none)∧W i m σ' H':=fun {σ7 H7} I7 n7=>by
     obtain⟨m',hm,w7⟩:=hN σ7 H7 n7
     refine⟨m',hm,i+1,σ7,H7,I7.unpinned,T.keep _ _ _ st5 fun b hb o e=>(I7.pin (b,o) (List.mem_append_right _ (List.mem_append_right _ (mem_pinsAt hb e)))).1,fun b hb=>?_,w7⟩
     obtain⟨o,e,d⟩:=T.obj _ _ st5 b hb
     exact(I7.pin (b,o) (List.mem_append_right _ (List.mem_append_right _ (mem_pinsAt hb e)))).2.1
   cases f with
   | next=>obtain⟨σ7,H7,I7,n7⟩:=q7;exact again I7 n7
   | cont=>obtain⟨σ7,H7,I7,n7⟩:=q7;exact again I7 n7
   | brk=>obtain⟨σ7,H7,I7,q7⟩:=q7;exact⟨σ7,H7,I7.unpinned,q7⟩
   | ret v=>obtain⟨x7,σ7,H7,I7,r7,q7⟩:=q7;exact⟨x7,σ7,H7,I7.unpinned,r7,q7⟩
end
theorem for_list {K:PySem.W.Frag}{a:Addr}{xs:List V}{g:TG}{tb:TS}{D:Ends}{σ:St}{H:Hp}(Pv:Nat→St→Hp→Prop)(h0:Pv 0 σ H)(hl:∀i σ H,i≤xs.length→Pv i σ H→SqL K H a xs)
   (hs:∀i x σ H,xs[i]?=some x→Pv i σ H→g x σ H fun σ2 H2=>tb { D with nx:=Pv (i+1),ct:=Pv (i+1),bk:=D.nx } σ2 H2) (hd:∀σ H,Pv xs.length σ H→D.nx σ H) :
   ∃W:Nat→Nat→St→Hp→Prop,(∃m,W 0 m σ H)∧∀i m σ H,W i m σ H →
     ((Itl K a).stop i H∧D.nx σ H)∨((Itl K a).go i H∧∃N:St→Hp→Prop,(∀σ' H',N σ' H'→∃m',m'<m∧W (i+1) m' σ' H')∧∀x H',(Itl K a).yld i H x H'→g x σ H' fun σ2 H2=>tb { D with nx:=N,ct:=N,bk:=D.nx } σ2 H2):=by
 refine⟨fun i m σ H=>m=xs.length-i∧i≤xs.length∧Pv i σ H,⟨xs.length,by simp,Nat.zero_le _,h0⟩,?_⟩
 rintro i m σ H ⟨rfl,hi,p⟩
 have q:=hl i σ H hi p
 by_cases hlt:i<xs.length
 · refine .inr ⟨⟨xs,xs[i],q,by simp [hlt]⟩,Pv (i+1),fun σ' H' p'=>⟨xs.length-(i+1),by omega,rfl,hlt,p'⟩,fun x H' y=>?_⟩
   obtain⟨e,y⟩:=y
   subst e
   exact hs i x σ _ (y xs q) p
 · have e:i=xs.length:=by omega
   subst e
   exact .inl ⟨⟨xs,q,Nat.le_refl _⟩,hd σ H p⟩
end L2
namespace L2
open PySem PySem.Spec PyProof.Rows
abbrev R2:=V→V→Hp→VK→Prop
def OpR (X:Cx)(f:Value→Value→Sem Value)(r:R2):Prop :=
 ∀(pins:List (Addr×Obj)) (s:Shared) (σ:St) (H:Hp) (x y:V) (v u:Value) (Q:VK),Inv X pins σ H s→RelV x v→RelV y u→r x y H Q →
   wpAny (model X.prog X.w) X.A (f v u) (EP X pins σ Q) X.xe s
def CallR (X:Cx)(f:Value)(r:List V→Hp→VK→Prop):Prop :=
 ∀(pins:List (Addr×Obj)) (s:Shared) (σ:St) (H:Hp) (xs:List V) (us:List Value) (Q:VK),Inv X pins σ H s→Vals xs us→r xs H Q →
   wpAny (model X.prog X.w) X.A (call f us) (EP X pins σ Q) X.xe s
def TruR (X:Cx)(r:V→Hp→(Bool→Hp→Prop)→Prop):Prop :=
 ∀(pins:List (Addr×Obj)) (s:Shared) (σ:St) (H:Hp) (x:V) (v:Value) (Q:Bool→Hp→Prop),Inv X pins σ H s→RelV x v→r x H Q →
   wpAny (model X.prog X.w) X.A (truthy v) (TP X pins σ Q) X.xe s
def tOp (r:R2)(ta tb:TE):TE:=fun σ H Q=>ta σ H fun x H1=>tb σ H1 fun y H2=>r x y H2 Q
def rI (C:Int→Int→Prop)(g:Int→Int→V):R2:=fun x y H Q=>∃i j,x = .int i∧y = .int j∧C i j∧Q (g i j) H
def rI0 (g:Int→Int→V):R2:=fun x y H Q=>∃i j,x = .int i∧y = .int j∧Q (g i j) H
section
variable {X:Cx}{a b c:Expr}{ta tb tc:TE}{pos:Pos}
theorem binT (ha:PE X a ta)(hb:PE X b tb){pins:List (Addr×Obj)}{s:Shared}{σ:St}{H:Hp}{R:V→V→Hp→Prop}(I:Inv X pins σ H s)
   (h:ta σ H fun x H1=>tb σ H1 fun y H2=>R x y H2) {Q:Value→Shared→Prop} {f:Value→Value→Sem Value}
   (hf:∀v u s2 x y H2,Inv X pins σ H2 s2→RelV x v→RelV y u→R x y H2→wpAny (model X.prog X.w) X.A (f v u) Q X.xe s2) :
   wpAny (model X.prog X.w) X.A (eval a X.env) (fun v s₁=>wpAny (model X.prog X.w) X.A (eval b X.env) (fun u s₂=>wpAny (model X.prog X.w) X.A (f v u) Q X.xe s₂) X.xe s₁) X.xe s:=by
 refine thn (ha pins s σ H _ I h) fun v s1 ⟨x,H1,I1,r1,q1⟩=>?_
 refine thn (hb pins s1 σ H1 _ I1 q1) fun u s2 ⟨y,H2,I2,r2,q2⟩=>?_
 exact hf v u s2 x y H2 I2 r1 r2 q2
theorem pe_op {op:Operator}{r:R2}(ho:OpR X (binaryOp op) r)(ha:PE X a ta)(hb:PE X b tb):PE X (.BinOp a op b pos) (tOp r ta tb):=by
 intro pins s σ H Q I h
 exact wpAny_BinOp (binT ha hb I h fun v u s2 x y H2 I2 rx ry q=>ho pins s2 σ H2 x y v u Q I2 rx ry q)
theorem opI {f:Value→Value→Sem Value}{C:Int→Int→Prop}{g:Int→Int→Int}
   (rule:∀(i j:Int) (t u:Tok) (s:Shared) (Q:Value→Shared→Prop) (E:Value→Shared→Prop),C i j→Q (.int (g i j) s.toks) { s with toks:=s.toks+1 }→wpAny (model X.prog X.w) X.A (f (.int i t) (.int j u)) Q E s) :
   OpR X f (rI C fun i j=>.int (g i j)):=by
 intro pins s σ H x y v u Q I rx ry h
 obtain⟨i,j,rfl,rfl,hc,q⟩:=h
 obtain⟨t,rfl⟩:=rx
 obtain⟨t',rfl⟩:=ry
 exact rule i j t t' s _ _ hc ⟨.int (g i j),H,I.tok _,⟨_,rfl⟩,q⟩
theorem opI0 {f:Value→Value→Sem Value}{g:Int→Int→Int}
   (rule:∀(i j:Int) (t u:Tok) (s:Shared) (Q:Value→Shared→Prop) (E:Value→Shared→Prop),Q (.int (g i j) s.toks) { s with toks:=s.toks+1 }→wpAny (model X.prog X.w) X.A (f (.int i t) (.int j u)) Q E s) :
   OpR X f (rI0 fun i j=>.int (g i j)):=by
 intro pins s σ H x y v u Q I rx ry h
 obtain⟨i,j,rfl,rfl,q⟩:=h
 obtain⟨t,rfl⟩:=rx
 obtain⟨t',rfl⟩:=ry
 exact rule i j t t' s _ _ ⟨.int (g i j),H,I.tok _,⟨_,rfl⟩,q⟩
theorem opB0 {f:Value→Value→Sem Value}{g:Int→Int→Bool}
   (rule:∀(i j:Int) (t u:Tok) (s:Shared) (Q:Value→Shared→Prop) (E:Value→Shared→Prop),Q (.bool (g i j)) s→wpAny (model X.prog X.w) X.A (f (.int i t) (.int j u)) Q E s) :
   OpR X f (rI0 fun i j=>.bl (g i j)):=by
 intro pins s σ H x y v u Q I rx ry h
 obtain⟨i,j,rfl,rfl,q⟩:=h
 obtain⟨t,rfl⟩:=rx
 obtain⟨t',rfl⟩:=ry
 exact rule i j t t' s _ _ ⟨.bl (g i j),H,I,rfl,q⟩
def CDiv (i j:Int):Prop:=0<j∧j<1073741824
def CPow (i j:Int):Prop:=0≤j∧j≤1000000∧i.natAbs<2^64
def CMul (i j:Int):Prop:=(-(2^64)<i∧i<2^64)∨(-(2^64)<j∧j<2^64)
theorem CMul.ok {i j:Int}(h:CMul i j):IntMulOk i j:=by
 rcases h with ⟨h1,h2⟩ | ⟨h1,h2⟩
 · exact .of_left (intBits_le_64 h1 h2)
 · exact .of_right (intBits_le_64 h1 h2)
theorem two_pow_nn (k:Nat):(0:Int)≤2^k:=by
 rw[two_pow_cast]
 exact Int.natCast_nonneg _
theorem op_add:OpR X (binaryOp .Add) (rI0 fun i j=>.int (i+j)):=opI0 fun _ _ _ _ _ _ _ q=>add_int q
theorem op_sub:OpR X (binaryOp .Sub) (rI0 fun i j=>.int (i-j)):=opI0 fun _ _ _ _ _ _ _ q=>sub_int q
theorem op_mul:OpR X (binaryOp .Mult) (rI CMul fun i j=>.int (i*j)):=opI fun _ _ _ _ _ _ _ hc q=>mul_int q hc.ok
theorem op_fdiv:OpR X (binaryOp .FloorDiv) (rI CDiv fun i j=>.int (i/j)):=opI fun i j _ _ _ _ _ hc q=>by
 have h1:(0:Int)<j:=hc.1
 have h2:j<1073741824:=hc.2
 exact floordiv_int (by omega) (by rw[Int.fdiv_eq_ediv_of_nonneg i (by omega)];exact q) (.inl (PyProof.noPylong_small (by omega)))
theorem op_mod:OpR X (binaryOp .Mod) (rI (fun _ j=>0<j) fun i j=>.int (i%j)):=opI fun i j _ _ _ _ _ hc q=>by
 have h1:(0:Int)<j:=hc
 exact mod_int' (by omega) (by rw[Int.fmod_eq_emod_of_nonneg i (by omega)];exact q)
theorem op_pow:OpR X (binaryOp .Pow) (rI CPow fun i j=>.int (i^j.toNat)):=opI fun _ _ _ _ _ _ _ hc q=>pow_int_small hc.1 hc.2.1 hc.2.2 q
theorem op_shr:OpR X (binaryOp .RShift) (rI (fun _ j=>0≤j) fun i j=>.int (i/2^j.toNat)):=opI fun i j _ _ _ _ _ hc q =>
 rshift_int hc (by rw[Int.fdiv_eq_ediv_of_nonneg i (two_pow_nn _)];exact q)
theorem op_and:OpR X (binaryOp .BitAnd) (rI0 fun i j=>.int (Builtin.bitAnd i j)):=opI0 fun _ _ _ _ _ _ _ q=>and_int q
theorem op_or:OpR X (binaryOp .BitOr) (rI0 fun i j=>.int (Builtin.bitOr i j)):=opI0 fun _ _ _ _ _ _ _ q=>or_int q
theorem op_xor:OpR X (binaryOp .BitXor) (rI0 fun i j=>.int (Builtin.bitXor i j)):=opI0 fun _ _ _ _ _ _ _ q=>xor_int q
end
def scal:V→V→Bool
 | .non,.non=>true | .non,.int _=>true | .int _,.non=>true | .non,.bl _=>true | .bl _,.non=>true | .non,.str _=>true | .str _,.non=>true
 | .int _,.int _=>true | .bl _,.bl _=>true | .str _,.str _=>true | .byt _,.byt _=>true
 | .int _,.str _=>true | .str _,.int _=>true | .bl _,.str _=>true | .str _,.bl _=>true
 | _,_=>false
def rEq:R2:=fun x y H Q=>scal x y=true∧Q (.bl (decide (x=y))) H
def rNe:R2:=fun x y H Q=>scal x y=true∧Q (.bl (!decide (x=y))) H
theorem dec_int {i j:Int}:decide (V.int i=V.int j)=(i==j):=by
 rw[Bool.eq_iff_iff]
 simp
theorem dec_bl {i j:Bool}:decide (V.bl i=V.bl j)=(i==j):=by
 rw[Bool.eq_iff_iff]
 simp
theorem dec_str {i j:Str}:decide (V.str i=V.str j)=(i==j):=by
 rw[Bool.eq_iff_iff]
 simp
theorem dec_byt {i j:Array UInt8}:decide (V.byt i=V.byt j)=(i.toList==j.toList):=by
 rw[Bool.eq_iff_iff]
 cases i
 cases j
 simp
section
variable {X:Cx}{a b c:Expr}{ta tb tc:TE}{pos:Pos}
theorem fin_bl {pins:List (Addr×Obj)}{σ:St}{H:Hp}{s:Shared}{Q:VK}{k k':Bool}(I:Inv X pins σ H s)(q:Q (.bl k) H)(e:k=k'):EP X pins σ Q (.bool k') s:=by
 subst e
 exact⟨.bl k,H,I,rfl,q⟩
theorem op_eq:OpR X (compareOp .Eq) rEq:=by
 intro pins s σ H x y v u Q I rx ry h
 obtain⟨hs,q⟩:=h
 cases x with
 | non =>
   cases rx
   cases y with
   | non=>cases ry;exact PySem.EqNone.eq_none_none (fin_bl I q (by simp))
   | bl j=>cases ry;exact PySem.EqNone.eq_none_bool (fin_bl I q (by simp))
   | int j=>obtain⟨t',rfl⟩:=ry;exact PySem.EqNone.eq_none_int (fin_bl I q (by simp))
   | str j=>obtain⟨t',rfl⟩:=ry;exact PySem.EqNone.eq_none_str (fin_bl I q (by simp))
   | _=>exact absurd (show false=true from hs) Bool.false_ne_true
 | bl i =>
   cases rx
   cases y with
   | non=>cases ry;exact PySem.EqNone.eq_bool_none (fin_bl I q (by simp))
   | bl j=>cases ry;exact eq_bool (fin_bl I q dec_bl)
   | str j=>obtain⟨t',rfl⟩:=ry;exact PySem.EqMixed.eq_bool_str (fin_bl I q (by simp))
   | _=>exact absurd (show false=true from hs) Bool.false_ne_true
 | int i =>
   obtain⟨t,rfl⟩:=rx
   cases y with
   | non=>cases ry;exact PySem.EqNone.eq_int_none (fin_bl I q (by simp))
   | int j=>obtain⟨t',rfl⟩:=ry;exact eq_int (fin_bl I q dec_int)
   | str j=>obtain⟨t',rfl⟩:=ry;exact PySem.EqMixed.eq_int_str (fin_bl I q (by simp))
   | _=>exact absurd (show false=true from hs) Bool.false_ne_true
 | str i =>
   obtain⟨t,rfl⟩:=rx
   cases y with
   | non=>cases ry;exact PySem.EqNone.eq_str_none (fin_bl I q (by simp))
   | bl j=>cases ry;exact PySem.EqMixed.eq_str_bool (fin_bl I q (by simp))
   | int j=>obtain⟨t',rfl⟩:=ry;exact PySem.EqMixed.eq_str_int (fin_bl I q (by simp))
   | str j=>obtain⟨t',rfl⟩:=ry;exact eq_str (fin_bl I q dec_str)
   | _=>exact absurd (show false=true from hs) Bool.false_ne_true
 | byt i =>
   obtain⟨t,rfl⟩:=rx
   cases y with
   | byt j=>obtain⟨t',rfl⟩:=ry;exact PySem.W.eq_bytes (fin_bl I q dec_byt)
   | _=>exact absurd (show false=true from hs) Bool.false_ne_true
 | _=>cases y <;> exact absurd (show false=true from hs) Bool.false_ne_true
theorem op_ne:OpR X (compareOp .NotEq) rNe:=by
 intro pins s σ H x y v u Q I rx ry h
 obtain⟨hs,q⟩:=h
 cases x with
 | non =>
   cases rx
   cases y with
   | non=>cases ry;exact PySem.EqNone.ne_none_none (fin_bl I q (by simp))
   | bl j=>cases ry;exact PySem.EqNone.ne_none_bool (fin_bl I q (by simp))
   | int j=>obtain⟨t',rfl⟩:=ry;exact PySem.EqNone.ne_none_int (fin_bl I q (by simp))
   | str j=>obtain⟨t',rfl⟩:=ry;exact PySem.EqNone.ne_none_str (fin_bl I q (by simp))
   | _=>exact absurd (show false=true from hs) Bool.false_ne_true
 | bl i =>
   cases rx
   cases y with
   | non=>cases ry;exact PySem.EqNone.ne_bool_none (fin_bl I q (by simp))
   | bl j=>cases ry;exact ne_bool (fin_bl I q (congrArg not dec_bl))
   | str j=>obtain⟨t',rfl⟩:=ry;exact PySem.EqMixed.ne_bool_str (fin_bl I q (by simp))
   | _=>exact absurd (show false=true from hs) Bool.false_ne_true
 | int i =>
   obtain⟨t,rfl⟩:=rx
   cases y with
   | non=>cases ry;exact PySem.EqNone.ne_int_none (fin_bl I q (by simp))
   | int j=>obtain⟨t',rfl⟩:=ry;exact ne_int (fin_bl I q (congrArg not dec_int))
   | str j=>obtain⟨t',rfl⟩:=ry;exact PySem.EqMixed.ne_int_str (fin_bl I q (by simp))
   | _=>exact absurd (show false=true from hs) Bool.false_ne_true
 | str i =>
   obtain⟨t,rfl⟩:=rx
   cases y with
   | non=>cases ry;exact PySem.EqNone.ne_str_none (fin_bl I q (by simp))
   | bl j=>cases ry;exact PySem.EqMixed.ne_str_bool (fin_bl I q (by simp))
   | int j=>obtain⟨t',rfl⟩:=ry;exact PySem.EqMixed.ne_str_int (fin_bl I q (by simp))
   | str j=>obtain⟨t',rfl⟩:=ry;exact ne_str (fin_bl I q (congrArg not dec_str))
   | _=>exact absurd (show false=true from hs) Bool.false_ne_true
 | byt i =>
   obtain⟨t,rfl⟩:=rx
   cases y with
   | byt j=>obtain⟨t',rfl⟩:=ry;exact PySem.W.ne_bytes (fin_bl I q (congrArg not dec_byt))
   | _=>exact absurd (show false=true from hs) Bool.false_ne_true
 | _=>cases y <;> exact absurd (show false=true from hs) Bool.false_ne_true
theorem op_lt:OpR X (compareOp .Lt) (rI0 fun i j=>.bl (decide (i<j))):=opB0 fun _ _ _ _ _ _ _ q=>lt_int q
theorem op_le:OpR X (compareOp .LtE) (rI0 fun i j=>.bl (decide (i≤j))):=opB0 fun _ _ _ _ _ _ _ q=>le_int q
theorem op_gt:OpR X (compareOp .Gt) (rI0 fun i j=>.bl (decide (j<i))):=opB0 fun _ _ _ _ _ _ _ q=>gt_int q
theorem op_ge:OpR X (compareOp .GtE) (rI0 fun i j=>.bl (decide (j≤i))):=opB0 fun _ _ _ _ _ _ _ q=>ge_int q
theorem op_isN:OpR X (compareOp .Is) (fun x y H Q=>y = .non∧Q (.bl (decide (x = .non))) H):=by
 intro pins s σ H x y v u Q I rx ry h
 obtain⟨rfl,q⟩:=h
 cases ry
 refine is_none_gen (fin_bl I q ?_)
 cases x <;> first
   | (cases rx;rfl)
   | (obtain⟨t,rfl⟩:=rx;rfl)
theorem op_notN:OpR X (compareOp .IsNot) (fun x y H Q=>y = .non∧Q (.bl (!decide (x = .non))) H):=by
 intro pins s σ H x y v u Q I rx ry h
 obtain⟨rfl,q⟩:=h
 cases ry
 refine isnot_none_gen (fin_bl I q ?_)
 cases x <;> first
   | (cases rx;rfl)
   | (obtain⟨t,rfl⟩:=rx;rfl)
theorem nomark (b:Expr){op:CmpOp}(h:op≠.In:=by decide)(h2:op≠.NotIn:=by decide):behindInMarks op b=false:=by
 have e1:(op==CmpOp.In)=false:=by cases op <;> first | rfl | exact absurd rfl h
 have e2:(op==CmpOp.NotIn)=false:=by cases op <;> first | rfl | exact absurd rfl h2
 cases b <;> simp [behindInMarks,e1,e2]
theorem pe_cmpR {op:CmpOp}{r:R2}(ho:OpR X (compareOp op) r)(ha:PE X a ta)(hb:PE X b tb)(hm:behindInMarks op b=false):PE X (.Compare a [op] [b] pos) (tOp r ta tb):=by
 intro pins s σ H Q I h
 exact wpAny_Compare1 (binT ha hb I h fun v u s2 x y H2 I2 rx ry q=>ho pins s2 σ H2 x y v u Q I2 rx ry q) hm
def tTest (t:TE):TT:=fun σ H Q=>t σ H fun x H'=>∃k,x = .bl k∧Q k H'
theorem pt_cmpR {op:CmpOp}{r:R2}(ho:OpR X (compareOp op) r)(ha:PE X a ta)(hb:PE X b tb)(hm:behindInMarks op b=false):PT X (.Compare a [op] [b] pos) (tTest (tOp r ta tb)):=by
 intro pins s σ H Q I h
 refine wpAny_isTrue_Compare1 (thn (ha pins s σ H _ I h) fun v s1 ⟨x,H1,I1,r1,q1⟩=>thn (hb pins s1 σ H1 _ I1 q1) fun u s2 ⟨y,H2,I2,r2,q2⟩ =>
   thn (ho pins s2 σ H2 x y v u _ I2 r1 r2 q2) fun c s3 ⟨z,H3,I3,r3,k,e,q3⟩=>?_) hm
 subst e
 cases r3
 exact wpAny_truthy_bool ⟨H3,I3,q3⟩
def tChain (r r':R2)(ta tb tc:TE):TE:=fun σ H Q=>ta σ H fun x H1=>tb σ H1 fun y H2=>r x y H2 fun z H3=>∃k,z = .bl k ∧
 (if k=true then tc σ H3 fun w' H4=>r' y w' H4 Q else Q (.bl false) H3)
theorem pt_chain {op op':CmpOp}{r r':R2}(ho:OpR X (compareOp op) r)(ho':OpR X (compareOp op') r')(ha:PE X a ta)(hb:PE X b tb)(hc:PE X c tc)
   (hm:lastMarks [op,op'] [b,c]=false:=by with_unfolding_all rfl):PT X (.Compare a [op,op'] [b,c] pos) (tTest (tChain r r' ta tb tc)):=by
 intro pins s σ H Q I h
 refine isTrue_chain (thn (ha pins s σ H _ I h) fun v s1 ⟨x,H1,I1,r1,q1⟩=>test_link (thn (hb pins s1 σ H1 _ I1 q1) fun u s2 ⟨y,H2,I2,r2,q2⟩ =>
   thn (ho pins s2 σ H2 x y v u _ I2 r1 r2 q2) fun d s3 ⟨z,H3,I3,r3,k,e,q3⟩=>?_)) hm
 subst e
 cases r3
 refine wpAny_truthy_bool ?_
 cases k with
 | false =>
   obtain⟨k',e',q'⟩:=q3
   cases e'
   exact ite_ff ⟨H3,I3,q'⟩
 | true =>
   refine ite_tt (test_last (thn (hc pins s3 σ H3 _ I3 q3) fun w' s4 ⟨z',H4,I4,r4,q4⟩=>thn (ho' pins s4 σ H4 y z' u w' _ I4 r2 r4 q4) fun d' s5 ⟨z2,H5,I5,r5,k2,e2,q5⟩=>?_))
   subst e2
   cases r5
   exact wpAny_truthy_bool ⟨H5,I5,q5⟩
def TruV (K:PySem.W.Frag)(x:V)(H:Hp)(k:Bool):Prop :=
 match x with
 | .non=>k=false
 | .bl b=>k=b
 | .int i=>k=(i != 0)
 | .str y=>y.length≤sizeLine∧k=((y.length:Int) != 0)
 | .byt y=>y.size≤sizeLine∧k=((y.size:Int) != 0)
 | .ref p=>(∃xs,SqL K H p xs∧k = !xs.isEmpty)∨(∃xs,SqT K H p xs∧k = !xs.isEmpty)∨∃kvs,H p=some (.dK kvs)∧k = !kvs.isEmpty
 | _=>False
theorem isEmpty_kv {κ:Type}{kvs:List (κ×V)}{vs:List (κ×Value)}(r:KV kvs vs):(!vs.isEmpty) = !kvs.isEmpty:=by
 cases r <;> rfl
theorem isEmpty_of {xs:List V}{its:List Value}(r:Vals xs its):(!its.toArray.isEmpty) = !xs.isEmpty:=by
 cases r <;> simp
theorem line63:(sizeLine:Nat)<2^63:=by rw[sizeLine_eq];decide
theorem tru_ok:TruR X (fun x H Q=>∃k,TruV X.K x H k∧Q k H):=by
 intro pins s σ H x v Q I rx h
 obtain⟨k,e,q⟩:=h
 have hl:=line63
 have hs:sizeLine=16777216:=sizeLine_eq
 cases x with
 | non =>
   cases rx
   have e':k=false:=e
   subst e'
   exact truthy_none ⟨H,I,q⟩
 | bl b =>
   cases rx
   have e':k=b:=e
   subst e'
   exact wpAny_truthy_bool ⟨H,I,q⟩
 | int i =>
   obtain⟨t,rfl⟩:=rx
   have e':k=(i != 0):=e
   subst e'
   exact PySem.P.truthy_int ⟨H,I,q⟩
 | str y =>
   obtain⟨t,rfl⟩:=rx
   obtain⟨hy,e'⟩:y.length≤sizeLine∧k=((y.length:Int) != 0):=e
   subst e'
   exact PySem.P.truthy_str (by omega) ⟨H,I.tok _,q⟩
 | byt y =>
   obtain⟨t,rfl⟩:=rx
   obtain⟨hy,e'⟩:y.size≤sizeLine∧k=((y.size:Int) != 0):=e
   subst e'
   exact PySem.W.truthy_bytes (by omega) ⟨H,I.tok _,q⟩
 | ref p =>
   cases rx
   have e':(∃xs,SqL X.K H p xs∧k = !xs.isEmpty)∨(∃xs,SqT X.K H p xs∧k = !xs.isEmpty)∨∃kvs,H p=some (.dK kvs)∧k = !kvs.isEmpty:=e
   rcases e' with ⟨xs,hx,e'⟩ | ⟨xs,hx,e'⟩ | ⟨kvs,hx,e'⟩
   · subst e'
     obtain⟨its,r,pl,hz⟩:=I.list hx
     have hlen:=r.length
     exact wpAny_truthy_list pl.isList (by simp only [List.size_toArray];omega) ⟨H,I.tok _,by rw[isEmpty_of r];exact q⟩
   · subst e'
     obtain⟨its,r,pl,hz⟩:=I.tuple hx
     have hlen:=r.length
     exact truthy_tuple pl (by simp only [List.size_toArray];omega) ⟨H,I.tok _,by rw[isEmpty_of r];exact q⟩
   · subst e'
     obtain⟨hz,hS,vs,r,m⟩:kvs.length≤sizeLine∧(p==sysModules)=false∧∃vs,KV kvs vs∧s.heap.DictOf (mixKind X.prog X.w) p vs:=I.hok p _ hx
     have hlen:kvs.length=vs.length:=Paired.length r
     exact wpAny_truthy_dict hS m (by omega) ⟨H,I.tok _,by rw[isEmpty_kv r];exact q⟩
 | _=>exact(show False from e).elim
theorem pt_truth (ha:PE X a ta)(he:∀whole,isTrue a X.env whole=(do let v ←whole;standAt a.pos;holding [v] (truthy v))) :
   PT X a (fun σ H Q=>ta σ H fun x H'=>∃k,TruV X.K x H' k∧Q k H'):=by
 intro pins s σ H Q I h
 exact isTrue_plain (thn (ha pins s σ H _ I h) fun v s1 ⟨x,H1,I1,r1,q1⟩=>tru_ok pins s1 σ H1 x v Q I1 r1 q1) (he _)
theorem vals1 {x:V}{us:List Value}(r:Vals [x] us):∃u,us=[u]∧RelV x u:=by
 cases r with
 | cons r1 r2=>cases r2;exact⟨_,rfl,r1⟩
theorem vals2 {x y:V}{us:List Value}(r:Vals [x,y] us):∃u w',us=[u,w']∧RelV x u∧RelV y w':=by
 cases r with
 | cons r1 r2 =>
   cases r2 with
   | cons r3 r4=>cases r4;exact⟨_,_,rfl,r1,r3⟩
theorem call_min2 (hc:X.calm=true):CallR X (.builtin "min") (fun xs H Q=>∃i j,xs=[.int i,.int j]∧Q (.int (if j<i then j else i)) H):=by
 intro pins s σ H xs us Q I r h
 obtain⟨i,j,rfl,q⟩:=h
 obtain⟨u,w',rfl,⟨t,rfl⟩,⟨t',rfl⟩⟩:=vals2 r
 refine min_two_ints (I.ok.hd hc) fun h' tk k=>⟨_,H,I.kept k,?_,q⟩
 by_cases hj:j<i
 · rw[if_pos hj,if_pos hj];exact⟨_,rfl⟩
 · rw[if_neg hj,if_neg hj];exact⟨_,rfl⟩
end
end L2
namespace L2
open PySem PySem.Spec PyProof.Rows
structure ObjM (h:Heap)(x dx C:Addr)(mA:Str→Option Value):Prop where
 obj:h.get? x=some (PySem.W.instObj C dx)
 ns:h.Ns1 dx mA
 ne:dx≠x
theorem lookIn_ns {h:Heap}{dx:Addr}{mA:Str→Option Value}(n:h.Ns1 dx mA):∃od,h.get? dx=some od∧∀name,PySem.W.lookIn name od=some (mA name):=by
 obtain⟨o,es,ep,ho,hd,hk,_,hm⟩:=n
 refine⟨o,ho,fun name=>?_⟩
 have e:=hm name
 unfold nsFind findBy at e
 rw[←Array.find?_toList] at e
 unfold PySem.W.lookIn
 rw[hd]
 dsimp only
 split
 · rename_i y q
   rw[q] at e
   exact congrArg some e
 · rename_i q
   rw[q] at e
   have a:es.toList.any (·.refKey)=false:=by
     rw[List.any_eq_false]
     intro y hy
     obtain⟨z,t,hkey⟩:=hk y (Array.mem_toList_iff.mp hy)
     simp [DictEntry.refKey,hkey]
   have a':¬es.toList.any (·.refKey)=true:=by rw[a];exact Bool.false_ne_true
   rw[if_neg a']
   exact congrArg some e
theorem ObjM.look {h:Heap}{x dx C:Addr}{mA:Str→Option Value}(I:ObjM h x dx C mA):∃od,PySem.W.InstAt h x (PySem.W.instObj C dx) C (some od)∧∀name,PySem.W.lookIn name od=some (mA name) :=
 let ⟨od,ho,hl⟩:=lookIn_ns I.ns
 ⟨od,⟨I.obj,rfl,rfl,ho⟩,hl⟩
section
variable {prog:Program}{w:World}{A:Around}{E:Value→Shared→Prop}{s:Shared}{K:PySem.W.Frag}{x dx C f:Addr}{mA:Str→Option Value}{name:Str}{v:Value}
theorem get_map {expr:Bool}{Q:Value→Shared→Prop}(X:K.In s.heap)(I:ObjM s.heap x dx C mA)(hg:PySem.W.plainGet K C name=true)(hh:PySem.W.hasDictIn K C=true)
   (ha:PySem.W.findIn K (.ref C) name=some none) (hv:mA name=some v) (hv':PySem.W.handedIn v=true) (h:Q v { s with toks:=s.toks+1 }) :
   wpAny (model prog w) A (getAttr (.ref x) name expr) Q E s:=by
 obtain⟨od,J,hl⟩:=I.look
 exact PySem.W.get_value X J (PySem.W.plainGet_of hg).1 (PySem.W.findObj_own hh ha rfl (by rw[hl,hv])) hv' h
theorem get_meth {pl:Sem Bool}{Q:Value×List Value→Shared→Prop}(X:K.In s.heap)(I:ObjM s.heap x dx C mA)(hg:PySem.W.plainGet K C name=true)
   (hf:PySem.W.findIn K (.ref C) name=some (some (.ref f))) (ht:PySem.W.isFn K (.ref f)=true) (hv:mA name=none) (h:Q (.ref f,[.ref x]) s) :
   wpAny (model prog w) A (getMethod (.ref x) name pl) Q E s:=by
 obtain⟨od,J,hl⟩:=I.look
 exact PySem.W.method_fn X J (PySem.W.plainGet_of hg).1 (PySem.W.plainGet_of hg).2 hf (beq_iff_eq.mp ht) (by show (PySem.W.lookIn name od).map (·.isSome)=some false;rw[hl,hv];rfl) h
theorem set_map {ns:List Str}{Q:Unit→Shared→Prop}(X:K.In s.heap)(I:ObjM s.heap x dx C mA)
   (hs:PySem.W.findIn K (.ref C) "__setattr__"=some (some (.builtin "object.__setattr__"))) (hp:PySem.W.plainOver K C=true) (ht:PySem.W.takerIn K C name=some none) (hh:PySem.W.hasDictIn K C=true)
   (hw:PySem.Within mA ns) (hsz:ns.length≤sizeLine)
   (h:∀h',ObjM h' x dx C (fun y=>if y=name then some v else mA y)→Heap.SameBut dx s.heap h'→Q () { s with heap:=h',toks:=s.toks+2 }) :
   wpAny (model prog w) A (setAttr (.ref x) name v) Q E s:=by
 obtain⟨od,J,hl⟩:=I.look
 refine PySem.W.set_plain X J hs (PySem.W.osa_open (s:={ s with toks:=s.toks+1 }) (r:=none) X J hp ht fun b=>?_)
 obtain⟨cd,hc,hd'⟩:=PySem.W.any_some hh
 have hx:s.heap.get? x=some ⟨.ref C,some dx,.plain,#[]⟩:=I.obj
 refine wpAny_bind (wpAny_pure (wpAny_bind (wpAny_bind (wpAny_loadPart hx (wpAny_bind (PySem.W.Looks.here (s:={ s with toks:=s.toks+1 }) (PySem.W.looks_clsIn X hc) ?_))))))
 rw[hd']
 refine wpAny_pure (a:=some dx) (wpAny_bind (wpAny_pure (wpAny_bind ?_)))
 refine wpAny_nsSet1 (s:={ s with toks:=s.toks+1 }) I.ns fun h' hn2 hs2=>?_
 obtain⟨oD,esD,epD,hoD,hdD,hcD⟩:=hn2.count (PySem.Within.cons name v hw)
 refine wpAny_bind (wpAny_lookBehind hoD (by rw[hdD];exact pastItsLine_dict (Nat.le_trans hcD (by rw[List.length_cons];omega))) ?_)
 exact wpAny_pure (h _ ⟨(hs2.2 _ (Ne.symm I.ne)).trans I.obj,hn2,I.ne⟩ hs2)
theorem make_map {R:Result→Shared→Prop}{vs:List Value}{kw:List (Str×Value)}(X:K.In s.heap)(hm:PySem.W.makesIn K C=true)
   (hi:PySem.W.findIn K (.ref C) "__init__"=some (some (.ref f))) (hf:PySem.W.typeIn K (.ref f)=some (.type "function"))
   (h:codeAny (model prog w) (A.under (.builtin "type.__call__" ⟨.ref C::vs,kw⟩)) (.call (.ref f) ⟨.ref (s.heap.objs.size+1)::vs,kw⟩) (PySem.W.InitBack (s.heap.objs.size+1) R)
     { s with heap:=(s.heap.push PySem.W.emptyDict).push (PySem.W.instObj C s.heap.objs.size) }) :
   codeAny (model prog w) A (.call (.ref C) ⟨vs,kw⟩) R s:=by
 obtain⟨hh,g,d,t,os⟩:=s
 exact PySem.W.make_core (PySem.W.makes_of X hm) (PySem.W.looks_findIn X hi) (fun self=>PySem.W.bind_fn X self hf) (.inl rfl) h
end
def putF (f:Str)(v:V):List (Str×V)→List (Str×V)
 | []=>[(f,v)]
 | (g,x)::r=>if g=f then (g,v)::r else (g,x)::putF f v r
theorem lookup_putF (f g:Str)(v:V):∀fs:List (Str×V),(putF f v fs).lookup g=if g=f then some v else fs.lookup g
 | []=>by
   show List.lookup g [(f,v)]=_
   by_cases h:g=f
   · have hb:(g==f)=true:=beq_iff_eq.mpr h
     simp only [List.lookup,hb,if_pos h]
   · have hb:(g==f)=false:=beq_eq_false_iff_ne.mpr h
     simp only [List.lookup,hb,if_neg h]
 | (k,x)::r=>by
   have ih:=lookup_putF f g v r
   rw[show putF f v ((k,x)::r)=(if k=f then (k,v)::r else (k,x)::putF f v r) from rfl]
   by_cases hk:k=f
   · rw[if_pos hk]
     by_cases h:g=k
     · have hb:(g==k)=true:=beq_iff_eq.mpr h
       simp only [List.lookup,hb,if_pos (h.trans hk)]
     · have hb:(g==k)=false:=beq_eq_false_iff_ne.mpr h
       simp only [List.lookup,hb,if_neg (fun e:g=f=>h (e.trans hk.symm))]
   · rw[if_neg hk]
     by_cases h:g=k
     · have hb:(g==k)=true:=beq_iff_eq.mpr h
       simp only [List.lookup,hb,if_neg (fun e:g=f=>hk (h.symm.trans e))]
     · have hb:(g==k)=false:=beq_eq_false_iff_ne.mpr h
       simp only [List.lookup,hb]
       exact ih
theorem keys_putF (f:Str)(v:V):∀fs:List (Str×V),f∈(putF f v fs).map (·.1)∧∀g,g∈fs.map (·.1)→g∈(putF f v fs).map (·.1)
 | []=>⟨by simp [putF],fun g h=>by simp at h⟩
 | (k,x)::r=>by
   obtain⟨i1,i2⟩:=keys_putF f v r
   rw[show putF f v ((k,x)::r)=(if k=f then (k,v)::r else (k,x)::putF f v r) from rfl]
   by_cases hk:k=f
   · rw[if_pos hk]
     subst hk
     exact⟨by simp,fun g h=>by simpa using h⟩
   · rw[if_neg hk]
     refine⟨?_,fun g h=>?_⟩
     · rw[List.map_cons]
       exact List.mem_cons_of_mem _ i1
     · rw[List.map_cons] at h ⊢
       rcases List.mem_cons.mp h with e | e
       · exact List.mem_cons.mpr (.inl e)
       · exact List.mem_cons_of_mem _ (i2 g e)
theorem length_putF (f:Str)(v:V):∀fs:List (Str×V),(putF f v fs).length≤fs.length+1
 | []=>by simp [putF]
 | (k,x)::r=>by
   have ih:=length_putF f v r
   rw[show putF f v ((k,x)::r)=(if k=f then (k,v)::r else (k,x)::putF f v r) from rfl]
   by_cases hk:k=f
   · rw[if_pos hk,List.length_cons,List.length_cons];omega
   · rw[if_neg hk,List.length_cons,List.length_cons];omega
theorem RelO.some_of {v:V}{o:Option Value}(r:RelO (some v) o):∃u,o=some u∧RelV v u:=by
 cases o with
 | none=>exact(show False from r).elim
 | some u=>exact⟨u,rfl,r⟩
theorem RelO.none_of {o:Option Value}(r:RelO none o):o=none:=by
 cases o with
 | none=>rfl
 | some u=>exact(show False from r).elim
theorem handed_of {v:V}{u:Value}(r:RelV v u):PySem.W.handedIn u=true:=by
 cases v with
 | non=>cases (show u=Value.none from r);rfl
 | bl b=>cases (show u=Value.bool b from r);rfl
 | int i=>obtain⟨t,e⟩:=(show ∃t,u=Value.int i t from r);cases e;rfl
 | str x=>obtain⟨t,e⟩:=(show ∃t,u=Value.str x t from r);cases e;rfl
 | byt b=>obtain⟨t,e⟩:=(show ∃t,u=Value.bytes b t from r);cases e;rfl
 | flt b=>obtain⟨t,e⟩:=(show ∃t,u=Value.float b t from r);cases e;rfl
 | ref a=>cases (show u=Value.ref a from r);rfl
 | ty n=>cases (show u=Value.type n from r);rfl
section
variable {P:Program}{w:World}{H H':Hp}{h h':Heap}{a C dx:Addr}{fs fs':List (Str×V)}
theorem ins_get (hok:HOk P w H h)(e:H a=some (.ins C dx fs)):∃mA,ObjM h a dx C mA∧(∀f,RelO (fs.lookup f) (mA f))∧PySem.Within mA (fs.map (·.1))∧fs.length≤1000∧H dx=some (.own a):=by
 obtain⟨d,z,ne,ob,mA,n,r,q⟩:=(show ObjOk P w H h a (.ins C dx fs) from hok a _ e)
 exact⟨mA,⟨ob,n,ne⟩,r,q,z,d⟩
end
structure Cls (K:PySem.W.Frag)(C:Addr):Prop where
 pg:PySem.W.plainGet K C Str.empty=true
 hd:PySem.W.hasDictIn K C=true
 po:PySem.W.plainOver K C=true
 sa:PySem.W.findIn K (.ref C) "__setattr__"=some (some (.builtin "object.__setattr__"))
theorem Cls.get {K:PySem.W.Frag}{C:Addr}(c:Cls K C)(f:Str):PySem.W.plainGet K C f=true:=c.pg
def NoAttr (K:PySem.W.Frag)(C:Addr)(f:Str):Prop:=PySem.W.findIn K (.ref C) f=some none
theorem NoAttr.taker {K:PySem.W.Frag}{C:Addr}{f:Str}(n:NoAttr K C f):PySem.W.takerIn K C f=some none:=by
 unfold PySem.W.takerIn
 rw[show PySem.W.findIn K (.ref C) f=some none from n]
 rfl
structure Con (K:PySem.W.Frag)(C:Addr)(f:Str)(v:V)(u:Value):Prop where
 at_:PySem.W.findIn K (.ref C) f=some (some u)
 rel:RelV v u
 get:PySem.W.specialIn K u "__get__"=some none
 cp:PySem.W.copiedNames.contains f=false
structure Meth (K:PySem.W.Frag)(C:Addr)(m:Str)(f:Addr):Prop where
 at_:PySem.W.findIn K (.ref C) m=some (some (.ref f))
 fn:PySem.W.isFn K (.ref f)=true
 kp:PySem.W.keepIn K (.ref f)=true
section
variable {X:Cx}{pins:List (Addr×Obj)}{σ:St}{H:Hp}{s:Shared}{a C dx:Addr}{fs:List (Str×V)}{f:Str}{v:V}{A:Around}{E:Value→Shared→Prop}
theorem getattr_ok {b:Bool}{Q:Value→Shared→Prop}(I:Inv X pins σ H s)(e:H a=some (.ins C dx fs))(c:Cls X.K C)(n:NoAttr X.K C f)(l:fs.lookup f=some v)
   (h:∀u s',Inv X pins σ H s'→RelV v u→Q u s'):wpAny (model X.prog X.w) A (getAttr (.ref a) f b) Q E s:=by
 obtain⟨mA,O,r,_,_,_⟩:=ins_get I.hok e
 obtain⟨u,hu,ru⟩:=RelO.some_of (v:=v) (o:=mA f) (by rw[←l];exact r f)
 exact get_map I.kIn O (c.get f) c.hd n hu (handed_of ru) (h u _ (I.tok _) ru)
theorem getmeth_ok {m:Str}{g:Addr}{pl:Sem Bool}{Q:Value×List Value→Shared→Prop}(I:Inv X pins σ H s)(e:H a=some (.ins C dx fs))(c:Cls X.K C)(k:Meth X.K C m g)(l:fs.lookup m=none)
   (h:Q (.ref g,[.ref a]) s):wpAny (model X.prog X.w) A (getMethod (.ref a) m pl) Q E s:=by
 obtain⟨mA,O,r,_,_,_⟩:=ins_get I.hok e
 have hn:mA m=none:=RelO.none_of (by rw[←l];exact r m)
 exact get_meth I.kIn O (c.get m) k.at_ k.fn hn h
theorem setattr_ok {y:V}{u:Value}{Q:Unit→Shared→Prop}(I:Inv X pins σ H s)(e:H a=some (.ins C dx fs))(c:Cls X.K C)(n:NoAttr X.K C f)(hl:fs.length<1000)(ry:RelV y u)
   (h:∀s',Inv X pins σ (upd H a (.ins C dx (putF f y fs))) s'→Q () s'):wpAny (model X.prog X.w) A (setAttr (.ref a) f u) Q E s:=by
 obtain⟨mA,O,r,wi,_,ho⟩:=ins_get I.hok e
 have hz:(fs.map (·.1)).length≤sizeLine:=by rw[List.length_map,sizeLine_eq];omega
 refine set_map I.kIn O c.sa c.po n.taker c.hd wi hz fun h' O' sb=>h _ ?_
 have hd:∃o,h'.get? dx=some o:=let ⟨o,_,_,e',_⟩:=O'.ns;⟨o,e'⟩
 refine I.write (x:=a) (e:=dx) (by rw[e];exact True.intro) (.inr ho) (fun b q hb z=>(sb.2 b hb).trans z) hd ?_
 refine⟨by rw[upd_ne O.ne];exact ho,?_,O.ne,O'.obj,_,O'.ns,fun g=>?_,fun g hg=>?_⟩
 · have:=length_putF f y fs;omega
 · show RelO ((putF f y fs).lookup g) (if g=f then some u else mA g)
   rw[lookup_putF]
   by_cases q:g=f
   · rw[if_pos q,if_pos q];exact ry
   · rw[if_neg q,if_neg q];exact r g
 · by_cases q:g=f
   · rw[q];exact(keys_putF f y fs).1
   · refine(keys_putF f y fs).2 g (wi g fun z=>hg ?_)
     show (if g=f then some u else mA g)=none
     rw[if_neg q];exact z
theorem Inv.made (I:Inv X pins σ H s):Inv X pins σ (upd (upd H s.heap.objs.size (.own (s.heap.objs.size+1))) (s.heap.objs.size+1) (.ins C s.heap.objs.size []))
   { s with heap:=(s.heap.push PySem.W.emptyDict).push (PySem.W.instObj C s.heap.objs.size) }:=by
 have e1:(s.heap.push PySem.W.emptyDict).get? s.heap.objs.size=some PySem.W.emptyDict:=Heap.get?_push_size s.heap rfl
 have e2:((s.heap.push PySem.W.emptyDict).push (PySem.W.instObj C s.heap.objs.size)).get? (s.heap.objs.size+1)=some (PySem.W.instObj C s.heap.objs.size):=by
   have:=Heap.get?_push_size (s.heap.push PySem.W.emptyDict) (o:=PySem.W.instObj C s.heap.objs.size) rfl
   rwa [Heap.size_push] at this
 have e3:(s.heap.push PySem.W.emptyDict).Ns s.heap.objs.size (fun _=>none):=⟨PySem.W.emptyDict,#[],_,e1,rfl,(fun e he=>absurd he (by simp)),fun _=>rfl⟩
 have I1:=I.laid (a:=s.heap.objs.size) (o:=.own (s.heap.objs.size+1)) (h':=s.heap.push PySem.W.emptyDict) (t':=s.toks) (fun b u q=>Heap.get?_push_of_some _ q) (Nat.le_refl _) ⟨_,e1⟩
 refine I1.laid (a:=s.heap.objs.size+1) (o:=.ins C s.heap.objs.size []) (t':=s.toks) (fun b u q=>Heap.get?_push_of_some _ q) (Nat.le_of_eq (Heap.size_push _ _)) ?_
 have ne:s.heap.objs.size≠s.heap.objs.size+1:=Nat.ne_of_lt (Nat.lt_succ_self _)
 refine⟨by rw[upd_ne ne,upd_same],Nat.zero_le _,ne,e2,fun _=>none,(Heap.Ns1.of_empty e3).at fun o q=>Heap.get?_push_of_some _ q,fun _=>True.intro,fun y hy=>absurd rfl hy⟩
theorem attr_of {prog:Program}{w:World}{env:Env}{e:Expr}{f:Str}{pos:Pos}{s:Shared}{Q:Value→Shared→Prop}(hb:attributeBase e f env (eval e env)=eval e env)
   (h:wpAny (model prog w) A (eval e env) (fun o s₁=>wpAny (model prog w) A (getAttr o f true) Q E s₁) E s):wpAny (model prog w) A (eval (.Attribute e f pos) env) Q E s :=
 Attribute_any_ h (by rw[arm_eval_Attribute,hb])
end
def tFld (K:PySem.W.Frag)(ta:TE)(f:Str):TE:=fun σ H Q=>ta σ H fun x H1=>∃a C dx fs v,x = .ref a∧H1 a=some (.ins C dx fs)∧Cls K C∧NoAttr K C f∧fs.lookup f=some v∧Q v H1
def sFld (K:PySem.W.Frag)(ta tv:TE)(f:Str):TS:=fun D σ H=>tv σ H fun y H1=>ta σ H1 fun x H2=>∃a C dx fs,x = .ref a∧H2 a=some (.ins C dx fs)∧Cls K C∧NoAttr K C f∧fs.length<1000 ∧
 D.nx σ (upd H2 a (.ins C dx (putF f y fs)))
section
variable {X:Cx}{o e value:Expr}{f:Str}{pos pos' tpos:Pos}{ta tv:TE}
theorem pe_fld (he:PE X e ta)(hb:attributeBase e f X.env (eval e X.env)=eval e X.env):PE X (.Attribute e f pos) (tFld X.K ta f):=by
 intro pins s σ H Q I h
 refine attr_of hb (thn (he pins s σ H _ I h) fun u s1 ⟨x,H1,I1,rx,a,C,dx,fs,v,ex,ea,c,n,l,q⟩=>?_)
 subst ex
 obtain rfl:u=Value.ref a:=rx
 exact getattr_ok I1 ea c n l fun u' s2 I2 ru=>⟨v,H1,I2,ru,q⟩
theorem ps_fld (ha:PE X o ta)(hv:PE X value tv)(hs:swapsWith value (some (.Attribute o f pos')) pos.line X.env=pure false):PS X (.Assign [.Attribute o f pos'] value pos) (sFld X.K ta tv f):=by
 intro pins s σ H D I h
 refine plainObj_wpAny_Assign_Attribute (thn (hv pins s σ H _ I h) fun u s1 ⟨y,H1,I1,ry,q⟩=>thn (ha pins s1 σ H1 _ I1 q) fun ov s2 ⟨x,H2,I2,rx,a,C,dx,fs,ex,ea,c,n,l,q2⟩=>?_) hs
 subst ex
 obtain rfl:ov=Value.ref a:=rx
 exact setattr_ok I2 ea c n l ry fun s3 I3=>⟨σ,_,I3,q2⟩
theorem methcall_of {pl:Sem Bool}{m:Str}{apos:Pos}{args:List Expr}{pins:List (Addr×Obj)}{s:Shared}{σ:St}{H:Hp}{Q:Value→Shared→Prop}{te:TE}(he:PE X e te)(I:Inv X pins σ H s)
   (h:te σ H fun x H1=>∃a C dx fs g,x = .ref a∧H1 a=some (.ins C dx fs)∧Cls X.K C∧Meth X.K C m g∧fs.lookup m=none ∧
     ∀s1,Inv X pins σ H1 s1→wpAny (model X.prog X.w) X.A (callWith pos (.ref g) [.ref a] (backTo pos (starEach args X.env)) (backToKw pos (keywordEach [] X.env))) Q X.xe s1)
   (ht:eval (.Call (.Attribute e m apos) args [] pos) X.env=(do
     let ov ←eval e X.env
     standAt apos.atName
     let (f,first) ←holding [ov] (getMethod ov m pl)
     callWith pos f first (backTo pos (starEach args X.env)) (backToKw pos (keywordEach [] X.env)))) :
   wpAny (model X.prog X.w) X.A (eval (.Call (.Attribute e m apos) args [] pos) X.env) Q X.xe s:=by
 refine PySem.W.methodCall_KW (pl:=pl) (thn (he pins s σ H _ I h) fun u s1 ⟨x,H1,I1,rx,a,C,dx,fs,g,ex,ea,c,k,l,q⟩=>?_) ht
 subst ex
 obtain rfl:u=Value.ref a:=rx
 exact getmeth_ok I1 ea c k l (q s1 I1)
end
section
variable {X:Cx}{pins:List (Addr×Obj)}{σ:St}{H:Hp}{s:Shared}{A:Around}{E:Value→Shared→Prop}{Q:Value→Shared→Prop}{c:Value}{b:Bool}
inductive TyOf (K:PySem.W.Frag)(H:Hp):V→Value→Prop where
 | non:TyOf K H .non (.type "NoneType")
 | bl (x:Bool):TyOf K H (.bl x) (.type "bool")
 | int (i:Int):TyOf K H (.int i) (.type "int")
 | str (x:Str):TyOf K H (.str x) (.type "str")
 | flt (x:UInt64):TyOf K H (.flt x) (.type "float")
 | lst {a:Addr} {xs:List V} (e:H a=some (.lst xs)):TyOf K H (.ref a) (.type "list")
 | frz {a:Addr} {o:Obj} {xs:List V} (e:H a=some (.frz o (.lst xs))):TyOf K H (.ref a) (.type "list")
 | tup {a:Addr} {xs:List V} (e:H a=some (.tup xs)):TyOf K H (.ref a) (.type "tuple")
 | dK {a:Addr} {kvs:List (Key×V)} (e:H a=some (.dK kvs)):TyOf K H (.ref a) (.type "dict")
 | dT {a:Addr} {kvs:List (List Key×V)} (e:H a=some (.dT kvs)):TyOf K H (.ref a) (.type "dict")
 | ins {a C dx:Addr} {fs:List (Str×V)} (e:H a=some (.ins C dx fs)) (cl:Cls K C) (ha:PySem.W.findIn K (.ref C) "__class__"=some (some (.builtin "object.__class__")))
     (hn:PySem.W.specialIn K (.builtin "object.__class__") "__get__"=some (some (.builtin "getset_descriptor.__get__"))) (htk:PySem.W.takesIn K (.builtin "object.__class__")=some true)
     (hm:PySem.W.mroIn K C (.type "object")=some true):TyOf K H (.ref a) (.ref C)
theorem isinst_ok {x:V}{u t:Value}(I:Inv X pins σ H s)(rx:RelV x u)(ty:TyOf X.K H x t)(e:PySem.W.kitOne X.K t c=some b)(h:∀tk,Q (.bool b) { s with toks:=tk }) :
   wpAny (model X.prog X.w) A (call (.builtin "isinstance") [u,c]) Q E s:=by
 cases ty with
 | non=>cases (show u=Value.none from rx);exact PySem.W.kia_one PySem.W.kitx_none I.kIn True.intro e (fun z=>nomatch z) h
 | bl y=>cases (show u=Value.bool y from rx);exact PySem.W.kia_one PySem.W.kitx_bool I.kIn True.intro e (fun z=>nomatch z) h
 | int i=>obtain⟨t,q⟩:=(show ∃t,u=Value.int i t from rx);cases q;exact PySem.W.kia_one PySem.W.kitx_int I.kIn True.intro e (fun z=>nomatch z) h
 | str y=>obtain⟨t,q⟩:=(show ∃t,u=Value.str y t from rx);cases q;exact PySem.W.kia_one PySem.W.kitx_str I.kIn True.intro e (fun z=>nomatch z) h
 | flt y=>obtain⟨t,q⟩:=(show ∃t,u=Value.float y t from rx);cases q;exact PySem.W.kia_one PySem.W.kitx_float I.kIn True.intro e (fun z=>nomatch z) h
 | @lst a xs ea =>
   cases (show u=Value.ref a from rx)
   obtain⟨_,_,n,_,h1⟩:=(show ObjOk X.prog X.w H s.heap a (.lst xs) from I.hok a _ ea)
   exact PySem.W.kia_one PySem.W.kitx_list I.kIn ⟨_,h1,rfl⟩ e (fun z=>nomatch z) h
 | @frz a ob xs ea =>
   cases (show u=Value.ref a from rx)
   obtain⟨_,_,_,n,_,h1⟩:=(show ObjOk X.prog X.w H s.heap a (.frz ob (.lst xs)) from I.hok a _ ea)
   exact PySem.W.kia_one PySem.W.kitx_list I.kIn ⟨_,h1,rfl⟩ e (fun z=>nomatch z) h
 | @tup a xs ea =>
   cases (show u=Value.ref a from rx)
   obtain⟨_,_,_,p⟩:=(show ObjOk X.prog X.w H s.heap a (.tup xs) from I.hok a _ ea)
   obtain⟨o,h1,h2,_⟩:=p
   exact PySem.W.kia_one PySem.W.kitx_tuple I.kIn ⟨o,h1,h2⟩ e (fun z=>nomatch z) h
 | @dK a kvs ea =>
   cases (show u=Value.ref a from rx)
   obtain⟨_,_,vs,_,p⟩:=(show ObjOk X.prog X.w H s.heap a (.dK kvs) from I.hok a _ ea)
   obtain⟨o,es,ep,h1,h2,_⟩:=p
   exact PySem.W.kia_one PySem.W.kitx_dict I.kIn ⟨o,h1,h2.1⟩ e (fun z=>nomatch z) h
 | @dT a kvs ea =>
   cases (show u=Value.ref a from rx)
   obtain⟨_,_,xs,_,o,es,ep,h1,h2,_⟩:=(show ObjOk X.prog X.w H s.heap a (.dT kvs) from I.hok a _ ea)
   exact PySem.W.kia_one PySem.W.kitx_dict I.kIn ⟨o,h1,h2.1⟩ e (fun z=>nomatch z) h
 | @ins a C dx fs ea cl ha hn htk hm =>
   cases (show u=Value.ref a from rx)
   obtain⟨mA,O,_⟩:=ins_get I.hok ea
   obtain⟨od,J,_⟩:=O.look
   exact PySem.W.kia_one (PySem.W.kitx_own (cl.get _) cl.hd ha hn htk hm) I.kIn J e (fun z=>nomatch z) h
end
end L2
namespace L2
open PySem PySem.Spec PyProof.Rows
structure Room (k:Nat)(A:Around):Prop where
 hd:A.handled=none
 dp:A.depth+3*k+5<recursionLimit
 un:A.units+16*k+200<cLine
theorem Room.mono {j k:Nat}{A:Around}(r:Room k A)(h:j≤k):Room j A:=⟨r.hd,by have:=r.dp;omega,by have:=r.un;omega⟩
theorem Room.deeper {k:Nat}{A:Around}(r:Room (k+1) A)(env:Env):Room k (A.deeper env) :=
 ⟨r.hd,by have:=r.dp;show A.depth+1+3*k+5<_;omega,by have:=r.un;show A.units+3+16*k+200<_;omega⟩
theorem Room.in1 {k:Nat}{A:Around}(r:Room (k+1) A):Room k A.in1 :=
 ⟨r.hd,by have:=r.dp;show A.depth+3*k+5<_;omega,by have:=r.un;show A.units+1+16*k+200<_;omega⟩
theorem make_depth {A:Around}{C:Addr}{us:List Value}{kw:List (Str×Value)}:(A.under (.builtin "type.__call__" ⟨.ref C::us,kw⟩)).depth=A.depth+1:=by
 first | rfl | simp [Around.under,Code.weight,Code.isCreation,Code.isGuard,Code.isCaller,Code.frames,Code.isFrame,guardIds]
theorem make_units {A:Around}{C:Addr}{us:List Value}{kw:List (Str×Value)}:(A.under (.builtin "type.__call__" ⟨.ref C::us,kw⟩)).units=A.units+1:=by
 first | rfl | simp [Around.under,Code.cUnits,Code.frames,Code.isFrame]
theorem Room.make {k:Nat}{A:Around}(r:Room (k+1) A)(C:Addr)(us:List Value)(kw:List (Str×Value)):Room k (A.under (.builtin "type.__call__" ⟨.ref C::us,kw⟩)) :=
 ⟨r.hd,by have:=r.dp;rw[make_depth];omega,by have:=r.un;rw[make_units];omega⟩
theorem Room.depth {k:Nat}{A:Around}(r:Room k A):A.depth<recursionLimit:=by have:=r.dp;omega
theorem Room.units {k:Nat}{A:Around}(r:Room k A):A.units+64<cLine:=by have:=r.un;omega
def tNil:TA:=fun _ H Q=>Q [] H
def tCons (ta:TE)(tr:TA):TA:=fun σ H Q=>ta σ H fun x H1=>tr σ H1 fun xs H2=>Q (x::xs) H2
section
variable {X:Cx}{e:Expr}{es:List Expr}{te:TE}{t:TA}{pos:Pos}
theorem pa_nil:PA X [] tNil:=fun _ _ _ _ H Q I h=>Calls.spliced_nil ⟨[],H,I,.nil,h⟩
theorem pa_cons (ha:PE X e te)(hr:PA X es t)(hs:starEach (e::es) X.env=(false,eval e X.env)::starEach es X.env:=by rfl):PA X (e::es) (tCons te t):=by
 intro pos pins s σ H Q I h
 rw[hs]
 show wpAny _ _ (spliced ((false,eval e X.env)::backTo pos (starEach es X.env))) _ _ s
 refine Calls.spliced_cons (thn (ha pins s σ H _ I h) fun u s1 ⟨x,H1,I1,r1,q1⟩=>?_)
 exact thn (hr pos pins s1 σ H1 _ I1 q1) fun us s2 ⟨xs,H2,I2,r2,q2⟩=>⟨x::xs,H2,I2,.cons r1 r2,q2⟩
def tTup (t:TA):TE:=fun σ H Q=>t σ H fun xs H1=>xs.length≤sizeLine∧∀p,H1 p=none→Q (.ref p) (upd H1 p (.tup xs))
def tLst (t:TA):TE:=fun σ H Q=>t σ H fun xs H1=>xs.length≤sizeLine∧∀p,H1 p=none→Q (.ref p) (upd H1 p (.lst xs))
theorem pe_tup {x1}(h:PA X es t):PE X (.Tuple es x1 pos) (tTup t):=by
 intro pins s σ H Q I hq
 refine wpAny_Tuple_spliced (thn (h pos pins s σ H _ I hq) fun us s1 ⟨xs,H1,I1,r,z,q⟩=>⟨by rw[←r.length];exact z,?_⟩)
 have hf:H1 s1.heap.objs.size=none:=I1.hok.fresh (Nat.le_refl _)
 refine⟨.ref s1.heap.objs.size,upd H1 s1.heap.objs.size (.tup xs),I1.laid (t':=s1.toks) (fun b u e=>Heap.get?_push_of_some _ e) (Nat.le_refl _) ?_,rfl,q _ hf⟩
 exact⟨z,us,r,⟨_,Heap.get?_push_size _ rfl,rfl,_,rfl⟩⟩
theorem pe_lst (h:PA X es t):PE X (.List es pos) (tLst t):=by
 intro pins s σ H Q I hq
 refine wpAny_List_spliced (thn (h pos pins s σ H _ I hq) fun us s1 ⟨xs,H1,I1,r,z,q⟩=>⟨by rw[←r.length];exact z,?_⟩)
 have hf:H1 s1.heap.objs.size=none:=I1.hok.fresh (Nat.le_refl _)
 refine⟨.ref s1.heap.objs.size,upd H1 s1.heap.objs.size (.lst xs),I1.laid (t':=s1.toks) (fun b u e=>Heap.get?_push_of_some _ e) (Nat.le_refl _) ?_,rfl,q _ hf⟩
 exact⟨z,us,0,r,Heap.get?_push_size _ rfl⟩
end
abbrev Sp:=List V→Hp→VK→XK→Prop
abbrev CXT:=List Env→Hp→Shared→XK→Value→Shared→Prop
structure Env0 (P:Program)(w:World)(K:PySem.W.Frag)(mg:Str→Option Value)(base:Heap)(A:Around)(outer:List Env)(s:Shared)(H:Hp):Prop where
 frames:A.frames=some outer
 mod:Mod K mg base
 bs:∀b o,base.get? b=some o→s.heap.get? b=some o∧H b=none
 bsz:base.objs.size≤s.heap.objs.size
 funs:s.heap.FunFrames base outer
 frf:∀b∈frs outer,H b=none
 hok:HOk P w H s.heap
 bare:AllBare s.gens
def CE (outer:List Env)(P:Program)(w:World)(H:Hp)(s:Shared)(Q:VK)(u:Value)(s':Shared):Prop :=
 ∃v H',s'.os=s.os∧AllBare s'.gens∧Un (frs outer) [] H H' s.heap s'.heap∧HOk P w H' s'.heap∧RelV v u∧Q v H'
def CR (CX:CXT)(outer:List Env)(P:Program)(w:World)(H:Hp)(s:Shared)(Q:VK)(E:XK)(r:Result)(s':Shared):Prop :=
 match r with
 | .ok (.ret u)=>CE outer P w H s Q u s'
 | .ok _=>False
 | .error e=>CX outer H s E e s'
structure FnOk (P:Program)(w:World)(K:PySem.W.Frag)(mg:Str→Option Value)(base:Heap)(CX:CXT)(k:Nat)(f:Addr)(fd:FuncData)(ps:List Str)(sp:Sp):Prop where
 len:∀vs H Q E,sp vs H Q E→vs.length=ps.length
 run:∀(A:Around) (outer:List Env) (s:Shared) (H:Hp) (args:Args) (us:List Value) (vs:List V) (Q:VK) (E:XK),Room k A→Env0 P w K mg base A outer s H→BindsTo s fd args (ps.zip us)→Vals vs us→sp vs H Q E →
   codeAny (model P w) A (.call (.ref f) args) (CR CX outer P w H s Q E) s
theorem FnOk.mono {P:Program}{w:World}{K:PySem.W.Frag}{mg:Str→Option Value}{base:Heap}{CX:CXT}{j k:Nat}{f:Addr}{fd:FuncData}{ps:List Str}{sp:Sp}(F:FnOk P w K mg base CX j f fd ps sp)(h:j≤k) :
   FnOk P w K mg base CX k f fd ps sp:=⟨F.len,fun A outer s H args us vs Q E hr=>F.run A outer s H args us vs Q E (hr.mono h)⟩
theorem FnOk.imp {P:Program}{w:World}{K:PySem.W.Frag}{mg:Str→Option Value}{base:Heap}{CX:CXT}{k:Nat}{f:Addr}{fd:FuncData}{ps:List Str}{sp sp':Sp}(F:FnOk P w K mg base CX k f fd ps sp)
   (h:∀vs H Q E,sp' vs H Q E→sp vs H Q E):FnOk P w K mg base CX k f fd ps sp' :=
 ⟨fun vs H Q E q=>F.len vs H Q E (h _ _ _ _ q),fun A outer s H args us vs Q E hr he hb hv hs=>F.run A outer s H args us vs Q E hr he hb hv (h _ _ _ _ hs)⟩
theorem Env0.make {P:Program}{w:World}{K:PySem.W.Frag}{mg:Str→Option Value}{base:Heap}{A:Around}{outer:List Env}{s:Shared}{H:Hp}(e:Env0 P w K mg base A outer s H)(C:Addr)(us:List Value)(kw:List (Str×Value)) :
   Env0 P w K mg base (A.under (.builtin "type.__call__" ⟨.ref C::us,kw⟩)) outer s H:=⟨by first | exact e.frames | (simpa [Around.under,Code.envs,Code.isFrame,pushEnvs] using e.frames),e.mod,e.bs,e.bsz,e.funs,e.frf,e.hok,e.bare⟩
theorem Env0.in1 {P:Program}{w:World}{K:PySem.W.Frag}{mg:Str→Option Value}{base:Heap}{A:Around}{outer:List Env}{s:Shared}{H:Hp}(e:Env0 P w K mg base A outer s H) :
   Env0 P w K mg base A.in1 outer s H:=⟨e.frames,e.mod,e.bs,e.bsz,e.funs,e.frf,e.hok,e.bare⟩
section
variable {X:Cx}{pins:List (Addr×Obj)}{σ:St}{H:Hp}{s s':Shared}
theorem Inv.env0 (I:Inv X pins σ H s):Env0 X.prog X.w X.K X.mg X.base X.A X.stack s H :=
 ⟨I.ok.frames,I.ok.mod,I.bs,Nat.le_trans I.ok.bsz I.sz,I.stack,I.stkFree,I.hok,I.bare⟩
theorem Inv.after {Q:VK}{u:Value}(I:Inv X pins σ H s)(h:CE X.stack X.prog X.w H s Q u s'):EP X pins σ Q u s':=by
 obtain⟨v,H',os,bare,un,hok,r,q⟩:=h
 obtain⟨hh,g,d,t,os'⟩:=s'
 obtain rfl:os'=s.os:=os
 exact⟨v,H',I.call (h':=hh) (g':=g) (d':=d) (t':=t) (ch:=[]) un hok bare (fun b z=>absurd z (by simp)),r,q⟩
end
def tCall (sp:Sp)(dvs:List V)(E:XK)(t:TA):TE:=fun σ H Q=>t σ H fun vs H1=>sp (vs++dvs) H1 Q E
def tMeth (C:Addr)(m:Str)(sp:Sp)(dvs:List V)(E:XK)(ta:TE)(t:TA):TE:=fun σ H Q=>ta σ H fun x H1=>∃a dx fs,x = .ref a∧H1 a=some (.ins C dx fs)∧fs.lookup m=none ∧
 t σ H1 fun vs H2=>sp (x::(vs++dvs)) H2 Q E
def tMake (C:Addr)(sp:Sp)(dvs:List V)(E:XK)(t:TA):TE:=fun σ H Q=>t σ H fun vs H1=>∀x dx,H1 x=none→H1 dx=none→dx≠x →
 sp (.ref x::(vs++dvs)) (upd (upd H1 dx (.own x)) x (.ins C dx [])) (fun v H2=>v = .non∧Q (.ref x) H2) E
def Binds (K:PySem.W.Frag)(fd:FuncData)(ps:List Str)(ds:List Value):Prop :=
 ∀(s:Shared) (us:List Value),K.In s.heap→(us++ds).length=ps.length→BindsTo s fd ⟨us,[]⟩ (ps.zip (us++ds))
theorem Binds.all {K:PySem.W.Frag}{fd:FuncData}{ps:List Str}(h:∀us:List Value,us.length=ps.length→bindArgs fd ⟨us,[]⟩=pure (ps.zip us)):Binds K fd ps []:=fun s us _ hl=>by
 rw[List.append_nil] at hl ⊢
 exact .of_eq (h us hl)
def Passes (CX:CXT)(X:Cx)(E:XK):Prop:=∀(pins:List (Addr×Obj)) (σ:St) (H:Hp) (s:Shared) (e:Value) (s':Shared),Inv X pins σ H s→CX X.stack H s E e s'→X.xe e s'
section
variable {X:Cx}{CX:CXT}{k:Nat}{f C:Addr}{fd:FuncData}{ps:List Str}{sp:Sp}{dvs:List V}{ds:List Value}{E:XK}{x m:Str}{p pos apos:Pos}{e o:Expr}{es:List Expr}{ta:TE}{t:TA}
theorem run_fn {pins:List (Addr×Obj)}{σ:St}{H:Hp}{s:Shared}{Q:VK}{us:List Value}{vs:List V}(F:FnOk X.prog X.w X.K X.mg X.base CX k f fd ps sp)(hr:Room k X.A)(hb:Binds X.K fd ps ds)(hd:Vals dvs ds)(hx:Passes CX X E)
   (I:Inv X pins σ H s) (r:Vals vs us) (h:sp (vs++dvs) H Q E):wpAny (model X.prog X.w) X.A (call (.ref f) us) (EP X pins σ Q) X.xe s:=by
 have r2:Vals (vs++dvs) (us++ds):=r.append hd
 have hl:(us++ds).length=ps.length:=by rw[←r2.length];exact F.len _ _ _ _ h
 refine wpAny_call (codeAny_mono (F.run X.A X.stack s H ⟨us,[]⟩ (us++ds) (vs++dvs) Q E hr I.env0 (hb s us I.kIn hl) r2 h) fun r s' hq=>?_)
 cases r with
 | error e=>exact hx pins σ H s e s' I hq
 | ok fl =>
   cases fl with
   | ret u=>exact I.after hq
   | next=>exact False.elim hq
   | brk=>exact False.elim hq
   | cont=>exact False.elim hq
theorem pe_call (F:FnOk X.prog X.w X.K X.mg X.base CX k f fd ps sp)(hr:Room k X.A)(hg:Gl X x)(hm:X.mg x=some (.ref f))(hk:PySem.W.keepIn X.K (.ref f)=true)(hb:Binds X.K fd ps ds)(hd:Vals dvs ds)(hx:Passes CX X E)
   (ha:PA X (e::es) t) (hdb:(x==("__debug__":Str))=false:=by decide) (he:starEach (e::es) X.env=(false,eval e X.env)::starEach es X.env:=by rfl) (hpl:(backTo pos (starEach es X.env)).any (·.1)=false:=by rfl) :
   PE X (.Call (.Name x p) (e::es) [] pos) (tCall sp dvs E t):=by
 intro pins s σ H Q I h
 refine wpAny_Call_Name_kw (ld_glob I hg hm ?_ hdb)
 refine PySem.W.callWith_K (h₀:=X.base) I.ok.mod.kin hk (thn (ha pos pins s σ H _ I h) fun us s1 ⟨vs,H1,I1,r,q⟩=>⟨I1.kIn,?_⟩) he hpl
 exact run_fn F hr hb hd hx I1 r q
theorem pe_meth {pl:Sem Bool}(he:PE X o ta)(c:Cls X.K C)(hm:Meth X.K C m f)(F:FnOk X.prog X.w X.K X.mg X.base CX k f fd ps sp)(hr:Room k X.A)(hb:Binds X.K fd ps ds)(hd:Vals dvs ds)(hx:Passes CX X E)(ha:PA X (e::es) t)
   (hst:starEach (e::es) X.env=(false,eval e X.env)::starEach es X.env:=by rfl) (hpl:(backTo pos (starEach es X.env)).any (·.1)=false:=by rfl)
   (ht:eval (.Call (.Attribute o m apos) (e::es) [] pos) X.env=(do
     let ov ←eval o X.env
     standAt apos.atName
     let (f,first) ←holding [ov] (getMethod ov m pl)
     callWith pos f first (backTo pos (starEach (e::es) X.env)) (backToKw pos (keywordEach [] X.env))):=by rfl) :
   PE X (.Call (.Attribute o m apos) (e::es) [] pos) (tMeth C m sp dvs E ta t):=by
 intro pins s σ H Q I h
 refine PySem.W.methodCall_KW (pl:=pl) (thn (he pins s σ H _ I h) fun u s1 ⟨x,H1,I1,rx,a,dx,fs,ex,ea,l,q⟩=>?_) ht
 subst ex
 obtain rfl:u=Value.ref a:=rx
 refine getmeth_ok I1 ea c hm l ?_
 refine PySem.W.callWith_K (first:=[.ref a]) (h₀:=X.base) I.ok.mod.kin hm.kp (thn (ha pos pins s1 σ H1 _ I1 q) fun us s2 ⟨vs,H2,I2,r,q2⟩=>⟨I2.kIn,?_⟩) hst hpl
 exact run_fn (us:=.ref a::us) (vs:=.ref a::vs) F hr hb hd hx I2 (.cons rfl r) q2
theorem pe_meth0 {pl:Sem Bool}(he:PE X o ta)(c:Cls X.K C)(hm:Meth X.K C m f)(F:FnOk X.prog X.w X.K X.mg X.base CX k f fd ps sp)(hr:Room k X.A)(hb:Binds X.K fd ps ds)(hd:Vals dvs ds)(hx:Passes CX X E)
   (ht:eval (.Call (.Attribute o m apos) [] [] pos) X.env=(do
     let ov ←eval o X.env
     standAt apos.atName
     let (f,first) ←holding [ov] (getMethod ov m pl)
     callWith pos f first (backTo pos (starEach [] X.env)) (backToKw pos (keywordEach [] X.env))):=by rfl) :
   PE X (.Call (.Attribute o m apos) [] [] pos) (tMeth C m sp dvs E ta tNil):=by
 intro pins s σ H Q I h
 refine PySem.W.methodCall_KW (pl:=pl) (thn (he pins s σ H _ I h) fun u s1 ⟨x,H1,I1,rx,a,dx,fs,ex,ea,l,q⟩=>?_) ht
 subst ex
 obtain rfl:u=Value.ref a:=rx
 refine getmeth_ok I1 ea c hm l ?_
 exact PySem.W.callWith_K0 (first:=[.ref a]) I1.kIn hm.kp (run_fn (us:=[.ref a]) (vs:=[.ref a]) F hr hb hd hx I1 (.cons rfl .nil) q)
structure Mk (K:PySem.W.Frag)(C f:Addr):Prop where
 makes:PySem.W.makesIn K C=true
 init:PySem.W.findIn K (.ref C) "__init__"=some (some (.ref f))
 fn:PySem.W.isFn K (.ref f)=true
 kp:PySem.W.keepIn K (.ref C)=true
theorem run_make {pins:List (Addr×Obj)}{σ:St}{H:Hp}{s:Shared}{Q:VK}{us:List Value}{vs:List V}(M:Mk X.K C f)(F:FnOk X.prog X.w X.K X.mg X.base CX k f fd ps sp)(hr:Room (k+1) X.A)(hb:Binds X.K fd ps ds)(hd:Vals dvs ds)
   (hx:Passes CX X E) (I:Inv X pins σ H s) (r:Vals vs us)
   (h:∀x dx,H x=none→H dx=none→dx≠x→sp (.ref x::(vs++dvs)) (upd (upd H dx (.own x)) x (.ins C dx [])) (fun v H2=>v = .non∧Q (.ref x) H2) E) :
   wpAny (model X.prog X.w) X.A (call (.ref C) us) (EP X pins σ Q) X.xe s:=by
 have hq:=h (s.heap.objs.size+1) s.heap.objs.size (I.hok.fresh (Nat.le_succ _)) (I.hok.fresh (Nat.le_refl _)) (Nat.ne_of_lt (Nat.lt_succ_self _))
 have I2:=Inv.made (C:=C) I
 have r2:Vals (V.ref (s.heap.objs.size+1)::(vs++dvs)) (Value.ref (s.heap.objs.size+1)::(us++ds)):=.cons rfl (r.append hd)
 have hl:(Value.ref (s.heap.objs.size+1)::us++ds).length=ps.length:=by
   have e:=r2.length
   rw[F.len _ _ _ _ hq] at e
   exact e.symm
 refine wpAny_call (make_map (f:=f) I.kIn M.makes M.init (beq_iff_eq.mp M.fn) (codeAny_mono (F.run _ X.stack _ _ ⟨Value.ref (s.heap.objs.size+1)::us,[]⟩ (Value.ref (s.heap.objs.size+1)::(us++ds)) _ _ E (hr.make C us [])
   (I2.env0.make C us []) (hb _ (Value.ref (s.heap.objs.size+1)::us) I2.kIn hl) r2 hq) fun r s' hq'=>?_))
 cases r with
 | error e=>exact hx pins σ _ _ e s' I2 hq'
 | ok fl =>
   cases fl with
   | ret u =>
     obtain⟨v,H',I3,rv,ev,q3⟩:=I2.after hq'
     subst ev
     exact⟨rv,⟨V.ref (s.heap.objs.size+1),H',I3,rfl,q3⟩⟩
   | next=>exact False.elim hq'
   | brk=>exact False.elim hq'
   | cont=>exact False.elim hq'
theorem pe_make (M:Mk X.K C f)(F:FnOk X.prog X.w X.K X.mg X.base CX k f fd ps sp)(hr:Room (k+1) X.A)(hg:Gl X x)(hm:X.mg x=some (.ref C))(hb:Binds X.K fd ps ds)(hd:Vals dvs ds)(hx:Passes CX X E)
   (ha:PA X (e::es) t) (hdb:(x==("__debug__":Str))=false:=by decide) (he:starEach (e::es) X.env=(false,eval e X.env)::starEach es X.env:=by rfl) (hpl:(backTo pos (starEach es X.env)).any (·.1)=false:=by rfl) :
   PE X (.Call (.Name x p) (e::es) [] pos) (tMake C sp dvs E t):=by
 intro pins s σ H Q I h
 refine wpAny_Call_Name_kw (ld_glob I hg hm ?_ hdb)
 refine PySem.W.callWith_K (h₀:=X.base) I.ok.mod.kin M.kp (thn (ha pos pins s σ H _ I h) fun us s1 ⟨vs,H1,I1,r,q⟩=>⟨I1.kIn,?_⟩) he hpl
 exact run_make M F hr hb hd hx I1 r q
end
section
variable {X:Cx}{CX:CXT}{k:Nat}{f C:Addr}{fd:FuncData}{ps ks:List Str}{sp:Sp}{E:XK}{x m:Str}{p pos apos kpos:Pos}{e o:Expr}{es:List Expr}{kws:List Keyword}{te ta:TE}{t tk:TA}{nm:Option Str}
structure KBinds (K:PySem.W.Frag)(fd:FuncData)(ps ks:List Str)(g:List Value→List Value→List Value)(gV:List V→List V→List V):Prop where
 to:∀(s:Shared) (us ws:List Value),K.In s.heap→(g us ws).length=ps.length→BindsTo s fd ⟨us,ks.zip ws⟩ (ps.zip (g us ws))
 rel:∀{vs:List V} {us:List Value} {zs:List V} {ws:List Value},Vals vs us→Vals zs ws→Vals (gV vs zs) (g us ws)
variable {g:List Value→List Value→List Value}{gV:List V→List V→List V}
end
structure FnScope (N P:List Str)(sc:Scope):Prop where
 kind:sc.kind = .function
 co:sc.isCoroutine=false
 gen:sc.isGenerator=false
 nd:N.Nodup
 pre:N.take P.length=P
 par:∀x∈P,sc.names.lookup x=some .local∨sc.names.lookup x=some .cell
 nofree:∀y∈sc.names,y.2≠.free
theorem bindL_out {kindOf:Str→Option NameKind}{x:Str}:∀{binds:List (Str×Value)} {m:Str→Option Value},(∀v,(x,v) ∉ binds)→bindL kindOf binds m x=m x
 | [],_,_=>rfl
 | (n,v)::r,m,h=>by
   unfold bindL
   rw[bindL_out fun w hw=>h w (List.mem_cons_of_mem _ hw)]
   split
   · have:x≠n:=by rintro rfl;exact h v List.mem_cons_self
     simp [this]
   · rfl
theorem bindC_out {kindOf:Str→Option NameKind}{x:Str}:∀{binds:List (Str×Value)} {m:Str→Option Value},(∀v,(x,v) ∉ binds)→bindC kindOf binds m x=m x
 | [],_,_=>rfl
 | (n,v)::r,m,h=>by
   unfold bindC
   rw[bindC_out fun w hw=>h w (List.mem_cons_of_mem _ hw)]
   split
   · rfl
   · have:x≠n:=by rintro rfl;exact h v List.mem_cons_self
     simp [this]
theorem bindL_get {kindOf:Str→Option NameKind}{x:Str}{v:Value}:∀{P:List Str} {vs:List Value} {i:Nat} {m:Str→Option Value},P.Nodup→P[i]?=some x→vs[i]?=some v→kindOf x=some .local →
   bindL kindOf (P.zip vs) m x=some v
 | [],_,_,_,_,h,_,_=>by simp at h
 | _::_,[],_,_,_,_,h,_=>by simp at h
 | p::P,w::vs,0,m,nd,h1,h2,hk=>by
   simp at h1 h2;subst h1;subst h2
   show bindL kindOf ((p,w)::P.zip vs) m p=_
   unfold bindL
   rw[bindL_out fun v hv=>(List.nodup_cons.mp nd).1 (List.of_mem_zip hv).1,if_pos hk]
   simp
 | p::P,w::vs,i+1,m,nd,h1,h2,hk=>by
   show bindL kindOf ((p,w)::P.zip vs) m x=_
   unfold bindL
   exact bindL_get (i:=i) (List.nodup_cons.mp nd).2 (by simpa using h1) (by simpa using h2) hk
theorem bindC_get {kindOf:Str→Option NameKind}{x:Str}{v:Value}:∀{P:List Str} {vs:List Value} {i:Nat} {m:Str→Option Value},P.Nodup→P[i]?=some x→vs[i]?=some v→kindOf x≠some .local →
   bindC kindOf (P.zip vs) m x=some v
 | [],_,_,_,_,h,_,_=>by simp at h
 | _::_,[],_,_,_,_,h,_=>by simp at h
 | p::P,w::vs,0,m,nd,h1,h2,hk=>by
   simp at h1 h2;subst h1;subst h2
   show bindC kindOf ((p,w)::P.zip vs) m p=_
   unfold bindC
   rw[bindC_out fun v hv=>(List.nodup_cons.mp nd).1 (List.of_mem_zip hv).1,if_neg hk]
   simp
 | p::P,w::vs,i+1,m,nd,h1,h2,hk=>by
   show bindC kindOf ((p,w)::P.zip vs) m x=_
   unfold bindC
   exact bindC_get (i:=i) (List.nodup_cons.mp nd).2 (by simpa using h1) (by simpa using h2) hk
def start (N:List Str)(vs:List V):St:=vs.map some++List.replicate (N.length-vs.length) none
def cxOf (CX:CXT)(P:Program)(w:World)(K:PySem.W.Frag)(mg:Str→Option Value)(base:Heap)(N:List Str)(qual:Str)(scope:Scope)(f:Addr)(cd:Value)(A:Around)(outer:List Env)(s:Shared)(H:Hp)(E:XK):Cx where
 prog:=P
 w:=w
 K:=K
 mg:=mg
 base:=base
 A:=A.deeper (envOfC qual scope s.heap.objs.size f cd)
 N:=N
 s₀:=s
 H₀:=H
 env:=envOfC qual scope s.heap.objs.size f cd
 outer:=outer
 stack:=envOfC qual scope s.heap.objs.size f cd::outer
 ex:=[]
 calm:=true
 fn:=fun _=>true
 pn:=[]
 xe:=fun e s'=>wpAny (model P w) (A.deeper (envOfC qual scope s.heap.objs.size f cd)) (leaving (envOfC qual scope s.heap.objs.size f cd) e) (fun _ s''=>CX outer H s E e s'') (fun e' s''=>CX outer H s E e' s'') s'
theorem cell_has {sc:Scope}{n:Nat}{x:Str}(h:sc.names.lookup x=some .cell):∃c,(cellsFrom n sc.names []).lookup x=some c:=by
 have q:=PySem.W.cellsFrom_some sc.names n [] (.inl h)
 exact Option.isSome_iff_exists.mp q
theorem inv_start {CX:CXT}{P:Program}{w:World}{K:PySem.W.Frag}{mg:Str→Option Value}{base:Heap}{N ps:List Str}{qual:Str}{scope:Scope}{f:Addr}{cd:Value}{A:Around}{outer:List Env}{s s1:Shared}{H:Hp}{E:XK}{us:List Value}{vs:List V}
   (S:FnScope N ps scope) (hd:A.handled=none) (e0:Env0 P w K mg base A outer s H) (hl:vs.length=ps.length) (r:Vals vs us)
   (x:InCallC s s.heap.objs.size (bindL (envOfC qual scope s.heap.objs.size f cd).kindOf (ps.zip us) fun _=>none) (cellsFrom (s.heap.objs.size+1) scope.names []) (bindC (envOfC qual scope s.heap.objs.size f cd).kindOf (ps.zip us) fun _=>none) s1) :
   Inv (cxOf CX P w K mg base N qual scope f cd A outer s H E) [] (start N vs) H s1:=by
 have hpl:ps.length≤N.length:=by have:=congrArg List.length S.pre;rw[List.length_take] at this;omega
 obtain⟨h1,tk,rfl,hk⟩:=x.done
 have noA:∀b:Addr,b ∉ (cxOf CX P w K mg base N qual scope f cd A outer s H E).ex:=fun b z=>absurd (show b∈([]:List Addr) from z) (by simp)
 refine⟨⟨e0.mod,S.kind,rfl,rfl,Nat.le_refl _,fun y z c h1 h2=>?_,fun y hy=>?_,fun y c _ h=>?_,fun _=>hd,Around.frames_deeper e0.frames,.inr ⟨rfl,rfl⟩,fun b z=>absurd z (noA b),e0.bs,e0.bsz,fun b _ _=>noA b,fun b z=>absurd z (noA b),e0.funs,e0.frf⟩,
   rfl,e0.bare,Un.kept hk,⟨_,x.toInCall.ns,fun i y v h1 h2 h3=>?_⟩,fun y c h=>⟨_,x.cell y c h⟩,e0.hok.fresh (Nat.le_refl _),fun y c h=>?_,fun p hp=>absurd (show p∈([]:List (Addr×Obj)) from hp) (by simp),e0.hok.kept hk,?_⟩
 · exact name_of_addr x.apart (PySem.mem_of_lookup h1) (PySem.mem_of_lookup h2)
 · have hy:scope.names.lookup y=some .cell∨scope.names.lookup y=some .free:=hy
   rcases hy with hy | hy
   · exact cell_has hy
   · exact absurd rfl (S.nofree _ (PySem.mem_of_lookup hy))
 · exact Nat.le_of_lt (x.above y c (PySem.mem_of_lookup h))
 · have hi:i<vs.length:=by
     unfold start at h2
     by_cases hi:i<vs.length
     · exact hi
     · rw[List.getElem?_append_right (by simpa using hi)] at h2
       rw[List.getElem?_replicate] at h2
       split at h2 <;> cases h2
   have ha:vs[i]?=some v:=by
     unfold start at h2
     rw[List.getElem?_append_left (by simpa using hi),List.getElem?_map] at h2
     cases e:vs[i]? with
     | none=>rw[e] at h2;cases h2
     | some a=>rw[e] at h2;cases h2;rfl
   obtain⟨u,hu,rv⟩:=r.get ha
   have hp:ps[i]?=some y:=by
     rw[←S.pre,List.getElem?_take_of_lt (by omega)];exact h1
   have ndP:ps.Nodup:=by rw[←S.pre];exact S.nd.sublist (List.take_sublist _ _)
   refine⟨u,rv,?_⟩
   rcases S.par y (List.mem_of_getElem? hp) with k | k
   · exact .inl ⟨k,bindL_get ndP hp hu k⟩
   · obtain⟨c,e⟩:=cell_has (n:=s.heap.objs.size+1) k
     refine .inr ⟨.inl k,c,e,?_⟩
     have q:=x.cell y c e
     rw[bindC_get ndP hp hu (by show scope.names.lookup y≠_;rw[k];decide)] at q
     exact q
 · exact e0.hok.fresh (Nat.le_of_lt (x.above y c (PySem.mem_of_lookup h)))
 · unfold start
   show _=N.length
   rw[List.length_append,List.length_map,List.length_replicate]
   omega
theorem fn_of {CX:CXT}{P:Program}{w:World}{K:PySem.W.Frag}{mg:Str→Option Value}{base:Heap}{k:Nat}{f:Addr}{name qual:Str}{params:Arguments}{body:List Stmt}{scope:Scope}{dV kV doc pm cdv ct oc:Value}{an od:Option Addr}
   {osl:Array (Option Value)} {N ps:List Str} {sp:Sp} (lk:K.lookup f=some ⟨oc,od,.func (PySem.W.fnOf name qual params body scope dV kV doc pm an cdv ct),osl⟩) (hcd:PySem.W.codeIn K cdv qual=true) (S:FnScope N ps scope)
   (len:∀vs H Q E,sp vs H Q E→vs.length=ps.length)
   (hbody:∀(A:Around) (outer:List Env) (s:Shared) (H:Hp) (vs:List V) (Q:VK) (E:XK),Room k (A.deeper (envOfC qual scope s.heap.objs.size f cdv))→sp vs H Q E →
     ∃t,PSs (cxOf CX P w K mg base N qual scope f cdv A outer s H E) body t∧t { nx:=fun _ H'=>Q .non H',rt:=Q } (start N vs) H) :
   FnOk P w K mg base CX (k+1) f (PySem.W.fnOf name qual params body scope dV kV doc pm an cdv ct) ps sp:=by
 refine⟨len,fun A outer s H args us vs Q E hr e0 hb r hsp=>?_⟩
 have hl:=len _ _ _ _ hsp
 have KX:K.In s.heap:=e0.mod.kin.keeps fun b o e=>(e0.bs b o e).1
 have lim:s.heap.NoLimit:=e0.mod.nolimit.keeps fun b o e=>(e0.bs b o e).1
 have hkind:∀y∈ps.zip us,scope.names.lookup y.1=some .local∨(scope.names.lookup y.1=some .cell∧((cellsFrom (s.heap.objs.size+1) scope.names []).lookup y.1).isSome=true):=fun ⟨n,v⟩ hy=>by
   rcases S.par n (List.of_mem_zip hy).1 with q | q
   · exact .inl q
   · exact .inr ⟨q,PySem.W.cellsFrom_some _ _ _ (.inl q)⟩
 refine codeAny_call_function hr.depth (KX _ _ lk) rfl S.co S.gen rfl (PySem.W.codeRec_of KX hcd) (hb _ _ _ _ ?_)
 refine wpAny_newFunctionEnv_cells S.kind hkind fun env he s1 x=>?_
 subst he
 refine⟨lim.keeps x.toInCall.keep,codeAny_func ?_⟩
 obtain⟨t,ht,hq⟩:=hbody A outer s H vs Q E (hr.deeper _) hsp
 have I:Inv (cxOf CX P w K mg base N qual scope f cdv A outer s H E) [] (start N vs) H s1:=inv_start S hr.hd e0 hl r x
 refine wpAny_mono (ht [] s1 (start N vs) H _ I hq) (fun fl s' hs=>?_) fun e s' hs=>hs
 have fin:∀{σ':St} {H':Hp} {v:V} {u:Value},Inv (cxOf CX P w K mg base N qual scope f cdv A outer s H E) [] σ' H' s'→RelV v u→Q v H'→CE outer P w H s Q u s' :=
   fun {σ' H' v u} J rv q=>⟨v,H',J.os,J.bare,J.base,J.hok,rv,q⟩
 cases fl with
 | ret u =>
   obtain⟨v,σ',H',J,rv,q⟩:=hs
   exact fin J rv q
 | next =>
   obtain⟨σ',H',J,q⟩:=hs
   exact fin (v:=V.non) (u:=Value.none) J rfl q
 | brk =>
   obtain⟨_,_,_,q⟩:=hs
   exact False.elim q
 | cont =>
   obtain⟨_,_,_,q⟩:=hs
   exact False.elim q
end L2
namespace L2
open PySem PySem.Spec PyProof.Rows
section
variable {X:Cx}{x:Str}{p pos:Pos}{e:Expr}{es:List Expr}{t:TA}{id T:String}{r:List V→Hp→VK→Prop}
def tCB (r:List V→Hp→VK→Prop)(t:TA):TE:=fun σ H Q=>t σ H fun vs H1=>r vs H1 Q
theorem pe_callB (hc:CallR X (.builtin id) r)(hg:Gl X x)(hm:X.mg x=none)(hv:bootBuiltins x=some (.builtin id))(ha:PA X (e::es) t)(hn:x≠"__name__":=by decide)(hdb:(x==("__debug__":Str))=false:=by decide)
   (he:starEach (e::es) X.env=(false,eval e X.env)::starEach es X.env:=by rfl) (hpl:(backTo pos (starEach es X.env)).any (·.1)=false:=by rfl):PE X (.Call (.Name x p) (e::es) [] pos) (tCB r t):=by
 intro pins s σ H Q I h
 refine wpAny_Call_Name_kw (ld_blt I hg hm hv ?_ hn hdb)
 exact PyProof.Rows.callWith_builtin1 (thn (ha pos pins s σ H _ I h) fun us s1 ⟨vs,H1,I1,r1,q1⟩=>hc pins s1 σ H1 vs us Q I1 r1 q1) he hpl
theorem pe_callTy (hc:CallR X (.type T) r)(hg:Gl X x)(hm:X.mg x=none)(hv:bootBuiltins x=some (.type T))(ha:PA X (e::es) t)(hn:x≠"__name__":=by decide)(hdb:(x==("__debug__":Str))=false:=by decide)
   (he:starEach (e::es) X.env=(false,eval e X.env)::starEach es X.env:=by rfl) (hpl:(backTo pos (starEach es X.env)).any (·.1)=false:=by rfl):PE X (.Call (.Name x p) (e::es) [] pos) (tCB r t):=by
 intro pins s σ H Q I h
 refine wpAny_Call_Name_kw (ld_blt I hg hm hv ?_ hn hdb)
 exact PyProof.Rows.callWith_type1 (thn (ha pos pins s σ H _ I h) fun us s1 ⟨vs,H1,I1,r1,q1⟩=>hc pins s1 σ H1 vs us Q I1 r1 q1) he hpl
end
end L2
namespace HT
open PySem PyProof.Rows
def lexLt:List Int→List Int→Bool
 | [],[]=>false
 | [],_::_=>true
 | _::_,[]=>false
 | x::xs,y::ys=>if x=y then lexLt xs ys else decide (x<y)
theorem lexLt_cons (x y:Int)(xs ys:List Int):lexLt (x::xs) (y::ys)=if x=y then lexLt xs ys else decide (x<y):=rfl
theorem lexLt_nil_nil:lexLt [] []=false:=rfl
theorem lexLt_nil_cons (y:Int)(ys:List Int):lexLt [] (y::ys)=true:=rfl
theorem lexLt_cons_nil (x:Int)(xs:List Int):lexLt (x::xs) []=false:=rfl
theorem eqAt_int (A:Around)(s:Shared)(a:Int)(t:Tok)(c:Int)(u:Tok):∃e,SeqAt.EqAt A s (.int a t) (.int c u) e∧(e=true↔a=c) :=
 ⟨(a==c),SeqAt.EqAt.int_int a t c u,by simp⟩
theorem rcLt_int (A:Around)(s:Shared)(a:Int)(t:Tok)(c:Int)(u:Tok)(prog:Program)(w:World)(E:Value→Shared→Prop)(Q:Value→Shared→Prop)(h:Q (.bool (decide (a<c))) s) :
   wpAny (model prog w) A (richCompare .Lt (.int a t) (.int c u)) Q E s :=
 (PyProof.Rows.lt_int h:wpAny (model prog w) A (compareOp .Lt (.int a t) (.int c u)) Q E s)
section
open PySem.SeqAt
open PySem.AutoSeq1 (wpAny_loadPart')
open PySem.MeetsSeq PySem.MeetsSeq2 PySem.MeetsSeq3
theorem tuple_lt_ints (l b:Addr)(items items2:Array Value)(n n2:Nat)(dd dd2:Option Addr)(sl sl2:Array (Option Value))(ns ms:List Int)(hi:IntsAre items.toList ns)(hj:IntsAre items2.toList ms) :
   Meets (Builtin.«tuple.__lt__» ⟨[.ref l,.ref b],[]⟩)
     (fun _ R s=>s.heap.get? l=some { cls:=.type "tuple",dict:=dd,data:=.seq items n,slots:=sl }∧s.heap.get? b=some { cls:=.type "tuple",dict:=dd2,data:=.seq items2 n2,slots:=sl2 } ∧
       R (.ok (.ret (.bool (lexLt ns ms)))) s) :=
 .of_wp fun prog w A R s h=>by
   obtain⟨hp,g,d,tk,os⟩:=s;obtain⟨hl,hb,h⟩:=h
   have f2:=AutoSeq1.sub_tuple_tuple
   have z1:items.size=ns.length:=by rw[←hi.length];simp
   have z2:items2.size=ms.length:=by rw[←hj.length];simp
   wp_walk using wpAny_loadPart' hl,wpAny_loadPart' hb,wpAny_forIn_list _ (fun rest b s'=>b.1=none∧s'=⟨hp,g,d,tk,os⟩∧∃(vs ws:List Value) (ns' ms':List Int),rest=vs.zip ws ∧
     IntsAre vs ns'∧IntsAre ws ms'∧ns'.length+items2.size=ms'.length+items.size∧R (.ok (.ret (.bool (lexLt ns' ms')))) ⟨hp,g,d,tk,os⟩) _
   case turn =>
     rintro⟨y,x⟩ rest b s' ⟨hb',rfl,vs,ws,ns',ms',hz,hvi,hwi,hlen,hR⟩
     cases hvi with
     | nil=>rw[List.zip_nil_left] at hz;cases hz
     | cons a t hvi' =>
       cases hwi with
       | nil=>rw[List.zip_nil_right] at hz;cases hz
       | cons c u hwi' =>
         rw[List.zip_cons_cons] at hz
         injection hz with hyx hrest
         injection hyx with hy hx
         subst hy hx
         rw[lexLt_cons] at hR
         simp only [List.length_cons] at hlen
         obtain⟨e,he,hiff⟩:=eqAt_int A.in1 ⟨hp,g,d,tk,os⟩ a t c u
         refine wpAny_bind (he prog w _ _ ?_)
         cases e with
         | true =>
           rw[if_pos (hiff.mp rfl)] at hR
           wp_walk
           exact⟨rfl,rfl,_,_,_,_,hrest,hvi',hwi',by omega,hR⟩
         | false =>
           rw[if_neg (fun q=>absurd (hiff.mpr q) Bool.false_ne_true)] at hR
           have hri:=rcLt_int A.in1 ⟨hp,g,d,tk,os⟩ a t c u prog w
           wp_walk using hri
           exact⟨_,rfl,by simpa using hR⟩
   case fin =>
     rintro⟨b1,b2⟩ s' ⟨hb',rfl,vs,ws,ns',ms',hz,hvi,hwi,hlen,hR⟩
     simp only at hb'
     subst hb'
     have hv:lexLt ns' ms'=decide (items.size<items2.size):=by
       cases hvi with
       | nil =>
         cases hwi with
         | nil =>
           simp only [List.length_nil] at hlen
           rw[lexLt_nil_nil]
           exact(decide_eq_false (by omega)).symm
         | cons c u hw =>
           simp only [List.length_nil,List.length_cons] at hlen
           rw[lexLt_nil_cons]
           exact(decide_eq_true (by omega)).symm
       | cons a t hv =>
         cases hwi with
         | nil =>
           simp only [List.length_nil,List.length_cons] at hlen
           rw[lexLt_cons_nil]
           exact(decide_eq_false (by omega)).symm
         | cons c u hw =>
           rw[List.zip_cons_cons] at hz
           cases hz
     rw[hv] at hR
     wp_walk
     exact⟨_,rfl,by simpa [Builtin.Tuple.tupleCompareSizes] using hR⟩
   case h =>
     exact⟨rfl,rfl,items.toList,items2.toList,ns,ms,rfl,hi,hj,by omega,h⟩
end
section
variable {prog:Program}{w:World}{A:Around}{E:Value→Shared→Prop}{s:Shared}
theorem lt_tupInts {l b:Addr}{items items2:Array Value}{ns ms:List Int}{Q:Value→Shared→Prop}(hl:IsTup s.heap l items)(hb:IsTup s.heap b items2)(hi:IntsAre items.toList ns)(hj:IntsAre items2.toList ms)
   (hu:A.units<cLine) (h:Q (.bool (lexLt ns ms)) s):wpAny (model prog w) A (compareOp .Lt (.ref l) (.ref b)) Q E s:=by
 obtain⟨⟨cls,dd,data,sl⟩,ho,hc,n,hd⟩:=id hl
 obtain⟨⟨cls2,dd2,data2,sl2⟩,ho2,hc2,n2,hd2⟩:=id hb
 simp only at hc hd hc2 hd2
 subst hc hd hc2 hd2
 exact richCompare_meets_room (op:=.Lt) ⟨_,ho,rfl⟩ ⟨_,ho2,rfl⟩ PySem.F.slot_tuple_lt PySem.F.entry_tuple_lt (PySem.F.args_tuple_lt_2 _ _) (tuple_lt_ints l b items items2 n n2 dd dd2 sl sl2 ns ms hi hj)
   ⟨ho,ho2,show Value.bool (lexLt ns ms)≠Value.notImplemented∧Q (.bool (lexLt ns ms)) s from ⟨(fun x=>nomatch x),h⟩⟩ hu
def sIx (n d:Nat):Option Int→Nat
 | none=>d
 | some v=>if v<0 then (v+(n:Int)).toNat else min v.toNat n
theorem sIx_none (n d:Nat):sIx n d none=d:=rfl
theorem sIx_nat (n d k:Nat):sIx n d (some (k:Int))=min k n:=by
 show (if (k:Int)<0 then ((k:Int)+(n:Int)).toNat else min (k:Int).toNat n)=min k n
 rw[if_neg (by omega),Int.toNat_natCast]
end
end HT
namespace L2
open PySem PySem.Spec PyProof.Rows
abbrev TO:=St→Hp→(Option Int→Hp→Prop)→Prop
def PO (X:Cx)(e:Option Expr)(t:TO):Prop :=
 ∀(pins:List (Addr×Obj)) (s:Shared) (σ:St) (H:Hp) (Q:Option Int→Hp→Prop),Inv X pins σ H s→t σ H Q →
   wpAny (model X.prog X.w) X.A (evalPart e X.env) (fun u s'=>∃o H',Inv X pins σ H' s'∧IsPart u o∧Q o H') X.xe s
def tNoPart:TO:=fun _ H Q=>Q none H
def tPart (t:TE):TO:=fun σ H Q=>t σ H fun x H1=>∃i,x = .int i∧Q (some i) H1
theorem intsAre_of {ns:List Int}:∀{us:List Value},Vals (ns.map V.int) us→IntsAre us ns:=by
 induction ns with
 | nil=>intro us r;rw[List.map_nil] at r;cases r;exact .nil
 | cons n ns ih =>
   intro us r
   rw[List.map_cons] at r
   cases r with
   | cons r1 r2 =>
     obtain⟨t,e⟩:=r1
     subst e
     exact .cons n t (ih r2)
section
variable {X:Cx}{e:Expr}{te:TE}{lo hi:Option Expr}{tl th:TO}{pos p2:Pos}
theorem po_none:PO X none tNoPart:=by
 intro pins s σ H Q I h
 rw[evalPart_none]
 exact wpAny_pure ⟨none,H,I,.none,h⟩
theorem po_some (h:PE X e te):PO X (some e) (tPart te):=by
 intro pins s σ H Q I hw
 rw[evalPart_some]
 refine thn (h pins s σ H _ I hw) fun u s1 ⟨x,H1,I1,r1,q1⟩=>?_
 obtain⟨i,rfl,q⟩:=q1
 obtain⟨t,rfl⟩:=r1
 exact⟨some i,H1,I1,.int i t,q⟩
def SlR (X:Cx)(r:V→Option Int→Option Int→Hp→VK→Prop):Prop :=
 ∀(pins:List (Addr×Obj)) (s:Shared) (σ:St) (H:Hp) (x:V) (v vl vu:Value) (lo hi:Option Int) (sl:Addr) (Q:VK),Inv X pins σ H s→RelV x v→s.heap.IsSliceOf sl vl vu .none→IsPart vl lo→IsPart vu hi→r x lo hi H Q →
   ∃T id,typeLookup (.type T) "__getitem__"=pure (some (.builtin id))∧s.TypeIs v T∧wpAny (model X.prog X.w) X.A (getItem v (.ref sl)) (EP X pins σ Q) X.xe s
def tSl (r:V→Option Int→Option Int→Hp→VK→Prop)(te:TE)(tl th:TO):TE:=fun σ H Q=>te σ H fun x H1=>tl σ H1 fun l H2=>th σ H2 fun u H3=>r x l u H3 Q
theorem pe_slice {r:V→Option Int→Option Int→Hp→VK→Prop}(hr:SlR X r)(he:PE X e te)(hl:PO X lo tl)(hu:PO X hi th):PE X (.Subscript e (.Slice lo hi none p2) pos) (tSl r te tl th):=by
 intro pins s σ H Q I h
 refine Subscript_ (thn (he pins s σ H _ I h) fun v s1 ⟨x,H1,I1,r1,q1⟩=>?_)
 refine wpAny_Slice (thn (hl pins s1 σ H1 _ I1 q1) fun vl s2 ⟨l,H2,I2,pl,q2⟩=>thn (hu pins s2 σ H2 _ I2 q2) fun vu s3 ⟨u,H3,I3,pu,q3⟩=>?_)
 rw[evalPart_none]
 refine wpAny_pure ?_
 have I4:Inv X pins σ H3 { s3 with heap:=s3.heap.push { cls:=.type "slice",data:=.fields #[vl,vu,.none] } }:=I3.kept (t':=s3.toks) fun b ob q=>Heap.get?_push_of_some _ q
 obtain⟨T,id,hT,ht,hg⟩:=hr pins { s3 with heap:=s3.heap.push { cls:=.type "slice",data:=.fields #[vl,vu,.none] } } σ H3 x v vl vu l u s3.heap.objs.size Q I4 r1 (Heap.IsSliceOf.new ..) pl pu q3
 show wpAny (model X.prog X.w) X.A (subscriptTail e (.Slice lo hi none p2) v (.ref s3.heap.objs.size)) (EP X pins σ Q) X.xe { s3 with heap:=s3.heap.push { cls:=.type "slice",data:=.fields #[vl,vu,.none] } }
 exact tail_any (ops:=[.ref s3.heap.objs.size,v]) ht hT hg (by with_unfolding_all rfl)
def cutV (xs:List V)(lo hi:Option Int):List V:=(xs.drop (HT.sIx xs.length 0 lo)).take (HT.sIx xs.length xs.length hi-HT.sIx xs.length 0 lo)
theorem cutV_length (xs:List V)(lo hi:Option Int):(cutV xs lo hi).length≤xs.length:=by
 unfold cutV
 rw[List.length_take,List.length_drop]
 omega
end
end L2
namespace L2
open PySem PySem.Spec PyProof.Rows
def ixN (n:Nat)(i:Int):Option Nat:=if 0≤i then (if i<n then some i.toNat else none) else if -(n:Int)≤i then some (i+n).toNat else none
def atI {α:Type}(xs:List α)(i:Int):Option α:=(ixN xs.length i).bind fun j=>xs[j]?
theorem ixN_seq {n:Nat}{i:Int}{j:Nat}(h:ixN n i=some j):seqIndex? i n=some j∧j<n∧-(n:Int)≤i∧i<n:=by
 unfold ixN at h
 by_cases h0:0≤i
 · rw[if_pos h0] at h
   by_cases h1:i<n
   · rw[if_pos h1] at h
     have e:i.toNat=j:=Option.some.inj h
     exact⟨by rw[seqIndex_of h0 h1,e],by omega,by omega,h1⟩
   · rw[if_neg h1] at h;cases h
 · rw[if_neg h0] at h
   by_cases h1 : -(n:Int)≤i
   · rw[if_pos h1] at h
     have e:(i+n).toNat=j:=Option.some.inj h
     exact⟨by rw[seqIndex_neg (by omega) h1,e],by omega,h1,by omega⟩
   · rw[if_neg h1] at h;cases h
theorem atI_get {α:Type}{xs:List α}{i:Int}{v:α}(h:atI xs i=some v):∃j,seqIndex? i xs.length=some j∧xs[j]?=some v∧j<xs.length∧-(xs.length:Int)≤i∧i<xs.length:=by
 unfold atI at h
 cases e:ixN xs.length i with
 | none=>rw[e] at h;cases h
 | some j =>
   rw[e] at h
   obtain⟨h1,h2,h3,h4⟩:=ixN_seq e
   exact⟨j,h1,h,h2,h3,h4⟩
theorem atI_nat {α:Type}{xs:List α}{j:Nat}{v:α}(h:xs[j]?=some v):atI xs (j:Int)=some v:=by
 have hj:j<xs.length:=(List.getElem?_eq_some_iff.mp h).1
 have e:ixN xs.length (j:Int)=some j:=by
   unfold ixN
   rw[if_pos (by omega),if_pos (by omega)];simp
 unfold atI;rw[e];exact h
def PlainIx (b:Expr):Prop:=∀o i,subscripted b false o i=operate [o,i] (getItem o i)
def IxR (X:Cx)(r:R2):Prop :=
 ∀(value slice:Expr) (pins:List (Addr×Obj)) (s:Shared) (σ:St) (H:Hp) (x y:V) (v u:Value) (Q:VK),Inv X pins σ H s→RelV x v→RelV y u→r x y H Q →
   subscripted slice false v u=operate [v,u] (getItem v u)→wpAny (model X.prog X.w) X.A (subscriptTail value slice v u) (EP X pins σ Q) X.xe s
def MtR (X:Cx)(id:String)(r:V→List V→Hp→VK→Prop):Prop :=
 ∀(pins:List (Addr×Obj)) (s:Shared) (σ:St) (H:Hp) (x:V) (xs:List V) (v:Value) (us:List Value) (Q:VK),Inv X pins σ H s→RelV x v→Vals xs us→r x xs H Q →
   wpAny (model X.prog X.w) X.A (call (.builtin id) (v::us)) (EP X pins σ Q) X.xe s
section
variable {X:Cx}{a b:Expr}{ta tb:TE}{pos:Pos}
theorem pe_ix {r:R2}(hr:IxR X r)(ha:PE X a ta)(hb:PE X b tb)(hs:PlainIx b):PE X (.Subscript a b pos) (tOp r ta tb):=by
 intro pins s σ H Q I h
 exact Subscript_ (binT ha hb I h fun v u s2 x y H2 I2 rx ry q=>hr a b pins s2 σ H2 x y v u Q I2 rx ry q (hs _ _))
def rIxL (K:PySem.W.Frag):R2:=fun x y H Q=>∃p xs i v,x = .ref p∧y = .int i∧SqL K H p xs∧atI xs i=some v∧Q v H
def rIxT (K:PySem.W.Frag):R2:=fun x y H Q=>∃p xs i v,x = .ref p∧y = .int i∧SqT K H p xs∧atI xs i=some v∧Q v H
theorem ix_list:IxR X (rIxL X.K):=by
 intro value slice pins s σ H x y v u Q I rx ry h hs
 obtain⟨p,xs,i,z,rfl,rfl,hq,he,q⟩:=h
 cases rx
 obtain⟨t,rfl⟩:=ry
 obtain⟨its,r,pl,hz⟩:=I.list hq
 obtain⟨j,h1,h2,h3,h4,h5⟩:=atI_get he
 obtain⟨w,ew,rw'⟩:=r.get h2
 have hl:=r.length
 have hn:=line63
 have fin:EP X pins σ Q w s:=⟨z,H,I,rw',q⟩
 by_cases h0:0≤i
 · have hj:i.toNat=j:=by
     rw[seqIndex_of h0 h5] at h1
     exact Option.some.inj h1
   exact item_listR pl.isList h0 (by omega) (by rw[hj];simpa using ew) fin hs
 · have hj:(i+(its.toArray.size:Int)).toNat=j:=by
     rw[seqIndex_neg (by omega) h4] at h1
     rw[List.size_toArray,←hl]
     exact Option.some.inj h1
   exact subscriptTail_builtinR (x:=w) pl.isList.typeIs slot_list_getitem.lookup
     (wpAny_getItem_list_neg (Q:=fun r s'=>r=w∧EP X pins σ Q r s') pl.isList (by omega) (by rw[List.size_toArray] <;> omega) (by omega) (by rw[hj];simpa using ew) ⟨rfl,fin⟩) hs
theorem ix_tup:IxR X (rIxT X.K):=by
 intro value slice pins s σ H x y v u Q I rx ry h hs
 obtain⟨p,xs,i,z,rfl,rfl,hq,he,q⟩:=h
 cases rx
 obtain⟨t,rfl⟩:=ry
 obtain⟨its,r,pl,hz⟩:=I.tuple hq
 obtain⟨j,h1,h2,h3,h4,h5⟩:=atI_get he
 obtain⟨w,ew,rw'⟩:=r.get h2
 have hl:=r.length
 have hn:=line63
 have fin:EP X pins σ Q w s:=⟨z,H,I,rw',q⟩
 exact subscriptTail_builtinR (x:=w) pl.typeIs slot_tuple_getitem.lookup
   (getItem_tuple (j:=j) (Q:=fun r s'=>r=w∧EP X pins σ Q r s') pl (by omega) (by omega) (by rw[List.size_toArray,←hl];exact h1) (by simpa using ew) ⟨rfl,fin⟩) hs
theorem mapSeq_set (its:List Value)(n j:Nat)(u:Value):Obj.mapSeq (·.setIfInBounds j u) { cls:=.type "list",data:=.seq its.toArray n }={ cls:=.type "list",data:=.seq (its.set j u).toArray n }:=by
 simp [Obj.mapSeq]
theorem Inv.lst {pins:List (Addr×Obj)}{σ:St}{H:Hp}{s:Shared}{p:Addr}{xs:List V}(I:Inv X pins σ H s)(h:H p=some (.lst xs)) :
   ∃(its:List Value) (n:Nat),Vals xs its∧s.heap.get? p=some { cls:=.type "list",data:=.seq its.toArray n }∧xs.length≤sizeLine:=by
 obtain⟨z,its,n,r,e⟩:=I.hok p _ h
 exact⟨its,n,r,e,z⟩
theorem Inv.lstUpd {pins:List (Addr×Obj)}{σ:St}{H:Hp}{s:Shared}{p:Addr}{xs ys:List V}{its its':List Value}{n n':Nat}{f:Obj→Obj}(I:Inv X pins σ H s)(h:H p=some (.lst xs))
   (ho:s.heap.get? p=some { cls:=.type "list",data:=.seq its.toArray n }) (hf:f { cls:=.type "list",data:=.seq its.toArray n }={ cls:=.type "list",data:=.seq its'.toArray n' }) (r:Vals ys its') (hz:ys.length≤sizeLine) (t:Nat) :
   Inv X pins σ (upd H p (.lst ys)) { s with heap:=s.heap.update p f,toks:=t }:=by
 have e:(s.heap.update p f).get? p=some { cls:=.type "list",data:=.seq its'.toArray n' }:=by
   rw[Heap.get?_update_self f ho (by rw[hf] <;> rfl),hf]
 refine I.write (x:=p) (e:=p) (by rw[h];trivial) (.inl rfl) (fun b u hb q=>(Heap.get?_update_other _ _ (Ne.symm hb)).trans q) ⟨_,e⟩ ?_
 exact⟨hz,its',n',r,e⟩
def rSetL:V→V→V→Hp→(Hp→Prop)→Prop:=fun o i v H Q=>∃p xs k j,o = .ref p∧i = .int k∧H p=some (.lst xs)∧ixN xs.length k=some j∧Q (upd H p (.lst (xs.set j v)))
theorem set_list:PSet X rSetL:=by
 intro pins s σ H o i v ov iv u Q I ro ri rv h
 obtain⟨p,xs,k,j,rfl,rfl,hp,hj,q⟩:=h
 cases ro
 obtain⟨t,rfl⟩:=ri
 obtain⟨its,n,r,ho,hz⟩:=I.lst hp
 obtain⟨h1,h2,h3,h4⟩:=ixN_seq hj
 have hl:=r.length
 have hn:=line63
 have I':Inv X pins σ (upd H p (.lst (xs.set j v))) { s with heap:=s.heap.update p (Obj.mapSeq (·.setIfInBounds j u)) } :=
   I.lstUpd hp ho (mapSeq_set its n j u) (r.set rv j) (by rw[List.length_set];exact hz) s.toks
 by_cases h0:0≤k
 · have hk:k.toNat=j:=by
     rw[seqIndex_of h0 h4] at h1
     exact Option.some.inj h1
   exact PySem.W.ki_setAt ho h0 (by omega) (by rw[List.size_toArray,←hl];exact h4) (by rw[hk];exact⟨_,I',q⟩)
 · have hk:(k+(its.toArray.size:Int)).toNat=j:=by
     rw[seqIndex_neg (by omega) h3] at h1
     rw[List.size_toArray,←hl]
     exact Option.some.inj h1
   exact PySem.W.ki_setBack ho (by omega) (by rw[List.size_toArray,←hl];exact h3) (by omega) (by rw[hk];exact⟨_,I',q⟩)
theorem slice_bounds (lo hi:Option Int)(n:Nat):(sliceBounds lo hi none n).1=((HT.sIx n 0 lo:Nat):Int)∧(sliceBounds lo hi none n).2.1=((HT.sIx n n hi:Nat):Int)∧(sliceBounds lo hi none n).2.2=1:=by
 refine⟨?_,?_,rfl⟩
 · cases lo with
   | none=>simp [sliceBounds,HT.sIx]
   | some i =>
     simp only [sliceBounds,HT.sIx,Option.getD_none,show (1:Int)>0 by decide,if_true]
     by_cases h:i<0
     · simp only [h,if_true] <;> omega
     · simp only [h,if_false] <;> omega
 · cases hi with
   | none=>simp [sliceBounds,HT.sIx]
   | some i =>
     simp only [sliceBounds,HT.sIx,Option.getD_none,show (1:Int)>0 by decide,if_true]
     by_cases h:i<0
     · simp only [h,if_true] <;> omega
     · simp only [h,if_false] <;> omega
theorem slicePick_cut (its:List Value)(lo hi:Option Int):slicePick its.toArray lo hi none=((its.drop (HT.sIx its.length 0 lo)).take (HT.sIx its.length its.length hi-HT.sIx its.length 0 lo)).toArray:=by
 obtain⟨h1,h2,h3⟩:=slice_bounds lo hi its.toArray.size
 unfold slicePick
 rw[h1,h2,h3]
 simp only [sliceRange_one,pick_run,List.size_toArray] <;> rfl
def rSlL (K:PySem.W.Frag):V→Option Int→Option Int→Hp→VK→Prop:=fun x lo hi H Q=>∃a xs,x = .ref a∧SqL K H a xs∧∀p,H p=none→Q (.ref p) (upd H p (.lst (cutV xs lo hi)))
theorem sl_list:SlR X (rSlL X.K):=by
 intro pins s σ H x v vl vu lo hi sl Q I rx hs pl pu h
 obtain⟨a,xs,rfl,hx,q⟩:=h
 cases rx
 obtain⟨its,r,ht,hz⟩:=I.list hx
 have hlen:=r.length
 refine⟨"list",_,slot_list_getitem.lookup,ht.isList.typeIs,?_⟩
 refine wpAny_getItem_list_slice ht.isList hs pl pu .none (by simp) ?_ (by rw[List.size_toArray] <;> omega)
 rw[slicePick_cut,←hlen]
 refine⟨.ref s.heap.objs.size,_,I.laid (t':=s.toks) (o:=.lst (cutV xs lo hi)) (fun b ob q=>Heap.get?_push_of_some _ q) (Nat.le_refl _) ?_,rfl,q _ (I.hok.fresh (Nat.le_refl _))⟩
 exact⟨Nat.le_trans (cutV_length xs lo hi) hz,_,0,(r.drop (HT.sIx xs.length 0 lo)).take (HT.sIx xs.length xs.length hi-HT.sIx xs.length 0 lo),Heap.get?_push_size _ rfl⟩
def flatV:V→Bool
 | .non=>true
 | .bl _=>true
 | .int _=>true
 | .str _=>true
 | _=>false
def eqV:V→V→Bool
 | .non,.non=>true
 | .bl a,.bl b=>a==b
 | .bl a,.int b=>(if a then 1 else 0)==b
 | .int a,.bl b=>a==(if b then 1 else 0)
 | .int a,.int b=>a==b
 | .str a,.str b=>a==b
 | _,_=>false
theorem eqAt_V {A:Around}{s:Shared}{y x:V}{u v:Value}(ry:RelV y u)(rx:RelV x v)(fy:flatV y=true)(fx:flatV x=true):SeqAt.EqAt A s u v (eqV y x):=by
 cases y with
 | non =>
   cases ry
   cases x with
   | non=>cases rx;exact SeqAt.EqAt.same _
   | bl b=>cases rx;exact SeqAt.EqAt.none_bool b
   | int b=>obtain⟨t,rfl⟩:=rx;exact SeqAt.EqAt.none_int b t
   | str b=>obtain⟨t,rfl⟩:=rx;exact SeqAt.EqAt.none_str b t
   | _=>exact absurd (show false=true from fx) Bool.false_ne_true
 | bl a =>
   cases ry
   cases x with
   | non=>cases rx;exact SeqAt.EqAt.bool_none a
   | bl b=>cases rx;exact SeqAt.EqAt.bool_bool a b
   | int b=>obtain⟨t,rfl⟩:=rx;exact SeqAt.EqAt.bool_int a b t
   | str b=>obtain⟨t,rfl⟩:=rx;exact SeqAt.EqAt.bool_str a b t
   | _=>exact absurd (show false=true from fx) Bool.false_ne_true
 | int a =>
   obtain⟨t',rfl⟩:=ry
   cases x with
   | non=>cases rx;exact SeqAt.EqAt.int_none a t'
   | bl b=>cases rx;exact SeqAt.EqAt.int_bool a t' b
   | int b=>obtain⟨t,rfl⟩:=rx;exact SeqAt.EqAt.int_int a t' b t
   | str b=>obtain⟨t,rfl⟩:=rx;exact SeqAt.EqAt.int_str a t' b t
   | _=>exact absurd (show false=true from fx) Bool.false_ne_true
 | str a =>
   obtain⟨t',rfl⟩:=ry
   cases x with
   | non=>cases rx;exact SeqAt.EqAt.str_none a t'
   | bl b=>cases rx;exact SeqAt.EqAt.str_bool a t' b
   | int b=>obtain⟨t,rfl⟩:=rx;exact SeqAt.EqAt.str_int a t' b t
   | str b=>obtain⟨t,rfl⟩:=rx;exact SeqAt.EqAt.str_str a t' b t
   | _=>exact absurd (show false=true from fx) Bool.false_ne_true
 | _=>exact absurd (show false=true from fy) Bool.false_ne_true
theorem call_len_seq:CallR X (.builtin "len") (fun xs H Q=>∃p ys,xs=[.ref p]∧(SqL X.K H p ys∨SqT X.K H p ys)∧Q (.int ys.length) H):=by
 intro pins s σ H xs us Q I r h
 obtain⟨p,ys,rfl,hq,q⟩:=h
 obtain⟨u,rfl,rx⟩:=vals1 r
 cases rx
 have hn:=line63
 rcases hq with hq | hq
 · obtain⟨its,r',pl,hz⟩:=I.list hq
   have hlen:=r'.length
   exact Calls.call_len_list pl.isList (by simp only [List.size_toArray] <;> omega) ⟨.int ys.length,H,I.tok _,⟨s.toks+1,by rw[List.size_toArray,hlen]⟩,q⟩
 · obtain⟨its,r',pl,hz⟩:=I.tuple hq
   have hlen:=r'.length
   exact len_tuple pl (by simp only [List.size_toArray] <;> omega) ⟨.int ys.length,H,I.tok _,⟨s.toks+1,by rw[List.size_toArray,hlen]⟩,q⟩
theorem call_list_of:CallR X (.type "list") (fun xs H Q=>∃p ys,xs=[.ref p]∧(SqL X.K H p ys∨SqT X.K H p ys)∧∀l,H l=none→Q (.ref l) (upd H l (.lst ys))):=by
 intro pins s σ H xs us Q I r h
 obtain⟨p,ys,rfl,hq,q⟩:=h
 obtain⟨u,rfl,rx⟩:=vals1 r
 cases rx
 have fin:∀(its:List Value),Vals ys its→ys.length≤sizeLine→∀(h':Heap) (c':Nat),(∀b o',s.heap.get? b=some o'→h'.get? b=some o') →
     h'.get? s.heap.objs.size=some { cls:=.type "list",dict:=none,data:=.seq its.toArray c',slots:=#[] }→EP X pins σ Q (.ref s.heap.objs.size) { s with heap:=h' }:=fun its r' hz h' c' kp e =>
   ⟨.ref s.heap.objs.size,_,I.laid (t':=s.toks) kp (Nat.le_refl _) (show ObjOk X.prog X.w _ h' _ (.lst ys) from ⟨hz,its,c',r',e⟩),rfl,q _ (I.hok.fresh (Nat.le_refl _))⟩
 rcases hq with hq | hq
 · obtain⟨its,r',pl,hz⟩:=I.list hq
   have hlen:=r'.length
   obtain⟨o,ho,hc,n,hd⟩:=pl.isList
   exact call_list_seq p (.inl rfl) ho hc hd (fun h' c' kp e=>fin its r' hz h' c' kp e) (by simp only [List.size_toArray] <;> omega)
 · obtain⟨its,r',pl,hz⟩:=I.tuple hq
   have hlen:=r'.length
   obtain⟨o,ho,hc,n,hd⟩:=pl
   exact call_list_seq p (.inr rfl) ho hc hd (fun h' c' kp e=>fin its r' hz h' c' kp e) (by simp only [List.size_toArray] <;> omega)
def tyV (K:PySem.W.Frag)(T:String)(x:V)(H:Hp):Prop:=match x with
 | .str _=>T="str"
 | .int _=>T="int"
 | .ref p=>(T="list"∧∃xs,SqL K H p xs)∨(T="tuple"∧∃o,K.lookup p=some o∧o.cls = .type "tuple"∧o.dict=none) ∨
     (T="dict"∧((∃kvs,H p=some (.dK kvs))∨∃kvs,H p=some (.dT kvs)))∨(T="set"∧∃S n,H p=some (.set S n))
 | _=>False
theorem tyV_is {pins:List (Addr×Obj)}{σ:St}{H:Hp}{s:Shared}{T:String}{x:V}{v:Value}(I:Inv X pins σ H s)(r:RelV x v)(ty:tyV X.K T x H) :
   s.TypeIs v T∧∀a,v = .ref a→∃ob,s.heap.get? a=some ob∧ob.dict=none:=by
 cases x with
 | str z =>
   obtain⟨t,rfl⟩:=r
   cases (show T="str" from ty)
   exact⟨typeIs_str s z t,fun _ e=>nomatch e⟩
 | int i =>
   obtain⟨t,rfl⟩:=r
   cases (show T="int" from ty)
   exact⟨typeIs_int s i t,fun _ e=>nomatch e⟩
 | ref p =>
   cases r
   rcases ty with ⟨rfl,xs,hq⟩ | ⟨rfl,o,hk,hc,hd⟩ | ⟨rfl,hk⟩ | ⟨rfl,S,n,hk⟩
   · obtain⟨its,_,pl,_⟩:=I.list hq
     refine⟨pl.isList.typeIs,fun a e=>?_⟩
     cases e
     obtain⟨o,n,e,c,hd,_⟩:=pl
     exact⟨o,e,hd⟩
   · refine⟨⟨o,I.kIn p o hk,hc⟩,fun a e=>?_⟩
     cases e
     exact⟨o,I.kIn _ o hk,hd⟩
   · have z:∃o,s.heap.get? p=some o∧o.ExactDict:=by
       rcases hk with ⟨kvs,hk⟩ | ⟨kvs,hk⟩
       · obtain⟨_,_,_,_,o,_,_,e,ex,_⟩:=I.hok p _ hk
         exact⟨o,e,ex⟩
       · obtain⟨_,_,_,_,o,_,_,e,ex,_⟩:=I.hok p _ hk
         exact⟨o,e,ex⟩
     obtain⟨o,e,ex⟩:=z
     refine⟨⟨o,e,ex.1⟩,fun a e2=>?_⟩
     cases e2
     exact⟨o,e,ex.2.1⟩
   · obtain⟨o,_,_,_,e,ex,_⟩:=I.hok p _ hk
     refine⟨⟨o,e,ex.1⟩,fun a e2=>?_⟩
     cases e2
     exact⟨o,e,ex.2.1⟩
 | _=>exact False.elim ty
def tBM0 (K:PySem.W.Frag)(T:String)(r:V→List V→Hp→VK→Prop)(to:TE):TE:=fun σ H Q=>to σ H fun x H1=>tyV K T x H1∧r x [] H1 Q
def tBM (K:PySem.W.Frag)(T:String)(r:V→List V→Hp→VK→Prop)(to:TE)(t:TA):TE:=fun σ H Q=>to σ H fun x H1=>tyV K T x H1∧t σ H1 fun xs H2=>r x xs H2 Q
variable {o e:Expr}{es:List Expr}{to:TE}{t:TA}{name:Str}{apos cpos:Pos}{T id:String}{r:V→List V→Hp→VK→Prop}
theorem pe_bm0 (pa:PlainAttrs T)(slot:Slot T name id)(hty:typeOf (.builtin id)=pure (.type "method_descriptor"))(hm:MtR X id r)(ho:PE X o to)
   (hbase:attributeBase o name X.env (eval o X.env)=eval o X.env:=by rfl) (hline:(apos.endLine==cpos.line)=true:=by rfl):PE X (.Call (.Attribute o name apos) [] [] cpos) (tBM0 X.K T r to):=by
 intro pins s σ H Q I h
 refine wpAny_Call_method0_late hbase hline (thn (ho pins s σ H _ I h) fun v s1 ⟨x,H1,I1,r1,ty,q1⟩=>?_)
 obtain⟨h1,h2⟩:=tyV_is I1 r1 ty
 exact⟨T,id,pa,slot,hty,h1,h2,Calls.callWith_builtin rfl (PySem.evalArgs_none (hm pins s1 σ H1 x [] v [] Q I1 r1 .nil q1))⟩
theorem pe_bm (pa:PlainAttrs T)(slot:Slot T name id)(hty:typeOf (.builtin id)=pure (.type "method_descriptor"))(hm:MtR X id r)(ho:PE X o to)(ha:PA X (e::es) t)
   (hbase:attributeBase o name X.env (eval o X.env)=eval o X.env:=by rfl)
   (hfew:((backTo cpos (starEach (e::es) X.env)).all (fun x=>!x.1)&&(backToKw cpos (keywordEach [] X.env)).all (fun x=>x.1.isSome)
     && decide ((e::es).length+([]:List Keyword).length+(if ([]:List Keyword).isEmpty then 0 else 1)<30))=true:=by rfl)
   (hline:(apos.endLine==cpos.line)=true:=by rfl) (hs:starEach (e::es) X.env=(false,eval e X.env)::starEach es X.env:=by rfl) (hplain:(backTo cpos (starEach es X.env)).any (·.1)=false:=by rfl) :
   PE X (.Call (.Attribute o name apos) (e::es) [] cpos) (tBM X.K T r to t):=by
 intro pins s σ H Q I h
 refine wpAny_Call_method_late hbase hfew hline rfl (thn (ho pins s σ H _ I h) fun v s1 ⟨x,H1,I1,r1,ty,q1⟩=>?_)
 obtain⟨h1,h2⟩:=tyV_is I1 r1 ty
 refine⟨T,id,pa,slot,hty,h1,h2,?_⟩
 have hA:=ha cpos pins s1 σ H1 _ I1 q1
 rw[hs] at hA ⊢
 refine Calls.callWith_builtin (by show (false||(backTo cpos (starEach es X.env)).any (·.1))=false;rw[hplain] <;> rfl) (Calls.evalArgs_plain ?_)
 exact thn hA fun us s2 ⟨vs,H2,I2,r2,q2⟩=>hm pins s2 σ H2 x vs v us Q I2 r1 r2 q2
/- xs.append(e),list.index on a module's tuple .. are MtR facts of 06m -/
end
end L2
namespace L2
open PySem PySem.Spec PyProof.Rows
def MtM (X:Cx)(id:String)(r:V→List V→Hp→VK→Prop):Prop :=
 ∀(pins:List (Addr×Obj)) (s:Shared) (σ:St) (H:Hp) (x:V) (xs:List V) (v:Value) (us:List Value) (Q:VK),Inv X pins σ H s→RelV x v→Vals xs us→r x xs H Q →
   wpAny (model X.prog X.w) X.A (call (.builtin id) (v::us)) (EP X pins σ Q) X.xe s
theorem Vals.one:∀{x:V} {us:List Value},Vals [x] us→∃u,us=[u]∧RelV x u
 | _,_,.cons r .nil=>⟨_,rfl,r⟩
theorem Vals.zero:∀{us:List Value},Vals [] us→us=[]
 | _,.nil=>rfl
theorem Vals.rep {xs:List V}{us:List Value}(h:Vals xs us):∀k:Nat,Vals (List.replicate k xs).flatten (List.replicate k us).flatten
 | 0=>.nil
 | k+1=>by
   rw[List.replicate_succ,List.replicate_succ,List.flatten_cons,List.flatten_cons]
   exact Vals.append h (Vals.rep h k)
theorem foldl_rep (its:List Value):∀(k:Nat) (acc:List Value),
   List.foldl (fun x1 x2=>x1++x2) acc.toArray (List.replicate k its.toArray)=(acc++(List.replicate k its).flatten).toArray
 | 0,acc=>by simp
 | k+1,acc=>by
   have e:acc.toArray++its.toArray=(acc++its).toArray:=by simp
   have e2:(acc++its)++(List.replicate k its).flatten=acc++(List.replicate (k+1) its).flatten:=by
     rw[List.replicate_succ,List.flatten_cons,List.append_assoc]
   rw[←e2,←foldl_rep its k (acc++its),←e,List.replicate_succ,List.foldl_cons]
section
variable {X:Cx}{pins:List (Addr×Obj)}{σ:St}{H:Hp}{s:Shared}{l b:Addr}{xs ys zs:List V}
theorem Inv.lset {its its':List Value}{n:Nat}{f:Array Value→Array Value}{t':Nat}(I:Inv X pins σ H s)(hH:H l=some (.lst xs))
   (e:s.heap.get? l=some { cls:=.type "list",data:=.seq its.toArray n }) (hf:f its.toArray=its'.toArray) (hv:Vals ys its') (hz:ys.length≤sizeLine) :
   Inv X pins σ (upd H l (.lst ys)) { s with heap:=s.heap.update l (Obj.mapSeq f),toks:=t' }:=by
 have q:=PySem.IsL.update e f
 rw[hf] at q
 refine I.write (x:=l) (e:=l) (by rw[hH];exact trivial) (.inl rfl) (fun b' u hb hu=>(Heap.get?_update_other s.heap (Obj.mapSeq f) (Ne.symm hb)).trans hu) ⟨_,q⟩ ?_
 exact⟨hz,its',_,hv,q⟩
theorem Inv.lnew {its:List Value}{t':Nat}(I:Inv X pins σ H s)(hv:Vals ys its)(hz:ys.length≤sizeLine) :
   Inv X pins σ (upd H s.heap.objs.size (.lst ys)) { s with heap:=s.heap.push { cls:=.type "list",data:=.seq its.toArray },toks:=t' } :=
 I.laid (fun _ _ q=>Heap.get?_push_of_some _ q) (Nat.le_refl _) ⟨hz,its,0,hv,Heap.get?_push_size _ rfl⟩
theorem Inv.fresh (I:Inv X pins σ H s):H s.heap.objs.size=none:=I.hok.fresh (Nat.le_refl _)
theorem Inv.lstM (I:Inv X pins σ H s)(hH:H l=some (.lst xs)):xs.length≤sizeLine∧∃(its:List Value) (n:Nat),Vals xs its∧xs.length=its.length∧s.heap.get? l=some { cls:=.type "list",data:=.seq its.toArray n }:=by
 obtain⟨z,its,n,r,e⟩:=I.hok l _ hH
 exact⟨z,its,n,r,r.length,e⟩
theorem notLongL {n:Nat}(h:n≤sizeLine):Builtin.List.listTooLong n=false:=by
 unfold Builtin.List.listTooLong
 exact decide_eq_false (by omega)
end
section
variable {X:Cx}
def rAppend:V→List V→Hp→VK→Prop:=fun x vs H Q=>∃l xs y,x = .ref l∧vs=[y]∧H l=some (.lst xs)∧xs.length<sizeLine∧Q .non (upd H l (.lst (xs++[y])))
theorem mt_append:MtM X "list.append" rAppend:=by
 intro pins s σ H x vs v us Q I rx rv h
 obtain⟨l,xs,y,rfl,rfl,hH,hz,q⟩:=h
 cases rx
 obtain⟨u,rfl,ru⟩:=rv.one
 obtain⟨z,its,n,r,hl,e⟩:=I.lstM hH
 refine call_meets F.slot_list_append ⟨_,e,rfl⟩ F.entry_list_append (F.args_list_append_2 _ _) (PySem.list_append l its.toArray n u (by rw[List.size_toArray];omega)) ⟨e,?_⟩
 refine⟨.non,_,I.lset (its':=its++[u]) hH e (by simp) (r.append (.cons ru .nil)) ?_,rfl,q⟩
 rw[List.length_append,List.length_singleton]
 omega
def rExtend:V→List V→Hp→VK→Prop:=fun x vs H Q=>∃l b xs zs,x = .ref l∧vs=[.ref b]∧H l=some (.lst xs)∧H b=some (.lst zs)∧xs.length+zs.length≤sizeLine∧Q .non (upd H l (.lst (xs++zs)))
theorem mt_extend:MtM X "list.extend" rExtend:=by
 intro pins s σ H x vs v us Q I rx rv h
 obtain⟨l,b,xs,zs,rfl,rfl,hH,hB,hz,q⟩:=h
 cases rx
 obtain⟨u,rfl,ru⟩:=rv.one
 cases ru
 obtain⟨z,its,n,r,hl,e⟩:=I.lstM hH
 obtain⟨z2,its2,n2,r2,hl2,e2⟩:=I.lstM hB
 have hsz:its.toArray.size+its2.toArray.size≤sizeLine:=by rw[List.size_toArray,List.size_toArray];omega
 have hlong:¬(!its.toArray.isEmpty&&Builtin.List.listTooLong (its.toArray.size+its2.toArray.size))=true:=by
   rw[notLongL hsz,Bool.and_false]
   exact Bool.false_ne_true
 refine call_meets F.slot_list_extend ⟨_,e,rfl⟩ F.entry_list_extend (F.args_list_extend_2 _ _)
   (AutoSeq1.list_extend_list_list_0 l its.toArray n b its2.toArray n2 hlong (by rw[List.size_toArray];omega) (by omega)) ⟨e,e2,?_⟩
 refine⟨.non,_,I.lset (its':=its++its2) hH e (by simp) (r.append r2) ?_,rfl,q⟩
 rw[List.length_append]
 omega
def rCat:R2:=fun x y H Q=>∃l b xs zs,x = .ref l∧y = .ref b∧H l=some (.lst xs)∧H b=some (.lst zs)∧xs.length+zs.length≤sizeLine∧∀p,H p=none→Q (.ref p) (upd H p (.lst (xs++zs)))
theorem op_cat:OpR X (binaryOp .Add) rCat:=by
 intro pins s σ H x y v u Q I rx ry h
 obtain⟨l,b,xs,zs,rfl,rfl,hH,hB,hz,q⟩:=h
 cases rx
 cases ry
 obtain⟨z,its,n,r,hl,e⟩:=I.lstM hH
 obtain⟨z2,its2,n2,r2,hl2,e2⟩:=I.lstM hB
 refine PySem.P.add_list e e2 ?_ (by rw[List.size_toArray,List.size_toArray];omega)
 have ea:its.toArray++its2.toArray=(its++its2).toArray:=by simp
 rw[ea]
 exact⟨.ref _,_,I.lnew (t':=s.toks) (r.append r2) (by rw[List.length_append];omega),rfl,q _ I.fresh⟩
def rRep:R2:=fun x y H Q=>∃l k xs,x = .ref l∧y = .int k∧H l=some (.lst xs)∧-(2^63)≤k∧k<2^63∧xs.length*k.toNat≤sizeLine ∧
 ∀p,H p=none→Q (.ref p) (upd H p (.lst (List.replicate k.toNat xs).flatten))
theorem len_rep {α:Type}(xs:List α)(k:Nat):(List.replicate k xs).flatten.length=k*xs.length:=by
 induction k with
 | zero=>simp
 | succ k ih=>rw[List.replicate_succ,List.flatten_cons,List.length_append,ih,Nat.succ_mul,Nat.add_comm]
theorem op_rep:OpR X (binaryOp .Mult) rRep:=by
 intro pins s σ H x y v u Q I rx ry h
 obtain⟨l,k,xs,rfl,rfl,hH,h1,h2,hz,q⟩:=h
 cases rx
 obtain⟨t,rfl⟩:=ry
 obtain⟨z,its,n,r,hl,e⟩:=I.lstM hH
 have hlen:its.toArray.size*k.toNat≤sizeLine:=by rw[List.size_toArray,←hl];exact hz
 have hcap:¬its.toArray.size*k.toNat>(2^63-1)/8:=by
   have:(sizeLine:Nat)≤(2^63-1)/8:=by decide
   omega
 have hfit:¬(!Builtin.List.listFitsIndex k)=true:=by
   rw[fitsIndex_both h1 h2]
   exact Bool.false_ne_true
 have hlong:¬Builtin.List.listTooLong (its.toArray.size*k.toNat)=true:=by
   rw[notLongL hlen]
   exact Bool.false_ne_true
 have hnew:List.foldl (fun x1 x2=>x1++x2) #[] (List.replicate (if its.toArray.isEmpty=true then 0 else k.toNat) its.toArray)=(List.replicate k.toNat its).flatten.toArray:=by
   have f0:∀m:Nat,List.foldl (fun x1 x2=>x1++x2) #[] (List.replicate m its.toArray)=(List.replicate m its).flatten.toArray:=fun m=>by
     have:=foldl_rep its m []
     rw[List.nil_append] at this
     exact this
   rw[f0]
   cases its with
   | nil=>simp
   | cons a r'=>rw[if_neg (by simp)]
 refine wpAny_binaryOp_repeat_ref (T:="list") (U:="int") (by decide) ⟨_,e,rfl⟩ (fun s'=>typeIs_int s' k t) noFill_list_mul F.fills_int_mul F.slot_int_rmul repeat_list F.slot_int_index.lookup
   (call_meets F.slot_int_rmul (typeIs_int s k t) F.entry_int_rmul (F.args_int_rmul_2 _ _) (int___rmul___int_list k t l its.toArray n)
     ⟨e,rfl,⟨_,e,rfl⟩,call_meets F.slot_list_mul ⟨_,e,rfl⟩ F.entry_list_mul (F.args_list_mul_2 _ _) (AutoListH.list___mul___list_int_3 l its.toArray n k t hfit hcap hlong) ⟨e,?_⟩⟩)
 rw[hnew]
 exact⟨.ref _,_,I.lnew (t':=s.toks) (r.rep k.toNat) (by rw[len_rep,Nat.mul_comm];exact hz),rfl,q _ I.fresh⟩
end
section
variable {prog:Program}{w:World}{A:Around}{E:Value→Shared→Prop}{s:Shared}
end
section
variable {X:Cx}
end
end L2
namespace Att
open PySem PySem.W PySem.Calls PyProof.Rows
theorem ints_of_wellAll {P:Params}{h:Heap}:∀(ns:List Int) (vs:List Value),WellAll P h vs (ns.map WData.int)→IntsAre vs ns:=by
 intro ns
 induction ns with
 | nil =>
   intro vs w
   rw[List.map_nil] at w
   cases w
   exact .nil
 | cons n ns ih =>
   intro vs w
   rw[List.map_cons] at w
   cases w with
   | cons a b =>
     cases a
     exact .cons _ _ (ih _ b)
theorem script_of {l:OpenLaw}{n:Nat}(hn:l.most=some n){P:Params}{h:Heap}{args:List WData}{vals:List Value}
   (hpre:l.row.toRowW.claim.pre args=true) (hwl:WellAll P h vals args) :
   ∃a vs ns,vals=[Value.ref a]∧args=[WData.list (ns.map WData.int)]∧h.get? a=some { cls:=.type "list",data:=.seq vs.toArray }∧IntsAre vs ns∧ns.length≤n:=by
 have hsh:WShape.hasAll [] args [.list .int]=true:=(pre_splitW hpre).1
 have hc:l.pre.holds [] { args:=args }=true:=(pre_splitW hpre).2
 obtain⟨d,r,rfl,h1,h2⟩:=hasAllW_cons hsh
 obtain rfl:=hasAllW_nil h2
 obtain⟨xs,rfl,h3⟩:=hasW_list h1
 obtain⟨ns,rfl⟩:=items_int h3
 have hlen:ns.length≤n:=by
   unfold OpenLaw.pre at hc
   have h4:(WTm.not (.lt (.lit (.int (n:Int))) (.len (.arg 0)))).holds [] { args:=[.list (ns.map .int)] }=true:=by
     have h4:=(holds_andW hc).1
     rw[hn] at h4
     exact h4
   have h5:=condW_of h4 (w_not (w_lt w_lit (w_len_list (w_arg rfl))))
   rw[List.length_map] at h5
   refine Nat.le_of_not_lt fun q=>?_
   have q':(n:Int)<((ns.length:Nat):Int):=by omega
   first
     | (rw[decide_eq_true q'] at h5;exact absurd h5 (by decide))
     | (simp at h5;omega)
 cases hwl with
 | cons w1 w2 =>
   cases w2
   cases w1 with
   | list ho hall=>exact⟨_,_,ns,rfl,rfl,ho,ints_of_wellAll ns _ hall,hlen⟩
theorem post_true (l:OpenLaw)(args:List WData):l.row.toRowW.claim.post args (.bool true) args=true :=
 postW_of (r:=l.row.toRowW) (X:=(true==true))
   (show WShape.has [] (.bool true) .bool=true by first | rfl | decide | simp [WShape.has,WShape.arms,WShape.armsAll])
   (show (WTm.eq .res (.lit (.bool true))).value [] { args:=args,res:=some (.bool true),after:=args }=some (.bool (true==true)) from w_eq_bool (w_res rfl) w_lit) rfl
theorem attach_call {l:OpenLaw}{n:Nat}{q:Program}{loose:List Str}{XP:(Str→Option Value)→Heap→Prop}{YP:World→Heap→Prop}{d:DefRec}
   (hn:l.most=some n) (hdf:d.params.defaults=[])
   (call:∀(w:World) (s₀ s₁:Shared) (mg mb:Str→Option Value) (fa:Addr) (o:Obj) (pm cd doc:Value) (a:Addr) (vs:List Value) (ns:List Int),
     Ground q loose [] XP w s₀ mg mb s₁.heap→YP w s₁.heap →
     s₁.heap.get? fa=some o→o.data = .func (docDef d.name d.params d.body d.scope pm cd doc)→s₁.heap.CodeRec cd d.name→mg d.name=some (.ref fa) →
     s₁.heap.get? a=some { cls:=.type "list",data:=.seq vs.toArray }→IntsAre vs ns→ns.length≤n→s₁.gens=#[] →
     codeAny (model l.prog w) callerA (.call (.ref fa) ⟨[.ref a],[]⟩) (fun r s'=>r = .ok (.ret (.bool true))∧OldK s₁.heap s'.heap∧s'.os=s₁.os∧AllBare s'.gens) s₁) :
   WalkO q loose XP YP l.row.toRowW d [] (fun f vs=>PySem.call f vs):=by
 intro w s₀ s₁ mg mb G Y fa o pm cd doc dV kV ho hd hcd hD hmg hg args vals as hpre hlay hrd hwl hlo
 obtain rfl:dV = .none:=Dflts.none hD hdf
 obtain rfl:kV = .none:=Dflts.noKw hD
 obtain⟨a,vs,ns,rfl,rfl,hobj,hints,hlen⟩:=script_of hn hpre hwl
 refine enter_call (codeAny_mono (call w s₀ s₁ mg mb fa o pm cd doc a vs ns G Y ho (fd_plain hd) hcd hmg hobj hints hlen hg) fun r s' hq=>?_)
 obtain⟨rfl,h2,h3,h4⟩:=hq
 exact⟨.inl ⟨.bool true,.bool true,[],rfl,fun _=>rfl,.bool true,post_true l _,fun _=>⟨List.Pairwise.nil,fun _ hm=>(nomatch hm)⟩⟩,h2,h3,h4⟩
section
variable {prog:Program}{w:World}{A:Around}{E:Value→Shared→Prop}{s:Shared}{K:Frag}
end
end Att
namespace L2
open PySem PySem.Spec PyProof.Rows
theorem vals_ints:∀{vs:List Value} {ns:List Int},IntsAre vs ns→Vals (ns.map V.int) vs
 | _,_,.nil=>.nil
 | _,_,.cons n t h=>.cons ⟨t,rfl⟩ (vals_ints h)
def Only (H:Hp):Prop:=∀b,H b=none∨∃o xs,H b=some (.frz o (.lst xs))
theorem law_call {P:Program}{w:World}{K:PySem.W.Frag}{mg mb:Str→Option Value}{CX:CXT}{k:Nat}{fa a:Addr}{fd:FuncData}{x:Str}{sp:Sp}{s₁:Shared}{vs:List Value}{ns:List Int}
   (KX:K.In s₁.heap) (hns:s₁.heap.Ns mainGlobals mg) (hb:s₁.heap.Ns builtinsNs mb) (hbb:∀x:Str,x≠"__name__"→mb x=bootBuiltins x) (hlim:s₁.heap.NoLimit) (hg:s₁.gens=#[])
   (ha:s₁.heap.get? a=some { cls:=.type "list",data:=.seq vs.toArray }) (hi:IntsAre vs ns) (hl:ns.length≤sizeLine) (hr:Room k callerA)
   (F:∀base:Heap,K.In base→base.Ns mainGlobals mg→FnOk P w K mg base CX k fa fd [x] sp) (hbind:∀(s:Shared) (u:Value),BindsTo s fd ⟨[u],[]⟩ [(x,u)])
   (hsp:∀H:Hp,Only H→SqL K H a (ns.map V.int)→sp [.ref a] H (fun v _=>v = .bl true) fun _ _ _=>False)
   (hCX:∀H e s',CX [] H s₁ (fun _ _ _=>False) e s'→False) :
   codeAny (model P w) callerA (.call (.ref fa) ⟨[.ref a],[]⟩) (fun r s'=>r = .ok (.ret (.bool true))∧OldK s₁.heap s'.heap∧s'.os=s₁.os∧AllBare s'.gens) s₁:=by
 have rv:=vals_ints hi
 have lenV:=hi.length
 -- from an abstract heap in which nothing but the script may be tracked
 have core:∀H:Hp,Only H→SqL K H a (ns.map V.int)→HOk P w H s₁.heap→(∀b,H b≠none→b=a)→(H a≠none→K.lookup a=none) →
     codeAny (model P w) callerA (.call (.ref fa) ⟨[.ref a],[]⟩) (fun r s'=>r = .ok (.ret (.bool true))∧OldK s₁.heap s'.heap∧s'.os=s₁.os∧AllBare s'.gens) s₁:=by
   intro H hO hS hok hA hK
   have base_of:∀{b:Addr} {o:Obj},s₁.heap.get? b=some o→H b=none→(hidT s₁.heap H).get? b=some o:=fun e n=>hidT_get e n
   have noA:∀{b:Addr} {o:Obj} {es:Array DictEntry} {ep:Nat},s₁.heap.get? b=some o→o.data = .dict es ep→H b=none:=fun {b o es ep} e d=>by
     cases q:H b with
     | none=>rfl
     | some u =>
       have e':b=a:=hA b (by rw[q];simp)
       subst e'
       rw[ha] at e;cases e
       have d':Data.seq vs.toArray _=Data.dict es ep:=d
       cases d'
   have nsK:∀{b:Addr} {m:Str→Option Value},s₁.heap.Ns b m→(hidT s₁.heap H).Ns b m:=fun {b m} ⟨o,es,ep,e,d,r⟩=>⟨o,es,ep,base_of e (noA e d),d,r⟩
   have hKb:K.In (hidT s₁.heap H):=fun b o e=>base_of (KX b o e) (by
     cases q:H b with
     | none=>rfl
     | some u =>
       have e':b=a:=hA b (by rw[q];simp)
       subst e'
       rw[hK (by rw[q];simp)] at e;cases e)
   have hM:Mod K mg (hidT s₁.heap H):=⟨hKb,nsK hns,⟨mb,nsK hb,hbb⟩,let ⟨mc,h1,h2⟩:=hlim;⟨mc,nsK h1,h2⟩⟩
   have e0:Env0 P w K mg (hidT s₁.heap H) callerA [] s₁ H:=⟨rfl,hM,fun b o e=>of_hidT e,Nat.le_of_eq (hidT_size _ _),trivial,fun b hb=>absurd (show b∈([]:List Addr) from hb) (by simp),hok,.of_eq hg⟩
   refine codeAny_mono ((F _ hKb (nsK hns)).run callerA [] s₁ H ⟨[.ref a],[]⟩ [.ref a] [.ref a] _ _ hr e0 (hbind s₁ (.ref a)) (.cons rfl .nil) (hsp H hO hS)) fun r s' h=>?_
   cases r with
   | error e=>exact(hCX H e s' h).elim
   | ok fl =>
     cases fl with
     | next=>exact False.elim h
     | brk=>exact False.elim h
     | cont=>exact False.elim h
     | ret u =>
       obtain⟨v,H',os,bare,un,hok',r',q⟩:=h
       have q':v = .bl true:=q
       subst q'
       obtain rfl:u=Value.bool true:=r'
       refine⟨rfl,OldK.of_keep fun b o e=>?_,os,bare⟩
       cases q:H b with
       | none=>exact un.keep b o e q (by intro z;exact absurd (show b∈([]:List Addr) from z) (by simp)) (by simp)
       | some u =>
         rcases hO b with z | ⟨ob,xs,z⟩
         · rw[q] at z;cases z
         · have z2:=un.frzs b ob _ z
           obtain⟨e1,_⟩:=hok b _ z
           obtain⟨e2,_⟩:=hok' b _ z2
           rw[e] at e1;cases e1
           exact e2
 cases hk:K.lookup a with
 | some o =>
   -- the script is one of the module's own objects
   have e:=KX a o hk
   rw[ha] at e
   cases e
   refine core (fun _=>none) (fun _=>.inl rfl) (.inr ⟨_,vs.toArray,_,hk,rfl,rfl,rfl,by rw[List.size_toArray,lenV];exact hl,by simpa using rv⟩) (fun b u z=>by have z':(none:Option HO)=some u:=z;cases z') (fun b z=>absurd rfl z) fun z=>absurd rfl z
 | none =>
   refine core (fun b=>if b=a then some (.frz { cls:=.type "list",data:=.seq vs.toArray } (.lst (ns.map V.int))) else none) (fun b=>?_) (.inl (.inr ⟨{ cls:=.type "list",data:=.seq vs.toArray },if_pos rfl⟩)) (fun b u z=>?_) (fun b z=>?_) fun _=>hk
   · by_cases hb:b=a
     · exact .inr ⟨_,_,if_pos hb⟩
     · exact .inl (if_neg hb)
   · by_cases hb:b=a
     · have z':=(if_pos hb).symm.trans z
       cases z'
       subst hb
       exact⟨ha,by rw[List.length_map];exact hl,vs,_,rv,ha⟩
     · have z':=(if_neg hb).symm.trans z
       cases z'
   · by_cases hb:b=a
     · exact hb
     · exact absurd (if_neg hb) z
end L2
namespace L2
open PySem PySem.Spec PyProof.Rows
theorem walk_of {l:PySem.W.OpenLaw}{n k:Nat}{q:Program}{loose:List Str}{XP:(Str→Option Value)→Heap→Prop}{YP:World→Heap→Prop}{d:DefRec}{K:Params→PySem.W.Frag}{CX:World→CXT}{sp:World→Sp}{x:Str}
   (hn:l.most=some n) (hn2:n≤sizeLine) (hdf:d.params.defaults=[]) (hr:Room k callerA)
   (hY:∀(w:World) (h:Heap),YP w h→(K w.params).In h)
   (F:∀(w:World) (mg:Str→Option Value) (fa:Addr) (h:Heap),(K w.params).In h→h.Ns mainGlobals mg→mg d.name=some (.ref fa) →
     ∃fd:FuncData,(∀(s:Shared) (u:Value),BindsTo s fd ⟨[u],[]⟩ [(x,u)]) ∧
       ∀base:Heap,(K w.params).In base→base.Ns mainGlobals mg→FnOk l.prog w (K w.params) mg base (CX w) k fa fd [x] (sp w))
   (hsp:∀(w:World) (H:Hp) (a:Addr) (ns:List Int),ns.length≤n→Only H→SqL (K w.params) H a (ns.map V.int)→sp w [.ref a] H (fun v _=>v = .bl true) fun _ _ _=>False)
   (hCX:∀(w:World) (H:Hp) (s:Shared) (e:Value) (s':Shared),CX w [] H s (fun _ _ _=>False) e s'→False) :
   PySem.W.WalkO q loose XP YP l.row.toRowW d [] (fun f vs=>PySem.call f vs):=by
 refine Att.attach_call hn hdf fun w s₀ s₁ mg mb fa o pm cd doc a vs ns G Y ho hd hcd hmg hobj hints hlen hg=>?_
 have KX:=hY w _ Y
 obtain⟨fd,hb,hF⟩:=F w mg fa _ KX G.T.g hmg
 exact law_call KX G.T.g G.T.b G.T.builtins G.T.nolimit hg hobj hints (Nat.le_trans hlen hn2) hr hF hb (fun H hO hS=>hsp w H a ns hlen hO hS) fun H e s'=>hCX w H s₁ e s'
end L2
namespace L2
open PySem PySem.Spec PyProof.Rows
abbrev CX0:CXT:=fun _ _ _ _ _ _=>False
abbrev E0:XK:=fun _ _ _=>False
structure Fun (K:PySem.W.Frag)(x qual:Str)(st:Stmt)(f:Addr)(fd:FuncData):Prop where
 ex:∃(oc:Value) (od:Option Addr) (kV doc pm:Value) (an:Option Addr) (cdv ct:Value) (osl:Array (Option Value)),
   fd=PySem.W.fnOf x qual (defArgs st) (defBody st) (defScope st) .none kV doc pm an cdv ct∧K.lookup f=some ⟨oc,od,.func fd,osl⟩∧PySem.W.codeIn K cdv qual=true
 kp:PySem.W.keepIn K (.ref f)=true
section
variable {P:Program}{w:World}{K:PySem.W.Frag}{mg:Str→Option Value}{base:Heap}
theorem Fun.ok {x qual:Str}{st:Stmt}{f:Addr}{fd:FuncData}{N ps:List Str}{k:Nat}{sp:Sp}(F:Fun K x qual st f fd)(S:FnScope N ps (defScope st))(len:∀vs H Q E,sp vs H Q E→vs.length=ps.length)
   (hbody:∀(cdv:Value) (A:Around) (outer:List Env) (s:Shared) (H:Hp) (vs:List V) (Q:VK) (E:XK),Room k (A.deeper (envOfC qual (defScope st) s.heap.objs.size f cdv))→sp vs H Q E →
     ∃t,PSs (cxOf CX0 P w K mg base N qual (defScope st) f cdv A outer s H E).nox (defBody st) t∧t { nx:=fun _ H'=>Q .non H',rt:=Q } (start N vs) H):FnOk P w K mg base CX0 (k+1) f fd ps sp:=by
 obtain⟨oc,od,kV,doc,pm,an,cdv,ct,osl,rfl,lk,hcd⟩:=F.ex
 refine fn_of lk hcd S len fun A outer s H vs Q E hr hsp=>?_
 obtain⟨t,h,q⟩:=hbody cdv A outer s H vs Q E hr hsp
 exact⟨t,h.nox,q⟩
theorem Fun.binds {x qual:Str}{st:Stmt}{f:Addr}{fd:FuncData}{ps:List Str}(F:Fun K x qual st f fd)
   (h:∀(kV doc pm:Value) (an:Option Addr) (cdv ct:Value) (us:List Value),us.length=ps.length→bindArgs (PySem.W.fnOf x qual (defArgs st) (defBody st) (defScope st) .none kV doc pm an cdv ct) ⟨us,[]⟩=pure (ps.zip us)):Binds K fd ps []:=by
 obtain⟨oc,od,kV,doc,pm,an,cdv,ct,osl,rfl,lk,hcd⟩:=F.ex
 exact .all (h kV doc pm an cdv ct)
theorem fun_mk {x qual:Str}{st:Stmt}{f:Addr}{oc:Value}{od an:Option Addr}{osl:Array (Option Value)}{kV doc pm cdv ct:Value}(l:K.lookup f=some ⟨oc,od,.func (PySem.W.fnOf x qual (defArgs st) (defBody st) (defScope st) .none kV doc pm an cdv ct),osl⟩)
   (c:PySem.W.codeIn K cdv qual=true) (k:PySem.W.keepIn K (.ref f)=true):Fun K x qual st f (PySem.W.fnOf x qual (defArgs st) (defBody st) (defScope st) .none kV doc pm an cdv ct):=⟨⟨oc,od,kV,doc,pm,an,cdv,ct,osl,rfl,l,c⟩,k⟩
end
theorem small1000 {n:Nat}(h:n≤1000):n<sizeLine:=Nat.lt_of_le_of_lt h (by decide)
section
variable {X:Cx}
theorem pv (i:Nat){x:Str}{pos:Pos}(hN:X.N[i]?=some x:=by rfl)(hv:Vis X.env.scope x:=by first | exact Or.inl rfl | exact Or.inr (Or.inl rfl) | exact Or.inr (Or.inr rfl))(hd:(x==("__debug__":Str))=false:=by decide)
   (hcd:(x==("__classdict__":Str))=false:=by decide):PE X (.Name x pos) (tVar i):=pe_var hN hv hd hcd
end
theorem iteF {A B:Prop}(h:B):if false=true then A else B:=by
 rw[if_neg Bool.false_ne_true]
 exact h
theorem iteT {A B:Prop}(h:A):if true=true then A else B:=by
 rw[if_pos rfl]
 exact h
def Same (H H':Hp):Prop:=∀b o,H b=some o→H' b=some o
theorem Same.refl (H:Hp):Same H H:=fun _ _ h=>h
theorem Same.trans {H H1 H2:Hp}(a:Same H H1)(b:Same H1 H2):Same H H2:=fun c o h=>b c o (a c o h)
theorem Same.free {H H':Hp}(e:Same H H'){l:Addr}(h:H' l=Option.none):H l=Option.none:=by
 cases q:H l with
 | none=>rfl
 | some o =>
   rw[e l o q] at h
   cases h
theorem Same.seq {K:PySem.W.Frag}{H H':Hp}{a:Addr}{xs:List V}(e:Same H H')(h:SqL K H a xs):SqL K H' a xs:=by
 rcases h with (h | ⟨o,h⟩) | h
 · exact .inl (.inl (e _ _ h))
 · exact .inl (.inr ⟨o,e _ _ h⟩)
 · exact .inr h
end L2
set_option Elab.async false
set_option linter.all false
set_option maxRecDepth 100000
set_option maxHeartbeats 4000000
namespace Stow
structure Pc where
 a:Int
 l:Int
 v:Bool
 deriving DecidableEq
def mkOf (l:Int)(v:Bool):Int:=l*2+(if v then 1 else 0)
def Pc.mk' (p:Pc):Int:=mkOf p.l p.v
def Chain:Int→List Pc→Int→Prop
 | s,[],e=>s=e
 | s,p::r,e=>p.a=s∧1≤p.l∧(p.v=true→3≤p.l)∧Chain (s+p.l) r e
theorem Chain.le:∀{ps:List Pc} {s e:Int},Chain s ps e→s+ps.length≤e
 | [],s,e,h=>by have h:s=e:=h;simp [h]
 | p::r,s,e,h=>by
   obtain⟨_,h1,_,h2⟩:=h
   have:=Chain.le h2
   simp only [List.length_cons];omega
theorem Chain.app:∀{ps qs:List Pc} {s m e:Int},Chain s ps m→Chain m qs e→Chain s (ps++qs) e
 | [],_,s,m,e,h,k=>by have h:s=m:=h;subst h;exact k
 | p::r,qs,s,m,e,h,k=>by
   obtain⟨h0,h1,h2,h3⟩:=h
   exact⟨h0,h1,h2,Chain.app h3 k⟩
theorem Chain.one {p:Pc}(h1:1≤p.l)(h3:p.v=true→3≤p.l):Chain p.a [p] (p.a+p.l):=⟨rfl,h1,h3,rfl⟩
theorem Chain.snoc {ps:List Pc}{s:Int}{p:Pc}(h:Chain s ps p.a)(h1:1≤p.l)(h3:p.v=true→3≤p.l):Chain s (ps++[p]) (p.a+p.l):=h.app (.one h1 h3)
theorem Chain.mem:∀{ps:List Pc} {s e:Int},Chain s ps e→∀p∈ps,s≤p.a∧1≤p.l∧(p.v=true→3≤p.l)∧p.a+p.l≤e
 | [],_,_,_,p,hp=>by cases hp
 | q::r,s,e,h,p,hp=>by
   obtain⟨h0,h1,h2,h3⟩:=h
   rcases List.mem_cons.mp hp with rfl | hp
   · have:=h3.le
     exact⟨by omega,h1,h2,by omega⟩
   · obtain⟨a,b,c,d⟩:=Chain.mem h3 p hp
     exact⟨by omega,b,c,d⟩
def Marks (cs:List Int)(ps:List Pc):Prop:=∀p∈ps,cs[p.a.toNat]?=some p.mk'∧cs[(p.a+p.l-1).toNat]?=some p.mk'
theorem Marks.nil (cs:List Int):Marks cs []:=fun p hp=>by cases hp
theorem Marks.snoc {cs ext:List Int}{ps:List Pc}{p:Pc}(hc:Chain 0 ps p.a)(hl:(cs.length:Int)=p.a)(h1:1≤p.l)(he:(ext.length:Int)=p.l)(m:Marks cs ps) :
   Marks ((((cs++ext).set p.a.toNat p.mk')).set (p.a+p.l-1).toNat p.mk') (ps++[p]):=by
 intro q hq
 have h0:=hc.le
 rcases List.mem_append.mp hq with hq | hq
 · obtain⟨a1,a2,a3,a4⟩:=hc.mem q hq
   obtain⟨b1,b2⟩:=m q hq
   have key:∀k:Nat,(k:Int)<p.a→∀z,cs[k]?=some z→((((cs++ext).set p.a.toNat p.mk')).set (p.a+p.l-1).toNat p.mk')[k]?=some z:=by
     intro k hk z hz
     rw[List.getElem?_set_ne (by omega),List.getElem?_set_ne (by omega),List.getElem?_append_left (by omega)]
     exact hz
   exact⟨key _ (by omega) _ b1,key _ (by omega) _ b2⟩
 · have e:q=p:=by simpa using hq
   subst e
   have len:(cs++ext).length=cs.length+ext.length:=List.length_append
   constructor
   · by_cases h:(q.a+q.l-1).toNat=q.a.toNat
     · rw[h,List.getElem?_set_self (by simp;omega)]
     · rw[List.getElem?_set_ne (by omega),List.getElem?_set_self (by simp;omega)]
   · rw[List.getElem?_set_self (by simp;omega)]
theorem mk_long (l:Int)(v:Bool):mkOf l v/2=l:=by unfold mkOf;split <;> omega
theorem mk_live (l:Int)(v:Bool):decide (mkOf l v%2=1)=v:=by
 unfold mkOf
 cases v
 · exact decide_eq_false (by simp)
 · exact decide_eq_true (by simp)
def canBegin (ns:List Int)(k:Int):Bool :=
 if ns.getD k.toNat 0/2<1∨(ns.length:Int)<k+ns.getD k.toNat 0/2 then false else decide (3≤ns.getD k.toNat 0/2)||!decide (ns.getD k.toNat 0%2=1)
def badOf (ns:List Int)(k:Int):Option Int :=
 if canBegin ns k=true then (if ns.getD (k+ns.getD k.toNat 0/2-1).toNat 0=ns.getD k.toNat 0 then none else some (k+ns.getD k.toNat 0/2-1)) else some k
theorem getD_of {ns:List Int}{k:Nat}{x:Int}(h:ns[k]?=some x):ns.getD k 0=x:=by rw[List.getD_eq_getElem?_getD,h];rfl
theorem bad_none {ns:List Int}{p:Pc}(h1:1≤p.l)(h3:p.v=true→3≤p.l)(hl:p.a+p.l≤ns.length)(m1:ns[p.a.toNat]?=some p.mk')(m2:ns[(p.a+p.l-1).toNat]?=some p.mk'):badOf ns p.a=none:=by
 have e1:=getD_of m1
 have e2:=getD_of m2
 have e3:ns.getD p.a.toNat 0/2=p.l:=by rw[e1];exact mk_long _ _
 have hc:canBegin ns p.a=true:=by
   unfold canBegin
   rw[e3,if_neg (by omega),e1]
   show (decide (3≤p.l)||!decide (mkOf p.l p.v%2=1))=true
   rw[mk_live]
   cases hv:p.v with
   | false=>simp
   | true=>simp [h3 hv]
 unfold badOf
 rw[if_pos hc,e3,e2,e1,if_pos rfl]
end Stow
namespace Stow
theorem canBegin_iff (ns:List Int)(k:Int):canBegin ns k=true↔(1≤ns.getD k.toNat 0/2∧k+ns.getD k.toNat 0/2≤ns.length∧(ns.getD k.toNat 0%2=1→3≤ns.getD k.toNat 0/2)):=by
 unfold canBegin
 by_cases h:ns.getD k.toNat 0/2<1∨(ns.length:Int)<k+ns.getD k.toNat 0/2
 · rw[if_pos h]
   constructor
   · intro z;cases z
   · intro z;omega
 · rw[if_neg h]
   simp only [Bool.or_eq_true,decide_eq_true_eq,Bool.not_eq_true',decide_eq_false_iff_not]
   constructor
   · intro z
     refine⟨by omega,by omega,fun w=>?_⟩
     rcases z with z | z
     · exact z
     · exact absurd w z
   · rintro⟨_,_,z⟩
     by_cases w:ns.getD k.toNat 0%2=1
     · exact .inl (z w)
     · exact .inr w
def pcAt (ns:List Int)(k:Int):Pc:=⟨k,ns.getD k.toNat 0/2,decide (ns.getD k.toNat 0%2=1)⟩
theorem bad_can {ns:List Int}{k:Int}(h:badOf ns k=none):canBegin ns k=true:=by
 unfold badOf at h
 split at h
 · assumption
 · cases h
theorem bad_pos {ns:List Int}{k:Int}(h:badOf ns k=none):1≤ns.getD k.toNat 0/2∧k+ns.getD k.toNat 0/2≤ns.length∧(ns.getD k.toNat 0%2=1→3≤ns.getD k.toNat 0/2):=(canBegin_iff ns k).mp (bad_can h)
theorem bad_no {ns:List Int}{k:Int}(h:canBegin ns k=false):badOf ns k=some k:=by
 unfold badOf
 rw[if_neg (by rw[h];exact Bool.false_ne_true)]
theorem bad_last {ns:List Int}{k:Int}(h:canBegin ns k=true)(h2:ns.getD (k+ns.getD k.toNat 0/2-1).toNat 0≠ns.getD k.toNat 0):badOf ns k=some (k+ns.getD k.toNat 0/2-1):=by
 unfold badOf
 rw[if_pos h,if_neg h2]
theorem bad_well {ns:List Int}{k:Int}(h:canBegin ns k=true)(h2:ns.getD (k+ns.getD k.toNat 0/2-1).toNat 0=ns.getD k.toNat 0):badOf ns k=none:=by
 unfold badOf
 rw[if_pos h,if_pos h2]
def walkF (ns:List Int)(k:Int):List Pc×Option Int :=
 if h:k<ns.length∧badOf ns k=none then
   (pcAt ns k::(walkF ns (k+ns.getD k.toNat 0/2)).1,(walkF ns (k+ns.getD k.toNat 0/2)).2)
 else ([],if k<ns.length then badOf ns k else none)
termination_by (ns.length-k).toNat
decreasing_by
 all_goals
   have:=bad_pos h.2
   omega
theorem walkF_end {ns:List Int}{k:Int}(h:¬k<ns.length):walkF ns k=([],none):=by
 rw[walkF,dif_neg (fun z=>h z.1),if_neg h]
theorem walkF_bad {ns:List Int}{k b:Int}(h:k<ns.length)(hb:badOf ns k=some b):walkF ns k=([],some b):=by
 rw[walkF,dif_neg (fun z=>by rw[hb] at z;cases z.2),if_pos h,hb]
theorem walkF_step {ns:List Int}{k:Int}(h:k<ns.length)(hb:badOf ns k=none):walkF ns k=(pcAt ns k::(walkF ns (k+ns.getD k.toNat 0/2)).1,(walkF ns (k+ns.getD k.toNat 0/2)).2):=by
 rw[walkF,dif_pos ⟨h,hb⟩]
def WPre (ns:List Int)(ds:List Pc)(k:Int):Prop:=walkF ns 0=(ds++(walkF ns k).1,(walkF ns k).2)
theorem WPre.nil (ns:List Int):WPre ns [] 0:=by unfold WPre;simp
theorem WPre.step {ns:List Int}{ds:List Pc}{k:Int}(w:WPre ns ds k)(h:k<ns.length)(hb:badOf ns k=none):WPre ns (ds++[pcAt ns k]) (k+ns.getD k.toNat 0/2):=by
 unfold WPre at *
 rw[w,walkF_step h hb]
 simp
theorem WPre.fin {ns:List Int}{ds:List Pc}{k:Int}(w:WPre ns ds k)(h:¬k<ns.length):walkF ns 0=(ds,none):=by
 unfold WPre at w
 rw[w,walkF_end h]
 simp
theorem WPre.bad {ns:List Int}{ds:List Pc}{k b:Int}(w:WPre ns ds k)(h:k<ns.length)(hb:badOf ns k=some b):walkF ns 0=(ds,some b):=by
 unfold WPre at w
 rw[w,walkF_bad h hb]
 simp
end Stow
namespace Stow
end Stow
namespace Stow
theorem pcAt_of {cs:List Int}{p:Pc}(m:cs[p.a.toNat]?=some p.mk'):pcAt cs p.a=p:=by
 have e:=getD_of m
 unfold pcAt
 rw[e]
 show (⟨p.a,mkOf p.l p.v/2,decide (mkOf p.l p.v%2=1)⟩:Pc)=p
 rw[mk_long,mk_live]
theorem walk_of_marks {cs:List Int}:∀{ps:List Pc} {k:Int},Chain k ps cs.length→Marks cs ps→walkF cs k=(ps,none)
 | [],k,h,_=>by
   have h:k=cs.length:=h
   exact walkF_end (by omega)
 | p::r,k,h,m=>by
   obtain⟨ea,h1,h3,h4⟩:=h
   have le:=h4.le
   obtain⟨m1,m2⟩:=m p List.mem_cons_self
   have bn:=bad_none h1 h3 (by omega) m1 m2
   rw[ea] at bn
   have e2:cs.getD k.toNat 0/2=p.l:=by rw[←ea,getD_of m1];exact mk_long _ _
   have ih:=walk_of_marks (cs:=cs) h4 fun q hq=>m q (List.mem_cons_of_mem _ hq)
   rw[walkF_step (by omega) bn,e2,ih,←ea,pcAt_of m1]
end Stow
namespace Stow
open PySem L2 PyProof.Rows
structure Def (P:Program)(w:World)(K:PySem.W.Frag)(mg:Str→Option Value)(base:Heap)(x:Str)(k:Nat)(ps:List Str)(sp:Sp):Prop where
 ex:∃(f:Addr) (fd:FuncData),FnOk P w K mg base CX0 k f fd ps sp∧mg x=some (.ref f)∧PySem.W.keepIn K (.ref f)=true∧Binds K fd ps []
structure Src (K:PySem.W.Frag)(mg:Str→Option Value)(x:Str)(st:Stmt):Prop where
 ex:∃(f:Addr) (fd:FuncData),Fun K x x st f fd∧mg x=some (.ref f)
theorem src_mk {K:PySem.W.Frag}{h:Heap}{mg:Str→Option Value}{x:Str}{st:Stmt}{f:Addr}{oc kV doc pm cdv ct:Value}{od an:Option Addr}{osl:Array (Option Value)}(X:K.In h)(G:h.Ns mainGlobals mg)
   (a:PySem.W.nsIn K mainGlobals x=some (some (.ref f))) (l:K.lookup f=some ⟨oc,od,.func (PySem.W.fnOf x x (defArgs st) (defBody st) (defScope st) .none kV doc pm an cdv ct),osl⟩)
   (c:PySem.W.codeIn K cdv x=true) (k:PySem.W.keepIn K (.ref f)=true):Src K mg x st:=⟨f,_,fun_mk l c k,PySem.W.mg_of X G a⟩
section
variable {P:Program}{w:World}{K:PySem.W.Frag}{mg:Str→Option Value}{base:Heap}
theorem Src.ok {x:Str}{st:Stmt}{N ps:List Str}{k:Nat}{sp:Sp}(S:Src K mg x st)(sc:FnScope N ps (defScope st))
   (hb:∀(kV doc pm:Value) (an:Option Addr) (cdv ct:Value) (us:List Value),us.length=ps.length→bindArgs (PySem.W.fnOf x x (defArgs st) (defBody st) (defScope st) .none kV doc pm an cdv ct) ⟨us,[]⟩=pure (ps.zip us))
   (len:∀vs H Q E,sp vs H Q E→vs.length=ps.length)
   (hbody:∀(f:Addr) (cdv:Value) (A:Around) (outer:List Env) (s:Shared) (H:Hp) (vs:List V) (Q:VK) (E:XK),Room k (A.deeper (envOfC x (defScope st) s.heap.objs.size f cdv))→sp vs H Q E →
     ∃t,PSs (cxOf CX0 P w K mg base N x (defScope st) f cdv A outer s H E).nox (defBody st) t∧t { nx:=fun _ H'=>Q .non H',rt:=Q } (start N vs) H):Def P w K mg base x (k+1) ps sp:=by
 obtain⟨f,fd,F,hm⟩:=S.ex
 exact⟨f,fd,F.ok sc len (hbody f),hm,F.kp,F.binds hb⟩
end
section
variable {X:Cx}
theorem call_isi:CallR X (.builtin "isinstance") (fun xs H Q=>∃x n t b,xs=[x,.ty n]∧TyOf X.K H x t∧PySem.W.kitOne X.K t (.type n)=some b∧Q (.bl b) H):=by
 intro pins s σ H xs us Q I r h
 obtain⟨x,n,t,b,rfl,ty,e,q⟩:=h
 obtain⟨u,u',rfl,rx,ry⟩:=vals2 r
 cases (show u'=Value.type n from ry)
 exact isinst_ok I rx ty e fun tk=>⟨.bl b,H,I.tok tk,rfl,q⟩
theorem eqV_self {x:V}(h:flatV x=true):eqV x x=true:=by
 cases x <;> first | rfl | (simp [eqV];done) | (exact absurd h Bool.false_ne_true)
theorem op_eqL (hu:X.A.units+64<cLine):OpR X (compareOp .Eq) (fun x y H Q=>∃(a b:Addr) (ns ms:List Int),x = .ref a∧y = .ref b∧SqL X.K H a (ns.map V.int)∧SqL X.K H b (ms.map V.int)∧Q (.bl (decide (ns=ms))) H):=by
 intro pins s σ H x y v u Q I rx ry h
 obtain⟨a,b,ns,ms,rfl,rfl,ha,hb,q⟩:=h
 cases rx
 cases ry
 obtain⟨its,r1,p1,_⟩:=I.list ha
 obtain⟨its2,r2,p2,_⟩:=I.list hb
 exact PySem.W.ke_eq_ints p1.isList p2.isList (intsAre_of r1) (intsAre_of r2) hu ⟨.bl _,H,I,rfl,q⟩
end
theorem _root_.L2.Same.new {H:Hp}{p:Addr}{o:HO}(h:H p=none):Same H (upd H p o):=fun b u e=>by
 rw[upd_ne (ne_of_none e h)]
 exact e
theorem _root_.L2.Same.put {H H':Hp}{p:Addr}{o:HO}(s:Same H H')(h:H p=none):Same H (upd H' p o):=fun b u e=>by
 rw[upd_ne (ne_of_none e h)]
 exact s b u e
theorem small4000 {n:Nat}(h:n≤4000):n<sizeLine:=Nat.lt_of_le_of_lt h (by decide)
theorem two1:(2:Int)^(1:Int).toNat=2:=by decide
theorem atI_map (ns:List Int)(k:Int)(h0:0≤k)(h:k<ns.length):atI (ns.map V.int) k=some (.int (ns.getD k.toNat 0)):=by
 have e:(ns.map V.int)[k.toNat]?=some (.int (ns.getD k.toNat 0)):=by
   rw[List.getElem?_map,List.getD_eq_getElem?_getD,List.getElem?_eq_getElem (by omega)]
   rfl
 have:=atI_nat e
 rwa [Int.toNat_of_nonneg h0] at this
theorem live_eq (n:Int):decide (V.int (Builtin.bitAnd n 1)=V.int 1)=decide (n%2=1):=by
 rw[dec_int,bitAnd_m1]
 rfl
section
variable {K:PySem.W.Frag}
theorem kit_ii:PySem.W.kitOne K (.type "int") (.type "int")=some true:=by rfl
theorem kit_ll:PySem.W.kitOne K (.type "list") (.type "list")=some true:=by rfl
theorem kit_ib:PySem.W.kitOne K (.type "int") (.type "bool")=some false:=by
 show (if (Value.type "int"==Value.type "bool")=true then some true else PySem.W.kitCls K (.type "int") (.type "bool"))=some false
 rw[if_neg (by decide)]
 show (if PySem.W.kitMeta "bool"=true then PySem.W.subIn K (.type "int") (.type "bool") else none)=some false
 rw[if_pos (by decide +kernel)]
 show (fastBuiltinMro "int").map (·.contains (Value.type "bool"))=some false
 decide +kernel
end
end Stow
namespace Stow
open PySem
structure Noted (fr:List Addr)(e:Addr)(oe:Obj)(fl:Value)(h h':Heap):Prop where
 keep:∀b o,b≠e→b ∉ fr→h.get? b=some o→h'.get? b=some o
 slot:∀b o,b≠e→h.get? b=some o→∃sl,h'.get? b=some { o with slots:=sl }
 ent:∃(T:Addr) (oT:Obj) (ts:Array Value),h.get? T=none∧T≠e∧h'.get? e=some (oe.mapFields (·.setIfInBounds 1 (.ref T)))∧h'.get? T=some oT∧oT.data = .fields ts∧ts[3]?=some fl
section
variable {M:Model}{A:Around}{E:Value→Shared→Prop}{s:Shared}
theorem entry_x {base:Heap}{env:Env}{outer:List Env}{L e:Addr}{oe:Obj}{vs:Array Value}{head:Value}{had:Bool}{Q:Unit→Shared→Prop}(hfr:A.frames=some (env::outer))(hl:s.heap.FunFrames base (env::outer))(hf:env.frame=some L)
   (he:s.heap.get? e=some oe) (hd:oe.data = .fields vs) (hsz:1<vs.size) (h:∀h',Noted ((env::outer).filterMap (·.frame)) e oe (rawInt L) s.heap h'→Q () { s with heap:=h' }) :
   wpAny M A (do
     let a ←frameOf env
     let pl ←entryPlaceOf L had
     let b ←EntryCells.newEntry head a .none (rawInt L) .none pl
     setField (.ref e) 1 b) Q E s:=by
 have out:e ∉ (env::outer).filterMap (·.frame):=fun z=>by
   obtain⟨_,o,q,nf⟩:=hl.mem z
   rw[he] at q
   cases q
   exact nf vs hd
 refine wpAny_bind (wpAny_frameOf_fun hfr hl hf fun hA sA=>?_)
 refine wpAny_bind (wpAny_entryPlaceOf fun pl isP=>?_)
 unfold EntryCells.newEntry newFields
 refine wpAny_bind (wpAny_newObj_type ?_ (isP.sizeOk5 _ _ _ _ _))
 have eA:hA.get? e=some oe:=(sA.2.1 e out).trans he
 refine wpAny_setField (Heap.get?_push_of_some _ eA) hd hsz (h _ ?_)
 have apart:hA.objs.size≠e:=Nat.ne_of_gt (Heap.lt_size eA)
 have other:∀{ob:Obj} b o,b≠e→hA.get? b=some o→((hA.push ob).update e (Obj.mapFields (·.setIfInBounds 1 (Value.ref hA.objs.size)))).get? b=some o:=fun b o nb q=>by
   rw[Heap.get?_update_other _ _ (fun z=>nb z.symm)]
   exact Heap.get?_push_of_some _ q
 refine⟨fun b o nb nf q=>other b o nb ((sA.2.1 b nf).trans q),fun b o nb q=>?_,hA.objs.size,_,_,?_,apart,?_,(Heap.get?_update_other _ _ (fun z=>apart z.symm)).trans (Heap.get?_push_size _ rfl),rfl,?_⟩
 · obtain⟨sl,q'⟩:=sA.2.2 b o q
   exact⟨sl,other b _ nb q'⟩
 · rw[sA.1]
   exact Heap.get?_none_of_le (Nat.le_refl _)
 · exact Heap.get?_update_self _ (Heap.get?_push_of_some _ eA) (Obj.isFreed_of_fields (Obj.data_mapFields hd _))
 · first
     | (simp;done)
     | (rcases isP with rfl | ⟨_,_,_,_,_,_,_,rfl⟩ <;> simp)
theorem mapF_dict (o:Obj)(f:Array Value→Array Value):(o.mapFields f).dict=o.dict:=by
 obtain⟨c,d,dt,sl⟩:=o
 cases dt <;> rfl
end
def Exc (h:Heap)(x:Addr)(cls:Value)(od:Option Addr)(T:Addr)(fl:Value):Prop :=
 ∃(oe:Obj) (vs:Array Value) (oT:Obj) (ts:Array Value),T≠x∧h.get? x=some oe∧oe.cls=cls∧oe.dict=od∧oe.data = .fields vs∧vs[1]?=some (.ref T)∧h.get? T=some oT∧oT.data = .fields ts∧ts[3]?=some fl
def Exc0 (h:Heap)(x:Addr)(cls:Value)(od:Option Addr):Prop:=∃(oe:Obj) (vs:Array Value),h.get? x=some oe∧oe.cls=cls∧oe.dict=od∧oe.data = .fields vs∧vs[1]?=some .none
structure Upto (fr ex:List Addr)(h h':Heap):Prop where
 keep:∀b o,b ∉ ex→b ∉ fr→h.get? b=some o→h'.get? b=some o
 slot:∀b o,b ∉ ex→h.get? b=some o→∃sl,h'.get? b=some { o with slots:=sl }
theorem Upto.trans {fr ex ex':List Addr}{h1 h2 h3:Heap}(a:Upto fr ex h1 h2)(b:Upto fr ex' h2 h3):Upto fr (ex++ex') h1 h3 :=
 ⟨fun c o n1 n2 q=>b.keep c o (fun z=>n1 (List.mem_append_right _ z)) n2 (a.keep c o (fun z=>n1 (List.mem_append_left _ z)) n2 q),fun c o n1 q=>by
   obtain⟨sl,q1⟩:=a.slot c o (fun z=>n1 (List.mem_append_left _ z)) q
   obtain⟨sl',q2⟩:=b.slot c _ (fun z=>n1 (List.mem_append_right _ z)) q1
   exact⟨sl',q2⟩⟩
theorem Upto.update {fr:List Addr}{h:Heap}{a:Addr}{f:Obj→Obj}:Upto fr [a] h (h.update a f) :=
 ⟨fun b o n _ q=>by rw[Heap.get?_update_other _ _ (fun z=>n (by simp [z]))];exact q,fun b o n q=>⟨o.slots,by rw[Heap.get?_update_other _ _ (fun z=>n (by simp [z]))];exact q⟩⟩
section
variable {M:Model}{A:Around}{E:Value→Shared→Prop}{s:Shared}
theorem flight_x {fr:List Addr}{x:Addr}{cls:Value}{od:Option Addr}{T:Addr}{fl:Value}{Q:Unit→Shared→Prop}(ht:Exc s.heap x cls od T fl)
   (h:∀h',Upto fr [T] s.heap h'→Exc h' x cls od T .none→Q () { s with heap:=h' }):wpAny M A (setFlight (.ref x) none) Q E s:=by
 obtain⟨oe,vs,oT,ts,ne,ex,hc,hdi,hd,h1,eT,dT,h3⟩:=ht
 unfold setFlight
 refine wpAny_bind (wpAny_field ex hd h1 ?_)
 rw[if_pos (show (Value.ref T != Value.none)=true by simp)]
 have sz:3<ts.size:=(Array.getElem?_eq_some_iff.mp h3).1
 refine wpAny_setField eT dT sz (h _ .update ⟨oe,vs,_,_,ne,?_,hc,hdi,hd,h1,Heap.get?_update_self _ eT (Obj.isFreed_of_fields (Obj.data_mapFields dT _)),Obj.data_mapFields dT _,?_⟩)
 · rw[Heap.get?_update_other _ _ ne]
   exact ex
 · simp [sz]
theorem Noted.exc {fr:List Addr}{x:Addr}{oe:Obj}{vs:Array Value}{fl:Value}{h h':Heap}(n:Noted fr x oe fl h h')(hd:oe.data = .fields vs)(hsz:1<vs.size):∃T,h.get? T=none∧Exc h' x oe.cls oe.dict T fl:=by
 obtain⟨T,oT,ts,nT,ne,ex,eT,dT,h3⟩:=n.ent
 exact⟨T,nT,_,_,oT,ts,ne,ex,Obj.cls_mapFields _ _,mapF_dict _ _,Obj.data_mapFields hd _,by simp [hsz],eT,dT,h3⟩
theorem Noted.upto {fr:List Addr}{x:Addr}{oe:Obj}{fl:Value}{h h':Heap}(n:Noted fr x oe fl h h'):Upto fr [x] h h' :=
 ⟨fun b o nb nf q=>n.keep b o (fun z=>nb (by simp [z])) nf q,fun b o nb q=>n.slot b o (fun z=>nb (by simp [z])) q⟩
theorem look0 {base:Heap}{env:Env}{outer:List Env}{L x:Addr}{cls:Value}{od:Option Addr}{Q:Unit→Shared→Prop}(hfr:A.frames=some (env::outer))(hl:s.heap.FunFrames base (env::outer))(hf:env.frame=some L)(hx:Exc0 s.heap x cls od)
   (h:∀h' T,s.heap.get? T=none→Upto ((env::outer).filterMap (·.frame)) [x] s.heap h'→Exc h' x cls od T (rawInt L)→Q () { s with heap:=h' }):wpAny M A (noteFrame (.ref x) env) Q E s:=by
 obtain⟨oe,vs,ex,rfl,rfl,hd,h1⟩:=hx
 have sz:=(Array.getElem?_eq_some_iff.mp h1).1
 unfold noteFrame
 simp only [hf]
 refine wpAny_bind (wpAny_field ex hd h1 ?_)
 rw[if_neg (by decide)]
 refine entry_x hfr hl hf ex hd sz fun h' n=>?_
 obtain⟨T,nT,t⟩:=n.exc hd sz
 exact h h' T nT n.upto t
theorem look1 {base:Heap}{env:Env}{outer:List Env}{L x T:Addr}{cls:Value}{od:Option Addr}{Q:Unit→Shared→Prop}(hfr:A.frames=some (env::outer))(hl:s.heap.FunFrames base (env::outer))(hf:env.frame=some L)(hx:Exc s.heap x cls od T .none)
   (h:∀h' T',s.heap.get? T'=none→Upto ((env::outer).filterMap (·.frame)) [T,x] s.heap h'→Exc h' x cls od T' (rawInt L)→Q () { s with heap:=h' }):wpAny M A (noteFrame (.ref x) env) Q E s:=by
 obtain⟨oe,vs,oT,ts,ne,ex,rfl,rfl,hd,h1,eT,dT,h3⟩:=hx
 have sz:=(Array.getElem?_eq_some_iff.mp h1).1
 have sz3:=(Array.getElem?_eq_some_iff.mp h3).1
 unfold noteFrame
 simp only [hf]
 refine wpAny_bind (wpAny_field ex hd h1 ?_)
 rw[if_pos (show (Value.ref T != Value.none)=true by simp)]
 refine wpAny_bind (wpAny_field eT dT h3 ?_)
 rw[if_neg (show ¬((Value.none==rawInt L)=true) by simp [rawInt])]
 refine wpAny_bind (wpAny_setField eT dT sz3 ?_)
 have u1:Upto ((env::outer).filterMap (·.frame)) [T] s.heap (s.heap.update T (Obj.mapFields (·.setIfInBounds 3 Value.none))):=.update
 have hl2:(s.heap.update T (Obj.mapFields (·.setIfInBounds 3 Value.none))).FunFrames base (env::outer):=hl.of_keeps fun b o q nf=>by
   have nb:b≠T:=fun z=>by
     subst z
     rw[eT] at q
     cases q
     exact nf ts dT
   exact⟨o,by rw[Heap.get?_update_other _ _ (fun z=>nb z.symm)];exact q,rfl⟩
 have ex2:(s.heap.update T (Obj.mapFields (·.setIfInBounds 3 Value.none))).get? x=some oe:=by
   rw[Heap.get?_update_other _ _ ne]
   exact ex
 refine entry_x (s:={ s with heap:=s.heap.update T (Obj.mapFields (·.setIfInBounds 3 Value.none)) }) hfr hl2 hf ex2 hd sz fun h' n=>?_
 obtain⟨T',nT,t⟩:=n.exc hd sz
 refine h h' T' ?_ (u1.trans n.upto) t
 cases q:s.heap.get? T' with
 | none=>rfl
 | some o =>
   by_cases z:T'=T
   · subst z
     rw[Heap.get?_update_self _ eT (Obj.isFreed_of_fields (Obj.data_mapFields dT _))] at nT
     cases nT
   · rw[Heap.get?_update_other _ _ (fun y=>z y.symm),q] at nT
     cases nT
theorem leave0 {base:Heap}{env:Env}{outer:List Env}{L x:Addr}{cls:Value}{od:Option Addr}{Q:Unit→Shared→Prop}(hfr:A.frames=some (env::outer))(hl:s.heap.FunFrames base (env::outer))(hf:env.frame=some L)(hx:Exc0 s.heap x cls od)
   (h:∀h' T,s.heap.get? T=none→Upto ((env::outer).filterMap (·.frame)) [x,T] s.heap h'→Exc h' x cls od T .none→Q () { s with heap:=h' }):wpAny M A (leaving env (.ref x)) Q E s:=by
 unfold leaving
 refine wpAny_bind (look0 hfr hl hf hx fun h1 T nT u t=>?_)
 exact flight_x (s:={ s with heap:=h1 }) (fr:=(env::outer).filterMap (·.frame)) t fun h2 u2 t2=>h h2 T nT (u.trans u2) t2
theorem leave1 {base:Heap}{env:Env}{outer:List Env}{L x T:Addr}{cls:Value}{od:Option Addr}{Q:Unit→Shared→Prop}(hfr:A.frames=some (env::outer))(hl:s.heap.FunFrames base (env::outer))(hf:env.frame=some L)(hx:Exc s.heap x cls od T .none)
   (h:∀h' T',s.heap.get? T'=none→Upto ((env::outer).filterMap (·.frame)) [T,x,T'] s.heap h'→Exc h' x cls od T' .none→Q () { s with heap:=h' }):wpAny M A (leaving env (.ref x)) Q E s:=by
 unfold leaving
 refine wpAny_bind (look1 hfr hl hf hx fun h1 T' nT u t=>?_)
 exact flight_x (s:={ s with heap:=h1 }) (fr:=(env::outer).filterMap (·.frame)) t fun h2 u2 t2=>h h2 T' nT (u.trans u2) t2
end
end Stow
namespace Stow
open PySem
open Sem (wp)
section
variable {M:Model}{A:Around}{E:Value→Shared→Prop}
variable {nm q nm0 q0:Str}{C N C0 N0:Addr}{bs bm bs0 bm0:List Value}{hdct hdct0:Bool}{sn sn0:List Str}{sub sub0:List Value}{ab ab0:Bool}{col col0:Option Bool}{dd dd0:Option Addr}{k0 k1 k2 k3 k5 j0 j1 j2 j3 j5:Option Value}{newId newId0:String}
theorem match_own {h:Heap}{g:Array GenState}{d:Drawn}{t:Nat}{os:OsState}{x:Addr}{ox:Obj}{b:Bool}{Q:Bool→Shared→Prop}
   (hC:h.get? C=some (excClassObj nm q C N bs bm hdct sn sub ab col dd k0 k1 k2 k3 k5 newId)) (hC0:h.get? C0=some (excClassObj nm0 q0 C0 N0 bs0 bm0 hdct0 sn0 sub0 ab0 col0 dd0 j0 j1 j2 j3 j5 newId0))
   (hx:h.get? x=some ox) (hcl:ox.cls = .ref C) (hb0:(Value.ref C0::bm0).contains (.type "BaseException")=true) (hb:(Value.ref C::bm).contains (.ref C0)=b) (k:Q b ⟨h,g,d,t,os⟩) :
   wpAny M A (excMatches (.ref x) (.ref C0)) Q E ⟨h,g,d,t,os⟩:=by
 have f:=tc_notTuple
 unfold excMatches
 repeat (first
   | (with_reducible refine wpAny_loadPart_at hx ?_;rw[hcl])
   | with_reducible refine wpAny_loadPart_at hC0 ?_
   | (with_reducible refine wpAny_isSubtype_exc hC0 ?_;rw[hb0])
   | (with_reducible refine wpAny_isSubtype_exc hC ?_;rw[hb])
   | wp_step)
 all_goals (cases b <;> (wp_walk;exact k))
end
end Stow
namespace Stow
open PySem
open Sem (wp)
def Lk (M:Model)(h:Heap){α:Type}(m:Sem α)(v:α):Prop:=∀(A:Around) (E:Value→Shared→Prop) (g:Array GenState) (d:Drawn) (t:Nat) (os:OsState) (Q:α→Shared→Prop),Q v ⟨h,g,d,t,os⟩→wpAny M A m Q E ⟨h,g,d,t,os⟩
theorem Lk.at {M:Model}{h:Heap}{α:Type}{m:Sem α}{v:α}(l:Lk M h m v){A:Around}{E:Value→Shared→Prop}{g:Array GenState}{d:Drawn}{t:Nat}{os:OsState}{Q:α→Shared→Prop}(q:Q v ⟨h,g,d,t,os⟩):wpAny M A m Q E ⟨h,g,d,t,os⟩:=l A E g d t os Q q
section
variable {prog:Program}{w:World}{A:Around}{E:Value→Shared→Prop}{h:Heap}{g:Array GenState}{d:Drawn}{t:Nat}{os:OsState}{a C:Addr}{o:Obj}
structure XLk (prog:Program)(w:World)(h:Heap)(C:Addr):Prop where
 ga:Lk (model prog w) h (typeLookup (.ref C) "__getattribute__") (some (.builtin "BaseException.__getattribute__"))
 gat:Lk (model prog w) h (typeLookup (.ref C) "__getattr__") none
 cls:Lk (model prog w) h (typeLookup (.ref C) "__class__") (some (.builtin "object.__class__"))
 obj:Lk (model prog w) h (isSubtype (.ref C) (.type "object")) true
 exc:Lk (model prog w) h (isSubtype (.ref C) (.type "BaseException")) true
end
end Stow
namespace Stow
open PySem L2 PyProof.Rows
section
variable {P:Program}{w:World}{H H':Hp}{h h' g:Heap}{a:Addr}{o:HO}
theorem ok_there (x:ObjOk P w H h a o):∃ob,h.get? a=some ob:=by
 cases o with
 | lst xs=>obtain⟨_,_,_,_,e⟩:=x;exact⟨_,e⟩
 | tup xs=>obtain⟨_,_,_,ob,e,_⟩:=x;exact⟨_,e⟩
 | dK kvs=>obtain⟨_,_,_,_,ob,_,_,e,_⟩:=x;exact⟨_,e⟩
 | dT kvs=>obtain⟨_,_,_,_,ob,_,_,e,_⟩:=x;exact⟨_,e⟩
 | set S n=>obtain⟨ob,_,_,_,e,_⟩:=x;exact⟨_,e⟩
 | ins C dx fs=>obtain⟨_,_,_,e,_⟩:=x;exact⟨_,e⟩
 | own y=>obtain⟨_,e⟩:=x;exact⟨_,e⟩
 | xd fs=>obtain⟨_,⟨_,_,_,e,_⟩,_⟩:=x;exact⟨_,e⟩
 | rng lo hi=>obtain⟨_,_,_,e⟩:=x;exact⟨_,e⟩
 | frz ob u=>obtain⟨e,_⟩:=x;exact⟨_,e⟩
 | tbl ps=>exact⟨_,(show h.get? a=some _ from x)⟩
 | met f y=>exact⟨_,(show h.get? a=some _ from x)⟩
 | ext φ=>obtain⟨_,e,_⟩:=x;exact e
theorem hok_none (x:HOk P w H h)(e:h.get? a=none):H a=none:=by
 cases q:H a with
 | none=>rfl
 | some u =>
   obtain⟨ob,z⟩:=ok_there (x a u q)
   rw[e] at z
   cases z
theorem hok_upto {fr ex:List Addr}(x:HOk P w H h)(u:Upto fr ex h h')(hf:∀b∈fr,H b=none)(he:∀b∈ex,H b=none):HOk P w H h':=fun a o e=>by
 have out:∀b v,H b=some v→b ∉ ex∧b ∉ fr:=fun b v q=>⟨(fun z=>by rw[he b z] at q;cases q),(fun z=>by rw[hf b z] at q;cases q)⟩
 refine(x a o e).stay (fun b ob hb q=>?_) (fun _ q=>q) fun _ _ q=>q
 rcases hb with rfl | hb
 · exact u.keep b ob (out b _ e).1 (out b _ e).2 q
 · exact u.keep b ob (out b _ hb).1 (out b _ hb).2 q
theorem un_upto {fs fr ex:List Addr}(u:Un fs [] H H' g h)(v:Upto fr ex h h')(hfr:∀b∈fr,b∈fs∨g.get? b=none)(hex:∀b∈ex,g.get? b=none):Un fs [] H H' g h':=by
 have nex:∀b o,g.get? b=some o→b ∉ ex:=fun b o q z=>by rw[hex b z] at q;cases q
 refine⟨fun b o q n hb hx=>?_,fun b o q n hb hx=>?_,u.free,fun b o q hx=>?_,u.tups,u.frzs,u.tbls⟩
 · refine v.keep b o (nex b o q) (fun z=>?_) (u.keep b o q n hb hx)
   rcases hfr b z with z | z
   · exact hb z
   · rw[z] at q
     cases q
 · obtain⟨sl,q1⟩:=u.slot b o q n hb hx
   obtain⟨sl',q2⟩:=v.slot b _ (nex b o q) q1
   exact⟨sl',q2⟩
 · obtain⟨o',q1⟩:=u.there b o q hx
   obtain⟨sl,q2⟩:=v.slot b o' (nex b o q) q1
   exact⟨_,q2⟩
theorem un_new {fs:List Addr}(u:Un fs [] H H' g h)(e:h.get? a=none):g.get? a=none:=by
 cases q:g.get? a with
 | none=>rfl
 | some o =>
   obtain⟨o',z⟩:=u.there a o q (by simp)
   rw[e] at z
   cases z
end
def CXe (P:Program)(w:World):CXT:=fun outer H s E e s'=>∃(x C T:Addr) (od:Option Addr) (H':Hp),e = .ref x∧s'.os=s.os∧AllBare s'.gens∧Un (frs outer) [] H H' s.heap s'.heap∧HOk P w H' s'.heap ∧
 s.heap.get? x=none∧s.heap.get? T=none∧H' x=none∧H' T=none∧Exc s'.heap x (.ref C) od T .none∧E (.ref C) od H'
section
variable {P:Program}{w:World}{K:PySem.W.Frag}{mg:Str→Option Value}{base:Heap}{N:List Str}{qual:Str}{scope:Scope}{f:Addr}{cd:Value}{A:Around}{outer:List Env}{s₀:Shared}{H₀:Hp}{EX:XK}
theorem xe_made {pins:List (Addr×Obj)}{σ:L2.St}{H:Hp}{s:Shared}{x C:Addr}{od:Option Addr}(I:Inv (cxOf (CXe P w) P w K mg base N qual scope f cd A outer s₀ H₀ EX) pins σ H s)(hx:Exc0 s.heap x (.ref C) od)(nx:s₀.heap.get? x=none)(ux:H x=none)(q:EX (.ref C) od H) :
   (cxOf (CXe P w) P w K mg base N qual scope f cd A outer s₀ H₀ EX).xe (.ref x) s:=by
 refine leave0 (base:=base) (outer:=outer) I.ok.frames I.stack rfl hx fun h' T nT u t=>?_
 have hu:Un (frs outer) [] H₀ H s₀.heap s.heap:=I.base
 have uT:H T=none:=hok_none I.hok nT
 refine⟨x,C,T,od,H,rfl,I.os,I.bare,un_upto hu u (fun b hb=>?_) (fun b hb=>?_),hok_upto I.hok u I.stkFree (fun b hb=>?_),nx,un_new hu nT,ux,uT,t,q⟩
 · rcases List.mem_cons.mp hb with rfl | hb
   · exact .inr (Heap.get?_none_of_le (Nat.le_refl _))
   · exact .inl hb
 · rcases List.mem_cons.mp hb with rfl | hb
   · exact nx
   · have e:b=T:=by simpa using hb
     subst e
     exact un_new hu nT
 · rcases List.mem_cons.mp hb with rfl | hb
   · exact ux
   · have e:b=T:=by simpa using hb
     subst e
     exact uT
theorem pass_x:Passes (CXe P w) (cxOf (CXe P w) P w K mg base N qual scope f cd A outer s₀ H₀ EX) EX:=by
 rintro pins σ H s e s' I ⟨x,C,T,od,H',rfl,os,bare,un,hok,nx,nT,ux,uT,t,q⟩
 have I':Inv (cxOf (CXe P w) P w K mg base N qual scope f cd A outer s₀ H₀ EX) pins σ H' s':=by
   obtain⟨hh,gg,dd,tt,oo⟩:=s'
   obtain rfl:oo=s.os:=os
   have z:=I.call (h':=hh) (g':=gg) (d':=dd) (t':=tt) (ch:=[]) un hok bare (fun b z=>absurd z (by simp))
   exact z
 refine leave1 (base:=base) (outer:=outer) I'.ok.frames I'.stack rfl t fun h' T' nT' u t'=>?_
 have hu:Un (frs outer) [] H₀ H' s₀.heap s'.heap:=I'.base
 have hu0:Un (frs outer) [] H₀ H s₀.heap s.heap:=I.base
 have uT':H' T'=none:=hok_none hok nT'
 have n0:∀b∈[T,x,T'],s₀.heap.get? b=none:=fun b hb=>by
   rcases List.mem_cons.mp hb with rfl | hb
   · exact un_new hu0 nT
   · rcases List.mem_cons.mp hb with rfl | hb
     · exact un_new hu0 nx
     · have e:b=T':=by simpa using hb
       subst e
       exact un_new hu nT'
 refine⟨x,C,T',od,H',rfl,I'.os,I'.bare,un_upto hu u (fun b hb=>?_) n0,hok_upto hok u I'.stkFree (fun b hb=>?_),n0 x (by simp),n0 T' (by simp),ux,uT',t',q⟩
 · rcases List.mem_cons.mp hb with rfl | hb
   · exact .inr (Heap.get?_none_of_le (Nat.le_refl _))
   · exact .inl hb
 · rcases List.mem_cons.mp hb with rfl | hb
   · exact uT
   · rcases List.mem_cons.mp hb with rfl | hb
     · exact ux
     · have e:b=T':=by simpa using hb
       subst e
       exact uT'
end
end Stow
namespace Stow
open PySem L2 PyProof.Rows
theorem exc_cls {K:PySem.W.Frag}{h:Heap}{C:Addr}{bmB:List Value}{newId:String}(X:K.In h)(q:PySem.W.excIn K C bmB newId=true) :
   ∃(bm:List Value) (N:Addr) (nm qn:Str) (bs:List Value) (hd:Bool) (sn:List Str) (sub:List Value) (ab:Bool) (col:Option Bool) (dd:Option Addr) (k0 k1 k2 k3 k5:Option Value) (mN:Str→Option Value),
     h.get? C=some (excClassObj nm qn C N bs bm hd sn sub ab col dd k0 k1 k2 k3 k5 newId)∧h.Ns N mN∧mN "__init__"=none∧OwnTail h bmB bm∧∀v,PySem.W.mroIn K C v=some ((Value.ref C::bm).contains v):=by
 unfold PySem.W.excIn at q
 split at q
 · rename_i dd cd sl lk
   split at q
   · rename_i C' bm a0 a1 a2 a3 n a5 em es
     simp only [Bool.and_eq_true,beq_iff_eq,Bool.not_eq_true'] at q
     obtain⟨⟨⟨⟨⟨eC,rfl⟩,nodel⟩,tl⟩,okN⟩,noI⟩:=q
     have eC:=eC.symm
     subst eC
     have mro:∀v,PySem.W.mroIn K C v=some ((Value.ref C::bm).contains v):=fun v=>by
       unfold PySem.W.mroIn PySem.W.clsIn
       rw[lk]
       first
         | rfl
         | (simp [em];done)
     obtain⟨nm,bs,mr,ns,qn,hd,sn,sub,ab,col,del⟩:=cd
     dsimp only at em nodel okN noI
     subst em nodel
     have esl:sl=#[a0,a1,a2,a3,some (.builtin n),a5]:=by
       cases sl with
       | mk l =>
         dsimp only at es
         rw[es]
     subst esl
     exact⟨bm,ns,nm,qn,bs,hd,sn,sub,ab,col,dd,a0,a1,a2,a3,a5,_,X _ _ lk,.of_isNs (PySem.W.isNs_of_in X okN),PySem.W.nsMap_none_of_in X okN noI,PySem.W.tail_of_in X tl,mro⟩
   · cases q
 · cases q
structure XCls (K:PySem.W.Frag)(mg:Str→Option Value)(x:Str)(C:Addr):Prop where
 bound:mg x=some (.ref C)
 ex:∃(bmB:List Value) (B newId initId:String),PySem.W.excIn K C bmB newId=true∧ExcBaseFacts B newId initId bmB∧bmB.contains (.type "BaseException")=true
def tRaise (C:Addr)(E:XK)(t:TA):TS:=fun _ σ H=>t σ H fun xs H1=>xs.length≤sizeLine∧E (.ref C) none H1
section
variable {P:Program}{w:World}{K:PySem.W.Frag}{mg:Str→Option Value}{base:Heap}{N:List Str}{qual:Str}{scope:Scope}{f:Addr}{cd:Value}{A:Around}{outer:List Env}{s₀:Shared}{H₀:Hp}{EX:XK}
theorem ps_raise {x:Str}{C:Addr}{np cpos pos:Pos}{e:Expr}{es:List Expr}{t:TA}(XC:XCls K mg x C)(hh:(cxOf (CXe P w) P w K mg base N qual scope f cd A outer s₀ H₀ EX).A.handled=none)
   (hg:Gl (cxOf (CXe P w) P w K mg base N qual scope f cd A outer s₀ H₀ EX) x) (ha:PA (cxOf (CXe P w) P w K mg base N qual scope f cd A outer s₀ H₀ EX) (e::es) t)
   (hdb:(x==("__debug__":Str))=false:=by decide) (he:starEach (e::es) (cxOf (CXe P w) P w K mg base N qual scope f cd A outer s₀ H₀ EX).env=(false,eval e (cxOf (CXe P w) P w K mg base N qual scope f cd A outer s₀ H₀ EX).env)::starEach es (cxOf (CXe P w) P w K mg base N qual scope f cd A outer s₀ H₀ EX).env:=by rfl)
   (hpl:(backTo cpos (starEach es (cxOf (CXe P w) P w K mg base N qual scope f cd A outer s₀ H₀ EX).env)).any (·.1)=false:=by rfl) :
   PS (cxOf (CXe P w) P w K mg base N qual scope f cd A outer s₀ H₀ EX) (.Raise (some (.Call (.Name x np) (e::es) [] cpos)) none pos) (tRaise C EX t):=by
 intro pins s σ H D I h
 obtain⟨bmB,B,newId,initId,q,FB,hB⟩:=XC.ex
 obtain⟨bm,NN,nm,qn,bs,hd,sn,sub,ab,col,dd,k0,k1,k2,k3,k5,mN,hC,hN,noI,tl,_⟩:=exc_cls I.mod.kin q
 refine wpAny_Raise_call_subT (C:=C) (nm:=nm) (q:=qn) (N:=NN) (bs:=bs) (bm:=bm) (hdct:=hd) (sn:=sn) (sub:=sub) (ab:=ab) (col:=col) (dd:=dd) (k0:=k0) (k1:=k1) (k2:=k2) (k3:=k3) (k5:=k5) FB (mN:=mN) (tl.hasType hB) hh
   (by rw[he];show (false||(backTo cpos (starEach es _)).any (·.1))=false;rw[hpl];rfl) noI (ld_glob I hg XC.bound ⟨rfl,?_⟩ hdb)
 have hA:=ha cpos pins s σ H _ I h
 rw[he] at hA ⊢
 refine Calls.evalArgs_plain (thn hA fun us s2 ⟨xs,H2,I2,r2,hz,q2⟩=>⟨rfl,by rw[←r2.length];exact hz,I2.bk _ _ hC,hN.keeps I2.bk,tl.keeps I2.bk,fun h' x hm=>?_⟩)
 have I3:Inv (cxOf (CXe P w) P w K mg base N qual scope f cd A outer s₀ H₀ EX) pins σ H2 { s2 with heap:=h' }:=I2.kept (t':=s2.toks) hm.keeps
 obtain⟨tt,ht,_,_⟩:=hm.there
 exact xe_made I3 ⟨_,_,ht,rfl,rfl,rfl,rfl⟩ (un_new (show Un (frs outer) [] H₀ H2 s₀.heap s2.heap from I2.base) hm.new) (hok_none I2.hok hm.new) q2
end
def ExcO (x C:Addr)(od:Option Addr):HO:=.ext fun h=>∃oe vs,h.get? x=some oe∧oe.cls = .ref C∧oe.dict=od∧oe.data = .fields vs
abbrev Cx.suite (X:Cx)(x:Addr):Cx:={ X with A:=X.A.mark (some (.ref x)),calm:=false,xe:=fun _ _=>False }
theorem ok_suite {X:Cx}(ok:X.Ok)(x:Addr):(Cx.suite X x).Ok :=
 ⟨ok.mod,ok.kind,ok.glob,ok.blt,ok.above,ok.inj,ok.has,ok.cab,fun z=>(nomatch z),ok.frames,ok.stk,ok.exf,ok.bs,ok.bsz,ok.noex,ok.exfs,ok.funs,ok.frf⟩
theorem inv_suite {X:Cx}{pins:List (Addr×Obj)}{σ:L2.St}{H:Hp}{s:Shared}(I:Inv X pins σ H s)(x:Addr):Inv (Cx.suite X x) pins σ H s:=⟨ok_suite I.ok x,I.os,I.bare,I.base,I.loc,I.cell,I.free,I.freeC,I.pin,I.hok,I.len⟩
theorem inv_unsuite {X:Cx}{pins:List (Addr×Obj)}{σ:L2.St}{H:Hp}{s:Shared}{x:Addr}(ok:X.Ok)(I:Inv (Cx.suite X x) pins σ H s):Inv X pins σ H s:=⟨ok,I.os,I.bare,I.base,I.loc,I.cell,I.free,I.freeC,I.pin,I.hok,I.len⟩
section
variable {X:Cx}
theorem inv_held {pins:List (Addr×Obj)}{σ:L2.St}{H H':Hp}{s s':Shared}{h':Heap}{x C T:Addr}{od:Option Addr}{fr ex:List Addr}(I:Inv X pins σ H s)(os:s'.os=s.os)(bare:AllBare s'.gens)(un:Un (frs X.stack) [] H H' s.heap s'.heap)(hok:HOk X.prog X.w H' s'.heap)
   (nx:s.heap.get? x=none) (ux:H' x=none) (u:Upto fr ex s'.heap h') (hfr:fr=frs X.stack) (nex:∀b∈ex,s.heap.get? b=none∧H' b=none) (t:Exc h' x (.ref C) od T .none):Inv X pins σ (upd H' x (ExcO x C od)) { s' with heap:=h' }:=by
 subst hfr
 have un2:Un (frs X.stack) [] H H' s.heap h':=un_upto un u (fun b hb=>.inl hb) fun b hb=>(nex b hb).1
 have stk:∀b∈frs X.stack,H' b=none:=fun b hb=>by
   obtain⟨_,o,ho,_⟩:=I.stack.mem hb
   exact un.free b o ho (I.stkFree b hb) (by simp)
 have hok2:HOk X.prog X.w H' h':=hok_upto hok u stk fun b hb=>(nex b hb).2
 have nex':∀b v,H' b=some v→b≠x:=fun b v e z=>by rw[z,ux] at e;cases e
 have un3:Un (frs X.stack) [] H (upd H' x (ExcO x C od)) s.heap h':=by
   refine⟨un2.keep,un2.slot,fun b o q n hx=>?_,un2.there,fun b xs q=>?_,fun b o v q=>?_,fun b ps q=>?_⟩
   · rw[upd_ne (fun z=>by rw[z,nx] at q;cases q)]
     exact un2.free b o q n hx
   · rw[upd_ne (nex' b _ (un2.tups b xs q))]
     exact un2.tups b xs q
   · rw[upd_ne (nex' b _ (un2.frzs b o v q))]
     exact un2.frzs b o v q
   · obtain⟨more,z⟩:=un2.tbls b ps q
     exact⟨more,by rw[upd_ne (nex' b _ z)];exact z⟩
 obtain⟨oe,vs,oT,ts,ne,ee,hc,hd,hf,_⟩:=t
 have hok3:HOk X.prog X.w (upd H' x (ExcO x C od)) h':=fun b v e=>by
   by_cases z:b=x
   · subst z
     rw[upd_same] at e
     cases e
     exact⟨⟨oe,vs,ee,hc,hd,hf⟩,⟨oe,ee⟩,fun h1 h2 ⟨o1,v1,q1,q2,q3,q4⟩ k=>⟨o1,v1,k o1 q1,q2,q3,q4⟩⟩
   · rw[upd_ne z] at e
     exact(hok2 b v e).stay (fun _ _ _ q=>q) (fun c q=>by rw[upd_ne (nex' c _ q)];exact q) fun c xs q=>by rw[upd_ne (nex' c _ q)];exact q
 obtain⟨hh,gg,dd,tt,oo⟩:=s'
 obtain rfl:oo=s.os:=os
 have z:=I.call (h':=h') (g':=gg) (d':=dd) (t':=tt) (ch:=[]) un3 hok3 bare (fun b z=>absurd z (by simp))
 exact z
end
end Stow
namespace Stow
open PySem L2 PyProof.Rows
section
variable {X:Cx}
def ECls (K:PySem.W.Frag)(C:Addr)(bm:List Value):Prop:=∃(nm qn:Str) (N:Addr) (bs:List Value) (hd:Bool) (sn:List Str) (sub:List Value) (ab:Bool) (col:Option Bool) (dd:Option Addr) (k0 k1 k2 k3 k5:Option Value) (newId:String),
 K.lookup C=some (excClassObj nm qn C N bs bm hd sn sub ab col dd k0 k1 k2 k3 k5 newId)
variable {k:Nat}{f C0:Addr}{fd:FuncData}{ps:List Str}{sp:Sp}{fx cx:Str}{p cpos epos np hpos pos:Pos}{e:Expr}{es:List Expr}{ta:TA}{b0:Stmt}{suite:List Stmt}{ts:Addr→TS}
theorem held_x {pins:List (Addr×Obj)}{σ:L2.St}{H:Hp}{s s':Shared}{EX:XK}{y:Value}{W:Shared→Prop}(I:Inv X pins σ H s)(hst:X.stack=X.env::X.outer∧X.env.frame=some X.env.locals)(hq:CXe X.prog X.w X.stack H s EX y s')
   (k:∀(x C:Addr) (od:Option Addr) (T:Addr) (h2:Heap) (H2:Hp),y = .ref x→EX (.ref C) od H2→Exc h2 x (.ref C) od T .none→Inv X pins σ (upd H2 x (ExcO x C od)) { s' with heap:=h2 } →
     (∀h3,Upto (frs X.stack) [T] h2 h3→Exc h3 x (.ref C) od T .none→H2 x=none∧Inv X pins σ (upd H2 x (ExcO x C od)) { s' with heap:=h3 })→W { s' with heap:=h2 }) {E':Value→Shared→Prop} :
   wpAny (model X.prog X.w) X.A (noteFrame y X.env) (fun _ s2=>wpAny (model X.prog X.w) X.A (setFlight y none) (fun _ s3=>W s3) E' s2) E' s':=by
 obtain⟨x,C,T,od,H',rfl,os,bare,un,hok,nx,nT,ux,uT,t,q⟩:=hq
 have I':Inv X pins σ H' s':=by
   obtain⟨hh,gg,dd,tt,oo⟩:=s'
   obtain rfl:oo=s.os:=os
   have z:=I.call (h':=hh) (g':=gg) (d':=dd) (t':=tt) (ch:=[]) un hok bare (fun b z=>absurd z (by simp))
   exact z
 have efr:(X.env::X.outer).filterMap (·.frame)=frs X.stack:=by rw[hst.1];rfl
 refine look1 (base:=X.base) (outer:=X.outer) (by rw[←hst.1];exact I'.ok.frames) (by rw[←hst.1];exact I'.stack) hst.2 t fun h1 T' nT' u1 t1=>?_
 rw[efr] at u1
 refine flight_x (s:={ s' with heap:=h1 }) (fr:=frs X.stack) t1 fun h2 u2 t2=>?_
 have new:∀b∈[T,x]++[T']++[T'],s.heap.get? b=none∧H' b=none:=fun b hb=>by
   simp only [List.cons_append,List.nil_append,List.mem_cons,List.not_mem_nil,or_false] at hb
   rcases hb with rfl | rfl | rfl | rfl
   · exact⟨nT,uT⟩
   · exact⟨nx,ux⟩
   · exact⟨un_new un nT',hok_none hok nT'⟩
   · exact⟨un_new un nT',hok_none hok nT'⟩
 refine k x C od T' h2 H' rfl q t2 (inv_held I os bare un hok nx ux (u1.trans u2) rfl (fun b hb=>new b (List.mem_append_left _ hb)) t2) fun h3 u3 t3=>⟨ux,inv_held I os bare un hok nx ux ((u1.trans u2).trans u3) rfl new t3⟩
theorem sp_unsuite {pins:List (Addr×Obj)}{D:Ends}{x:Addr}{fl:Flow}{s':Shared}(ok:X.Ok)(h:SP (Cx.suite X x) pins D fl s'):SP X pins D fl s':=by
 cases fl with
 | next=>obtain⟨σ',H',I,q⟩:=h;exact⟨σ',H',inv_unsuite ok I,q⟩
 | brk=>obtain⟨σ',H',I,q⟩:=h;exact⟨σ',H',inv_unsuite ok I,q⟩
 | cont=>obtain⟨σ',H',I,q⟩:=h;exact⟨σ',H',inv_unsuite ok I,q⟩
 | ret u=>obtain⟨v,σ',H',I,r,q⟩:=h;exact⟨v,σ',H',inv_unsuite ok I,r,q⟩
end
end Stow
namespace Stow
open PySem L2 PyProof.Rows
structure Defx (P:Program)(w:World)(K:PySem.W.Frag)(mg:Str→Option Value)(base:Heap)(x:Str)(k:Nat)(ps:List Str)(sp:Sp):Prop where
 ex:∃(f:Addr) (fd:FuncData),FnOk P w K mg base (CXe P w) k f fd ps sp∧mg x=some (.ref f)∧PySem.W.keepIn K (.ref f)=true∧Binds K fd ps []
section
variable {P:Program}{w:World}{K:PySem.W.Frag}{mg:Str→Option Value}{base:Heap}
theorem fun_okx {x qual:Str}{st:Stmt}{f:Addr}{fd:FuncData}{N ps:List Str}{k:Nat}{sp:Sp}(F:Fun K x qual st f fd)(S:FnScope N ps (defScope st))(len:∀vs H Q E,sp vs H Q E→vs.length=ps.length)
   (hbody:∀(cdv:Value) (A:Around) (outer:List Env) (s:Shared) (H:Hp) (vs:List V) (Q:VK) (E:XK),Room k (A.deeper (envOfC qual (defScope st) s.heap.objs.size f cdv))→sp vs H Q E →
     ∃t,PSs (cxOf (CXe P w) P w K mg base N qual (defScope st) f cdv A outer s H E) (defBody st) t∧t { nx:=fun _ H'=>Q .non H',rt:=Q } (start N vs) H):FnOk P w K mg base (CXe P w) (k+1) f fd ps sp:=by
 obtain⟨oc,od,kV,doc,pm,an,cdv,ct,osl,rfl,lk,hcd⟩:=F.ex
 exact fn_of lk hcd S len fun A outer s H vs Q E hr hsp=>hbody cdv A outer s H vs Q E hr hsp
theorem Src.okx {x:Str}{st:Stmt}{N ps:List Str}{k:Nat}{sp:Sp}(S:Src K mg x st)(sc:FnScope N ps (defScope st))
   (hb:∀(kV doc pm:Value) (an:Option Addr) (cdv ct:Value) (us:List Value),us.length=ps.length→bindArgs (PySem.W.fnOf x x (defArgs st) (defBody st) (defScope st) .none kV doc pm an cdv ct) ⟨us,[]⟩=pure (ps.zip us))
   (len:∀vs H Q E,sp vs H Q E→vs.length=ps.length)
   (hbody:∀(f:Addr) (cdv:Value) (A:Around) (outer:List Env) (s:Shared) (H:Hp) (vs:List V) (Q:VK) (E:XK),Room k (A.deeper (envOfC x (defScope st) s.heap.objs.size f cdv))→sp vs H Q E →
     ∃t,PSs (cxOf (CXe P w) P w K mg base N x (defScope st) f cdv A outer s H E) (defBody st) t∧t { nx:=fun _ H'=>Q .non H',rt:=Q } (start N vs) H):Defx P w K mg base x (k+1) ps sp:=by
 obtain⟨f,fd,F,hm⟩:=S.ex
 exact⟨f,fd,fun_okx F sc len (hbody f),hm,F.kp,F.binds hb⟩
end
section
variable {X:Cx}
theorem pass_e0:Passes (CXe X.prog X.w) X E0:=by
 rintro pins σ H s e s' I ⟨x,C,T,od,H',_,_,_,_,_,_,_,_,_,_,q⟩
 exact q.elim
theorem pe_defq {x:Str}{j k:Nat}{ps:List Str}{sp:Sp}{p pos:Pos}{e:Expr}{es:List Expr}{t:TA}(D:Defx X.prog X.w X.K X.mg X.base x j ps sp)(hr:Room k X.A)(hg:Gl X x)(ha:PA X (e::es) t)(hk:j≤k:=by decide)
   (hdb:(x==("__debug__":Str))=false:=by decide) (he:starEach (e::es) X.env=(false,eval e X.env)::starEach es X.env:=by rfl) (hpl:(backTo pos (starEach es X.env)).any (·.1)=false:=by rfl) :
   PE X (.Call (.Name x p) (e::es) [] pos) (tCall sp [] E0 t):=by
 obtain⟨f,fd,F,hm,kp,b⟩:=D.ex
 exact pe_call F (hr.mono hk) hg hm kp b .nil pass_e0 ha hdb he hpl
variable {j k:Nat}{C0:Addr}{ps:List Str}{sp:Sp}{fx cx:Str}{p cpos epos np hpos pos:Pos}{e:Expr}{es:List Expr}{ta:TA}{b0:Stmt}{suite:List Stmt}{ts:Addr→TS}
end
theorem Lk.of {M:Model}{h:Heap}{α:Type}{m:Sem α}{v:α}(l:PySem.W.Looks M h m v):Lk M h m v:=fun A E g d t os Q q=>l A Q E ⟨h,g,d,t,os⟩ (fun _ _ e=>e) q
structure XK0 (K:PySem.W.Frag)(C:Addr):Prop where
 ga:PySem.W.findIn K (.ref C) "__getattribute__"=some (some (.builtin "BaseException.__getattribute__"))
 gat:PySem.W.findIn K (.ref C) "__getattr__"=some none
 cls:PySem.W.findIn K (.ref C) "__class__"=some (some (.builtin "object.__class__"))
 obj:PySem.W.mroIn K C (.type "object")=some true
 exc:PySem.W.mroIn K C (.type "BaseException")=some true
theorem XK0.lk {prog:Program}{w:World}{K:PySem.W.Frag}{C:Addr}{h:Heap}(x:XK0 K C)(KX:K.In h):XLk prog w h C :=
 ⟨.of (PySem.W.looks_findIn KX x.ga),.of (PySem.W.looks_findIn KX x.gat),.of (PySem.W.looks_findIn KX x.cls),.of (PySem.W.looks_mroIn KX x.obj),.of (PySem.W.looks_mroIn KX x.exc)⟩
section
variable {X:Cx}
end
end Stow
namespace Stow
open PySem L2 PyProof.Rows
open PySem.W in
theorem refuse_base (self:Value):refuseLoop self "__setattr__" [.type "ValueError",.type "Exception",.type "BaseException",.type "object"]=pure ():=by kernel_rfl
def excTail:List Value→Bool
 | .ref _::r=>excTail r
 | l=>l==[.type "ValueError",.type "Exception",.type "BaseException",.type "object"]
open PySem.W in
theorem refuse_tail (self:Value):∀{l:List Value},excTail l=true→refuseLoop self "__setattr__" l=pure ()
 | .ref c::r,e=>by rw[refuseLoop_ref];exact refuse_tail self e
 | [],e=>by cases e
 | .none::r,e=>by cases e
 | .type n::r,e=>by
   have e':(Value.type n::r)=[.type "ValueError",.type "Exception",.type "BaseException",.type "object"]:=beq_iff_eq.mp e
   rw[e']
   exact refuse_base self
 | .ellipsis::r,e=>by cases e
 | .notImplemented::r,e=>by cases e
 | .bool b::r,e=>by cases e
 | .int i t::r,e=>by cases e
 | .float i t::r,e=>by cases e
 | .str i t::r,e=>by cases e
 | .bytes i t::r,e=>by cases e
 | .builtin i::r,e=>by cases e
section
variable {prog:Program}{w:World}{A:Around}{K:PySem.W.Frag}{x C:Addr}{s:Shared}
open PySem.W in
theorem set_exc0 {E:Value→Shared→Prop}{ox:Obj}{vs:Array Value}{name:Str}{v:Value}{cd:ClassData}{Q:Unit→Shared→Prop}(X:K.In s.heap)(hx:s.heap.get? x=some ox)(hcl:ox.cls = .ref C)(hdi:ox.dict=none)(hda:ox.data = .fields vs)
   (hs:findIn K (.ref C) "__setattr__"=some (some (.builtin "object.__setattr__"))) (hc:clsIn K C=some cd) (ho:excTail cd.mro=true) (hm:mroIn K C (.type "object")=some true) (hd:cd.hasDict=true) (ht:findIn K (.ref C) name=some none)
   (h:∀h' dx,s.heap.get? dx=none→dx≠x→h'.get? x=some { ox with dict:=some dx }→h'.Ns1 dx (fun y=>if y=name then some v else none)→(∀b o,b≠x→s.heap.get? b=some o→h'.get? b=some o)→Q () { s with heap:=h',toks:=s.toks+2 }) :
   wpAny (model prog w) A (setAttr (.ref x) name v) Q E s:=by
 have I:InstAt s.heap x ox C none:=⟨hx,hcl,by unfold notCls;rw[hda],by rw[hdi];trivial⟩
 refine set_plain X I hs ?_
 have SF:=PySem.F.store_object
 have sub:Looks (model prog w) s.heap (isInstance (.ref x) (.type "object")) true:=I.type.andThen (looks_mroIn X hm)
 refine codeAny_call_builtin SF.slot.plain SF.entry (@check_slot (model prog w) _ _ { s with toks:=s.toks+1 } "object.__setattr__" "object" "__setattr__" (.ref x) [.str name s.toks,v] [] _ SF.kind SF.split sub (SF.args (.ref x) (.str name s.toks) v) ?_)
 have mro:Looks (model prog w) s.heap (mroOf (.ref C)) cd.mro:=(looks_clsIn X hc).andThen .now
 rw[osa_eq,refuse_eq]
 refine wpAny_bind (wpAny_bind (Looks.here (s:={ s with toks:=s.toks+1 }) I.type (wpAny_bind (Looks.here (s:={ s with toks:=s.toks+1 }) mro ?_))))
 rw[refuse_tail _ ho]
 refine wpAny_pure (wpAny_bind (Looks.here (s:={ s with toks:=s.toks+1 }) I.type (wpAny_bind (Looks.here (s:={ s with toks:=s.toks+1 }) (looks_findIn X ht) (wpAny_bind (wpAny_pure ?_))))))
 show wpAny _ _ (Builtin.ObjectAttr.storeInOwnDict (.ref x) (.ref C) _ name v _) _ _ _
 unfold Builtin.ObjectAttr.storeInOwnDict
 obtain⟨c0,d0,dt0,sl0⟩:=ox
 dsimp only at hcl hdi hda
 subst hcl hdi hda
 refine wpAny_bind (wpAny_pure (wpAny_bind (wpAny_bind (wpAny_loadPart hx (wpAny_bind (Looks.here (s:={ s with toks:=s.toks+1 }) (looks_clsIn X hc) ?_))))))
 rw[hd]
 show wpAny (model prog w) A.in1 (do
   let d ←alloc { cls:=Value.type "dict",data:=Data.dict #[] }
   update x fun o=>{ o with dict:=some d }
   dictMade (.ref C) x d) _ _ _
 refine wpAny_bind (wpAny_alloc ?_)
 refine wpAny_bind (wpAny_update (Heap.get?_push_of_some _ hx) ?_)
 refine wpAny_pure (a:=some s.heap.objs.size) (wpAny_bind (wpAny_pure (wpAny_bind ?_)))
 have ne:s.heap.objs.size≠x:=Nat.ne_of_gt (Heap.lt_size hx)
 have n0:((s.heap.push { cls:=.type "dict",data:=.dict #[] }).update x fun o=>{ o with dict:=some s.heap.objs.size }).Ns1 s.heap.objs.size (fun _=>none):=by
   have e1:(s.heap.push { cls:=.type "dict",data:=.dict #[] }).get? s.heap.objs.size=some { cls:=.type "dict",data:=.dict #[] }:=Heap.get?_push_size s.heap rfl
   have e3:(s.heap.push { cls:=.type "dict",data:=.dict #[] }).Ns s.heap.objs.size (fun _=>none):=⟨_,#[],_,e1,rfl,(fun e he=>absurd he (by simp)),fun _=>rfl⟩
   exact(Heap.Ns1.of_empty e3).at fun o q=>by rw[Heap.get?_update_other _ _ (fun z=>ne z.symm)];exact q
 refine wpAny_nsSet1 n0 fun h' hn2 hs2=>?_
 obtain⟨oD,esD,epD,hoD,hdD,hcD⟩:=hn2.count (PySem.Within.cons name v (ns:=[]) (fun y hy=>absurd rfl hy))
 refine wpAny_bind (wpAny_lookBehind hoD (by rw[hdD];exact pastItsLine_dict (Nat.le_trans hcD (by show 1≤sizeLine+1;exact Nat.le_add_left 1 _))) ?_)
 refine wpAny_pure (h _ s.heap.objs.size (Heap.get?_none_of_le (Nat.le_refl _)) ne ?_ hn2 fun b o nb q=>?_)
 · rw[hs2.2 x (fun z=>ne z.symm)]
   exact Heap.get?_update_self _ (Heap.get?_push_of_some _ hx) rfl
 · rw[hs2.2 b (Nat.ne_of_lt (Heap.lt_size q))]
   show ((s.heap.push _).update x _).get? b=some o
   rw[Heap.get?_update_other _ _ (fun z=>nb z.symm)]
   exact Heap.get?_push_of_some _ q
end
end Stow
namespace Stow
open PySem
open Sem (wp)
section
variable {prog:Program}{w:World}{A:Around}{E:Value→Shared→Prop}{h:Heap}{g:Array GenState}{d:Drawn}{t:Nat}{os:OsState}{a C:Addr}{o:Obj}{name:Str}{v:Value}
end
end Stow
namespace Stow
open PySem L2 PyProof.Rows
structure XSet (K:PySem.W.Frag)(C:Addr)(f:Str):Prop where
 sa:PySem.W.findIn K (.ref C) "__setattr__"=some (some (.builtin "object.__setattr__"))
 cd:∃cd,PySem.W.clsIn K C=some cd∧excTail cd.mro=true∧cd.hasDict=true
 ob:PySem.W.mroIn K C (.type "object")=some true
 no:PySem.W.findIn K (.ref C) f=some none
def ExcN (x C:Addr)(od:Option Addr):HO:=.ext fun h=>∃tt,h.get? x=some { cls:=.ref C,dict:=od,data:=.fields #[.ref tt,.none,.none,.none,.bool false,.none] }
def sFldX (K:PySem.W.Frag)(ta tv:TE)(f:Str):TS:=fun D σ H=>tv σ H fun y H1=>ta σ H1 fun x H2=>∃a C,x = .ref a∧H2 a=some (ExcN a C none)∧XSet K C f∧∀dx,H2 dx=none→D.nx σ (upd (upd H2 dx (.xd [(f,y)])) a (ExcN a C (some dx)))
section
variable {X:Cx}{o e value:Expr}{f:Str}{pos pos':Pos}{ta tv:TE}
theorem ps_fldX (ha:PE X o ta)(hv:PE X value tv)(hs:swapsWith value (some (.Attribute o f pos')) pos.line X.env=pure false:=by rfl):PS X (.Assign [.Attribute o f pos'] value pos) (sFldX X.K ta tv f):=by
 intro pins s σ H D I h
 refine plainObj_wpAny_Assign_Attribute (thn (hv pins s σ H _ I h) fun u s1 ⟨y,H1,I1,ry,q⟩=>thn (ha pins s1 σ H1 _ I1 q) fun ov s2 ⟨x,H2,I2,rx,a,C,ex,ea,Z,q2⟩=>?_) hs
 subst ex
 obtain rfl:ov=Value.ref a:=rx
 obtain⟨⟨tt,ee⟩,_⟩:=I2.hok a _ ea
 obtain⟨cd,hcd,ht,hdi⟩:=Z.cd
 refine set_exc0 I2.kIn ee rfl rfl rfl Z.sa hcd ht Z.ob hdi Z.no fun h' dx nd ne e' n' kp=>?_
 have ud:H2 dx=none:=hok_none I2.hok nd
 have nda:a≠dx:=fun z=>ne z.symm
 refine⟨σ,_,?_,q2 dx ud⟩
 -- the dict is laid,the exception bears it
 have un:Un X.fs [] H2 (upd (upd H2 dx (.xd [(f,y)])) a (ExcN a C (some dx))) s2.heap h':=by
   refine⟨fun b ob qb n _ _=>kp b ob (fun z=>by rw[z,ea] at n;cases n) qb,fun b ob qb n _ _=>⟨ob.slots,kp b ob (fun z=>by rw[z,ea] at n;cases n) qb⟩,fun b ob qb n _=>?_,fun b ob qb _=>?_,fun b xs qb=>?_,fun b ob v' qb=>?_,fun b ps qb=>?_⟩
   · rw[upd_ne (fun z=>by rw[z,ea] at n;cases n),upd_ne (fun z=>by rw[z,nd] at qb;cases qb)]
     exact n
   · by_cases z:b=a
     · subst z
       exact⟨_,e'⟩
     · exact⟨ob,kp b ob z qb⟩
   · rw[upd_ne (fun z=>by rw[z,ea] at qb;cases qb),upd_ne (ne_of_none qb ud)]
     exact qb
   · rw[upd_ne (fun z=>by rw[z,ea] at qb;cases qb),upd_ne (ne_of_none qb ud)]
     exact qb
   · exact⟨#[],by rw[upd_ne (fun z=>by rw[z,ea] at qb;cases qb),upd_ne (ne_of_none qb ud),qb];simp⟩
 have hok:HOk X.prog X.w (upd (upd H2 dx (.xd [(f,y)])) a (ExcN a C (some dx))) h':=fun b v' qb=>by
   by_cases z:b=a
   · subst z
     rw[upd_same] at qb
     cases qb
     exact⟨⟨tt,e'⟩,⟨_,e'⟩,fun h1 h2 ⟨t1,q1⟩ k=>⟨t1,k _ q1⟩⟩
   · rw[upd_ne z] at qb
     by_cases z2:b=dx
     · subst z2
       rw[upd_same] at qb
       cases qb
       refine⟨_,n',fun g=>?_⟩
       show RelO (List.lookup g [(f,y)]) (if g=f then some u else none)
       by_cases zg:g=f
       · subst zg
         rw[if_pos rfl,List.lookup_cons_self]
         exact ry
       · rw[if_neg zg,List.lookup_cons,show (g==f)=false from beq_false_of_ne zg]
         trivial
     · rw[upd_ne z2] at qb
       refine(I2.hok b v' qb).stay (fun c w' hcw q=>kp c w' (fun y'=>?_) q) (fun c q=>?_) fun c xs q=>?_
       · subst y'
         rcases hcw with r | r
         · exact z r.symm
         · rw[ea] at r
           cases r
       · rw[upd_ne (fun z=>by rw[z,ea] at q;cases q),upd_ne (ne_of_none q ud)]
         exact q
       · rw[upd_ne (fun z=>by rw[z,ea] at q;cases q),upd_ne (ne_of_none q ud)]
         exact q
 exact I2.un un hok
end
end Stow
namespace Stow
open PySem
open Sem (wp)
section
variable {prog:Program}{w:World}{A:Around}{E:Value→Shared→Prop}{h:Heap}{g:Array GenState}{d:Drawn}{t:Nat}{os:OsState}
variable {nm q:Str}{C N:Addr}{bs bm bmB:List Value}{hdct:Bool}{sn:List Str}{sub:List Value}{ab:Bool}{col:Option Bool}{dd:Option Addr}{k0 k1 k2 k3 k5:Option Value}{B newId initId:String}
theorem make_exc1 (FB:ExcBaseFacts B newId initId bmB)(TL:OwnTail h bmB bm){args:List Value}{fI:Addr}{oI:Obj}{Q:Fin→Shared→Prop}(hC:h.get? C=some (excClassObj nm q C N bs bm hdct sn sub ab col dd k0 k1 k2 k3 k5 newId))
   (LI:PySem.W.Looks (model prog w) h (typeLookup (.ref C) "__init__") (some (.ref fI))) (hfI:h.get? fI=some oI) (hfc:oI.cls = .type "function")
   (k:∀h' e,Heap.MadeExcOf h h' e (.ref C) args→wpAny (model prog w) A (call (.ref fI) (.ref e::args)) (fun r s'=>r = .none∧Q (.done (.ret (.ref e))) s') E ⟨h',g,d,t,os⟩) (hz:args.length≤sizeLine) :
   wpAny (model prog w) A (Builtin.«type.__call__» ⟨.ref C::args,[]⟩) Q E ⟨h,g,d,t,os⟩:=by
 repeat (first
   | with_reducible refine wpAny_loadPart_at hC ?_
   | with_reducible refine wpAny_madeBy_exc hC ?_
   | wp_step)
 refine codeAny_call_builtin_code (Code.quiet_builtin _ FB.quiet) (wpAny_check_new_subT FB TL hC (codeAny_exc_new_subT FB TL hC ?_ hz))
 show wpAny _ _ _ _ _ _
 have kp:∀b o,h.get? b=some o→((h.push { cls:=.type "tuple",data:=.seq args.toArray }).push { cls:=.ref C,data:=.fields #[.ref h.objs.size,.none,.none,.none,.bool false,.none] }).get? b=some o :=
   fun b o z=>Heap.get?_push_of_some _ (Heap.get?_push_of_some _ z)
 have gC:=kp _ _ hC
 have gE:((h.push { cls:=.type "tuple",data:=.seq args.toArray }).push { cls:=.ref C,data:=.fields #[.ref h.objs.size,.none,.none,.none,.bool false,.none] }).get? (h.objs.size+1)
     = some { cls:=.ref C,data:=.fields #[.ref h.objs.size,.none,.none,.none,.bool false,.none] }:=by heap_get
 have cC:(Value.ref C::bm).contains (.ref C)=true:=by simp
 unfold isInstance
 repeat (first
   | with_reducible refine wpAny_loadPart_at gE ?_
   | (with_reducible refine wpAny_isSubtype_exc gC ?_;rw[cC])
   | wp_step)
 show wpAny _ _ (typeLookup (.ref C) _) _ _ _
 refine LI _ _ _ _ kp ?_
 refine wpAny_holding (wpAny_bind ?_)
 unfold bindSpecial
 refine wpAny_bind (wpAny_typeOf (T:="function") ⟨_,kp _ _ hfI,hfc⟩ ?_)
 rw[if_pos (by decide)]
 refine wpAny_pure (wpAny_bind (wpAny_mono (k _ (h.objs.size+1) ⟨kp,Heap.get?_none_of_le (Nat.le_succ _),h.objs.size,gE,Heap.get?_none_of_le (Nat.le_refl _),?_⟩) (fun r s' hr=>?_) fun _ _ z=>z))
 · exact Heap.get?_push_of_some _ (Heap.get?_push_at rfl rfl)
 · obtain⟨rfl,z⟩:=hr
   wp_walk
   exact z
theorem make_exc2 (FB:ExcBaseFacts B newId initId bmB)(TL:OwnTail h bmB bm){args:List Value}{fI:Addr}{oI:Obj}{Q:Value→Shared→Prop}(hC:h.get? C=some (excClassObj nm q C N bs bm hdct sn sub ab col dd k0 k1 k2 k3 k5 newId))
   (LI:PySem.W.Looks (model prog w) h (typeLookup (.ref C) "__init__") (some (.ref fI))) (hfI:h.get? fI=some oI) (hfc:oI.cls = .type "function")
   (k:∀h' e,Heap.MadeExcOf h h' e (.ref C) args→wpAny (model prog w) (A.under (.builtin "type.__call__" ⟨.ref C::args,[]⟩)) (call (.ref fI) (.ref e::args)) (fun r s'=>r = .none∧Q (.ref e) s') E ⟨h',g,d,t,os⟩) (hz:args.length≤sizeLine) :
   wpAny (model prog w) A (call (.ref C) args) Q E ⟨h,g,d,t,os⟩:=by
 have y1:=tc_lookup
 have y2:=tc_bind (.ref C)
 have y3:(⟨h,g,d,t,os⟩:Shared).TypeIs (.ref C) "type":=⟨_,hC,rfl⟩
 refine wpAny_call (codeAny_of_tree ?_)
 show wpAny _ _ (callAny (.ref C) _) _ _ _
 repeat (any_goals (first
   | assumption
   | with_reducible refine wpAny_loadPart_at hC ?_
   | wp_step))
 refine⟨rfl,codeAny_call_builtin_at (Code.quiet_builtin _ (by decide +kernel)) entry_typeCall (wpAny_check_type_call_sub hC (make_exc1 FB TL hC LI hfI hfc (fun h' e hm=>?_) hz))⟩
 exact k h' e hm
theorem raise_exc {M:Model}{env:Env}{s:Shared}{x:Sem Value}{Q:Flow→Shared→Prop}(hbase:bm.contains (.type "BaseException")=true)(hh:A.handled=none)
   (k:wpAny M A x (fun v s1=>∃e od tt,v = .ref e∧s1.heap.get? C=some (excClassObj nm q C N bs bm hdct sn sub ab col dd k0 k1 k2 k3 k5 newId)∧s1.heap.get? e=some { cls:=.ref C,dict:=od,data:=.fields #[.ref tt,.none,.none,.none,.bool false,.none] }∧E (.ref e) s1) E s) :
   wpAny M A (raiseStmt env (some x) none) Q E s:=by
 have cB:(Value.ref C::bm).contains (.type "BaseException")=true:=by rw[List.contains_cons,hbase,Bool.or_true]
 unfold raiseStmt
 refine wpAny_bind (wpAny_mono k (fun v s1 k1=>?_) fun _ _ z=>z)
 obtain⟨e,od,tt,rfl,hC,he,z⟩:=k1
 obtain⟨hp,gg,d1,tk,os1⟩:=s1
 repeat (first
   | with_reducible refine wpAny_loadPart_at he ?_
   | with_reducible refine wpAny_loadPart_at hC ?_
   | (with_reducible refine wpAny_isSubtype_exc hC ?_;rw[cB])
   | wp_step)
 exact wpAny_raiseNew_none hh z
end
end Stow
namespace Stow
open PySem L2 PyProof.Rows
structure XIni (K:PySem.W.Frag)(mg:Str→Option Value)(x:Str)(C C0 fI:Addr):Prop where
 bound:mg x=some (.ref C)
 lk:∃(nm qn:Str) (N:Addr) (bs:List Value) (hd:Bool) (sn:List Str) (sub:List Value) (ab:Bool) (col:Option Bool) (dd:Option Addr) (k0 k1 k2 k3 k5:Option Value),
   K.lookup C=some (excClassObj nm qn C N bs (.ref C0::[.type "ValueError",.type "Exception",.type "BaseException",.type "object"]) hd sn sub ab col dd k0 k1 k2 k3 k5 "ValueError.__new__")
 base:PySem.W.excIn K C0 [.type "ValueError",.type "Exception",.type "BaseException",.type "object"] "ValueError.__new__"=true
 ini:PySem.W.findIn K (.ref C) "__init__"=some (some (.ref fI))
 keep:PySem.W.keepIn K (.ref C)=true
 fn:∃(c:Value) (dd:Option Addr) (da:Data) (sl:Array (Option Value)),K.lookup fI=some ⟨c,dd,da,sl⟩∧c = .type "function"
def del (H:Hp)(x:Addr):Hp:=fun b=>if b=x then none else H b
theorem del_same {H:Hp}{x:Addr}:del H x x=none:=by unfold del;rw[if_pos rfl]
theorem del_ne {H:Hp}{x b:Addr}(h:b≠x):del H x b=H b:=by unfold del;rw[if_neg h]
theorem inv_del {X:Cx}{pins:List (Addr×Obj)}{σ:L2.St}{H:Hp}{s:Shared}{x:Addr}{φ:Heap→Prop}(I:Inv X pins σ H s)(e:H x=some (.ext φ)):Inv X pins σ (del H x) s:=by
 have nx:∀b v,H b=some v→v≠.ext φ→b≠x:=fun b v q n z=>by
   subst z
   rw[e] at q
   exact n (Option.some.inj q).symm
 have un:Un X.fs [] H (del H x) s.heap s.heap:=by
   refine⟨fun b o q _ _ _=>q,fun b o q _ _ _=>⟨o.slots,q⟩,fun b o q n _=>?_,fun b o q _=>⟨o,q⟩,fun b xs q=>?_,fun b o v q=>?_,fun b ps q=>⟨#[],?_⟩⟩
   · by_cases z:b=x
     · rw[z]
       exact del_same
     · rw[del_ne z]
       exact n
   · rw[del_ne (nx b _ q (by intro z;cases z))]
     exact q
   · rw[del_ne (nx b _ q (by intro z;cases z))]
     exact q
   · rw[del_ne (nx b _ q (by intro z;cases z)),q]
     simp
 have hok:HOk X.prog X.w (del H x) s.heap:=fun b v q=>by
   by_cases z:b=x
   · rw[z,del_same] at q
     cases q
   · rw[del_ne z] at q
     refine(I.hok b v q).stay (fun _ _ _ z=>z) (fun c q'=>?_) fun c xs q'=>?_
     · rw[del_ne (nx c _ q' (by intro z;cases z))]
       exact q'
     · rw[del_ne (nx c _ q' (by intro z;cases z))]
       exact q'
 exact I.un (h':=s.heap) (t':=s.toks) un hok
theorem inv_new {X:Cx}{pins:List (Addr×Obj)}{σ:L2.St}{H:Hp}{s:Shared}{h':Heap}{x C tt:Addr}(I:Inv X pins σ H s)(nx:s.heap.get? x=none)(kp:∀b o,s.heap.get? b=some o→h'.get? b=some o)
   (e:h'.get? x=some { cls:=.ref C,data:=.fields #[.ref tt,.none,.none,.none,.bool false,.none] }):Inv X pins σ (upd H x (ExcN x C none)) { s with heap:=h' }:=by
 have ux:H x=none:=hok_none I.hok nx
 have un:Un X.fs [] H (upd H x (ExcN x C none)) s.heap h':=by
   refine⟨fun b o q _ _ _=>kp b o q,fun b o q _ _ _=>⟨o.slots,kp b o q⟩,fun b o q n _=>?_,fun b o q _=>⟨o,kp b o q⟩,fun b xs q=>?_,fun b o v q=>?_,fun b ps q=>⟨#[],?_⟩⟩
   · rw[upd_ne (fun z=>by rw[z,nx] at q;cases q)]
     exact n
   · rw[upd_ne (ne_of_none q ux)]
     exact q
   · rw[upd_ne (ne_of_none q ux)]
     exact q
   · rw[upd_ne (ne_of_none q ux),q]
     simp
 have hok:HOk X.prog X.w (upd H x (ExcN x C none)) h':=fun b v q=>by
   by_cases z:b=x
   · subst z
     rw[upd_same] at q
     cases q
     exact⟨⟨tt,e⟩,⟨_,e⟩,fun h1 h2 ⟨t1,q1⟩ k=>⟨t1,k _ q1⟩⟩
   · rw[upd_ne z] at q
     refine(I.hok b v q).stay (fun c w' _ q'=>kp c w' q') (fun c q'=>?_) fun c xs q'=>?_
     · rw[upd_ne (ne_of_none q' ux)]
       exact q'
     · rw[upd_ne (ne_of_none q' ux)]
       exact q'
 exact I.un (t':=s.toks) un hok
theorem run_excI {X:Cx}{x:Str}{C C0 fI:Addr}{fd:FuncData}{ps:List Str}{sp:Sp}{j:Nat}{pins:List (Addr×Obj)}{σ:L2.St}{H:Hp}{s:Shared}{Q:VK}{us:List Value}{vs:List V}(XI:XIni X.K X.mg x C C0 fI)(F:FnOk X.prog X.w X.K X.mg X.base (CXe X.prog X.w) j fI fd ps sp)
   (hr:Room (j+1) X.A) (hb:Binds X.K fd ps []) (I:Inv X pins σ H s) (r:Vals vs us) (hz:vs.length≤1000) (h:∀y,H y=none→sp (.ref y::vs) (upd H y (ExcN y C none)) (fun v H2=>v = .non∧Q (.ref y) H2) E0) :
   wpAny (model X.prog X.w) X.A (call (.ref C) us) (fun u s'=>EP X pins σ Q u s'∧∃y,u = .ref y∧s.heap.get? y=none) X.xe s:=by
 obtain⟨nm,qn,NN,bs,hd,sn,sub,ab,col,dd,k0,k1,k2,k3,k5,lkC⟩:=XI.lk
 obtain⟨bm,N0,nm0,qn0,bs0,hd0,sn0,sub0,ab0,col0,dd0,j0,j1,j2,j3,j5,mN0,hC0,hN0,noI,tl,_⟩:=exc_cls I.kIn XI.base
 have FB:=PySem.F.excBase_ValueError
 have TL:OwnTail s.heap [.type "ValueError",.type "Exception",.type "BaseException",.type "object"] (.ref C0::[.type "ValueError",.type "Exception",.type "BaseException",.type "object"]):=.own hC0 hN0 noI .base
 obtain⟨cI,dI,daI,slI,lkI,ecI⟩:=XI.fn
 have gC:=I.kIn _ _ lkC
 have gI:=I.kIn _ _ lkI
 have LI:=PySem.W.looks_findIn (M:=model X.prog X.w) I.kIn XI.ini
 obtain⟨hp,gg,d1,tk,os1⟩:=s
 refine make_exc2 FB TL gC LI gI ecI (fun h' y hm=>?_) (by rw[←r.length];exact Nat.le_of_lt (small1000 hz))
 obtain⟨tt,ey,_,_⟩:=hm.there
 have I2:=inv_new I hm.new hm.keeps ey
 have uy:H y=none:=hok_none I.hok hm.new
 have hq:=h y uy
 have r2:Vals (V.ref y::vs) (Value.ref y::us):=.cons rfl r
 have hl:((Value.ref y::us)++[]).length=ps.length:=by
   rw[List.append_nil,←F.len _ _ _ _ hq]
   exact r2.length.symm
 have bd:=hb _ (Value.ref y::us) I2.kIn hl
 rw[List.append_nil] at bd
 refine wpAny_call (codeAny_mono (F.run _ X.stack _ _ ⟨Value.ref y::us,[]⟩ (Value.ref y::us) _ _ E0 (hr.make C us []) (I2.env0.make C us []) bd r2 hq) fun rs s' hq'=>?_)
 cases rs with
 | error e=>obtain⟨_,_,_,_,_,_,_,_,_,_,_,_,_,_,_,z⟩:=hq';exact z.elim
 | ok fl =>
   cases fl with
   | ret u =>
     obtain⟨v,H',I3,rv,ev,q3⟩:=I2.after hq'
     subst ev
     exact⟨rv,⟨V.ref y,H',I3,rfl,q3⟩,y,rfl,hm.new⟩
   | next=>exact False.elim hq'
   | brk=>exact False.elim hq'
   | cont=>exact False.elim hq'
def tRaiseI (C:Addr)(sp:Sp)(E:XK)(t:TA):TS:=fun _ σ H=>t σ H fun vs H1=>vs.length≤1000∧∀y,H1 y=none→sp (.ref y::vs) (upd H1 y (ExcN y C none)) (fun v H2=>v = .non∧∃z,V.ref y=V.ref z∧∃od,H2 z=some (ExcN z C od)∧E (.ref C) od (del H2 z)) E0
section
variable {P:Program}{w:World}{K:PySem.W.Frag}{mg:Str→Option Value}{base:Heap}{N:List Str}{qual:Str}{scope:Scope}{f:Addr}{cd:Value}{A:Around}{outer:List Env}{s₀:Shared}{H₀:Hp}{EX:XK}
theorem ps_raiseI {x:Str}{C C0 fI:Addr}{fd:FuncData}{ps:List Str}{sp:Sp}{j k:Nat}{np cpos pos:Pos}{e:Expr}{es:List Expr}{t:TA}(XI:XIni K mg x C C0 fI)(F:FnOk P w K mg base (CXe P w) j fI fd ps sp)(hb:Binds K fd ps [])
   (hr:Room k (cxOf (CXe P w) P w K mg base N qual scope f cd A outer s₀ H₀ EX).A)
   (hg:Gl (cxOf (CXe P w) P w K mg base N qual scope f cd A outer s₀ H₀ EX) x) (ha:PA (cxOf (CXe P w) P w K mg base N qual scope f cd A outer s₀ H₀ EX) (e::es) t) (hj:j+1≤k:=by decide)
   (hdb:(x==("__debug__":Str))=false:=by decide) (he:starEach (e::es) (cxOf (CXe P w) P w K mg base N qual scope f cd A outer s₀ H₀ EX).env=(false,eval e (cxOf (CXe P w) P w K mg base N qual scope f cd A outer s₀ H₀ EX).env)::starEach es (cxOf (CXe P w) P w K mg base N qual scope f cd A outer s₀ H₀ EX).env:=by rfl)
   (hpl:(backTo cpos (starEach es (cxOf (CXe P w) P w K mg base N qual scope f cd A outer s₀ H₀ EX).env)).any (·.1)=false:=by rfl) :
   PS (cxOf (CXe P w) P w K mg base N qual scope f cd A outer s₀ H₀ EX) (.Raise (some (.Call (.Name x np) (e::es) [] cpos)) none pos) (tRaiseI C sp EX t):=by
 intro pins s σ H D I h
 obtain⟨nm,qn,NN,bs,hd,sn,sub,ab,col,dd,k0,k1,k2,k3,k5,lkC⟩:=id XI.lk
 have hB:(Value.ref C0::[.type "ValueError",.type "Exception",.type "BaseException",.type "object"]:List Value).contains (.type "BaseException")=true:=by
   rw[List.contains_cons,PySem.F.excBase_ValueError.hasBase,Bool.or_true]
 rw[arm_exec_Raise]
 refine wpAny_bind (wpAny_standAt (raise_exc (C:=C) (nm:=nm) (q:=qn) (N:=NN) (bs:=bs) (bm:=.ref C0::[.type "ValueError",.type "Exception",.type "BaseException",.type "object"]) (hdct:=hd) (sn:=sn) (sub:=sub) (ab:=ab) (col:=col) (dd:=dd) (k0:=k0) (k1:=k1) (k2:=k2) (k3:=k3) (k5:=k5) (newId:="ValueError.__new__") hB hr.hd ?_))
 refine wpAny_bind (wpAny_mono ?_ (fun v s1 hv=>wpAny_bind (wpAny_standAt (wpAny_pure hv))) (fun _ _ z=>z))
 refine wpAny_Call_Name_kw (ld_glob I hg XI.bound ?_ hdb)
 refine PySem.W.callWith_K (h₀:=base) I.ok.mod.kin XI.keep (thn (ha cpos pins s σ H _ I h) fun us s1 ⟨vs,H1,I1,r,hz,q⟩=>⟨I1.kIn,?_⟩) he hpl
 refine thn (run_excI XI F (hr.mono hj) hb I1 r hz (Q:=fun u H2=>∃z,u = .ref z∧∃od,H2 z=some (ExcN z C od)∧EX (.ref C) od (del H2 z)) (fun y hy=>q y hy)) fun u s2 ⟨⟨v,H2,I2,rv,y,ev,od,ey,qe⟩,y',eu,ny⟩=>?_
 · subst ev
   obtain rfl:u=Value.ref y:=rv
   cases eu
   obtain⟨⟨tt,g1⟩,_⟩:=I2.hok y _ ey
   refine⟨y,od,tt,rfl,I2.kIn _ _ lkC,g1,?_⟩
   exact xe_made (inv_del I2 ey) ⟨_,_,g1,rfl,rfl,rfl,rfl⟩ (un_new (show Un (frs outer) [] H₀ H1 s₀.heap s1.heap from I1.base) ny) del_same qe
end
end Stow
set_option Elab.async false
set_option linter.all false
set_option maxRecDepth 100000
set_option maxHeartbeats 4000000
namespace Stow
open PySem L2 PyProof.Rows
structure DefI (P:Program)(w:World)(K:PySem.W.Frag)(mg:Str→Option Value)(base:Heap)(x:Str)(C C0:Addr)(j:Nat)(ps:List Str)(sp:Sp):Prop where
 ex:∃(fI:Addr) (fd:FuncData),XIni K mg x C C0 fI∧FnOk P w K mg base (CXe P w) j fI fd ps sp∧Binds K fd ps []
def spInit (C:Addr)(f:Str):Sp:=fun vs H Q _=>∃(y:Addr) (v:V),vs=[.ref y,v]∧H y=some (ExcN y C none)∧∀dx,H dx=none→Q .non (upd (upd H dx (.xd [(f,v)])) y (ExcN y C (some dx)))
section
variable {P:Program}{w:World}{K:PySem.W.Frag}{mg:Str→Option Value}{base:Heap}{N:List Str}{qual:Str}{scope:Scope}{f:Addr}{cd:Value}{A:Around}{outer:List Env}{s₀:Shared}{H₀:Hp}{EX:XK}
theorem ps_raiseD {x:Str}{C C0:Addr}{ps:List Str}{sp:Sp}{j k:Nat}{np cpos pos:Pos}{e:Expr}{es:List Expr}{t:TA}(D:DefI P w K mg base x C C0 j ps sp)
   (hr:Room k (cxOf (CXe P w) P w K mg base N qual scope f cd A outer s₀ H₀ EX).A)
   (hg:Gl (cxOf (CXe P w) P w K mg base N qual scope f cd A outer s₀ H₀ EX) x) (ha:PA (cxOf (CXe P w) P w K mg base N qual scope f cd A outer s₀ H₀ EX) (e::es) t) (hj:j+1≤k:=by decide)
   (hdb:(x==("__debug__":Str))=false:=by decide) (he:starEach (e::es) (cxOf (CXe P w) P w K mg base N qual scope f cd A outer s₀ H₀ EX).env=(false,eval e (cxOf (CXe P w) P w K mg base N qual scope f cd A outer s₀ H₀ EX).env)::starEach es (cxOf (CXe P w) P w K mg base N qual scope f cd A outer s₀ H₀ EX).env:=by rfl)
   (hpl:(backTo cpos (starEach es (cxOf (CXe P w) P w K mg base N qual scope f cd A outer s₀ H₀ EX).env)).any (·.1)=false:=by rfl) :
   PS (cxOf (CXe P w) P w K mg base N qual scope f cd A outer s₀ H₀ EX) (.Raise (some (.Call (.Name x np) (e::es) [] cpos)) none pos) (tRaiseI C sp EX t):=by
 obtain⟨fI,fd,XI,F,hb⟩:=D.ex
 exact ps_raiseI XI F hb hr hg ha hj hdb he hpl
theorem pe_defx {x:Str}{j k:Nat}{ps:List Str}{sp:Sp}{p pos:Pos}{e:Expr}{es:List Expr}{t:TA}(D:Defx P w K mg base x j ps sp)(hr:Room k (cxOf (CXe P w) P w K mg base N qual scope f cd A outer s₀ H₀ EX).A)
   (hg:Gl (cxOf (CXe P w) P w K mg base N qual scope f cd A outer s₀ H₀ EX) x) (ha:PA (cxOf (CXe P w) P w K mg base N qual scope f cd A outer s₀ H₀ EX) (e::es) t) (hk:j≤k:=by decide)
   (hdb:(x==("__debug__":Str))=false:=by decide) (he:starEach (e::es) (cxOf (CXe P w) P w K mg base N qual scope f cd A outer s₀ H₀ EX).env=(false,eval e (cxOf (CXe P w) P w K mg base N qual scope f cd A outer s₀ H₀ EX).env)::starEach es (cxOf (CXe P w) P w K mg base N qual scope f cd A outer s₀ H₀ EX).env:=by rfl)
   (hpl:(backTo pos (starEach es (cxOf (CXe P w) P w K mg base N qual scope f cd A outer s₀ H₀ EX).env)).any (·.1)=false:=by rfl) :
   PE (cxOf (CXe P w) P w K mg base N qual scope f cd A outer s₀ H₀ EX) (.Call (.Name x p) (e::es) [] pos) (tCall sp [] EX t):=by
 obtain⟨f',fd,F,hm,kp,b⟩:=D.ex
 exact pe_call F (hr.mono hk) hg hm kp b .nil pass_x ha hdb he hpl
end
section
variable {K:PySem.W.Frag}{σ:L2.St}{H:Hp}{D:Ends}
theorem r_raise {C:Addr}{E:XK}{t:TA}(h:t σ H fun xs H1=>xs.length≤sizeLine∧E (.ref C) none H1):tRaise C E t D σ H:=h
theorem r_raiseI {C:Addr}{sp:Sp}{E:XK}{t:TA}(h:t σ H fun vs H1=>vs.length≤1000∧∀y,H1 y=none→sp (.ref y::vs) (upd H1 y (ExcN y C none)) (fun v H2=>v = .non∧∃z,V.ref y=V.ref z∧∃od,H2 z=some (ExcN z C od)∧E (.ref C) od (del H2 z)) E0) :
   tRaiseI C sp E t D σ H:=h
theorem r_made {C:Addr}{f:Str}{E:XK}{v:V}(q:∀dx,H dx=none→E (.ref C) (some dx) (upd H dx (.xd [(f,v)]))) :
   [v].length≤1000∧∀y,H y=none→spInit C f (.ref y::[v]) (upd H y (ExcN y C none)) (fun v H2=>v = .non∧∃z,V.ref y=V.ref z∧∃od,H2 z=some (ExcN z C od)∧E (.ref C) od (del H2 z)) E0:=by
 refine⟨by show 1≤1000;decide,fun y hy=>⟨y,v,rfl,upd_same,fun dx hd=>⟨rfl,y,rfl,some dx,upd_same,?_⟩⟩⟩
 have ne:dx≠y:=fun z=>by rw[z,upd_same] at hd;cases hd
 have hd':H dx=none:=by rw[upd_ne ne] at hd;exact hd
 have e:del (upd (upd (upd H y (ExcN y C none)) dx (.xd [(f,v)])) y (ExcN y C (some dx))) y=upd H dx (.xd [(f,v)]):=by
   funext b
   by_cases hb:b=y
   · subst hb
     rw[del_same,upd_ne (Ne.symm ne)]
     exact hy.symm
   · rw[del_ne hb,upd_ne hb]
     by_cases hbd:b=dx
     · subst hbd
       rw[upd_same,upd_same]
     · rw[upd_ne hbd,upd_ne hb,upd_ne hbd]
 rw[e]
 exact q dx hd'
end
end Stow
namespace Stow
open PySem L2 PyProof.Rows
section
variable {X:Cx}{x:Str}{C:Addr}{p pos:Pos}{e:Expr}{es:List Expr}{t:TA}
end
section
variable {K:PySem.W.Frag}{σ:L2.St}{H:Hp}{Q:VK}
end
end Stow
namespace Stow
open PySem L2 PyProof.Rows
end Stow
namespace Stow
open PySem L2 PyProof.Rows
section
variable {X:Cx}
def PTs (X:Cx)(ifs:List Expr)(t:TT):Prop:=∀(pins:List (Addr×Obj)) (s:Shared) (σ:L2.St) (H:Hp) (Q:Bool→Hp→Prop),Inv X pins σ H s→t σ H Q →
 wpAny (model X.prog X.w) X.A (forIn ifs true fun c r=>if r=true then do let ok ←isTrue c X.env (eval c X.env);pure (ForInStep.yield ok) else pure (ForInStep.yield r)) (TP X pins σ Q) X.xe s
theorem pts_one {c:Expr}{t:TT}(h:PT X c t):PTs X [c] t:=fun pins s σ H Q I q=>wpAny_tests_one (h pins s σ H Q I q)
end
end Stow
namespace Stow
open PySem L2 PyProof.Rows
theorem op_neL {X:Cx}(hu:X.A.units+64<cLine):OpR X (compareOp .NotEq) (fun x y H Q=>∃(a b:Addr) (ns ms:List Int),x = .ref a∧y = .ref b∧SqL X.K H a (ns.map V.int)∧SqL X.K H b (ms.map V.int)∧Q (.bl (!decide (ns=ms))) H):=by
 intro pins s σ H x y v u Q I rx ry h
 obtain⟨a,b,ns,ms,rfl,rfl,ha,hb,q⟩:=h
 cases rx
 cases ry
 obtain⟨its,r1,p1,_⟩:=I.list ha
 obtain⟨its2,r2,p2,_⟩:=I.list hb
 exact PySem.W.ke_ne_ints p1.isList p2.isList (intsAre_of r1) (intsAre_of r2) hu ⟨.bl _,H,I,rfl,q⟩
section
variable {K:PySem.W.Frag}{σ:L2.St}{H:Hp}{Q:VK}{D:Ends}
theorem r_next (h:D.nx σ H):tNext D σ H:=h
theorem r_seq {t u:TS}(h:t { D with nx:=u D } σ H):tSeq t u D σ H:=h
theorem r_nx {f:L2.St→Hp→Prop}{r:VK}{b c:L2.St→Hp→Prop}(h:f σ H):Ends.nx ⟨f,r,b,c⟩ σ H:=h
theorem r_rt {f:L2.St→Hp→Prop}{r:VK}{b c:L2.St→Hp→Prop}{v:V}(h:r v H):Ends.rt ⟨f,r,b,c⟩ v H:=h
theorem r_drop {te:TE}(h:te σ H fun _ H1=>D.nx σ H1):tDrop te D σ H:=h
theorem r_ret {te:TE}(h:te σ H D.rt):tRet te D σ H:=h
theorem r_ifS {c:TT}{t u:TS}(h:c σ H fun b H1=>if b=true then t D σ H1 else u D σ H1):tIfS c t u D σ H:=h
theorem r_asg {te:TE}{g:TG}(h:te σ H fun x H1=>g x σ H1 D.nx):tAsg te g D σ H:=h
theorem r_gname {i:Nat}{v:V}{R:L2.St→Hp→Prop}(h:R (σ.set i (some v)) H):gName i v σ H R:=h
theorem r_gsub {to ti:TE}{t:TSet}{v:V}{R:L2.St→Hp→Prop}(h:to σ H fun o H1=>ti σ H1 fun i H2=>t o i v H2 fun H3=>R σ H3):gSub to ti t v σ H R:=h
theorem r_var {i:Nat}{v:V}(e:σ[i]?=some (some v))(h:Q v H):tVar i σ H Q:=⟨v,e,h⟩
theorem r_c {v:V}(h:Q v H):tC v σ H Q:=h
theorem r_op {r:R2}{ta tb:TE}(h:ta σ H fun x H1=>tb σ H1 fun y H2=>r x y H2 Q):tOp r ta tb σ H Q:=h
theorem r_rI0 {g:Int→Int→V}{i j:Int}(h:Q (g i j) H):rI0 g (.int i) (.int j) H Q:=⟨i,j,rfl,rfl,h⟩
theorem r_rI {C:Int→Int→Prop}{g:Int→Int→V}{i j:Int}(c:C i j)(h:Q (g i j) H):rI C g (.int i) (.int j) H Q:=⟨i,j,rfl,rfl,c,h⟩
theorem decV {i j:Int}:decide (V.int i=V.int j)=decide (i=j):=by rw[dec_int];exact Bool.beq_eq_decide_eq i j
theorem r_eqI {i j:Int}(h:Q (.bl (decide (i=j))) H):rEq (.int i) (.int j) H Q:=⟨rfl,by rw[decV];exact h⟩
theorem r_neI {i j:Int}(h:Q (.bl (!decide (i=j))) H):rNe (.int i) (.int j) H Q:=⟨rfl,by rw[decV];exact h⟩
theorem r_isN {P:Prop}(h:P):V.non=V.non∧P:=⟨rfl,h⟩
theorem r_bl {b:Bool}{P:Bool→Prop}(h:P b):∃k,V.bl b=V.bl k∧P k:=⟨b,rfl,h⟩
theorem r_int {i:Int}{P:Int→Prop}(h:P i):∃k,V.int i=V.int k∧P k:=⟨i,rfl,h⟩
theorem r_test {t:TE}{R:Bool→Hp→Prop}(h:t σ H fun x H'=>∃k,x = .bl k∧R k H'):tTest t σ H R:=h
theorem r_tB {t:TE}{R:Bool→Hp→Prop}(h:t σ H fun x H'=>∃k,x = .bl k∧R k H'):tB t σ H R:=h
theorem r_and {t u:TT}{R:Bool→Hp→Prop}(h:t σ H fun c H1=>if c=true then u σ H1 R else R false H1):tAnd t u σ H R:=h
theorem r_or {t u:TT}{R:Bool→Hp→Prop}(h:t σ H fun c H1=>if c=true then R true H1 else u σ H1 R):tOr t u σ H R:=h
theorem r_not {t:TT}{R:Bool→Hp→Prop}(h:t σ H fun c H1=>R (!c) H1):tNot t σ H R:=h
theorem r_andV {ta tb:TE}(h:ta σ H fun x H1=>∃c,x = .bl c∧if c=true then tb σ H1 Q else Q (.bl false) H1):tAndV ta tb σ H Q:=h
theorem r_orV {ta tb:TE}(h:ta σ H fun x H1=>∃c,x = .bl c∧if c=true then Q (.bl true) H1 else tb σ H1 Q):tOrV ta tb σ H Q:=h
theorem r_notV {ta:TE}(h:ta σ H fun x H1=>∃c,x = .bl c∧Q (.bl (!c)) H1):tNotV ta σ H Q:=h
theorem r_cons {ta:TE}{tr:TA}{R:List V→Hp→Prop}(h:ta σ H fun x H1=>tr σ H1 fun xs H2=>R (x::xs) H2):tCons ta tr σ H R:=h
theorem r_nil {R:List V→Hp→Prop}(h:R [] H):tNil σ H R:=h
theorem r_tup {t:TA}(h:t σ H fun xs H1=>xs.length≤sizeLine∧∀p,H1 p=none→Q (.ref p) (upd H1 p (.tup xs))):tTup t σ H Q:=h
theorem r_lst {t:TA}(h:t σ H fun xs H1=>xs.length≤sizeLine∧∀p,H1 p=none→Q (.ref p) (upd H1 p (.lst xs))):tLst t σ H Q:=h
theorem r_call {sp:Sp}{E:XK}{t:TA}(h:t σ H fun vs H1=>sp vs H1 Q E):tCall sp [] E t σ H Q:=by
 have e:(fun (vs:List V) H1=>sp (vs++[]) H1 Q E)=fun vs H1=>sp vs H1 Q E:=by funext vs H1;rw[List.append_nil]
 show t σ H fun vs H1=>sp (vs++[]) H1 Q E
 rw[e]
 exact h
theorem r_cb {r:List V→Hp→VK→Prop}{t:TA}(h:t σ H fun vs H1=>r vs H1 Q):tCB r t σ H Q:=h
theorem r_sl {r:V→Option Int→Option Int→Hp→VK→Prop}{te:TE}{tl th:TO}(h:te σ H fun x H1=>tl σ H1 fun l H2=>th σ H2 fun u H3=>r x l u H3 Q):tSl r te tl th σ H Q:=h
theorem r_nopart {R:Option Int→Hp→Prop}(h:R none H):tNoPart σ H R:=h
theorem r_part {t:TE}{R:Option Int→Hp→Prop}(h:t σ H fun x H1=>∃i,x = .int i∧R (some i) H1):tPart t σ H R:=h
theorem r_bm {T:String}{r:V→List V→Hp→VK→Prop}{to:TE}{t:TA}(h:to σ H fun x H1=>tyV K T x H1∧t σ H1 fun xs H2=>r x xs H2 Q):tBM K T r to t σ H Q:=h
theorem r_bm0 {T:String}{r:V→List V→Hp→VK→Prop}{to:TE}(h:to σ H fun x H1=>tyV K T x H1∧r x [] H1 Q):tBM0 K T r to σ H Q:=h
theorem r_tyL {p:Addr}{xs:List V}{P:Prop}(h:H p=some (.lst xs))(q:P):tyV K "list" (.ref p) H∧P:=⟨.inl ⟨rfl,xs,SqL.of h⟩,q⟩
theorem r_append {l:Addr}{xs:List V}{y:V}(h:H l=some (.lst xs))(hz:xs.length<sizeLine)(q:Q .non (upd H l (.lst (xs++[y])))):rAppend (.ref l) [y] H Q:=⟨l,xs,y,rfl,rfl,h,hz,q⟩
theorem r_ixT {p:Addr}{xs:List V}{i:Int}{v:V}(h:H p=some (.tup xs))(e:atI xs i=some v)(q:Q v H):rIxT K (.ref p) (.int i) H Q:=⟨p,xs,i,v,rfl,rfl,SqT.of h,e,q⟩
theorem r_ixI {p:Addr}{ns:List Int}{k:Int}(h:SqL K H p (ns.map V.int))(h0:0≤k)(h1:k<ns.length)(q:Q (.int (ns.getD k.toNat 0)) H):rIxL K (.ref p) (.int k) H Q:=⟨p,_,k,_,rfl,rfl,h,atI_map ns k h0 h1,q⟩
theorem ixN_at {n:Nat}{k:Int}(h0:0≤k)(h:k<n):ixN n k=some k.toNat:=by
 unfold ixN
 rw[if_pos h0,if_pos h]
theorem r_setI {p:Addr}{ns:List Int}{k x:Int}{R:Hp→Prop}(h:H p=some (.lst (ns.map V.int)))(h0:0≤k)(h1:k<ns.length)(q:R (upd H p (.lst ((ns.set k.toNat x).map V.int)))):rSetL (.ref p) (.int k) (.int x) H R:=by
 refine⟨p,_,k,k.toNat,rfl,rfl,h,ixN_at h0 (by rw[List.length_map];exact h1),?_⟩
 rw[List.map_set] at q
 exact q
theorem r_lenI {p:Addr}{ns:List Int}{P:List V→Prop}(h:SqL K H p (ns.map V.int))(q:P (ns.map V.int)):∃p' ys,[V.ref p]=[V.ref p']∧(SqL K H p' ys∨SqT K H p' ys)∧P ys:=⟨p,_,rfl,.inl h,q⟩
theorem r_isi {x:V}{n:String}{t:Value}{b:Bool}{P:Bool→Prop}(ty:TyOf K H x t)(e:PySem.W.kitOne K t (.type n)=some b)(q:P b):∃x' n' t' b',[x,V.ty n]=[x',V.ty n']∧TyOf K H x' t'∧PySem.W.kitOne K t' (.type n')=some b'∧P b':=⟨x,n,t,b,rfl,ty,e,q⟩
theorem r_max {i j:Int}{P:Int→Int→Prop}(q:P i j):∃i' j',[V.int i,V.int j]=[V.int i',V.int j']∧P i' j':=⟨i,j,rfl,q⟩
theorem r_new {xs:List V}{P:Prop}(h:xs.length≤1000)(q:P):xs.length≤sizeLine∧P:=⟨Nat.le_of_lt (small1000 h),q⟩
theorem r_truB {b:Bool}{P:Bool→Prop}(q:P b):∃k,TruV K (.bl b) H k∧P k:=⟨b,rfl,q⟩
theorem r_truL {p:Addr}{xs:List V}{P:Bool→Prop}(h:SqL K H p xs)(q:P (!xs.isEmpty)):∃k,TruV K (.ref p) H k∧P k:=⟨_,.inl ⟨xs,h,rfl⟩,q⟩
theorem r_for {wi:TI}{g:TG}{tb:TS}(h:wi σ H fun J H1=>∃W:Nat→Nat→L2.St→Hp→Prop,(∃m,W 0 m σ H1)∧∀i m σ H,W i m σ H →
   (J.stop i H∧D.nx σ H)∨(J.go i H∧∃N:L2.St→Hp→Prop,(∀σ' H',N σ' H'→∃m',m'<m∧W (i+1) m' σ' H')∧∀x H',J.yld i H x H'→g x σ H' fun σ2 H2=>tb { D with nx:=N,ct:=N,bk:=D.nx } σ2 H2)):tFor wi g tb D σ H:=h
theorem r_iL {tl:TE}{R:It→Hp→Prop}(h:tl σ H fun x H1=>∃a,x = .ref a∧(∃xs,SqL K H1 a xs)∧R (Itl K a) H1):iList K tl σ H R:=h
theorem r_seqM {t u:TS}{M:L2.St→Hp→Prop}(hM:∀σ' H',M σ' H'→u D σ' H')(h:∀nx:L2.St→Hp→Prop,(∀σ' H',M σ' H'→nx σ' H')→t { D with nx:=nx } σ H):tSeq t u D σ H:=h (u D) hM
theorem r_isIf {c:TT}{t u v:TS}(h:tSeq (tIfS c t u) v D σ H):tSeq (tIfS c t u) v D σ H:=h
end
theorem r_ifN {b:Bool}{A B:Prop}(h:if b=true then B else A):if (!b)=true then A else B:=by cases b <;> exact h
theorem r_ifd {c A B:Prop}[Decidable c](h1:c→A)(h2:¬c→B):if decide c=true then A else B:=by
 by_cases h:c
 · rw[decide_eq_true h]
   exact iteT (h1 h)
 · rw[decide_eq_false h]
   exact iteF (h2 h)
theorem r_ifdT {c A B:Prop}[Decidable c](h:c)(h1:A):if decide c=true then A else B:=r_ifd (fun _=>h1) fun z=>absurd h z
theorem r_ifdF {c A B:Prop}[Decidable c](h:¬c)(h1:B):if decide c=true then A else B:=r_ifd (fun z=>absurd z h) fun _=>h1
theorem r_ifb {b:Bool}{A B:Prop}(h1:b=true→A)(h2:b=false→B):if b=true then A else B:=by
 cases b with
 | true=>exact iteT (h1 rfl)
 | false=>exact iteF (h2 rfl)
theorem look_put {H:Hp}{p d:Addr}{o v:HO}(hp:H p=none)(h:H d=some v):upd H p o d=some v:=(upd_ne (ne_of_none h hp)).trans h
theorem look_ne {H:Hp}{p d:Addr}{o v:HO}(hp:d≠p)(h:H d=some v):upd H p o d=some v:=(upd_ne hp).trans h
end Stow
namespace Stow
open PySem L2 PyProof.Rows
abbrev TX:=L2.St→Hp→VK→XK→Prop
def PX (X:Cx)(e:Expr)(t:TX):Prop:=∀(pins:List (Addr×Obj)) (s:Shared) (σ:L2.St) (H:Hp) (QV:VK) (EX:XK) (Qp W:Value→Shared→Prop),Inv X pins σ H s→t σ H QV EX→(∀u s',EP X pins σ QV u s'→Qp u s') →
 (∀H1 s1 y s',Inv X pins σ H1 s1→CXe X.prog X.w X.stack H1 s1 EX y s'→W y s')→wpAny (model X.prog X.w) X.A (eval e X.env) Qp W s
def xMeth (C:Addr)(m:Str)(sp:Sp)(dvs:List V)(to:TE)(ta:TA):TX:=fun σ H QV EX=>to σ H fun x H1=>∃a dx fs,x = .ref a∧H1 a=some (.ins C dx fs)∧fs.lookup m=none∧ta σ H1 fun vs H2=>sp (x::(vs++dvs)) H2 QV EX
section
variable {X:Cx}{k:Nat}{f C:Addr}{fd:FuncData}{ps:List Str}{sp:Sp}{dvs:List V}{ds:List Value}{fx m:Str}{p pos apos:Pos}{e o:Expr}{es:List Expr}{to:TE}{ta:TA}
theorem run_x {pins:List (Addr×Obj)}{σ:L2.St}{H:Hp}{s:Shared}{us:List Value}{vs:List V}{QV:VK}{EX:XK}{Qp W:Value→Shared→Prop}(F:FnOk X.prog X.w X.K X.mg X.base (CXe X.prog X.w) k f fd ps sp)(hr:Room k X.A)(hb:Binds X.K fd ps ds)(hd:Vals dvs ds)
   (I:Inv X pins σ H s) (r:Vals vs us) (h:sp (vs++dvs) H QV EX) (hv:∀u s',EP X pins σ QV u s'→Qp u s') (hx:∀y s',CXe X.prog X.w X.stack H s EX y s'→W y s'):wpAny (model X.prog X.w) X.A (call (.ref f) us) Qp W s:=by
 have r2:Vals (vs++dvs) (us++ds):=r.append hd
 have hl:(us++ds).length=ps.length:=by rw[←r2.length];exact F.len _ _ _ _ h
 refine wpAny_call (codeAny_mono (F.run X.A X.stack s H ⟨us,[]⟩ (us++ds) (vs++dvs) QV EX hr I.env0 (hb s us I.kIn hl) r2 h) fun r s' hq=>?_)
 cases r with
 | error y=>exact hx y s' hq
 | ok fl =>
   cases fl with
   | ret u=>exact hv u s' (I.after hq)
   | next=>exact False.elim hq
   | brk=>exact False.elim hq
   | cont=>exact False.elim hq
theorem px_meth {pl:Sem Bool}(ho:PE X.nox o to)(c:Cls X.K C)(hm:Meth X.K C m f)(F:FnOk X.prog X.w X.K X.mg X.base (CXe X.prog X.w) k f fd ps sp)(hr:Room k X.A)(hb:Binds X.K fd ps ds)(hd:Vals dvs ds)(ha:PA X.nox (e::es) ta)
   (hst:starEach (e::es) X.env=(false,eval e X.env)::starEach es X.env:=by rfl) (hpl:(backTo pos (starEach es X.env)).any (·.1)=false:=by rfl)
   (ht:eval (.Call (.Attribute o m apos) (e::es) [] pos) X.env=(do
     let ov ←eval o X.env
     standAt apos.atName
     let (f,first) ←holding [ov] (getMethod ov m pl)
     callWith pos f first (backTo pos (starEach (e::es) X.env)) (backToKw pos (keywordEach [] X.env))):=by rfl) :
   PX X (.Call (.Attribute o m apos) (e::es) [] pos) (xMeth C m sp dvs to ta):=by
 intro pins s σ H QV EX Qp W I h hv hx
 refine PySem.W.methodCall_KW (pl:=pl) (wpAny_mono (ho pins s σ H _ (I.wish _) h) (fun u s1 ⟨x,H1,I1',rx,a,dx,fs,ex,ea,l,q⟩=>?_) (fun _ _ z=>z.elim)) ht
 have I1:=I1'.unwish
 subst ex
 obtain rfl:u=Value.ref a:=rx
 refine getmeth_ok I1 ea c hm l ?_
 refine PySem.W.callWith_K (first:=[.ref a]) (h₀:=X.base) I.ok.mod.kin hm.kp (wpAny_mono (ha pos pins s1 σ H1 _ (I1.wish _) q) (fun us s2 ⟨vs,H2,I2',r,q2⟩=>?_) (fun _ _ z=>z.elim)) hst hpl
 have I2:=I2'.unwish
 exact⟨I2.kIn,run_x (us:=.ref a::us) (vs:=.ref a::vs) F hr hb hd I2 (.cons rfl r) q2 hv fun y s' hq=>hx H2 s2 y s' I2 hq⟩
end
def Fits (K:PySem.W.Frag)(C C0:Addr)(b:Bool):Prop:=∃(bm bm0:List Value),ECls K C bm∧ECls K C0 bm0∧(Value.ref C0::bm0).contains (.type "BaseException")=true∧(Value.ref C::bm).contains (.ref C0)=b
theorem fits_ok {M:Model}{A:Around}{E:Value→Shared→Prop}{K:PySem.W.Frag}{C C0 x:Addr}{ox:Obj}{s:Shared}{b:Bool}{Q:Bool→Shared→Prop}(F:Fits K C C0 b)(KX:K.In s.heap)(hx:s.heap.get? x=some ox)(hc:ox.cls = .ref C)(k:Q b s) :
   wpAny M A (excMatches (.ref x) (.ref C0)) Q E s:=by
 obtain⟨bm,bm0,⟨nm,qn,N,bs,hd,sn,sub,ab,col,dd,k0,k1,k2,k3,k5,newId,lk⟩,⟨nm',qn',N',bs',hd',sn',sub',ab',col',dd',j0,j1,j2,j3,j5,new',lk0⟩,hb,hm⟩:=F
 have hC:=KX _ _ lk
 have hC0:=KX _ _ lk0
 obtain⟨hh,g,d,t,os⟩:=s
 exact match_own hC hC0 hx hc hb hm k
abbrev TH:=Addr→Addr→TS
def PH (X:Cx)(hs:List ExceptHandler)(th:TH):Prop:=∀(pins:List (Addr×Obj)) (s:Shared) (σ:L2.St) (H:Hp) (D:Ends) (x C T:Addr) (od:Option Addr),X.Ok→Inv X pins σ H s→Exc s.heap x (.ref C) od T .none →
 (∀h3,Upto (frs X.stack) [T] s.heap h3→Exc h3 x (.ref C) od T .none→Inv X pins σ H { s with heap:=h3 })→th x C D σ H→wpAny (model X.prog X.w) X.A (handleBy (.ref x) X.env hs) (SP X pins D) X.xe s
section
variable {X:Cx}{C0:Addr}{cx:Str}{np hpos pos epos:Pos}{b0:Stmt}{suite:List Stmt}{ts:Addr→TS}{hs:List ExceptHandler}{th:TH}{e:Expr}{t:TX}
theorem ph_nil:PH X [] (fun _ _ _ _ _=>False):=fun _ _ _ _ _ _ _ _ _ _ _ _ _ h=>h.elim
theorem ph_cons (hgc:Gl X cx)(hc0:X.mg cx=some (.ref C0))(hss:∀x,PSs (Cx.suite X x) (b0::suite) (ts x))(hr:PH X hs th)(hdc:(cx==("__debug__":Str))=false:=by decide) :
   PH X (.ExceptHandler (some (.Name cx np)) none (b0::suite) hpos::hs) (fun x C D σ H=>(Fits X.K C C0 true∧ts x D σ H)∨(Fits X.K C C0 false∧th x C D σ H)):=by
 intro pins s σ H D x C T od ok J t2 again h
 obtain⟨oe,vs,oT,tts,ne,ee,hcl,_⟩:=id t2
 rcases h with ⟨fit,q⟩ | ⟨fit,q⟩
 · refine wpAny_handleBy_cons (codeAny_handlers_test (ld_glob (X:=Cx.suite X x) (inv_suite J x) hgc hc0 (fits_ok fit J.kIn ee hcl ?_) hdc)) (by intro z;cases z)
   refine codeAny_handlers_suite ?_
   refine flight_x (fr:=frs X.stack) t2 fun h3 u3 t3=>?_
   exact wpAny_mono (hss x pins _ σ _ D (inv_suite (again h3 u3 t3) x) q) (fun fl s4 q4=>sp_unsuite ok q4) (fun _ _ z=>z.elim)
 · refine wpAny_handleBy_cons (codeAny_handlers_test (ld_glob (X:=Cx.suite X x) (inv_suite J x) hgc hc0 (fits_ok fit J.kIn ee hcl ?_) hdc)) (by intro z;cases z)
   exact hr pins s σ H D x C T od ok J t2 again q
theorem Upto.refl (fr ex:List Addr)(h:Heap):Upto fr ex h h:=⟨fun _ _ _ _ q=>q,fun b o _ q=>⟨o.slots,q⟩⟩
def tTryE (t:TX)(th:TH):TS:=fun D σ H=>t σ H (fun _ H2=>D.nx σ H2) fun c od H2=>∃C,c = .ref C∧∀x,H2 x=none→th x C D σ (upd H2 x (ExcO x C od))
def tTryA (i:Nat)(t:TX)(th:TH):TS:=fun D σ H=>t σ H (fun v H2=>D.nx (σ.set i (some v)) H2) fun c od H2=>∃C,c = .ref C∧∀x,H2 x=none→th x C D σ (upd H2 x (ExcO x C od))
theorem ps_tryE {h₀:ExceptHandler}(he:PX X e t)(hst:X.stack=X.env::X.outer∧X.env.frame=some X.env.locals)(hh:PH X (h₀::hs) th)(hsw:swapsWith e none epos.line X.env=pure false:=by rfl) :
   PS X (.Try [.Expr e epos] (h₀::hs) [] [] pos) (tTryE t th):=by
 intro pins s σ H D I h
 refine wpAny_Try_except (wpAny_execs_cons (wpAny_Expr_any (he pins s σ H _ _ _ _ I h (fun u s' ⟨v,H2,I2,_,q2⟩=>wpAny_execs_nil (wpAny_execs_nil ⟨σ,H2,I2,q2⟩)) (fun H1 s1 y s' I1 hq=>?_)) I.quiet hsw))
 refine held_x I1 hst hq fun x C od T h2 H2 ex ⟨C',ec,q⟩ t2 J2 again=>?_
 subst ex
 cases ec
 exact hh pins _ σ _ D x C T od I.ok J2 t2 (fun h3 u3 t3=>(again h3 u3 t3).2) (q x (again h2 (Upto.refl _ _ _) t2).1)
theorem ps_tryA {h₀:ExceptHandler}{i:Nat}{y:Str}{py:Pos}(hN:X.N.Nodup)(hi:X.N[i]?=some y)(hy:Loc X.env.scope y)(he:PX X e t)(hst:X.stack=X.env::X.outer∧X.env.frame=some X.env.locals)(hh:PH X (h₀::hs) th)
   (hsw:swapsWith e (some (.Name y py)) epos.line X.env=pure false:=by rfl) (hf:X.fn y=true∨X.env.scope.names.lookup y=some .local:=by first | exact .inl rfl | exact .inr rfl | assumption) :
   PS X (.Try [.Assign [.Name y py] e epos] (h₀::hs) [] [] pos) (tTryA i t th):=by
 intro pins s σ H D I h
 refine wpAny_Try_except (wpAny_execs_cons (wpAny_Assign_Name (he pins s σ H _ _ _ _ I h (fun u s' ⟨v,H2,I2,r2,q2⟩=>store_ok I2 hN hi hy r2 (fun s3 I3=>wpAny_execs_nil (wpAny_execs_nil ⟨_,H2,I3,q2⟩)) hf) (fun H1 s1 z s' I1 hq=>?_)) hsw))
 refine held_x I1 hst hq fun x C od T h2 H2 ex ⟨C',ec,q⟩ t2 J2 again=>?_
 subst ex
 cases ec
 exact hh pins _ σ _ D x C T od I.ok J2 t2 (fun h3 u3 t3=>(again h3 u3 t3).2) (q x (again h2 (Upto.refl _ _ _) t2).1)
end
section
variable {K:PySem.W.Frag}{σ:L2.St}{H:Hp}{D:Ends}
theorem r_tryA {i:Nat}{t:TX}{th:TH}(h:t σ H (fun v H2=>D.nx (σ.set i (some v)) H2) fun c od H2=>∃C,c = .ref C∧∀x,H2 x=none→th x C D σ (upd H2 x (ExcO x C od))):tTryA i t th D σ H:=h
end
end Stow
namespace Stow
open PySem L2 PyProof.Rows
structure FunD (K:PySem.W.Frag)(x qual:Str)(st:Stmt)(dV:Value)(f:Addr)(fd:FuncData):Prop where
 ex:∃(oc:Value) (od:Option Addr) (kV doc pm:Value) (an:Option Addr) (cdv ct:Value) (osl:Array (Option Value)),
   fd=PySem.W.fnOf x qual (defArgs st) (defBody st) (defScope st) dV kV doc pm an cdv ct∧K.lookup f=some ⟨oc,od,.func fd,osl⟩∧PySem.W.codeIn K cdv qual=true
 kp:PySem.W.keepIn K (.ref f)=true
theorem funD_mk {K:PySem.W.Frag}{x qual:Str}{st:Stmt}{f:Addr}{oc:Value}{od an:Option Addr}{osl:Array (Option Value)}{dV kV doc pm cdv ct:Value}(l:K.lookup f=some ⟨oc,od,.func (PySem.W.fnOf x qual (defArgs st) (defBody st) (defScope st) dV kV doc pm an cdv ct),osl⟩)
   (c:PySem.W.codeIn K cdv qual=true) (k:PySem.W.keepIn K (.ref f)=true):FunD K x qual st dV f (PySem.W.fnOf x qual (defArgs st) (defBody st) (defScope st) dV kV doc pm an cdv ct):=⟨⟨oc,od,kV,doc,pm,an,cdv,ct,osl,rfl,l,c⟩,k⟩
section
variable {P:Program}{w:World}{K:PySem.W.Frag}{mg:Str→Option Value}{base:Heap}
theorem funD_okx {x qual:Str}{st:Stmt}{dV:Value}{f:Addr}{fd:FuncData}{N ps:List Str}{k:Nat}{sp:Sp}(F:FunD K x qual st dV f fd)(S:FnScope N ps (defScope st))(len:∀vs H Q E,sp vs H Q E→vs.length=ps.length)
   (hbody:∀(cdv:Value) (A:Around) (outer:List Env) (s:Shared) (H:Hp) (vs:List V) (Q:VK) (E:XK),Room k (A.deeper (envOfC qual (defScope st) s.heap.objs.size f cdv))→sp vs H Q E →
     ∃t,PSs (cxOf (CXe P w) P w K mg base N qual (defScope st) f cdv A outer s H E) (defBody st) t∧t { nx:=fun _ H'=>Q .non H',rt:=Q } (start N vs) H):FnOk P w K mg base (CXe P w) (k+1) f fd ps sp:=by
 obtain⟨oc,od,kV,doc,pm,an,cdv,ct,osl,rfl,lk,hcd⟩:=F.ex
 exact fn_of lk hcd S len fun A outer s H vs Q E hr hsp=>hbody cdv A outer s H vs Q E hr hsp
theorem FunD.binds {x qual:Str}{st:Stmt}{dV:Value}{f:Addr}{fd:FuncData}{ps:List Str}(F:FunD K x qual st dV f fd)
   (h:∀(kV doc pm:Value) (an:Option Addr) (cdv ct:Value) (us:List Value),us.length=ps.length→bindArgs (PySem.W.fnOf x qual (defArgs st) (defBody st) (defScope st) dV kV doc pm an cdv ct) ⟨us,[]⟩=pure (ps.zip us)):Binds K fd ps []:=by
 obtain⟨oc,od,kV,doc,pm,an,cdv,ct,osl,rfl,lk,hcd⟩:=F.ex
 exact .all (h kV doc pm an cdv ct)
theorem FunD.bindsD {x qual:Str}{st:Stmt}{T:Addr}{f:Addr}{fd:FuncData}{ps:List Str}{ds:List Value}{tc:Value}{td:Option Addr}{tn:Nat}{tsl:Array (Option Value)}(F:FunD K x qual st (.ref T) f fd)
   (lt:K.lookup T=some ⟨tc,td,.seq ds.toArray tn,tsl⟩)
   (h:∀(kV doc pm:Value) (an:Option Addr) (cdv ct:Value) (us:List Value),(us++ds).length=ps.length→∃k:Option (Array Value)→Sem (List (Str×Value)),
     bindArgs (PySem.W.fnOf x qual (defArgs st) (defBody st) (defScope st) (.ref T) kV doc pm an cdv ct) ⟨us,[]⟩=seqItems? (.ref T) >>= k∧k (some ds.toArray)=pure (ps.zip (us++ds))):Binds K fd ps ds:=by
 obtain⟨oc,od,kV,doc,pm,an,cdv,ct,osl,rfl,lk,hcd⟩:=F.ex
 intro s us X hl
 obtain⟨k,h1,h2⟩:=h kV doc pm an cdv ct us hl
 exact .of_defaults rfl (X _ _ lt) rfl h1 h2
end
structure Methx (P:Program)(w:World)(K:PySem.W.Frag)(mg:Str→Option Value)(base:Heap)(C:Addr)(m:Str)(j:Nat)(ps:List Str)(dvs:List V)(sp:Sp):Prop where
 ex:∃(f:Addr) (fd:FuncData) (ds:List Value),FnOk P w K mg base (CXe P w) j f fd ps sp∧Meth K C m f∧Binds K fd ps ds∧Vals dvs ds
 cl:Cls K C
structure Makex (P:Program)(w:World)(K:PySem.W.Frag)(mg:Str→Option Value)(base:Heap)(x:Str)(C:Addr)(j:Nat)(ps:List Str)(dvs:List V)(sp:Sp):Prop where
 ex:∃(f:Addr) (fd:FuncData) (ds:List Value),FnOk P w K mg base (CXe P w) j f fd ps sp∧Mk K C f∧Binds K fd ps ds∧Vals dvs ds
 bound:mg x=some (.ref C)
structure ClsM (K:PySem.W.Frag)(C:Addr)(m:Str)(f:Addr):Prop where
 sp:PySem.W.specialIn K (.ref C) "__getattribute__"=some (some (.builtin "type.__getattribute__"))
 rd:PySem.W.readsIn K C (.type "type")=true
 fc:PySem.W.findCls K (.ref C) (.type "type") m=some (.val (.ref f))
 kp:PySem.W.keepIn K (.ref f)=true
structure Basex (P:Program)(w:World)(K:PySem.W.Frag)(mg:Str→Option Value)(base:Heap)(x:Str)(m:Str)(j:Nat)(ps:List Str)(sp:Sp):Prop where
 ex:∃(C f:Addr) (fd:FuncData),FnOk P w K mg base (CXe P w) j f fd ps sp∧ClsM K C m f∧Binds K fd ps []∧mg x=some (.ref C)
section
variable {X:Cx}{j k:Nat}{C:Addr}{ps:List Str}{sp:Sp}{dvs:List V}{x m:Str}{p pos apos:Pos}{e o:Expr}{es:List Expr}{to:TE}{t:TA}{EX:XK}
theorem pe_methp {pl:Sem Bool}(D:Methx X.prog X.w X.K X.mg X.base C m j ps dvs sp)(hp:Passes (CXe X.prog X.w) X EX)(hr:Room k X.A)(ho:PE X o to)(ha:PA X (e::es) t)(hk:j≤k:=by decide)
   (hst:starEach (e::es) X.env=(false,eval e X.env)::starEach es X.env:=by rfl) (hpl:(backTo pos (starEach es X.env)).any (·.1)=false:=by rfl)
   (ht:eval (.Call (.Attribute o m apos) (e::es) [] pos) X.env=(do
     let ov ←eval o X.env
     standAt apos.atName
     let (f,first) ←holding [ov] (getMethod ov m pl)
     callWith pos f first (backTo pos (starEach (e::es) X.env)) (backToKw pos (keywordEach [] X.env))):=by rfl):PE X (.Call (.Attribute o m apos) (e::es) [] pos) (tMeth C m sp dvs EX to t):=by
 obtain⟨f,fd,ds,F,hm,hb,hd⟩:=D.ex
 exact pe_meth (pl:=pl) ho D.cl hm F (hr.mono hk) hb hd hp ha hst hpl ht
theorem pe_methp0 {pl:Sem Bool}(D:Methx X.prog X.w X.K X.mg X.base C m j ps dvs sp)(hp:Passes (CXe X.prog X.w) X EX)(hr:Room k X.A)(ho:PE X o to)(hk:j≤k:=by decide)
   (ht:eval (.Call (.Attribute o m apos) [] [] pos) X.env=(do
     let ov ←eval o X.env
     standAt apos.atName
     let (f,first) ←holding [ov] (getMethod ov m pl)
     callWith pos f first (backTo pos (starEach [] X.env)) (backToKw pos (keywordEach [] X.env))):=by rfl):PE X (.Call (.Attribute o m apos) [] [] pos) (tMeth C m sp dvs EX to tNil):=by
 obtain⟨f,fd,ds,F,hm,hb,hd⟩:=D.ex
 exact pe_meth0 (pl:=pl) ho D.cl hm F (hr.mono hk) hb hd hp ht
theorem px_methD {pl:Sem Bool}(D:Methx X.prog X.w X.K X.mg X.base C m j ps dvs sp)(hr:Room k X.A)(ho:PE X.nox o to)(ha:PA X.nox (e::es) t)(hk:j≤k:=by decide)
   (hst:starEach (e::es) X.env=(false,eval e X.env)::starEach es X.env:=by rfl) (hpl:(backTo pos (starEach es X.env)).any (·.1)=false:=by rfl)
   (ht:eval (.Call (.Attribute o m apos) (e::es) [] pos) X.env=(do
     let ov ←eval o X.env
     standAt apos.atName
     let (f,first) ←holding [ov] (getMethod ov m pl)
     callWith pos f first (backTo pos (starEach (e::es) X.env)) (backToKw pos (keywordEach [] X.env))):=by rfl):PX X (.Call (.Attribute o m apos) (e::es) [] pos) (xMeth C m sp dvs to t):=by
 obtain⟨f,fd,ds,F,hm,hb,hd⟩:=D.ex
 exact px_meth (pl:=pl) ho D.cl hm F (hr.mono hk) hb hd ha hst hpl ht
theorem pe_makep (D:Makex X.prog X.w X.K X.mg X.base x C j ps dvs sp)(hp:Passes (CXe X.prog X.w) X EX)(hr:Room k X.A)(hg:Gl X x)(ha:PA X (e::es) t)(hk:j+1≤k:=by decide)
   (hdb:(x==("__debug__":Str))=false:=by decide) (he:starEach (e::es) X.env=(false,eval e X.env)::starEach es X.env:=by rfl) (hpl:(backTo pos (starEach es X.env)).any (·.1)=false:=by rfl):PE X (.Call (.Name x p) (e::es) [] pos) (tMake C sp dvs EX t):=by
 obtain⟨f,fd,ds,F,M,hb,hd⟩:=D.ex
 exact pe_make M F (hr.mono hk) hg D.bound hb hd hp ha hdb he hpl
theorem pe_basep {pl:Sem Bool}{p':Pos}(D:Basex X.prog X.w X.K X.mg X.base x m j ps sp)(hp:Passes (CXe X.prog X.w) X EX)(hr:Room k X.A)(hg:Gl X x)(ha:PA X (e::es) t)(hk:j≤k:=by decide)(hdb:(x==("__debug__":Str))=false:=by decide)
   (hst:starEach (e::es) X.env=(false,eval e X.env)::starEach es X.env:=by rfl) (hpl:(backTo pos (starEach es X.env)).any (·.1)=false:=by rfl)
   (ht:eval (.Call (.Attribute (.Name x p') m apos) (e::es) [] pos) X.env=(do
     let ov ←eval (.Name x p') X.env
     standAt apos.atName
     let (f,first) ←holding [ov] (getMethod ov m pl)
     callWith pos f first (backTo pos (starEach (e::es) X.env)) (backToKw pos (keywordEach [] X.env))):=by rfl):PE X (.Call (.Attribute (.Name x p') m apos) (e::es) [] pos) (tCall sp [] EX t):=by
 obtain⟨C,f,fd,F,M,hb,hm⟩:=D.ex
 intro pins s σ H Q I h
 refine PySem.W.methodCall_KW (pl:=pl) (ld_glob I hg hm ?_ hdb) ht
 refine PySem.W.method_cls I.kIn M.sp (PySem.W.cls_value I.kIn M.rd M.fc rfl ?_)
 have I':=I.tok (s.toks+1)
 refine PySem.W.callWith_K (h₀:=X.base) I.ok.mod.kin M.kp (thn (ha pos pins _ σ H _ I' h) fun us s1 ⟨vs,H1,I1,r,q⟩=>⟨I1.kIn,?_⟩) hst hpl
 exact run_fn F (hr.mono hk) hb .nil hp I1 r q
end
section
variable {K:PySem.W.Frag}{σ:L2.St}{H:Hp}{Q:VK}{D:Ends}
theorem r_fld {f:Str}{ta:TE}(h:ta σ H fun x H1=>∃a C dx fs v,x = .ref a∧H1 a=some (.ins C dx fs)∧Cls K C∧NoAttr K C f∧fs.lookup f=some v∧Q v H1):tFld K ta f σ H Q:=h
theorem r_at {a C dx:Addr}{fs:List (Str×V)}{f:Str}{v:V}{P:V→Prop}(h:H a=some (.ins C dx fs))(c:Cls K C)(n:NoAttr K C f)(l:fs.lookup f=some v)(q:P v) :
   ∃a' C' dx' fs' v',V.ref a=V.ref a'∧H a'=some (.ins C' dx' fs')∧Cls K C'∧NoAttr K C' f∧fs'.lookup f=some v'∧P v':=⟨a,C,dx,fs,v,rfl,h,c,n,l,q⟩
theorem r_sfld {f:Str}{ta tv:TE}(h:tv σ H fun y H1=>ta σ H1 fun x H2=>∃a C dx fs,x = .ref a∧H2 a=some (.ins C dx fs)∧Cls K C∧NoAttr K C f∧fs.length<1000∧D.nx σ (upd H2 a (.ins C dx (putF f y fs)))):sFld K ta tv f D σ H:=h
theorem r_meth {C:Addr}{m:Str}{sp:Sp}{E:XK}{ta:TE}{t:TA}(h:ta σ H fun x H1=>∃a dx fs,x = .ref a∧H1 a=some (.ins C dx fs)∧fs.lookup m=none∧t σ H1 fun vs H2=>sp (x::vs) H2 Q E):tMeth C m sp [] E ta t σ H Q:=by
 unfold tMeth
 simp only [List.append_nil]
 exact h
end
end Stow
namespace Stow
open PySem L2 PyProof.Rows
section
variable {X:Cx}
end
section
variable {a x:Option V}{v:V}{l r:L2.St}{k:Nat}{n:Str}{ns:List Str}{vs:List V}
theorem set0_c:(a::l).set 0 x=x::l:=rfl
theorem start_c:L2.start (n::ns) (v::vs)=some v::L2.start ns vs:=by
 unfold L2.start
 rw[List.length_cons,List.length_cons,Nat.add_sub_add_right]
 rfl
theorem set0_0:(L2.start (n::ns) []).set 0 x=x::L2.start ns []:=rfl
theorem setS_c (h:l.set k x=r):(a::l).set (k+1) x=a::r:=h▸rfl
theorem setS_1 (h:(L2.start ns vs).set k x=r):(L2.start (n::ns) (v::vs)).set (k+1) x=some v::r:=by
 rw[start_c,←h]
 rfl
theorem r_gnameN {σ σ':L2.St}{H:Hp}{i:Nat}{R:L2.St→Hp→Prop}(e:σ.set i (some v)=σ')(h:R σ' H):gName i v σ H R:=by
 subst e
 exact h
end
def cutI (ns:List Int)(l u:Option Int):List Int:=(ns.drop (HT.sIx ns.length 0 l)).take (HT.sIx ns.length ns.length u-HT.sIx ns.length 0 l)
theorem cut_map (ns:List Int)(l u:Option Int):cutV (ns.map V.int) l u=(cutI ns l u).map V.int:=by
 unfold cutV cutI
 rw[List.map_take,List.map_drop,List.length_map]
theorem cutI_len (ns:List Int)(l u:Option Int):(cutI ns l u).length≤ns.length:=by
 unfold cutI
 rw[List.length_take,List.length_drop]
 omega
section
variable {K:PySem.W.Frag}{σ:L2.St}{H:Hp}{D:Ends}{Q:VK}
theorem r_sllG {a:Addr}{ns:List Int}{lo hi:Option Int}(h:SqL K H a (ns.map V.int))(q:∀p H',H p=none→Same H H'→H' p=some (.lst ((cutI ns lo hi).map V.int))→Q (.ref p) H'):rSlL K (.ref a) lo hi H Q :=
 ⟨a,_,rfl,h,fun p hp=>by rw[cut_map];exact q p _ hp (Same.new hp) upd_same⟩
theorem r_catG {l b:Addr}{xs zs:List Int}(h:H l=some (.lst (xs.map V.int)))(h2:H b=some (.lst (zs.map V.int)))(hz:xs.length+zs.length≤4000)(q:∀p H',H p=none→Same H H'→H' p=some (.lst ((xs++zs).map V.int))→Q (.ref p) H'):rCat (.ref l) (.ref b) H Q :=
 ⟨l,b,_,_,rfl,rfl,h,h2,by rw[List.length_map,List.length_map];exact Nat.le_of_lt (small4000 hz),fun p hp=>by rw[←List.map_append];exact q p _ hp (Same.new hp) upd_same⟩
theorem cutI_lit (ns:List Int)(l u:Nat):(cutI ns (some l) (some u)).length≤u-l:=by
 unfold cutI
 rw[List.length_take]
 have e1:=HT.sIx_nat ns.length ns.length u
 have e2:=HT.sIx_nat ns.length 0 l
 rw[e1,e2,List.length_drop]
 omega
theorem r_isSeq {t u:TS}(h:tSeq t u D σ H):tSeq t u D σ H:=h
theorem r_isAnd {ta tb:TE}(h:tAndV ta tb σ H Q):tAndV ta tb σ H Q:=h
theorem r_isOr {ta tb:TE}(h:tOrV ta tb σ H Q):tOrV ta tb σ H Q:=h
end
end Stow
namespace Stow
open PySem L2 PyProof.Rows
section
variable {K:PySem.W.Frag}{σ:L2.St}{H:Hp}{Q:VK}
theorem r_gtup {a:Addr}{xs:List V}{n:Nat}{t:TGs}{R:L2.St→Hp→Prop}(h:H a=some (.tup xs))(hl:xs.length=n)(q:t xs σ H R):gTup K n t (.ref a) σ H R:=⟨a,xs,rfl,SqT.of h,hl,q⟩
theorem r_gcons {v:V}{r:List V}{t:TG}{u:TGs}{R:L2.St→Hp→Prop}(h:t v σ H fun σ' H'=>u r σ' H' R):gCons t u (v::r) σ H R:=⟨v,r,rfl,h⟩
theorem r_gnil {R:L2.St→Hp→Prop}(h:R σ H):gNil [] σ H R:=⟨rfl,h⟩
end
end Stow
namespace Stow
def fpl (a b:Int):Int:=a+(b-1-a%b)
def fp (a n L b:Int):Option Int:=if fpl a b+L≤a+n then some (fpl a b) else none
end Stow
namespace Stow
open PySem L2 PyProof.Rows
def PcsAt (H:Hp)(us:List V)(ps:List Pc):Prop:=us.length=ps.length∧∀(i:Nat) (p:Pc),ps[i]?=some p→∃a,us[i]?=some (.ref a)∧H a=some (.tup [.int p.a,.int p.l,.bl p.v])
theorem PcsAt.nil {H:Hp}:PcsAt H [] []:=⟨rfl,fun i p h=>by simp at h⟩
theorem PcsAt.mono {H H':Hp}{us:List V}{ps:List Pc}(h:PcsAt H us ps)(k:∀b xs,H b=some (.tup xs)→H' b=some (.tup xs)):PcsAt H' us ps :=
 ⟨h.1,fun i p e=>let ⟨a,h1,h2⟩:=h.2 i p e;⟨a,h1,k _ _ h2⟩⟩
theorem PcsAt.same {H H':Hp}{us:List V}{ps:List Pc}(h:PcsAt H us ps)(k:Same H H'):PcsAt H' us ps:=h.mono fun b xs e=>k b _ e
theorem PcsAt.snoc {H:Hp}{us:List V}{ps:List Pc}{p:Pc}{a:Addr}(h:PcsAt H us ps)(ha:H a=some (.tup [.int p.a,.int p.l,.bl p.v])):PcsAt H (us++[.ref a]) (ps++[p]):=by
 refine⟨by simp [h.1],fun i q e=>?_⟩
 have hl:=h.1
 by_cases hi:i<ps.length
 · rw[List.getElem?_append_left hi] at e
   obtain⟨b,h1,h2⟩:=h.2 i q e
   exact⟨b,by rw[List.getElem?_append_left (by omega)];exact h1,h2⟩
 · have hlt:i<(ps++[p]).length:=(List.getElem?_eq_some_iff.mp e).1
   have hi2:i=ps.length:=by simp at hlt;omega
   subst hi2
   rw[List.getElem?_append_right (Nat.le_refl _)] at e
   have e':p=q:=by simpa using e
   subst e'
   exact⟨a,by rw[←hl,List.getElem?_append_right (Nat.le_refl _)];simp,ha⟩
theorem keepT {H:Hp}{p:Addr}{o:HO}(hp:H p=none∨∃xs,H p=some (.lst xs)):∀b xs,H b=some (.tup xs)→upd H p o b=some (.tup xs):=fun b xs e=>by
 have hne:b≠p:=fun z=>by
   subst z
   rcases hp with h | ⟨ys,h⟩
   · rw[h] at e;cases e
   · rw[h] at e;cases e
 rw[upd_ne hne]
 exact e
theorem PcsAt.push {H:Hp}{us:List V}{ps:List Pc}{p t:Addr}{z:Pc}(h:PcsAt H us ps)(hp:H p=some (.lst us))(ht:H t=none) :
   upd (upd H t (.tup [.int z.a,.int z.l,.bl z.v])) p (.lst (us++[.ref t])) p=some (.lst (us++[.ref t])) ∧
   PcsAt (upd (upd H t (.tup [.int z.a,.int z.l,.bl z.v])) p (.lst (us++[.ref t]))) (us++[.ref t]) (ps++[z]):=by
 have hpt:p≠t:=ne_of_none hp ht
 have hp2:upd H t (.tup [.int z.a,.int z.l,.bl z.v]) p=some (.lst us):=by rw[upd_ne hpt];exact hp
 refine⟨upd_same,?_⟩
 refine PcsAt.snoc ?_ ?_
 · exact(h.mono (keepT (.inl ht))).mono (keepT (.inr ⟨_,hp2⟩))
 · exact keepT (.inr ⟨_,hp2⟩) _ _ upd_same
theorem PcsAt.at {H:Hp}{us:List V}{ps:List Pc}(h:PcsAt H us ps){k:Int}(h0:0≤k)(h1:k<us.length):∃t z,atI us k=some (.ref t)∧ps[k.toNat]?=some z∧H t=some (.tup [.int z.a,.int z.l,.bl z.v]):=by
 have hl:=h.1
 have hk:k.toNat<ps.length:=by omega
 obtain⟨t,e1,e2⟩:=h.2 k.toNat ps[k.toNat] (by simp [hk])
 refine⟨t,_,?_,by simp [hk],e2⟩
 have:=atI_nat e1
 rwa [Int.toNat_of_nonneg h0] at this
def TupsAt (H:Hp)(us:List V)(xs:List (List V)):Prop:=us.length=xs.length∧∀(i:Nat) (x:List V),xs[i]?=some x→∃a,us[i]?=some (.ref a)∧H a=some (.tup x)
theorem TupsAt.nil {H:Hp}:TupsAt H [] []:=⟨rfl,fun i p h=>by simp at h⟩
theorem TupsAt.mono {H H':Hp}{us:List V}{xs:List (List V)}(h:TupsAt H us xs)(k:∀b ys,H b=some (.tup ys)→H' b=some (.tup ys)):TupsAt H' us xs :=
 ⟨h.1,fun i p e=>let ⟨a,h1,h2⟩:=h.2 i p e;⟨a,h1,k _ _ h2⟩⟩
theorem TupsAt.same {H H':Hp}{us:List V}{xs:List (List V)}(h:TupsAt H us xs)(k:Same H H'):TupsAt H' us xs:=h.mono fun b ys e=>k b _ e
theorem TupsAt.push {H:Hp}{us:List V}{xs:List (List V)}{p t:Addr}{z:List V}(h:TupsAt H us xs)(hp:H p=some (.lst us))(ht:H t=none) :
   TupsAt (upd (upd H t (.tup z)) p (.lst (us++[.ref t]))) (us++[.ref t]) (xs++[z]):=by
 have hpt:p≠t:=ne_of_none hp ht
 have hp2:upd H t (.tup z) p=some (.lst us):=by rw[upd_ne hpt];exact hp
 have h2:=(h.mono (keepT (o:=.tup z) (.inl ht))).mono (keepT (o:=.lst (us++[.ref t])) (.inr ⟨_,hp2⟩))
 have hz:upd (upd H t (.tup z)) p (.lst (us++[.ref t])) t=some (.tup z):=keepT (.inr ⟨_,hp2⟩) _ _ upd_same
 refine⟨by simp [h.1],fun i q e=>?_⟩
 have hl:=h.1
 by_cases hi:i<xs.length
 · rw[List.getElem?_append_left hi] at e
   obtain⟨b,h1,h3⟩:=h2.2 i q e
   exact⟨b,by rw[List.getElem?_append_left (by omega)];exact h1,h3⟩
 · have hlt:i<(xs++[z]).length:=(List.getElem?_eq_some_iff.mp e).1
   have hi2:i=xs.length:=by simp at hlt;omega
   subst hi2
   rw[List.getElem?_append_right (Nat.le_refl _)] at e
   have e':z=q:=by simpa using e
   subst e'
   exact⟨t,by rw[←hl,List.getElem?_append_right (Nat.le_refl _)];simp,hz⟩
theorem TupsAt.at {H:Hp}{us:List V}{xs:List (List V)}(h:TupsAt H us xs){i:Nat}(h1:i<us.length):∃t z,atI us (0+(i:Int))=some (.ref t)∧xs[i]?=some z∧H t=some (.tup z):=by
 have hl:=h.1
 have hk:i<xs.length:=by omega
 obtain⟨t,e1,e2⟩:=h.2 i xs[i] (by simp [hk])
 exact⟨t,_,by rw[Int.zero_add];exact atI_nat e1,by simp [hk],e2⟩
@[reducible] def optV:Option Int→V
 | none=>.non
 | some b=>.int b
def spLong:Sp:=fun vs H Q _=>∃n:Int,vs=[.int n]∧Q (.int (n/2)) H
def spLive:Sp:=fun vs H Q _=>∃n:Int,vs=[.int n]∧Q (.bl (decide (n%2=1))) H
def spCan (K:PySem.W.Frag):Sp:=fun vs H Q _=>∃(a:Addr) (ns:List Int) (k:Int),vs=[.ref a,.int k]∧SqL K H a (ns.map V.int)∧0≤k∧k<ns.length∧Q (.bl (canBegin ns k)) H
def spBad (K:PySem.W.Frag):Sp:=fun vs H Q _=>∃(a:Addr) (ns:List Int) (k:Int),vs=[.ref a,.int k]∧SqL K H a (ns.map V.int)∧0≤k∧k<ns.length∧Q (optV (badOf ns k)) H
def spLooked (K:PySem.W.Frag)(C:Addr):Sp:=fun vs H Q E=>∃(a:Addr) (ns:List Int),vs=[.ref a]∧SqL K H a (ns.map V.int)∧ns.length≤4000 ∧
 (∀b,(walkF ns 0).2=some b→∀(dx:Addr) (H':Hp),Same H H'→H' dx=some (.xd [("cell",.int b)])→E (.ref C) (some dx) H') ∧
 ((walkF ns 0).2=none→∀(p:Addr) (us:List V) (H':Hp),H p=none→Same H H'→H' p=some (.lst us)→PcsAt H' us (walkF ns 0).1→Q (.ref p) H')
def spCell (K:PySem.W.Frag):Sp:=fun vs H Q _=>∃(a:Addr) (ns:List Int) (k:Int),vs=[.ref a,.int k]∧SqL K H a (ns.map V.int)∧0≤k∧Q (.int (ns.getD k.toNat 0)) H
def spWhole:Sp:=fun vs H Q _=>∃n:Int,vs=[.int n]∧Q (.bl true) H
def spLaw (K:PySem.W.Frag):Sp:=fun vs H Q _=>∃(a:Addr) (ns:List Int),vs=[.ref a]∧SqL K H a (ns.map V.int)∧ns.length≤63∧∀H',Q (.bl true) H'
section
variable {K:PySem.W.Frag}{H:Hp}{Q:VK}{E:XK}
theorem i_long {n:Int}(q:Q (.int (n/2)) H):spLong [.int n] H Q E:=⟨n,rfl,q⟩
theorem i_live {n:Int}(q:Q (.bl (decide (n%2=1))) H):spLive [.int n] H Q E:=⟨n,rfl,q⟩
theorem i_can {a:Addr}{ns:List Int}{k:Int}(h:SqL K H a (ns.map V.int))(h0:0≤k)(h1:k<ns.length)(q:Q (.bl (canBegin ns k)) H):spCan K [.ref a,.int k] H Q E:=⟨a,ns,k,rfl,h,h0,h1,q⟩
theorem i_bad {a:Addr}{ns:List Int}{k:Int}(h:SqL K H a (ns.map V.int))(h0:0≤k)(h1:k<ns.length)(q:Q (optV (badOf ns k)) H):spBad K [.ref a,.int k] H Q E:=⟨a,ns,k,rfl,h,h0,h1,q⟩
theorem i_cell {a:Addr}{ns:List Int}{k:Int}(h:SqL K H a (ns.map V.int))(h0:0≤k)(q:Q (.int (ns.getD k.toNat 0)) H):spCell K [.ref a,.int k] H Q E:=⟨a,ns,k,rfl,h,h0,q⟩
theorem i_whole {n:Int}(q:Q (.bl true) H):spWhole [.int n] H Q E:=⟨n,rfl,q⟩
theorem live_eq2 (n:Int):decide (Builtin.bitAnd n 1=1)=decide (n%2=1):=by rw[←live_eq,decV]
end
end Stow
namespace Stow
def laidI (cs:List Int)(k l:Int)(v:Bool):List Int:=(cs.set k.toNat (l*2+if v then 1 else 0)).set (k+l-1).toNat (l*2+if v then 1 else 0)
theorem laidI_len (cs:List Int)(k l:Int)(v:Bool):(laidI cs k l v).length=cs.length:=by
 unfold laidI
 rw[List.length_set,List.length_set]
theorem laidI_out {cs:List Int}{k l:Int}{v:Bool}{j:Nat}(h0:0≤k)(h1:1≤l)(h:(j:Int)<k∨k+l≤j):(laidI cs k l v)[j]?=cs[j]?:=by
 unfold laidI
 rw[List.getElem?_set_ne (by omega),List.getElem?_set_ne (by omega)]
theorem laidI_first {cs:List Int}{k l:Int}{v:Bool}(h0:0≤k)(h1:1≤l)(h:k+l≤cs.length):(laidI cs k l v)[k.toNat]?=some (mkOf l v):=by
 unfold laidI mkOf
 by_cases e:(k+l-1).toNat=k.toNat
 · rw[e,List.getElem?_set_self (by rw[List.length_set];omega)]
 · rw[List.getElem?_set_ne e,List.getElem?_set_self (by omega)]
theorem laidI_last {cs:List Int}{k l:Int}{v:Bool}(h0:0≤k)(h1:1≤l)(h:k+l≤cs.length):(laidI cs k l v)[(k+l-1).toNat]?=some (mkOf l v):=by
 unfold laidI mkOf
 rw[List.getElem?_set_self (by rw[List.length_set];omega)]
def EndBy (ds:List Pc)(k:Int):Prop:=∀p∈ds,0≤p.a∧1≤p.l∧p.a+p.l≤k
def FromOn (rs:List Pc)(e:Int):Prop:=∀p∈rs,e≤p.a∧1≤p.l
theorem Chain.endBy {ds:List Pc}{s e:Int}(h:Chain s ds e)(h0:0≤s):EndBy ds e:=fun p hp=>by
 obtain⟨h1,h2,_,h3⟩:=h.mem p hp
 omega
theorem Chain.fromOn {ds:List Pc}{s e:Int}(h:Chain s ds e):FromOn ds s:=fun p hp=>by
 obtain⟨h1,h2,_,_⟩:=h.mem p hp
 omega
theorem EndBy.mono {ds:List Pc}{k k':Int}(h:EndBy ds k)(e:k≤k'):EndBy ds k':=fun p hp=>by have:=h p hp;omega
theorem EndBy.app {ds es:List Pc}{k:Int}(h:EndBy ds k)(g:EndBy es k):EndBy (ds++es) k:=fun p hp=>(List.mem_append.mp hp).elim (h p) (g p)
theorem Marks.sub {cs:List Int}{ps qs:List Pc}(m:Marks cs ps)(h:∀p∈qs,p∈ps):Marks cs qs:=fun p hp=>m p (h p hp)
theorem Marks.lay {cs:List Int}{ds rs:List Pc}{k l:Int}{v:Bool}(h0:0≤k)(h1:1≤l)(hl:k+l≤cs.length)(hd:EndBy ds k)(hr:FromOn rs (k+l))(m:Marks cs (ds++rs)) :
   Marks (laidI cs k l v) (ds++⟨k,l,v⟩::rs):=by
 intro p hp
 rcases List.mem_append.mp hp with h | h
 · obtain⟨a0,a1,a2⟩:=hd p h
   obtain⟨m1,m2⟩:=m p (List.mem_append_left _ h)
   exact⟨by rw[laidI_out h0 h1 (by omega)];exact m1,by rw[laidI_out h0 h1 (by omega)];exact m2⟩
 · rcases List.mem_cons.mp h with h | h
   · subst h
     exact⟨laidI_first h0 h1 hl,laidI_last h0 h1 hl⟩
   · obtain⟨a0,a1⟩:=hr p h
     obtain⟨m1,m2⟩:=m p (List.mem_append_right _ h)
     exact⟨by rw[laidI_out h0 h1 (by omega)];exact m1,by rw[laidI_out h0 h1 (by omega)];exact m2⟩
def fr (b e:Int):List Pc:=if b=e then [] else [⟨b,e-b,false⟩]
theorem chain_split:∀{ps:List Pc} {s e:Int} {i:Nat} {z:Pc},Chain s ps e→ps[i]?=some z→∃ds rs,ps=ds++z::rs∧ds.length=i∧Chain s ds z.a∧Chain (z.a+z.l) rs e
 | [],s,e,i,z,_,h=>by simp at h
 | p::r,s,e,0,z,c,h=>by
   have e1:p=z:=by simpa using h
   subst e1
   obtain⟨h0,h1,h2,h3⟩:=c
   exact⟨[],r,rfl,rfl,h0.symm,by rw[h0];exact h3⟩
 | p::r,s,e,i+1,z,c,h=>by
   obtain⟨h0,h1,h2,h3⟩:=c
   obtain⟨ds,rs,e1,e2,c1,c2⟩:=chain_split h3 (show r[i]?=some z by simpa using h)
   exact⟨p::ds,rs,by rw[e1];rfl,by rw[List.length_cons,e2],⟨h0,h1,h2,c1⟩,c2⟩
theorem chain_apart {ps:List Pc}:∀{b e:Int},Chain b ps e→∀(i j:Nat) (y z:Pc),ps[i]?=some y→ps[j]?=some z→y.a=z.a→y=z:=by
 induction ps with
 | nil=>intro b e _ i j y z hi;simp at hi
 | cons p r ih =>
   intro b e h i j y z hi hj ha
   obtain⟨e1,h1,h3,c⟩:=h
   have up:∀(i:Nat) (y:Pc),r[i]?=some y→y.a>p.a:=fun i y hy=>by
     have:=(c.mem y (List.mem_of_getElem? hy)).1
     omega
   cases i with
   | zero =>
     cases j with
     | zero=>simp at hi hj;rw[←hi,←hj]
     | succ j =>
       have e2:p=y:=by simpa using hi
       have:=up j z (by simpa using hj)
       subst e2;omega
   | succ i =>
     cases j with
     | zero =>
       have e2:p=z:=by simpa using hj
       have:=up i y (by simpa using hi)
       subst e2;omega
     | succ j=>exact ih c i j y z (by simpa using hi) (by simpa using hj) ha
end Stow
namespace Stow
theorem chain_same {ps:List Pc}{s e:Int}{y z:Pc}(c:Chain s ps e)(hy:y∈ps)(hz:z∈ps)(h:y.a=z.a):y=z:=by
 obtain⟨i,hi⟩:=List.getElem?_of_mem hy
 obtain⟨j,hj⟩:=List.getElem?_of_mem hz
 exact chain_apart c i j y z hi hj h
end Stow
namespace Stow
end Stow
namespace Stow
end Stow
namespace Stow
theorem Chain.take:∀{ps:List Pc} {s e:Int} {i:Nat},Chain s ps e→i≤ps.length→∃m,Chain s (ps.take i) m∧Chain m (ps.drop i) e
 | ps,s,e,0,c,_=>⟨s,rfl,c⟩
 | [],s,e,i+1,c,h=>by simp at h
 | p::r,s,e,i+1,c,h=>by
   obtain⟨h0,h1,h2,h3⟩:=c
   obtain⟨m,c1,c2⟩:=h3.take (i:=i) (by simpa using h)
   exact⟨m,⟨h0,h1,h2,c1⟩,c2⟩
def NoAdj (ps:List Pc):Prop:=∀j y z,ps[j]?=some y→ps[j+1]?=some z→y.v=true∨z.v=true
theorem NoAdj.snoc {D:List Pc}{w z:Pc}(h:NoAdj (D++[w]))(hv:w.v=true∨z.v=true):NoAdj (D++[w]++[z]):=by
 intro j y x hy hx
 have hl:j+1<(D++[w]++[z]).length:=(List.getElem?_eq_some_iff.mp hx).1
 rw[List.length_append,List.length_singleton] at hl
 rw[List.getElem?_append_left (by omega)] at hy
 by_cases e:j+1<(D++[w]).length
 · rw[List.getElem?_append_left e] at hx
   exact h j y x hy hx
 · rw[List.length_append,List.length_singleton] at e hl
   rw[List.getElem?_append_right (by rw[List.length_append,List.length_singleton];omega),show j+1-(D++[w]).length=0 by rw[List.length_append,List.length_singleton];omega] at hx
   rw[show j=D.length by omega,List.getElem?_append_right (Nat.le_refl _),Nat.sub_self] at hy
   have e1:w=y:=by simpa using hy
   have e2:z=x:=by simpa using hx
   rw[←e1,←e2]
   exact hv
end Stow
namespace Stow
end Stow
namespace Stow
end Stow
namespace Stow
open PySem L2 PyProof.Rows
section
variable {X:Cx}
end
end Stow
namespace Stow
open PySem L2 PyProof.Rows
def eqVs (xs ys:List V):Bool:=(List.range (min xs.length ys.length)).all (fun j=>eqV (xs.getD j .non) (ys.getD j .non))&&xs.length==ys.length
section
variable {X:Cx}{pins:List (Addr×Obj)}{σ:L2.St}{H:Hp}{s:Shared}{A:Around}
theorem items_eq {a b:Addr}{xs ys:List V}(I:Inv X pins σ H s)(ha:SqT X.K H a xs)(hb:SqT X.K H b ys)(hf:xs.all flatV=true)(hg:ys.all flatV=true) :
   ∃its its2:List Value,s.heap.IsTuple a its.toArray∧s.heap.IsTuple b its2.toArray∧its.length=xs.length∧its2.length=ys.length ∧
     ∀j (h1:j<its.toArray.size) (h2:j<its2.toArray.size),SeqAt.EqAt A s its.toArray[j] its2.toArray[j] (eqV (xs.getD j .non) (ys.getD j .non)):=by
 obtain⟨its,r1,p1,_⟩:=I.tuple ha
 obtain⟨its2,r2,p2,_⟩:=I.tuple hb
 have l1:=r1.length
 have l2:=r2.length
 refine⟨its,its2,p1,p2,l1.symm,l2.symm,fun j h1 h2=>?_⟩
 rw[List.size_toArray] at h1 h2
 have hj:j<xs.length:=by omega
 have hk:j<ys.length:=by omega
 obtain⟨u1,e1,q1⟩:=r1.get (i:=j) (x:=xs[j]) (by simp [hj])
 obtain⟨u2,e2,q2⟩:=r2.get (i:=j) (x:=ys[j]) (by simp [hk])
 obtain⟨g1,f1⟩:=List.getElem?_eq_some_iff.mp e1
 obtain⟨g2,f2⟩:=List.getElem?_eq_some_iff.mp e2
 have fl:flatV xs[j]=true:=List.all_eq_true.mp hf _ (List.getElem_mem hj)
 have gl:flatV ys[j]=true:=List.all_eq_true.mp hg _ (List.getElem_mem hk)
 have z:=eqAt_V (A:=A) (s:=s) q1 q2 fl gl
 rw[←f1,←f2] at z
 have ex:xs.getD j .non=xs[j]:=by simp [hj]
 have ey:ys.getD j .non=ys[j]:=by simp [hk]
 rw[ex,ey]
 simpa using z
theorem rc_tups {a b:Addr}{xs ys:List V}(hu:A.units<cLine)(I:Inv X pins σ H s)(ha:SqT X.K H a xs)(hb:SqT X.K H b ys)(hf:xs.all flatV=true)(hg:ys.all flatV=true):SeqAt.RcAt A s (.ref a) (.ref b) (eqVs xs ys):=by
 obtain⟨its,its2,p1,p2,l1,l2,he⟩:=items_eq (A:=A.in1) I ha hb hf hg
 have key:=SeqAt.RcAt.tuples p1 p2 hu he
 simp only [List.size_toArray,l1,l2] at key
 exact key
theorem eqVs_self {xs:List V}(hf:xs.all flatV=true):eqVs xs xs=true:=by
 unfold eqVs
 rw[Bool.and_eq_true]
 refine⟨List.all_eq_true.mpr fun j hj=>?_,by simp⟩
 have hj:j<xs.length:=by simpa using hj
 have ex:xs.getD j .non=xs[j]:=by simp [hj]
 rw[ex]
 exact eqV_self (List.all_eq_true.mp hf _ (List.getElem_mem hj))
end
section
variable {X:Cx}
end
end Stow
set_option Elab.async false
set_option linter.all false
set_option maxRecDepth 100000
set_option maxHeartbeats 4000000
namespace L2
open PySem PySem.Spec PyProof.Rows
section
variable {κ:Type}[DecidableEq κ]
def valV (kvs:List (κ×V))(k:κ):Option V:=(kvs.find? fun kv=>decide (kv.1=k)).map (·.2)
def putK (kvs:List (κ×V))(k:κ)(v:V):List (κ×V) :=
 if (kvs.any fun kv=>decide (kv.1=k))=true then kvs.map (fun kv=>if kv.1=k then (kv.1,v) else kv) else kvs++[(k,v)]
def dropK (kvs:List (κ×V))(k:κ):List (κ×V):=kvs.filter fun kv=>decide (kv.1≠k)
theorem valV_pos {p:κ×V}{r:List (κ×V)}{k:κ}(e:p.1=k):valV (p::r) k=some p.2:=by simp [valV,List.find?_cons,e]
theorem valV_neg {p:κ×V}{r:List (κ×V)}{k:κ}(e:¬p.1=k):valV (p::r) k=valV r k:=by simp [valV,List.find?_cons,e]
theorem valV_any (k:κ):∀kvs:List (κ×V),(kvs.any fun kv=>decide (kv.1=k))=(valV kvs k).isSome
 | []=>rfl
 | p::r=>by
   rw[List.any_cons]
   by_cases e:p.1=k
   · simp only [valV_pos e,decide_eq_true e,Bool.true_or,Option.isSome_some]
   · rw[valV_neg e,decide_eq_false e,Bool.false_or];exact valV_any k r
theorem valV_map (k j:κ)(y:V):∀kvs:List (κ×V),valV (kvs.map fun kv=>if kv.1=k then (kv.1,y) else kv) j=(valV kvs j).map fun x=>if j=k then y else x
 | []=>rfl
 | p::r=>by
   have ih:=valV_map k j y r
   rw[List.map_cons]
   by_cases h:p.1=k
   · rw[if_pos h]
     by_cases e:p.1=j
     · rw[valV_pos (p:=(p.1,y)) e,valV_pos e,Option.map_some,if_pos (e.symm.trans h)]
     · rw[valV_neg (p:=(p.1,y)) e,valV_neg e,ih]
   · rw[if_neg h]
     by_cases e:p.1=j
     · rw[valV_pos (p:=p) e,valV_pos e,Option.map_some,if_neg (fun z=>h (e.trans z))]
     · rw[valV_neg (p:=p) e,valV_neg e,ih]
theorem valV_snoc (k j:κ)(y:V):∀kvs:List (κ×V),valV kvs k=none→valV (kvs++[(k,y)]) j=if j=k then some y else valV kvs j
 | [],_=>by
   by_cases e:k=j
   · rw[if_pos e.symm];exact valV_pos (p:=(k,y)) e
   · rw[if_neg (fun z=>e z.symm)];exact valV_neg (p:=(k,y)) e
 | p::r,hn=>by
   rw[List.cons_append]
   have hk:¬p.1=k:=fun z=>by rw[valV_pos z] at hn;cases hn
   rw[valV_neg hk] at hn
   have ih:=valV_snoc k j y r hn
   by_cases e:p.1=j
   · rw[valV_pos e,valV_pos e,if_neg (fun z=>hk (e.trans z))]
   · rw[valV_neg e,valV_neg e,ih]
theorem valV_put (kvs:List (κ×V))(k j:κ)(y:V):valV (putK kvs k y) j=if j=k then some y else valV kvs j:=by
 unfold putK
 by_cases a:(kvs.any fun kv=>decide (kv.1=k))=true
 · rw[if_pos a,valV_map]
   rw[valV_any] at a
   by_cases e:j=k
   · obtain⟨x,hx⟩:=Option.isSome_iff_exists.mp a
     rw[if_pos e,e,hx,Option.map_some,if_pos rfl]
   · rw[if_neg e]
     cases valV kvs j with
     | none=>rfl
     | some x=>rw[Option.map_some,if_neg e]
 · rw[if_neg a]
   refine valV_snoc k j y kvs ?_
   rw[valV_any] at a
   cases q:valV kvs k with
   | none=>rfl
   | some x=>rw[q] at a;exact(a rfl).elim
theorem length_putK (kvs:List (κ×V))(k:κ)(v:V):(putK kvs k v).length≤kvs.length+1:=by
 unfold putK
 split
 · rw[List.length_map];omega
 · rw[List.length_append,List.length_cons,List.length_nil];omega
theorem putK_new {kvs:List (κ×V)}{k:κ}(v:V)(h:valV kvs k=none):putK kvs k v=kvs++[(k,v)]:=by
 unfold putK
 rw[valV_any,h]
 exact if_neg (by decide)
theorem RelO.isSome_eq {o:Option V}{u:Option Value}(r:RelO o u):o.isSome=u.isSome:=by
 cases o with
 | none=>cases u with
   | none=>rfl
   | some _=>exact(show False from r).elim
 | some _=>cases u with
   | none=>exact(show False from r).elim
   | some _=>rfl
theorem RelO.getD {o:Option V}{u:Option Value}{d:V}{d':Value}(r:RelO o u)(rd:RelV d d'):RelV (o.getD d) (u.getD d'):=by
 cases o with
 | none=>cases u with
   | none=>exact rd
   | some _=>exact(show False from r).elim
 | some _=>cases u with
   | none=>exact(show False from r).elim
   | some _=>exact r
theorem KV.val {kvs:List (κ×V)}{vs:List (κ×Value)}(r:KV kvs vs)(k:κ):RelO (valV kvs k) (valueAt vs k):=by
 unfold KV at r
 induction r with
 | nil=>exact True.intro
 | @cons p q ps qs h t ih =>
   obtain⟨h1,h2⟩:=h
   by_cases e:p.1=k
   · have e':q.1=k:=h1.symm.trans e
     have b:valueAt (q::qs) k=some q.2:=by simp [valueAt,List.find?_cons,e']
     rw[valV_pos e,b];exact h2
   · have e':¬q.1=k:=fun z=>e (h1.trans z)
     have b:valueAt (q::qs) k=valueAt qs k:=by simp [valueAt,List.find?_cons,e']
     rw[valV_neg e,b];exact ih
theorem KV.any {kvs:List (κ×V)}{vs:List (κ×Value)}(r:KV kvs vs)(k:κ):(kvs.any fun kv=>decide (kv.1=k))=vs.any fun kv=>decide (kv.1=k):=by
 unfold KV at r
 induction r with
 | nil=>rfl
 | cons h t ih=>rw[List.any_cons,List.any_cons,ih,h.1]
theorem KV.repl {kvs:List (κ×V)}{vs:List (κ×Value)}(r:KV kvs vs)(k:κ){y:V}{u:Value}(ry:RelV y u) :
   KV (kvs.map fun kv=>if kv.1=k then (kv.1,y) else kv) (vs.map fun kv=>if kv.1=k then (kv.1,u) else kv):=by
 unfold KV at r ⊢
 induction r with
 | nil=>exact .nil
 | @cons p q ps qs h t ih =>
   rw[List.map_cons,List.map_cons]
   refine .cons ?_ ih
   obtain⟨h1,h2⟩:=h
   by_cases e:p.1=k
   · rw[if_pos e,if_pos (h1.symm.trans e)];exact⟨h1,ry⟩
   · rw[if_neg e,if_neg (fun z=>e (h1.trans z))];exact⟨h1,h2⟩
theorem KV.put {kvs:List (κ×V)}{vs:List (κ×Value)}(r:KV kvs vs)(k:κ){y:V}{u:Value}(ry:RelV y u):KV (putK kvs k y) (stored vs k u):=by
 unfold putK stored
 rw[r.any k]
 by_cases e:(vs.any fun kv=>decide (kv.1=k))=true
 · rw[if_pos e,if_pos e];exact r.repl k ry
 · rw[if_neg e,if_neg e];exact Paired.snoc r ⟨rfl,ry⟩
theorem KV.drop {kvs:List (κ×V)}{vs:List (κ×Value)}(r:KV kvs vs)(k:κ):KV (dropK kvs k) (without vs k):=by
 unfold KV at r ⊢
 unfold dropK without
 induction r with
 | nil=>exact .nil
 | @cons p q ps qs h t ih =>
   obtain⟨h1,h2⟩:=h
   rw[List.filter_cons,List.filter_cons]
   by_cases e:p.1=k
   · have a:¬decide (p.1≠k)=true:=by simp [e]
     have b:¬decide (q.1≠k)=true:=by simp [h1.symm.trans e]
     rw[if_neg a,if_neg b];exact ih
   · have e':¬q.1=k:=fun z=>e (h1.trans z)
     have a:decide (p.1≠k)=true:=by simp [e]
     have b:decide (q.1≠k)=true:=by simp [e']
     rw[if_pos a,if_pos b];exact .cons ⟨h1,h2⟩ ih
theorem KV.keys {kvs:List (κ×V)}{vs:List (κ×Value)}(r:KV kvs vs):kvs.map (·.1)=vs.map (·.1):=by
 unfold KV at r
 induction r with
 | nil=>rfl
 | cons h t ih=>rw[List.map_cons,List.map_cons,ih,h.1]
theorem KV.length {kvs:List (κ×V)}{vs:List (κ×Value)}(r:KV kvs vs):kvs.length=vs.length:=Paired.length r
theorem dropK_le (kvs:List (κ×V))(k:κ):(dropK kvs k).length≤kvs.length:=List.length_filter_le _ _
end
theorem kV_is {P:Program}{w:World}{k:Key}{u:Value}(r:RelV (kV k) u):(mixKind P w).is k u=true:=by
 cases k with
 | inl i=>obtain⟨t,e⟩:=(show ∃t,u=Value.int i t from r);subst e;exact mixKind_int P w i t
 | inr x=>obtain⟨t,e⟩:=(show ∃t,u=Value.str x t from r);subst e;exact mixKind_str P w x t
theorem items_are {P:Program}{w:World}:∀{ks:List Key} {us:List Value},Vals (ks.map kV) us→ItemsAre (mixKind P w) ks us
 | [],_,r=>by rw[List.map_nil] at r;cases r;exact .nil
 | k::ks,_,r=>by
   rw[List.map_cons] at r
   cases r with
   | cons h t=>exact .cons (kV_is h) (items_are t)
abbrev KT (H:Hp):List (List Key×V)→List (List Key×Addr×Value)→Prop:=Paired fun p q=>p.1=q.1∧H q.2.1=some (.tup (p.1.map kV))∧RelV p.2 q.2.2
theorem KT.val {H:Hp}{kvs:List (List Key×V)}{xs:List (List Key×Addr×Value)}(r:KT H kvs xs)(k:List Key):RelO (valV kvs k) ((atKey xs k).map (·.2)):=by
 induction r with
 | nil=>exact True.intro
 | @cons p q ps qs h t ih =>
   obtain⟨h1,_,h2⟩:=h
   by_cases e:p.1=k
   · have e':q.1=k:=h1.symm.trans e
     have b:atKey (q::qs) k=some q.2:=by simp [atKey,List.find?_cons,e']
     rw[valV_pos e,b];exact h2
   · have e':¬q.1=k:=fun z=>e (h1.trans z)
     have b:atKey (q::qs) k=atKey qs k:=by simp [atKey,List.find?_cons,e']
     rw[valV_neg e,b];exact ih
theorem KT.repl {H:Hp}{kvs:List (List Key×V)}{xs:List (List Key×Addr×Value)}(r:KT H kvs xs)(k:List Key){y:V}{u:Value}(ry:RelV y u) :
   KT H (kvs.map fun kv=>if kv.1=k then (kv.1,y) else kv) (xs.map (putAt k u)):=by
 induction r with
 | nil=>exact .nil
 | @cons p q ps qs h t ih =>
   rw[List.map_cons,List.map_cons]
   refine .cons ?_ ih
   obtain⟨h1,h2,h3⟩:=h
   unfold putAt
   by_cases e:p.1=k
   · rw[if_pos e,if_pos (h1.symm.trans e)];exact⟨h1,h2,ry⟩
   · rw[if_neg e,if_neg (fun z=>e (h1.trans z))];exact⟨h1,h2,h3⟩
theorem KT.put {H:Hp}{kvs:List (List Key×V)}{xs:List (List Key×Addr×Value)}(r:KT H kvs xs)(k:List Key){b:Addr}{y:V}{u:Value}(hb:H b=some (.tup (k.map kV)))(ry:RelV y u) :
   KT H (putK kvs k y) (storedH xs k b u):=by
 have e:(kvs.any fun kv=>decide (kv.1=k))=(atKey xs k).isSome:=by
   rw[valV_any,(r.val k).isSome_eq,Option.isSome_map]
 unfold putK storedH
 rw[e]
 by_cases q:(atKey xs k).isSome=true
 · rw[if_pos q,if_pos q];exact r.repl k ry
 · rw[if_neg q,if_neg q];exact Paired.snoc r ⟨rfl,hb,ry⟩
theorem KT.keeps {H H':Hp}{kvs:List (List Key×V)}{xs:List (List Key×Addr×Value)}(r:KT H kvs xs)(ht:∀b ys,H b=some (.tup ys)→H' b=some (.tup ys)):KT H' kvs xs :=
 Paired.mapP r fun _ _ z=>⟨z.1,ht _ _ z.2.1,z.2.2⟩
section
variable {P:Program}{w:World}{H:Hp}{h:Heap}{a:Addr}
theorem rd_of {u:HO}(ok:HOk P w H h)(e:Rd H a u):ObjOk P w H h a u:=e.ok ok
theorem dk_rd {kvs:List (Key×V)}(ok:HOk P w H h)(e:Rd H a (.dK kvs)):kvs.length≤sizeLine∧(a==sysModules)=false∧∃vs,KV kvs vs∧h.DictOf (mixKind P w) a vs :=
 show ObjOk P w H h a (.dK kvs) from rd_of ok e
theorem dk_of {kvs:List (Key×V)}(ok:HOk P w H h)(e:H a=some (.dK kvs)):kvs.length≤sizeLine∧(a==sysModules)=false∧∃vs,KV kvs vs∧h.DictOf (mixKind P w) a vs:=dk_rd ok (.inl e)
theorem key_of {ks:List Key}(ok:HOk P w H h)(e:H a=some (.tup (ks.map kV))):(tupleKind (mixKind P w)).is h ks a:=by
 obtain⟨_,its,r,o,h1,h2,n,h3⟩:=(show ObjOk P w H h a (.tup (ks.map kV)) from ok a _ e)
 exact⟨o,its.toArray,n,h1,h2,h3,by simpa using items_are r⟩
theorem dt_rd {kvs:List (List Key×V)}(ok:HOk P w H h)(e:Rd H a (.dT kvs)):kvs.length≤sizeLine∧(a==sysModules)=false ∧
   ∃xs,KT H kvs xs∧h.DictOfH (tupleKind (mixKind P w)) a xs:=by
 obtain⟨z,y,xs,r,o,es,ep,h1,h2,h3,h4,h5⟩:=(show ObjOk P w H h a (.dT kvs) from rd_of ok e)
 refine⟨z,y,xs,r,o,es,ep,h1,h2,h3,h4,fun x hx=>?_,h5⟩
 have all:∀{l:List (List Key×V)} {m:List (List Key×Addr×Value)},KT H l m→∀x∈m,(tupleKind (mixKind P w)).is h x.1 x.2.1:=by
   intro l m q
   induction q with
   | nil=>intro x hx;exact nomatch hx
   | @cons p q ps qs hq t ih =>
     intro x hx
     rcases List.mem_cons.mp hx with e | hx
     · subst e
       exact key_of ok (by rw[←hq.1];exact hq.2.1)
     · exact ih x hx
 exact all r x hx
theorem dt_of {kvs:List (List Key×V)}(ok:HOk P w H h)(e:H a=some (.dT kvs)):kvs.length≤sizeLine∧(a==sysModules)=false ∧
   ∃xs,KT H kvs xs∧h.DictOfH (tupleKind (mixKind P w)) a xs:=dt_rd ok (.inl e)
end
def DGet (H:Hp)(a:Addr)(y:V)(r:Option V):Prop :=
 (∃kvs k,Rd H a (.dK kvs)∧y=kV k∧r=valV kvs k)∨∃kvs k b,Rd H a (.dT kvs)∧y = .ref b∧H b=some (.tup (k.map kV))∧r=valV kvs k
def DPut (H:Hp)(a:Addr)(y v:V)(H':Hp):Prop :=
 (∃kvs k,H a=some (.dK kvs)∧y=kV k∧kvs.length<sizeLine∧H'=upd H a (.dK (putK kvs k v))) ∨
 ∃kvs k b,H a=some (.dT kvs)∧y = .ref b∧H b=some (.tup (k.map kV))∧kvs.length<sizeLine∧H'=upd H a (.dT (putK kvs k v))
theorem DGet.k {H:Hp}{a:Addr}{kvs:List (Key×V)}{k:Key}(e:H a=some (.dK kvs)):DGet H a (kV k) (valV kvs k):=.inl ⟨kvs,k,.inl e,rfl,rfl⟩
theorem DGet.t {H:Hp}{a b:Addr}{kvs:List (List Key×V)}{k:List Key}(e:H a=some (.dT kvs))(eb:H b=some (.tup (k.map kV))):DGet H a (.ref b) (valV kvs k):=.inr ⟨kvs,k,b,.inl e,rfl,eb,rfl⟩
theorem DPut.k {H:Hp}{a:Addr}{kvs:List (Key×V)}{k:Key}{v:V}(e:H a=some (.dK kvs))(hl:kvs.length<sizeLine):DPut H a (kV k) v (upd H a (.dK (putK kvs k v))):=.inl ⟨kvs,k,e,rfl,hl,rfl⟩
theorem DPut.t {H:Hp}{a b:Addr}{kvs:List (List Key×V)}{k:List Key}{v:V}(e:H a=some (.dT kvs))(eb:H b=some (.tup (k.map kV)))(hl:kvs.length<sizeLine) :
   DPut H a (.ref b) v (upd H a (.dT (putK kvs k v))):=.inr ⟨kvs,k,b,e,rfl,eb,hl,rfl⟩
section
variable {X:Cx}{pins:List (Addr×Obj)}{σ:St}{H:Hp}{s:Shared}{a:Addr}{y v:V}{u r:Value}{o:Option V}{A:Around}{E:Value→Shared→Prop}
theorem Inv.big (I:Inv X pins σ H s):sysModules<s.heap.objs.size:=by
 have h:mainGlobals<s.heap.objs.size:=(I.mod.glob.keeps I.bk).lt
 exact Nat.lt_trans (by decide) h
theorem d_getItem {Q:Value→Shared→Prop}(hu:A.units+1<cLine)(I:Inv X pins σ H s)(g:DGet H a y (some v))(ry:RelV y u)(h:∀w' s',Inv X pins σ H s'→RelV v w'→Q w' s') :
   wpAny (model X.prog X.w) A (getItem (.ref a) u) Q E s:=by
 rcases g with ⟨kvs,k,e,ey,l⟩ | ⟨kvs,k,b,e,ey,eb,l⟩
 · subst ey
   obtain⟨z,hd,vs,rel,dd⟩:=dk_rd I.hok e
   obtain⟨w',hw,rw'⟩:=RelO.some_of (v:=v) (o:=valueAt vs k) (by rw[l];exact rel.val k)
   exact wpAny_getItem_of (kV_is ry) dd.mapOf hw (h w' _ (I.tok _) rw')
 · subst ey
   cases (show u=Value.ref b from ry)
   obtain⟨z,hd,xs,rel,dd⟩:=dt_rd I.hok e
   obtain⟨w',hw,rw'⟩:=RelO.some_of (v:=v) (o:=(atKey xs k).map (·.2)) (by rw[l];exact rel.val k)
   obtain⟨p,hp,hp2⟩:=Option.map_eq_some_iff.mp hw
   refine wpAny_getItem_heap (tupleKind_room_in1 hu) (key_of I.hok eb) dd hp ?_
   rw[hp2]
   exact h w' _ (I.tok _) rw'
theorem d_in {Q:Value→Shared→Prop}(hu:A.units+1<cLine)(I:Inv X pins σ H s)(g:DGet H a y o)(ry:RelV y u)(h:∀s',Inv X pins σ H s'→Q (.bool o.isSome) s') :
   wpAny (model X.prog X.w) A (compareOp .In u (.ref a)) Q E s:=by
 rcases g with ⟨kvs,k,e,ey,l⟩ | ⟨kvs,k,b,e,ey,eb,l⟩
 · subst ey
   obtain⟨z,hd,vs,rel,dd⟩:=dk_rd I.hok e
   refine wpAny_in_of (kV_is ry) hd dd.mapOf ?_
   rw[←(rel.val k).isSome_eq,←l]
   exact h _ (I.tok _)
 · subst ey
   cases (show u=Value.ref b from ry)
   obtain⟨z,hd,xs,rel,dd⟩:=dt_rd I.hok e
   refine wpAny_in_heap (tupleKind_room_in1 hu) (key_of I.hok eb) hd dd ?_
   have q:=(rel.val k).isSome_eq
   rw[Option.isSome_map] at q
   rw[←q,←l]
   exact h _ (I.tok _)
theorem d_write {h':Heap}{t':Nat}{ob:HO}(I:Inv X pins σ H s)(mu:Mut (H a))(hs:Heap.SameBut a s.heap h')(he:∃q,h'.get? a=some q)(new:ObjOk X.prog X.w (upd H a ob) h' a ob) :
   Inv X pins σ (upd H a ob) { s with heap:=h',toks:=t' } :=
 I.write (x:=a) (e:=a) mu (.inl rfl) (fun b q hb z=>(hs.2 b hb).trans z) he new
theorem dk_new {P:Program}{w:World}{H':Hp}{h':Heap}{kvs:List (Key×V)}{vs:List (Key×Value)}(z:kvs.length≤sizeLine)(hd:(a==sysModules)=false)(rel:KV kvs vs)(dd:h'.DictOf (mixKind P w) a vs) :
   ObjOk P w H' h' a (.dK kvs):=⟨z,hd,vs,rel,dd⟩
theorem d_setItem {H':Hp}{Q:Unit→Shared→Prop}(hu:A.units+1<cLine)(I:Inv X pins σ H s)(g:DPut H a y v H')(ry:RelV y u)(rv:RelV v r)(h:∀s',Inv X pins σ H' s'→Q () s') :
   wpAny (model X.prog X.w) A (setItem (.ref a) u r) Q E s:=by
 rcases g with ⟨kvs,k,e,ey,l,eH⟩ | ⟨kvs,k,b,e,ey,eb,l,eH⟩
 · subst ey eH
   obtain⟨z,hd,vs,rel,dd⟩:=dk_of I.hok e
   have hz:vs.length≤sizeLine:=by rw[←rel.length];exact z
   have hl:(putK kvs k v).length≤sizeLine:=by have:=length_putK kvs k v;omega
   refine wpAny_setItem_pairs (hsz:=hz) (kV_is ry) dd fun h' dd' hs=>h _ ?_
   have he:∃q,h'.get? a=some q:=let ⟨q,_,_,hq,_⟩:=dd';⟨q,hq⟩
   exact d_write I (by rw[e];exact True.intro) hs he (dk_new hl hd (rel.put k rv) dd')
 · subst ey eH
   cases (show u=Value.ref b from ry)
   obtain⟨z,hd,xs,rel,dd⟩:=dt_of I.hok e
   have hz:xs.length≤sizeLine:=by rw[←Paired.length rel];exact z
   have hl:(putK kvs k v).length≤sizeLine:=by have:=length_putK kvs k v;omega
   refine wpAny_setItem_heap (hsz:=hz) (tupleKind_room_in1 hu) (key_of I.hok eb) dd fun h' dd' hs=>h _ ?_
   obtain⟨q,es,ep,hq,h2,h3,h4,_,h5⟩:=dd'
   refine d_write I (by rw[e];exact True.intro) hs ⟨q,hq⟩ ⟨hl,hd,_,(rel.put k eb rv).keeps fun c ys ec=>?_,q,es,ep,hq,h2,h3,h4,h5⟩
   rw[upd_ne (ne_of ec e (fun z=>nomatch z))]
   exact ec
end
section
variable {X:Cx}{pins:List (Addr×Obj)}{σ:St}{H:Hp}{s:Shared}{a:Addr}{kvs:List (Key×V)}{k:Key}{u:Value}{A:Around}{E:Value→Shared→Prop}
theorem d_delItem {Q:Unit→Shared→Prop}(I:Inv X pins σ H s)(e:H a=some (.dK kvs))(ry:RelV (kV k) u)(l:(valV kvs k).isSome=true)(h:∀s',Inv X pins σ (upd H a (.dK (dropK kvs k))) s'→Q () s') :
   wpAny (model X.prog X.w) A (delItem (.ref a) u) Q E s:=by
 obtain⟨z,hd,vs,rel,dd⟩:=dk_of I.hok e
 refine wpAny_delItem_slot dd.typeIs (by decide) PySem.F.slot_dict_delitem
   (call_meetsIn PySem.F.slot_dict_delitem dd.typeIs PySem.F.entry_dict_delitem (PySem.F.args_dict_delitem_2 _ _) (meets_dict_delitem_pairs (mixKind X.prog X.w) a (kV_is ry)) ⟨vs,dd,by rw[←rel.length];exact z,by rw[←(rel.val k).isSome_eq];exact l,fun h' dd' hs=>h _ ?_⟩)
 have he:∃q,h'.get? a=some q:=let ⟨q,_,_,hq,_⟩:=dd';⟨q,hq⟩
 exact d_write I (by rw[e];exact True.intro) hs he (dk_new (Nat.le_trans (dropK_le kvs k) z) hd (rel.drop k) dd')
theorem d_pop {v:V}{more:List Value}{Q:Value→Shared→Prop}(I:Inv X pins σ H s)(e:H a=some (.dK kvs))(ry:RelV (kV k) u)(l:valV kvs k=some v)(hm:more=[]∨∃x,more=[x])
   (h:∀w' s',Inv X pins σ (upd H a (.dK (dropK kvs k))) s'→RelV v w'→Q w' s'):wpAny (model X.prog X.w) A (call (.builtin "dict.pop") (.ref a::u::more)) Q E s:=by
 obtain⟨z,hd,vs,rel,dd⟩:=dk_of I.hok e
 obtain⟨w',hw,rw'⟩:=RelO.some_of (v:=v) (o:=valueAt vs k) (by rw[←l];exact rel.val k)
 have hp:(keyPart u).isSome=true:=by
   cases k with
   | inl i=>obtain⟨t,q⟩:=(show ∃t,u=Value.int i t from ry);subst q;rfl
   | inr x=>obtain⟨t,q⟩:=(show ∃t,u=Value.str x t from ry);subst q;rfl
 have ha:argsOk "dict.pop" ⟨.ref a::u::more,[]⟩:=by
   rcases hm with q | ⟨x,q⟩
   · subst q;exact PySem.F.args_dict_pop_2 _ _
   · subst q;exact PySem.F.args_dict_pop_3 _ _ _
 refine call_meetsIn PySem.F.slot_dict_pop dd.typeIs PySem.F.entry_dict_pop ha (meets_dict_pop_there (mixKind X.prog X.w) a (kV_is ry) more hm hp)
   ⟨vs,w',dd,by rw[←rel.length];exact z,hw,fun h' dd' hs=>h w' _ ?_ rw'⟩
 have he:∃q,h'.get? a=some q:=let ⟨q,_,_,hq,_⟩:=dd';⟨q,hq⟩
 exact d_write I (by rw[e];exact True.intro) hs he (dk_new (Nat.le_trans (dropK_le kvs k) z) hd (rel.drop k) dd')
theorem d_clear {Q:Value→Shared→Prop}(I:Inv X pins σ H s)(e:H a=some (.dK kvs))(h:∀s',Inv X pins σ (upd H a (.dK [])) s'→Q .none s'):wpAny (model X.prog X.w) A (call (.builtin "dict.clear") [.ref a]) Q E s:=by
 obtain⟨z,hd,vs,rel,dd⟩:=dk_of I.hok e
 refine call_meetsIn PySem.F.slot_dict_clear dd.typeIs PySem.F.entry_dict_clear (PySem.F.args_dict_clear_1 _) (meets_dict_clear (mixKind X.prog X.w) a) ⟨vs,dd,by rw[←rel.length];exact z,fun h' dd' hs=>h _ ?_⟩
 have he:∃q,h'.get? a=some q:=let ⟨q,_,_,hq,_⟩:=dd';⟨q,hq⟩
 exact d_write (t':=s.toks) I (by rw[e];exact True.intro) hs he (dk_new (Nat.zero_le _) hd .nil dd')
theorem d_len {Q:Value→Shared→Prop}(I:Inv X pins σ H s)(e:Rd H a (.dK kvs))(h:∀t s',Inv X pins σ H s'→Q (.int kvs.length t) s'):wpAny (model X.prog X.w) A (call (.builtin "len") [.ref a]) Q E s:=by
 obtain⟨z,hd,vs,rel,dd⟩:=dk_rd I.hok e
 refine call_len_dict hd dd (by rw[←rel.length];rw[sizeLine_eq] at z;omega) ?_
 rw[←rel.length]
 exact h _ _ (I.tok _)
theorem d_truth {Q:Bool→Shared→Prop}(I:Inv X pins σ H s)(e:Rd H a (.dK kvs))(h:∀s',Inv X pins σ H s'→Q (!kvs.isEmpty) s'):wpAny (model X.prog X.w) A (truthy (.ref a)) Q E s:=by
 obtain⟨z,hd,vs,rel,dd⟩:=dk_rd I.hok e
 refine wpAny_truthy_dict hd dd (by rw[←rel.length];rw[sizeLine_eq] at z;omega) ?_
 have q:kvs.isEmpty=vs.isEmpty:=by cases rel <;> rfl
 rw[←q]
 exact h _ (I.tok _)
end
def NoSl (i:Expr):Prop:=∀ov iv,subscripted i false ov iv=operate [ov,iv] (getItem ov iv)
theorem subD_of {prog:Program}{w:World}{A:Around}{E:Value→Shared→Prop}{s:Shared}{env:Env}{value slice:Expr}{pos:Pos}{T id:String}{Q:Value→Shared→Prop}
   (hl:typeLookup (.type T) "__getitem__"=pure (some (.builtin id))) (hs:NoSl slice)
   (h:wpAny (model prog w) A (eval value env) (fun o s₁=>wpAny (model prog w) A (eval slice env) (fun i s₂=>s₂.TypeIs o T∧wpAny (model prog w) A (getItem o i) Q E s₂) E s₁) E s) :
   wpAny (model prog w) A (eval (.Subscript value slice pos) env) Q E s:=by
 refine Subscript_ (wpAny_mono h (fun o s₁ h₁=>wpAny_mono h₁ (fun i s₂ h₂=>?_) fun _ _ x=>x) fun _ _ x=>x)
 obtain⟨hT,h₂⟩:=h₂
 unfold subscriptTail
 refine wpAny_bind ?_
 rw[getitemInPython_of_ne hT.not_modules]
 refine wpAny_bind (wpAny_specialOf hT hl ?_)
 have fin:wpAny (model prog w) A (subscripted slice false o i) (fun r s₃=>wpAny (model prog w) A (letTemporaryGo value o r >>= fun _=>pure r) Q E s₃) E s₂:=by
   rw[hs o i]
   exact wpAny_operating (wpAny_mono h₂ (fun r s₃ h₃=>wpAny_bind (wpAny_letTemporaryGo (wpAny_pure h₃))) fun _ _ x=>x)
 first
   | exact wpAny_pure (wpAny_bind fin)
   | exact wpAny_bind (wpAny_pure (wpAny_bind fin))
   | exact wpAny_bind fin
theorem dict_typeIs {X:Cx}{pins:List (Addr×Obj)}{σ:St}{H:Hp}{s:Shared}{a:Addr}{y:V}{o:Option V}(I:Inv X pins σ H s)(g:DGet H a y o):s.TypeIs (.ref a) "dict":=by
 rcases g with ⟨kvs,k,e,_,_⟩ | ⟨kvs,k,b,e,_,_,_⟩
 · obtain⟨_,_,vs,_,dd⟩:=dk_rd I.hok e
   exact dd.typeIs
 · obtain⟨_,_,xs,_,dd⟩:=dt_rd I.hok e
   exact dd.typeIs
def tDGet (td ty:TE):TE:=fun σ H Q=>td σ H fun x H1=>ty σ H1 fun y H2=>∃a v,x = .ref a∧DGet H2 a y (some v)∧Q v H2
def tDIn (ty td:TE):TE:=fun σ H Q=>ty σ H fun y H1=>td σ H1 fun x H2=>∃a o,x = .ref a∧DGet H2 a y o∧Q (.bl o.isSome) H2
def sDPut (td ty tv:TE):TS:=fun D σ H=>tv σ H fun v H1=>td σ H1 fun x H2=>ty σ H2 fun y H3=>∃a H4,x = .ref a∧DPut H3 a y v H4∧D.nx σ H4
section
variable {X:Cx}{o i e value:Expr}{pos pos' tpos:Pos}{td ty tv:TE}
theorem pe_dget (hu:X.A.units+1<cLine)(ho:PE X o td)(hi:PE X i ty)(hs:NoSl i):PE X (.Subscript o i pos) (tDGet td ty):=by
 intro pins s σ H Q I h
 refine subD_of PySem.F.slot_dict_getitem.lookup hs (thn (ho pins s σ H _ I h) fun u s1 ⟨x,H1,I1,rx,q1⟩=>thn (hi pins s1 σ H1 _ I1 q1) fun iv s2 ⟨y,H2,I2,ry,a,v,ex,g,q2⟩=>?_)
 subst ex
 obtain rfl:u=Value.ref a:=rx
 exact⟨dict_typeIs I2 g,d_getItem hu I2 g ry fun w' s3 I3 rw'=>⟨v,H2,I3,rw',q2⟩⟩
theorem pc_din (hu:X.A.units+1<cLine)(hi:PE X i ty)(ho:PE X o td):PC X .In i o (tDIn ty td):=by
 intro pins s σ H Q I h
 refine thn (hi pins s σ H _ I h) fun iv s1 ⟨y,H1,I1,ry,q1⟩=>thn (ho pins s1 σ H1 _ I1 q1) fun u s2 ⟨x,H2,I2,rx,a,ov,ex,g,q2⟩=>?_
 subst ex
 obtain rfl:u=Value.ref a:=rx
 exact d_in hu I2 g ry fun s3 I3=>⟨.bl ov.isSome,H2,I3,rfl,q2⟩
theorem ps_dput (hu:X.A.units+1<cLine)(ho:PE X o td)(hi:PE X i ty)(hv:PE X value tv)(hs:swapsWith value (some (.Subscript o i pos')) pos.line X.env=pure false) :
   PS X (.Assign [.Subscript o i pos'] value pos) (sDPut td ty tv):=by
 intro pins s σ H D I h
 refine wpAny_Assign_Subscript (thn (hv pins s σ H _ I h) fun r s1 ⟨v,H1,I1,rv,q1⟩=>thn (ho pins s1 σ H1 _ I1 q1) fun u s2 ⟨x,H2,I2,rx,q2⟩=>thn (hi pins s2 σ H2 _ I2 q2) fun iv s3 ⟨y,H3,I3,ry,a,H4,ex,g,q3⟩=>?_) hs
 subst ex
 obtain rfl:u=Value.ref a:=rx
 exact d_setItem hu I3 g ry rv fun s4 I4=>⟨σ,H4,I4,q3⟩
end
theorem dk_empty {P:Program}{w:World}{H:Hp}(h:Heap)(hb:sysModules<h.objs.size):ObjOk P w H (h.push { cls:=.type "dict",data:=.dict #[] }) h.objs.size (.dK []) :=
 ⟨Nat.zero_le _,beq_eq_false_iff_ne.mpr (Ne.symm (Nat.ne_of_lt hb)),[],.nil,Heap.DictOf.new h⟩
def tDNewK:TE:=fun _ H Q=>∀p,H p=none→Q (.ref p) (upd H p (.dK []))
section
variable {X:Cx}{pos:Pos}
theorem pe_dnewK:PE X (.Dict [] [] pos) tDNewK:=fun pins s σ H Q I h =>
 wpAny_Dict_empty ⟨.ref s.heap.objs.size,_,I.laid (a:=s.heap.objs.size) (o:=.dK []) (t':=s.toks) (fun _ _ q=>Heap.get?_push_of_some _ q) (Nat.le_refl _) (dk_empty s.heap I.big),rfl,h _ (I.hok.fresh (Nat.le_refl _))⟩
end
structure M1 (X:Cx)(o:Expr)(m:Str)(apos:Pos)(e:Expr)(cpos:Pos):Prop where
 base:attributeBase o m X.env (eval o X.env)=eval o X.env
 few:((backTo cpos (starEach [e] X.env)).all (fun x=>!x.1)&&(backToKw cpos (keywordEach [] X.env)).all (fun x=>x.1.isSome)
   && decide (([e]:List Expr).length+([]:List Keyword).length+(if ([]:List Keyword).isEmpty then 0 else 1)<30))=true
 line:(apos.endLine==cpos.line)=true
 trees:backTo cpos (starEach [e] X.env)=[(false,eval e X.env)]
structure M2 (X:Cx)(o:Expr)(m:Str)(apos:Pos)(e f:Expr)(cpos:Pos):Prop where
 base:attributeBase o m X.env (eval o X.env)=eval o X.env
 few:((backTo cpos (starEach [e,f] X.env)).all (fun x=>!x.1)&&(backToKw cpos (keywordEach [] X.env)).all (fun x=>x.1.isSome)
   && decide (([e,f]:List Expr).length+([]:List Keyword).length+(if ([]:List Keyword).isEmpty then 0 else 1)<30))=true
 line:(apos.endLine==cpos.line)=true
 trees:backTo cpos (starEach [e,f] X.env)=[(false,eval e X.env),(false,eval f X.env)]
def IsD (H:Hp)(a:Addr):Prop:=(∃kvs,Rd H a (.dK kvs))∨∃kvs,Rd H a (.dT kvs)
theorem isD_at {X:Cx}{pins:List (Addr×Obj)}{σ:St}{H:Hp}{s:Shared}{a:Addr}(I:Inv X pins σ H s)(d:IsD H a) :
   s.TypeIs (.ref a) "dict"∧(∀b,Value.ref a = .ref b→∃ob,s.heap.get? b=some ob∧ob.dict=none)∧(a==sysModules)=false:=by
 rcases d with ⟨kvs,e⟩ | ⟨kvs,e⟩
 · obtain⟨_,hd,vs,_,dd⟩:=dk_rd I.hok e
   refine⟨dd.typeIs,fun b q=>?_,hd⟩
   cases q
   obtain⟨ob,_,_,h1,h2,_⟩:=dd
   exact⟨ob,h1,h2.2.1⟩
 · obtain⟨_,hd,xs,_,dd⟩:=dt_rd I.hok e
   refine⟨dd.typeIs,fun b q=>?_,hd⟩
   cases q
   obtain⟨ob,_,_,h1,h2,_⟩:=dd
   exact⟨ob,h1,h2.2.1⟩
section
variable {X:Cx}{pins:List (Addr×Obj)}{σ:St}{H:Hp}{s:Shared}{a:Addr}{y d:V}{u r:Value}{o:Option V}{A:Around}{E:Value→Shared→Prop}
end
def tDPop1 (td ty:TE):TE:=fun σ H Q=>td σ H fun x H1=>∃a,x = .ref a∧IsD H1 a∧ty σ H1 fun y H2=>∃kvs k v,H2 a=some (.dK kvs)∧y=kV k∧valV kvs k=some v∧Q v (upd H2 a (.dK (dropK kvs k)))
section
variable {X:Cx}{o e f:Expr}{apos cpos:Pos}{td ty tx:TE}
theorem pe_dpop1 (ho:PE X o td)(he:PE X e ty)(m:M1 X o "pop" apos e cpos):PE X (.Call (.Attribute o "pop" apos) [e] [] cpos) (tDPop1 td ty):=by
 intro pins s σ H Q I h
 refine wpAny_Call_method m.base m.few m.line PySem.F.plainAttrs_dict PySem.F.slot_dict_pop PySem.F.type_dict_pop (thn (ho pins s σ H _ I h) fun u s1 ⟨x,H1,I1,rx,a,ex,d,q1⟩=>?_)
 subst ex
 obtain rfl:u=Value.ref a:=rx
 obtain⟨t1,t2,_⟩:=isD_at I1 d
 refine⟨t1,t2,?_⟩
 rw[m.trees]
 refine Calls.callWith_builtin rfl (Calls.evalArgs_plain (Calls.spliced_cons (thn (he pins s1 σ H1 _ I1 q1) fun iv s2 ⟨y,H2,I2,ry,kvs,k,v,ea,ey,l,q2⟩=>Calls.spliced_nil ?_)))
 subst ey
 exact d_pop I2 ea ry l (.inl rfl) fun w' s3 I3 rw'=>⟨v,_,I3,rw',q2⟩
end
section
variable {X:Cx}{pins:List (Addr×Obj)}{σ:St}{H:Hp}{s:Shared}{a:Addr}{kvs:List (Key×V)}{A:Around}{E:Value→Shared→Prop}
end
section
variable {X:Cx}{pins:List (Addr×Obj)}{σ:St}{H:Hp}{s:Shared}{a:Addr}{y:V}{u:Value}{A:Around}{E:Value→Shared→Prop}
end
end L2
namespace L2
open PySem PySem.Spec PyProof.Rows
section
variable {X:Cx}
theorem call_lenD:CallR X (.builtin "len") (fun xs H Q=>∃a kvs,xs=[V.ref a]∧H a=some (.dK kvs)∧Q (.int kvs.length) H):=by
 intro pins s σ H xs us Q I r h
 obtain⟨a,kvs,rfl,ha,q⟩:=h
 obtain⟨u,rfl,ru⟩:=vals1 r
 cases ru
 exact d_len I (.inl ha) fun t s' I'=>⟨.int kvs.length,H,I',⟨t,rfl⟩,q⟩
end
section
variable {κ:Type}[DecidableEq κ]
theorem valV_not {kvs:List (κ×V)}{k:κ}(h:valV kvs k=none):¬k∈kvs.map (·.1):=by
 intro m
 obtain⟨p,hp,e⟩:=List.mem_map.mp m
 have q:(kvs.any fun kv=>decide (kv.1=k))=true:=List.any_eq_true.mpr ⟨p,hp,decide_eq_true e⟩
 rw[valV_any,h] at q
 exact absurd q (by simp)
theorem nd_snoc:∀{l:List κ} {k:κ},l.Nodup→¬k∈l→(l++[k]).Nodup
 | [],k,_,_=>by simp
 | a::r,k,h,hk=>by
   obtain⟨h1,h2⟩:=List.nodup_cons.mp h
   show (a::(r++[k])).Nodup
   refine List.nodup_cons.mpr ⟨fun m=>?_,nd_snoc h2 fun m=>hk (List.mem_cons.mpr (Or.inr m))⟩
   rcases List.mem_append.mp m with q | q
   · exact h1 q
   · exact hk (List.mem_cons.mpr (Or.inl (List.mem_singleton.mp q).symm))
theorem nd_putK {kvs:List (κ×V)}{k:κ}(v:V)(hn:(kvs.map (·.1)).Nodup)(h:valV kvs k=none):((putK kvs k v).map (·.1)).Nodup:=by
 rw[putK_new v h,List.map_append]
 exact nd_snoc hn (valV_not h)
theorem dropK_pos {p:κ×V}{r:List (κ×V)}{k:κ}(e:p.1=k):dropK (p::r) k=dropK r k:=by
 unfold dropK
 rw[List.filter_cons,if_neg (by simp [e])]
theorem dropK_neg {p:κ×V}{r:List (κ×V)}{k:κ}(e:¬p.1=k):dropK (p::r) k=p::dropK r k:=by
 unfold dropK
 rw[List.filter_cons,if_pos (by simp [e])]
theorem dropK_mem {kvs:List (κ×V)}{k:κ}{p:κ×V}(h:p∈dropK kvs k):p∈kvs:=(List.mem_filter.mp h).1
theorem nd_dropK:∀{kvs:List (κ×V)} {k:κ},(kvs.map (·.1)).Nodup→((dropK kvs k).map (·.1)).Nodup
 | [],_,_=>List.nodup_nil
 | p::r,k,h=>by
   have h:(p.1::r.map (·.1)).Nodup:=h
   obtain⟨h1,h2⟩:=List.nodup_cons.mp h
   by_cases e:p.1=k
   · rw[dropK_pos e]
     exact nd_dropK h2
   · rw[dropK_neg e]
     show (p.1::(dropK r k).map (·.1)).Nodup
     refine List.nodup_cons.mpr ⟨fun m=>h1 ?_,nd_dropK h2⟩
     obtain⟨q,hq,eq⟩:=List.mem_map.mp m
     exact List.mem_map.mpr ⟨q,dropK_mem hq,eq⟩
end
end L2
set_option Elab.async false
set_option linter.all false
set_option maxRecDepth 100000
set_option maxHeartbeats 4000000
namespace Stow
open PySem L2 PyProof.Rows
def CShl (i j:Int):Prop:=0≤j∧j≤1000∧i.natAbs<2^220
section
variable {X:Cx}
theorem op_shlB:OpR X (binaryOp .LShift) (rI CShl fun i j=>.int (i*2^j.toNat)):=opI fun i j _ _ _ _ _ hc q =>
 lshift_int hc.1 (by
   obtain⟨h0,h1,h2⟩:=hc
   have:=PyProof.Rows.intBits_le h2
   omega) q
end
theorem bitOr_one (n:Int):Builtin.bitOr (n*2) 1=n*2+1:=by
 rw[PyProof.Rows.bitOr_and]
 have e:Builtin.bitAnd (n*2) 1=(n*2)%2:=by rw[bitAnd_m1]
 rw[e]
 omega
end Stow
set_option Elab.async false
set_option linter.all false
set_option maxRecDepth 100000
set_option maxHeartbeats 4000000
namespace Stow
open PySem L2 PyProof.Rows
section
variable {prog:Program}{w:World}{A:Around}{R:Result→Shared→Prop}{s:Shared}
theorem comp_turns {elt tgt src:Expr}{cs:List Expr}{sc:Scope}{ps:Pos}{itv accv:Value}{ev:Env}(J:Nat→Shared→Prop)
   (step:∀k t,J k t→wpAny (model prog w) A (pyNext itv) (fun r t1=>match r with
     | none=>R (.ok .next) t1
     | some x=>wpAny (model prog w) A (letOwnedTupleGo tgt itv x) (fun _ t2=>wpAny (model prog w) A (assign tgt ev x) (fun _ t3 =>
         wpAny (model prog w) A (forIn cs true fun c r=>if r=true then do let ok ←isTrue c ev (eval c ev);pure (ForInStep.yield ok) else pure (ForInStep.yield r)) (fun good t4 =>
           if good=true then wpAny (model prog w) A (eval elt ev) (fun y t5=>wpAny (model prog w) A (call (.builtin "list.append") [accv,y]) (fun _ t6=>∃j,j<k∧J j t6) (notedBy (model prog w) A ev fun e t'=>R (.error e) t') t5) (notedBy (model prog w) A ev fun e t'=>R (.error e) t') t4
           else ∃j,j<k∧J j t4) (notedBy (model prog w) A ev fun e t'=>R (.error e) t') t3) (notedBy (model prog w) A ev fun e t'=>R (.error e) t') t2) (notedBy (model prog w) A ev fun e t'=>R (.error e) t') t1) (notedBy (model prog w) A ev fun e t'=>R (.error e) t') t)
   (k0:Nat) (j0:J k0 s):codeAny (model prog w) A (.compLoop (.ListComp elt [⟨tgt,src,cs,0⟩] sc ps) 0 itv accv ev) R s:=by
 refine codeAny_loop rfl J (fun k t hJ=>?_) k0 j0
 show wpAny _ A ((compTurn (.ListComp elt [⟨tgt,src,cs,0⟩] sc ps) 0 itv accv ev).onRaise (fun x=>do noteFrame x ev;theTreesLotGoes x)) _ _ t
 refine wpAny_noted ?_
 rw[compTurn_list]
 refine wpAny_bind (wpAny_standAt (wpAny_bind (wpAny_mono (step k t hJ) (fun r t1 g1=>?_) fun _ _ z=>z)))
 cases r with
 | none=>exact wpAny_pure g1
 | some x =>
   refine wpAny_bind (wpAny_mono g1 (fun _ t2 g2=>?_) fun _ _ z=>z)
   refine wpAny_bind (wpAny_mono g2 (fun _ t3 g3=>?_) fun _ _ z=>z)
   refine wpAny_bind (wpAny_mono g3 (fun good t4 g4=>?_) fun _ _ z=>z)
   cases good with
   | false=>exact wpAny_pure ⟨rfl,g4⟩
   | true=>exact wpAny_bind (wpAny_bind (wpAny_mono g4 (fun y t5 g5=>wpAny_bind (wpAny_mono g5 (fun _ t6 g6=>wpAny_pure (wpAny_pure ⟨rfl,g6⟩)) fun _ _ z=>z)) fun _ _ z=>z))
end
theorem closure_go {env:Env}:∀(names:List (Str×NameKind)) (acc:List (Str×Addr)),(∀y∈names,y.2 = .free→∃c,env.cells.lookup y.1=some c)→(∀x c,acc.lookup x=some c→env.cells.lookup x=some c) →
   ∃cl,(forIn names acc fun x r=>(do let (name,kind):=x;if (kind==NameKind.free)=true then do let c ←cellOf env name;pure (ForInStep.yield ((name,c)::r)) else pure (ForInStep.yield r)):Sem (List (Str×Addr)))=pure cl ∧
     (∀x c,cl.lookup x=some c→env.cells.lookup x=some c)∧(∀y∈names,y.2 = .free→∃c,cl.lookup y.1=some c)∧(∀x c,acc.lookup x=some c→∃c',cl.lookup x=some c')
 | [],acc,_,ha=>⟨acc,by simp,ha,fun y hy=>by simp at hy,fun x c e=>⟨c,e⟩⟩
 | (n,k)::r,acc,h,ha=>by
   by_cases hk:k = .free
   · obtain⟨c,hc⟩:=h (n,k) List.mem_cons_self hk
     obtain⟨cl,e1,e2,e3,e4⟩:=closure_go r ((n,c)::acc) (fun y hy=>h y (List.mem_cons_of_mem _ hy)) (fun x d e=>by
       by_cases hx:x=n
       · subst hx
         rw[List.lookup_cons_self] at e
         cases e
         exact hc
       · rw[List.lookup_cons,show (x==n)=false by simpa using hx] at e
         exact ha x d e)
     refine⟨cl,?_,e2,fun y hy hf=>?_,fun x d e=>?_⟩
     · rw[List.forIn_cons]
       subst hk
       have ec:cellOf env n=pure c:=by unfold cellOf;rw[hc]
       simp only [beq_self_eq_true,if_true,ec,pure_bind]
       exact e1
     · rcases List.mem_cons.mp hy with z | z
       · subst z
         exact e4 n c (by rw[List.lookup_cons_self])
       · exact e3 y z hf
     · by_cases hx:x=n
       · subst hx
         exact e4 x c (by rw[List.lookup_cons_self])
       · exact e4 x d (by rw[List.lookup_cons,show (x==n)=false by simpa using hx];exact e)
   · obtain⟨cl,e1,e2,e3,e4⟩:=closure_go r acc (fun y hy=>h y (List.mem_cons_of_mem _ hy)) ha
     refine⟨cl,?_,e2,fun y hy hf=>?_,e4⟩
     · rw[List.forIn_cons]
       have:(k==NameKind.free)=false:=by simpa using hk
       simp only [this,Bool.false_eq_true,if_false,pure_bind]
       exact e1
     · rcases List.mem_cons.mp hy with z | z
       · subst z
         exact absurd hf hk
       · exact e3 y z hf
theorem closure_ok {scope:Scope}{env:Env}(h:∀y∈scope.names,y.2 = .free→∃c,env.cells.lookup y.1=some c) :
   ∃cl,closureFor scope env=pure cl∧(∀x c,cl.lookup x=some c→env.cells.lookup x=some c)∧(∀y∈scope.names,y.2 = .free→∃c,cl.lookup y.1=some c):=by
 obtain⟨cl,e1,e2,e3,_⟩:=closure_go scope.names [] h (fun x c e=>by simp at e)
 refine⟨cl,?_,e2,e3⟩
 unfold closureFor
 simp only [bind_pure] at *
 exact e1
section
variable {X:Cx}
abbrev Cx.blockG (X:Cx)(scope:Scope)(cl:List (Str×Addr))(C:Addr)(N:List Str)(s₀:Shared)(H₀:Hp)(ex:List Addr):Cx :=
 { X with N:=N,s₀:=s₀,H₀:=H₀,env:=compEnvC scope cl C X.env,outer:=X.stack,stack:=X.stack,ex:=ex,fn:=fun _=>false,pn:=[],xe:=fun _ _=>False }
theorem blockG_cx {pins:List (Addr×Obj)}{σ:L2.St}{H:Hp}{s:Shared}{scope:Scope}{cl:List (Str×Addr)}{C:Addr}{N:List Str}{fp:List Addr}(I:Inv X pins σ H s)(hk:scope.kind = .function)(hC:s.heap.objs.size≤C)
   (hcl:∀x c,cl.lookup x=some c→X.env.cells.lookup x=some c) (hhas:∀y,(relabel scope X.env).names.lookup y=some .cell∨(relabel scope X.env).names.lookup y=some .free→∃c,cl.lookup y=some c)
   (ho:∀b∈fp,∃o,s.heap.get? b=some o∧∀v,o.data≠.cell v) (hf:∀b∈fp,FpOk X pins H b) :
   (Cx.blockG X scope cl C N s H fp).Ok where
 mod:=I.ok.mod
 kind:=hk
 glob:=I.ok.glob
 blt:=I.ok.blt
 above:=hC
 inj:=fun x y c e1 e2=>I.ok.inj x y c (hcl x c e1) (hcl y c e2)
 has:=fun y e=>hhas y e
 cab:=fun _ _ e=>nomatch e
 hd:=I.ok.hd
 frames:=I.ok.frames
 stk:=.inl rfl
 exf:=fun b hb=>⟨fun z=>by
   obtain⟨o,e,_⟩:=ho b hb
   have:=Nat.lt_of_lt_of_le (Heap.lt_size e) hC
   rw[z] at this
   exact Nat.lt_irrefl _ this,fun x c e=>(hf b hb).2.2.2.2.1 x c (hcl x c e)⟩
 bs:=I.bs
 bsz:=Nat.le_trans I.ok.bsz I.sz
 noex:=fun b o e hb=>by
   rcases(hf b hb).2.2.2.1 with z | z
   · exact I.ok.noex b o e z
   · exact absurd (Nat.lt_of_lt_of_le (Heap.lt_size (I.ok.bs b o e).1) z) (Nat.lt_irrefl _)
 exfs:=fun b hb z=>by
   rcases List.mem_cons.mp (I.stkSub b z) with e | e
   · exact(hf b hb).2.1 e
   · exact(hf b hb).2.2.1 e
 funs:=I.stack
 frf:=I.stkFree
def CompH (n:Nat)(fs:L2.St)(J:It)(g:TG)(tt:TT)(te:TE)(Q:VK)(H1:Hp):Prop:=∀D,H1 D=none→∃W:Nat→Nat→List V→Hp→Prop,(∃m,W 0 m [] (upd H1 D (.lst [])))∧∀i m ys H2,W i m ys H2 →
 (J.stop i H2∧Q (.ref D) H2)∨(J.go i H2∧∀x H3,J.yld i H2 x H3→∀τ:L2.St,τ.length=n→g x (τ++fs) H3 fun σ1 H4=>(∃τ':L2.St,τ'.length=n∧σ1=τ'++fs)∧tt σ1 H4 fun b H5 =>
   if b=true then te σ1 H5 fun y H6=>H6 D=some (.lst ys)∧ys.length<sizeLine∧∃m',m'<m∧W (i+1) m' (ys++[y]) (upd H6 D (.lst (ys++[y]))) else ∃m',m'<m∧W (i+1) m' ys H5)
def tCompG (n:Nat)(is:List Nat)(wi:TI)(g:TG)(tt:TT)(te:TE):TE:=fun σ H Q=>wi σ H fun J H1=>CompH n (is.map fun k=>σ.getD k none) J g tt te Q H1
def Caught (X:Cx)(scope:Scope)(F:List Str)(is:List Nat):Prop:=F.length=is.length∧∀(j:Nat) (y:Str) (k:Nat),F[j]?=some y→is[j]?=some k→X.N[k]?=some y∧X.env.kindOf y=some .cell∧(relabel scope X.env).names.lookup y=some .cell
theorem comp_blockG {elt iter tg:Expr}{pos:Pos}{ifs:List Expr}{scope:Scope}{O F:List Str}{is:List Nat}{cl:List (Str×Addr)}{g:TG}{tt:TT}{te:TE}{pins:List (Addr×Obj)}{σ:L2.St}{s2:Shared}{H2:Hp}{it:Addr}{fp:List Addr}{tn:Nat→Heap→Prop}{J:It}{Q:VK}{RR:Value→Addr→Result→Shared→Prop}
   (hc:X.calm=true) (hkind:scope.kind = .function) (hcell:∀y∈scope.names,y.2≠.cell)
   (hcl:∀x c,cl.lookup x=some c→X.env.cells.lookup x=some c) (hhas:∀y,(relabel scope X.env).names.lookup y=some .cell∨(relabel scope X.env).names.lookup y=some .free→∃c,cl.lookup y=some c) (hF:Caught X scope F is)
   (hG:∀cl C s₀ H₀ ex,PG (Cx.blockG X scope cl C (O++F) s₀ H₀ ex) tg g) (hT:∀cl C s₀ H₀ ex,PTs (Cx.blockG X scope cl C (O++F) s₀ H₀ ex) ifs tt) (hE:∀cl C s₀ H₀ ex,PE (Cx.blockG X scope cl C (O++F) s₀ H₀ ex) elt te)
   (I2:Inv X pins σ H2 s2) (T:Turn X.prog X.w X.K tg J fp it tn) (st2:tn 0 s2.heap) (f2:∀b∈fp,FpOk X pins H2 b)
   (h:CompH O.length (is.map fun k=>σ.getD k none) J g tt te Q H2)
   (hRR:∀D C H' s',Inv X pins σ H' s'→FpOk X pins H' C→(∃m,s'.heap.Ns C m)→Q (.ref D) H'→RR (.ref D) C (.ok .next) s') :
   wpAny (model X.prog X.w) X.A (newList []) (fun acc s₃=>wpAny (model X.prog X.w) X.A (newFunctionEnv scope X.env.globals cl [] X.env.qual none .none (some X.env)) (fun cenv s₄ =>
     codeAny (model X.prog X.w) X.A (.compStart (.ListComp elt [⟨tg,iter,ifs,0⟩] scope pos) 0 (.ref it) acc { cenv with scope:=relabel scope X.env }) (RR acc cenv.locals) s₄) X.xe s₃) X.xe s2:=by
 refine wpAny_newObj_type (wpAny_newFunctionEnv hcell (by intro y hy;simp at hy) (fun h₁ hns₁ hsb₁=>?_) hkind)
 dsimp only at hns₁ hsb₁ ⊢
 generalize hG0:s2.heap.push { cls:=.type "list",dict:=none,data:=.seq ([]:List Value).toArray }=G at hns₁ hsb₁ ⊢
 have hCs:G.objs.size=s2.heap.objs.size+1:=by rw[←hG0,Heap.size_push]
 have hDC:s2.heap.objs.size≠G.objs.size:=by rw[hCs];exact Nat.ne_of_lt (Nat.lt_succ_self _)
 have hCle:s2.heap.objs.size≤G.objs.size:=by rw[hCs];exact Nat.le_succ _
 have old:∀b o,s2.heap.get? b=some o→h₁.get? b=some o:=fun b o e=>hsb₁.extBut b o (by rw[hCs];exact Nat.ne_of_lt (Nat.lt_succ_of_lt (Heap.lt_size e))) (Heap.get?_push_of_some _ (hG0▸Heap.get?_push_of_some _ e))
 have eD:h₁.get? s2.heap.objs.size=some { cls:=.type "list",dict:=none,data:=.seq ([]:List Value).toArray }:=hsb₁.extBut _ _ hDC (Heap.get?_push_of_some _ (hG0▸Heap.get?_push_size _ rfl))
 have nD:H2 s2.heap.objs.size=none:=I2.hok.fresh (Nat.le_refl _)
 have nC:H2 G.objs.size=none:=I2.hok.fresh hCle
 obtain⟨W,⟨m0,w0⟩,turn⟩:=h s2.heap.objs.size nD
 generalize efs:(is.map fun k=>σ.getD k none)=fs at turn
 have fre:∀b∈fp,upd H2 s2.heap.objs.size (.lst []) b=none:=fun b hb=>by
   obtain⟨o,e,_⟩:=T.obj _ _ st2 b hb
   rw[upd_ne (Nat.ne_of_lt (Heap.lt_size e))]
   exact(f2 b hb).1
 have loop:∀s4:Shared,s4={ s2 with heap:=h₁,toks:=s2.toks+([]:List (Str×Value)).length } →
     codeAny (model X.prog X.w) X.A (.compLoop (.ListComp elt [⟨tg,iter,ifs,0⟩] scope pos) 0 (.ref it) (.ref s2.heap.objs.size) (compEnvC scope cl G.objs.size X.env)) (RR (.ref s2.heap.objs.size) G.objs.size) s4:=by
   rintro s4 rfl
   have ok:=blockG_cx (N:=O++F) I2 hkind hCle hcl hhas (T.obj _ _ st2) f2
   have IB:Inv (Cx.blockG X scope cl G.objs.size (O++F) s2 H2 fp) [] (List.replicate O.length none++fs) (upd H2 s2.heap.objs.size (.lst [])) { s2 with heap:=h₁,toks:=s2.toks+([]:List (Str×Value)).length }:=by
     refine⟨ok,rfl,I2.bare,Un.laid old (Nat.le_refl _) nD,⟨_,hns₁,fun i y v e1 e2 _=>?_⟩,(fun x c e=>?_),?_,(fun x c e=>?_),(fun p hp=>nomatch hp),I2.hok.laid old (Nat.le_refl _) ⟨Nat.zero_le _,[],0,.nil,eD⟩,?_⟩
     · have e1:(O++F)[i]?=some y:=e1
       by_cases hi:i<O.length
       · rw[List.getElem?_append_left (by rw[List.length_replicate];exact hi),List.getElem?_replicate,if_pos hi] at e2
         cases e2
       · rw[List.getElem?_append_right (by omega)] at e1
         rw[List.getElem?_append_right (by rw[List.length_replicate];omega),List.length_replicate,←efs,List.getElem?_map] at e2
         obtain⟨k,ek,ev⟩:=Option.map_eq_some_iff.mp e2
         obtain⟨g1,g2,g3⟩:=hF.2 _ _ _ e1 ek
         have es:σ[k]?=some (some v):=by
           rw[List.getD_eq_getElem?_getD] at ev
           cases q:σ[k]? with
           | none=>rw[q] at ev;cases ev
           | some z=>rw[q] at ev;exact congrArg some ev
         obtain⟨m,hm,hl⟩:=I2.loc
         obtain⟨u,ru,lk⟩:=hl k y v g1 es (.inr (.inl g2))
         refine⟨u,ru,.inr ⟨.inl g3,?_⟩⟩
         rcases lk with ⟨z,_⟩ | ⟨_,c,c1,o,c2,c3⟩
         · rw[g2] at z;cases z
         · obtain⟨c',e'⟩:=hhas y (.inl g3)
           have:=hcl y c' e'
           rw[c1] at this
           cases this
           exact⟨c,e',o,old c o c2,c3⟩
     · obtain⟨v,o,c2,c3⟩:=I2.cell x c (hcl x c e)
       exact⟨v,o,old c o c2,c3⟩
     · show upd H2 s2.heap.objs.size (.lst []) G.objs.size=none
       rw[upd_ne (Ne.symm hDC)]
       exact nC
     · obtain⟨v,o,c2,c3⟩:=I2.cell x c (hcl x c e)
       show upd H2 s2.heap.objs.size (.lst []) c=none
       rw[upd_ne (Nat.ne_of_lt (Heap.lt_size c2))]
       exact I2.freeC x c (hcl x c e)
     · show (List.replicate O.length none++fs).length=(O++F).length
       rw[List.length_append,List.length_append,List.length_replicate,←efs,List.length_map,hF.1]
   have stat:∀{H':Hp},(∀b∈fp,H' b=none)→∀b∈fp,FpOk (Cx.blockG X scope cl G.objs.size (O++F) s2 H2 fp) [] H' b:=fun hn b hb =>
     ⟨hn b hb,(ok.exf b hb).1,ok.exfs b hb,.inl hb,(ok.exf b hb).2,(fun p hp=>nomatch hp)⟩
   refine comp_turns (fun n s'=>∃i ys τ H',Inv (Cx.blockG X scope cl G.objs.size (O++F) s2 H2 fp) [] (τ++fs) H' s'∧τ.length=O.length∧tn i s'.heap∧(∀b∈fp,H' b=none)∧W i n ys H') ?_ m0
     ⟨0,[],_,_,IB,List.length_replicate,T.keep _ _ _ st2 fun b _ o e=>old b o e,fre,w0⟩
   rintro n s3 ⟨i,ys,τ,H3,I3,hτ,st3,fr3,w3⟩
   rcases turn i n ys H3 w3 with ⟨stop,q⟩ | ⟨go,step⟩
   · refine wpAny_mono (T.done (Cx.blockG X scope cl G.objs.size (O++F) s2 H2 fp) rfl rfl rfl hc i [] s3 (τ++fs) H3 (fun _ _=>False) I3 (stat fr3) st3 stop) (fun r s4 ⟨hr,I4⟩=>?_) (fun _ _ z=>z.elim)
     subst hr
     obtain⟨m,hn,_⟩:=I4.loc
     refine hRR _ G.objs.size H3 s4 (I2.call' (ch:=fp) I4.os I4.base I4.hok I4.bare fun b hb=>?_) (I2.fpOk hCle I4.free) ⟨m,hn⟩ q
     obtain⟨g0,g1,g2,g3,g4,g5⟩:=f2 b hb
     exact⟨g3,g1,g4,g5⟩
   · refine wpAny_mono (T.item (Cx.blockG X scope cl G.objs.size (O++F) s2 H2 fp) rfl rfl rfl hc i [] s3 (τ++fs) H3 (fun _ _=>False) I3 (stat fr3) st3 go) (fun r s4 ⟨u,hr,h4⟩=>?_) (fun _ _ z=>z.elim)
     subst hr
     refine wpAny_mono h4 (fun _ s5 ⟨v,H5,I5,r5,y5,st5,fr5⟩=>?_) (fun _ _ z=>z.elim)
     have I5':=I5.pinned (stat fr5) (T.obj _ _ st5)
     refine wpAny_mono (hG _ _ _ _ _ _ s5 (τ++fs) H5 v u _ I5' r5 (step v H5 y5 τ hτ)) (fun _ s6 ⟨σ6,H6,I6,⟨τ',hτ',e6⟩,q6⟩=>?_) (fun _ _ z=>z.elim)
     subst e6
     have again:∀{s7:Shared} {H7:Hp} {ys':List V} {m':Nat},Inv (Cx.blockG X scope cl G.objs.size (O++F) s2 H2 fp) ([]++pinsAt fp s5.heap) (τ'++fs) H7 s7→m'<n→W (i+1) m' ys' H7 →
         ∃m,m<n∧∃i ys τ H',Inv (Cx.blockG X scope cl G.objs.size (O++F) s2 H2 fp) [] (τ++fs) H' s7∧τ.length=O.length∧tn i s7.heap∧(∀b∈fp,H' b=none)∧W i m ys H':=fun {s7 H7 ys' m'} I7 hm w7=>by
       refine⟨m',hm,i+1,ys',τ',H7,I7.unpinned,hτ',T.keep _ _ _ st5 fun b hb o e=>(I7.pin (b,o) (List.mem_append_right _ (List.mem_append_right _ (mem_pinsAt hb e)))).1,fun b hb=>?_,w7⟩
       obtain⟨o,e,_⟩:=T.obj _ _ st5 b hb
       exact(I7.pin (b,o) (List.mem_append_right _ (List.mem_append_right _ (mem_pinsAt hb e)))).2.1
     refine wpAny_mono (hT _ _ _ _ _ _ s6 (τ'++fs) H6 _ I6 q6) (fun b s7 ⟨H7,I7,q7⟩=>?_) (fun _ _ z=>z.elim)
     cases b with
     | false =>
       obtain⟨m',hm,w7⟩:=q7
       exact again I7 hm w7
     | true =>
       rw[if_pos rfl]
       refine wpAny_mono (hE _ _ _ _ _ _ s7 (τ'++fs) H7 _ I7 q7) (fun y' s8 ⟨y,H8,I8,ry,hD,hz,m',hm,w8⟩=>?_) (fun _ _ z=>z.elim)
       refine wpAny_mono (mt_append (X:=Cx.blockG X scope cl G.objs.size (O++F) s2 H2 fp) _ s8 (τ'++fs) H8 (.ref s2.heap.objs.size) [y] (.ref s2.heap.objs.size) [y'] (fun _ H9=>H9=upd H8 s2.heap.objs.size (.lst (ys++[y]))) I8 rfl (.cons ry .nil) ⟨s2.heap.objs.size,ys,y,rfl,rfl,hD,hz,rfl⟩) (fun _ s9 ⟨_,H9,I9,_,e9⟩=>?_) (fun _ _ z=>z.elim)
       subst e9
       exact again I9 hm w8
 exact codeAny_compStart_list (loop _ rfl) (T.self _ 0 _ _ _ (T.keep _ _ _ st2 fun b _ o e=>old b o e) (loop _ rfl))
theorem pe_compG {elt iter tg:Expr}{pos:Pos}{ifs:List Expr}{scope:Scope}{wi:TI}{g:TG}{tt:TT}{te:TE}(O F:List Str)(is:List Nat)(hc:X.calm=true)(hi:PI X tg iter wi)
   (hG:∀cl C s₀ H₀ ex,PG (Cx.blockG X scope cl C (O++F) s₀ H₀ ex) tg g) (hT:∀cl C s₀ H₀ ex,PTs (Cx.blockG X scope cl C (O++F) s₀ H₀ ex) ifs tt) (hE:∀cl C s₀ H₀ ex,PE (Cx.blockG X scope cl C (O++F) s₀ H₀ ex) elt te)
   (hF:Caught X scope F is) (hfc:∀y∈scope.names,y.2 = .free→X.env.kindOf y.1=some .cell) (hrl:∀y,(relabel scope X.env).names.lookup y=some .cell∨(relabel scope X.env).names.lookup y=some .free→∃z∈scope.names,z.1=y∧z.2 = .free)
   (hkind:scope.kind = .function:=by rfl) (hcell:∀y∈scope.names,y.2≠.cell:=by decide +kernel)
   (hnames:∀y∈scope.names,y.2 = .local→scope.names.lookup y.1=some .local:=by decide +kernel) (hs:∀y,foldedSetIterable iter X.env y=pure y:=by intro _;rfl) :
   PE X (.ListComp elt [⟨tg,iter,ifs,0⟩] scope pos) (tCompG O.length is wi g tt te):=by
 intro pins s σ H Q I h
 rw[eval_ListComp]
 obtain⟨cl,hcf,hcl,hca⟩:=closure_ok (scope:=scope) (env:=X.env) fun y hy hf=>I.ok.has y.1 (.inl (hfc y hy hf))
 refine wpAny_comprehension_free (use:=none) (cl:=cl) rfl hs hcf hkind hnames (wpAny_mono (hi pins s σ H _ I h) (fun v s1 h1=>wpAny_mono h1 (fun itv s2 h2=>?_) fun _ _ e=>e) fun _ _ e=>e)
 obtain⟨it,fp,tn,J,H2,e,I2,T,st2,f2,R2⟩:=h2
 subst e
 refine comp_blockG (O:=O) (F:=F) (is:=is) (Q:=Q) (RR:=fun acc C=>compPost (model X.prog X.w) X.A X.xe none (EP X pins σ Q) acc C) hc hkind hcell hcl (fun y hy=>?_) hF hG hT hE I2 T st2 f2 R2 ?_
 · obtain⟨z,hz,e1,e2⟩:=hrl y hy
   subst e1
   exact hca z hz e2
 · rintro D C H' s' I' f' ⟨m,hn⟩ q
   obtain⟨f0,f1,f2',f3,f4,f5⟩:=f'
   refine⟨m,hn,fun h' sb=>⟨.ref D,H',I'.turned (t':=s'.toks) (fun b o hb e=>(sb.2 b hb).trans e) f0 f1 f3 f4 f5,rfl,q⟩⟩
theorem ps_setCompG {elt iter tg:Expr}{y:Str}{py pos spos:Pos}{ifs:List Expr}{scope:Scope}{wi:TI}{g:TG}{tt:TT}{te:TE}{i:Nat}(O F:List Str)(is:List Nat)(hN:X.N.Nodup)(hi0:X.N[i]?=some y)(hy:Loc X.env.scope y)(hc:X.calm=true)(hi:PI X tg iter wi)
   (hG:∀cl C s₀ H₀ ex,PG (Cx.blockG X scope cl C (O++F) s₀ H₀ ex) tg g) (hT:∀cl C s₀ H₀ ex,PTs (Cx.blockG X scope cl C (O++F) s₀ H₀ ex) ifs tt) (hE:∀cl C s₀ H₀ ex,PE (Cx.blockG X scope cl C (O++F) s₀ H₀ ex) elt te)
   (hF:Caught X scope F is) (hfc:∀y∈scope.names,y.2 = .free→X.env.kindOf y.1=some .cell) (hrl:∀y,(relabel scope X.env).names.lookup y=some .cell∨(relabel scope X.env).names.lookup y=some .free→∃z∈scope.names,z.1=y∧z.2 = .free)
   (hsw:swapsWith (.ListComp elt [⟨tg,iter,ifs,0⟩] scope pos) (some (.Name y py)) spos.line X.env=pure true:=by rfl)
   (hkind:scope.kind = .function:=by rfl) (hcell:∀y∈scope.names,y.2≠.cell:=by decide +kernel)
   (hnames:∀y∈scope.names,y.2 = .local→scope.names.lookup y.1=some .local:=by decide +kernel) (hs:∀y,foldedSetIterable iter X.env y=pure y:=by intro _;rfl)
   (hf:X.fn y=true∨X.env.scope.names.lookup y=some .local:=by first | exact .inl rfl | exact .inr rfl | assumption) :
   PS X (.Assign [.Name y py] (.ListComp elt [⟨tg,iter,ifs,0⟩] scope pos) spos) (tAsg (tCompG O.length is wi g tt te) (gName i)):=by
 intro pins s σ H D I h
 rw[exec_Assign_Name_used _ _ _ _ hsw]
 obtain⟨cl,hcf,hcl,hca⟩:=closure_ok (scope:=scope) (env:=X.env) fun y hy hf=>I.ok.has y.1 (.inl (hfc y hy hf))
 refine wpAny_bind (wpAny_standAt (wpAny_bind ?_))
 show wpAny _ X.A (do let _ ←comprehension (.ListComp elt [⟨tg,iter,ifs,0⟩] scope pos) scope X.env _ (newList []) false (eval iter X.env) (some (assign (.Name y py) X.env))) _ _ s
 refine wpAny_bind (wpAny_mono (wpAny_comprehension_free (use:=some (assign (.Name y py) X.env)) (cl:=cl) (Q:=fun _ s'=>SP X pins D .next s') rfl hs hcf hkind hnames
   (wpAny_mono (hi pins s σ H _ I h) (fun v s1 h1=>wpAny_mono h1 (fun itv s2 h2=>?_) fun _ _ e=>e) fun _ _ e=>e)) (fun _ s' hq=>wpAny_pure (wpAny_pure hq)) fun _ _ e=>e)
 obtain⟨it,fp,tn,J,H2,e,I2,T,st2,f2,R2⟩:=h2
 subst e
 refine comp_blockG (O:=O) (F:=F) (is:=is) (Q:=fun v H1=>gName i v σ H1 D.nx) (RR:=fun acc C=>compPost (model X.prog X.w) X.A X.xe (some (assign (.Name y py) X.env)) (fun _ s'=>SP X pins D .next s') acc C) hc hkind hcell hcl (fun y hy=>?_) hF hG hT hE I2 T st2 f2 R2 ?_
 · obtain⟨z,hz,e1,e2⟩:=hrl y hy
   subst e1
   exact hca z hz e2
 · rintro D' C H' s' I' f' ⟨m,hn⟩ q
   obtain⟨f0,f1,f2',f3,f4,f5⟩:=f'
   show wpAny _ X.A (assign (.Name y py) X.env (.ref D')) _ _ _
   refine wpAny_assign_Name (store_ok2 I' hN hi0 hy (v:=.ref D') rfl (fun s'' I'' ⟨a,sb,ha⟩=>?_) hf)
   have ne:C≠a:=by
     rcases ha with e | e
     · rw[e];exact f1
     · exact fun z=>f4 _ _ e z.symm
   exact⟨m,hn.sameBut sb ne,fun h' sb'=>⟨_,H',I''.turned (t':=s''.toks) (fun b o hb e=>(sb'.2 b hb).trans e) f0 f1 f3 f4 f5,q⟩⟩
theorem ix_tupK {K:PySem.W.Frag}(hK:X.K=K):IxR X (rIxT K):=hK▸ix_tup
theorem pg_tupK {K:PySem.W.Frag}{es:List Expr}{k:Nat}{t:TGs}{n:Nat}{pos:Pos}(hK:X.K=K)(hc:X.calm=true)(h:PGs X es t)
   (hn:(assignEach es X.env).length=n:=by rfl) (hst:(assignEach es X.env).findIdx? (·.1)=none:=by rfl):PG X (.Tuple es k pos) (gTup K n t):=hK▸pg_tup hc h hn hst
theorem pt_truthK {K:PySem.W.Frag}{a:Expr}{ta:TE}(hK:X.K=K)(ha:PE X a ta)(he:∀whole,isTrue a X.env whole=(do let v ←whole;standAt a.pos;holding [v] (truthy v))):PT X a (fun σ H Q=>ta σ H fun x H'=>∃k,TruV K x H' k∧Q k H'):=by
 subst hK
 exact pt_truth ha he
theorem relabel_free {scope:Scope}{env:Env}{y:Str}(hcell:∀z∈scope.names,z.2≠.cell)(h:(relabel scope env).names.lookup y=some .cell∨(relabel scope env).names.lookup y=some .free):∃z∈scope.names,z.1=y∧z.2 = .free:=by
 have key:∀(l:List (Str×NameKind)) (k:NameKind),l.lookup y=some k→(y,k)∈l:=by
   intro l k
   induction l with
   | nil=>intro e;cases e
   | cons p r ih =>
     intro e
     obtain⟨n,k'⟩:=p
     rw[List.lookup_cons] at e
     cases hb:y==n with
     | true =>
       rw[hb] at e
       cases e
       rw[eq_of_beq hb]
       exact List.mem_cons_self
     | false=>rw[hb] at e;exact List.mem_cons_of_mem _ (ih e)
 have fin:∀k,(relabel scope env).names.lookup y=some k→k = .cell∨k = .free→∃z∈scope.names,z.1=y∧z.2 = .free:=fun k e hk=>by
   obtain⟨z,hz,ez⟩:=List.mem_map.mp (key _ _ e)
   obtain⟨n,k0⟩:=z
   dsimp only at ez
   split at ez
   · rename_i hc
     simp only [Bool.and_eq_true,beq_iff_eq] at hc
     cases ez
     exact⟨(y,k0),hz,rfl,hc.1.1⟩
   · cases ez
     rcases hk with rfl | rfl
     · exact absurd rfl (hcell _ hz)
     · exact⟨_,hz,rfl,rfl⟩
 rcases h with h | h
 · exact fin _ h (.inl rfl)
 · exact fin _ h (.inr rfl)
theorem caught_nil {scope:Scope}:Caught X scope [] []:=⟨rfl,fun j y k e=>by simp at e⟩
theorem caught_one {scope:Scope}{y:Str}{k:Nat}(h1:X.N[k]?=some y)(h2:X.env.kindOf y=some .cell)(h3:(relabel scope X.env).names.lookup y=some .cell):Caught X scope [y] [k]:=⟨rfl,fun j z i e1 e2=>by
 cases j with
 | zero =>
   have g1:y=z:=by simpa using e1
   have g2:k=i:=by simpa using e2
   subst g1 g2
   exact⟨h1,h2,h3⟩
 | succ j=>simp at e1⟩
theorem free_one {scope:Scope}{n:Str}(h:∀y∈scope.names,y.2 = .free→y.1=n)(k:X.env.kindOf n=some .cell):∀y∈scope.names,y.2 = .free→X.env.kindOf y.1=some .cell:=fun y hy hf=>by rw[h y hy hf];exact k
theorem pe_compN {elt iter tg:Expr}{pos:Pos}{ifs:List Expr}{scope:Scope}{wi:TI}{g:TG}{tt:TT}{te:TE}(O:List Str)(hc:X.calm=true)(hi:PI X tg iter wi)
   (hG:∀cl C s₀ H₀ ex,PG (Cx.blockG X scope cl C (O++[]) s₀ H₀ ex) tg g) (hT:∀cl C s₀ H₀ ex,PTs (Cx.blockG X scope cl C (O++[]) s₀ H₀ ex) ifs tt) (hE:∀cl C s₀ H₀ ex,PE (Cx.blockG X scope cl C (O++[]) s₀ H₀ ex) elt te)
   (hfree:∀y∈scope.names,y.2≠.free:=by decide +kernel) (hkind:scope.kind = .function:=by rfl) (hcell:∀y∈scope.names,y.2≠.cell:=by decide +kernel)
   (hnames:∀y∈scope.names,y.2 = .local→scope.names.lookup y.1=some .local:=by decide +kernel) (hs:∀y,foldedSetIterable iter X.env y=pure y:=by intro _;rfl) :
   PE X (.ListComp elt [⟨tg,iter,ifs,0⟩] scope pos) (tCompG O.length [] wi g tt te) :=
 pe_compG O [] [] hc hi hG hT hE caught_nil (fun y hy hf=>absurd hf (hfree y hy)) (fun y h=>relabel_free hcell h) hkind hcell hnames hs
end
section
variable {K:PySem.W.Frag}{σ:L2.St}{H:Hp}{Q:VK}
theorem r_compG {n:Nat}{is:List Nat}{wi:TI}{g:TG}{tt:TT}{te:TE}(h:wi σ H fun J H1=>CompH n (is.map fun k=>σ.getD k none) J g tt te Q H1):tCompG n is wi g tt te σ H Q:=h
def Nx (n:Nat)(Pv:Addr→Nat→List V→Hp→Prop)(D:Addr)(i:Nat)(ys:List V)(H2:Hp):Prop:=∃m',m'<n-i∧m'=n-(i+1)∧i+1≤n∧Pv D (i+1) ys H2
theorem nx_mk {n:Nat}{Pv:Addr→Nat→List V→Hp→Prop}{D:Addr}{i:Nat}{ys:List V}{H2:Hp}(hi:i<n)(p:Pv D (i+1) ys H2):Nx n Pv D i ys H2:=⟨_,by omega,rfl,hi,p⟩
theorem compH_list {a:Addr}{xs:List V}{n:Nat}{fs:L2.St}{g:TG}{tt:TT}{te:TE}(Pv:Addr→Nat→List V→Hp→Prop)(h0:∀D,H D=none→Pv D 0 [] (upd H D (.lst [])))
   (hl:∀D i ys H2,i≤xs.length→Pv D i ys H2→SqL K H2 a xs)
   (hs:∀D i x ys H2,H D=none→xs[i]?=some x→Pv D i ys H2→∀τ:L2.St,τ.length=n→g x (τ++fs) H2 fun σ1 H4=>(∃τ':L2.St,τ'.length=n∧σ1=τ'++fs)∧tt σ1 H4 fun b H5 =>
     if b=true then te σ1 H5 fun y H6=>H6 D=some (.lst ys)∧ys.length<sizeLine∧Nx xs.length Pv D i (ys++[y]) (upd H6 D (.lst (ys++[y]))) else Nx xs.length Pv D i ys H5)
   (hd:∀D ys H2,H D=none→Pv D xs.length ys H2→Q (.ref D) H2):CompH n fs (Itl K a) g tt te Q H:=by
 intro D hD
 refine⟨fun i m ys H2=>m=xs.length-i∧i≤xs.length∧Pv D i ys H2,⟨_,rfl,Nat.zero_le _,h0 D hD⟩,?_⟩
 rintro i m ys H2 ⟨rfl,hi,p⟩
 have q:=hl D i ys H2 hi p
 by_cases hlt:i<xs.length
 · refine .inr ⟨⟨xs,xs[i],q,by simp [hlt]⟩,fun x H3 y τ hτ=>?_⟩
   obtain⟨e,y⟩:=y
   subst e
   have ex:=y xs q
   exact hs D i x ys _ hD ex p τ hτ
 · have e:i=xs.length:=by omega
   subst e
   exact .inl ⟨⟨xs,q,Nat.le_refl _⟩,hd D ys H2 hD p⟩
end
end Stow
namespace Stow
open PySem L2 PyProof.Rows
section
variable {prog:Program}{w:World}{A:Around}{R:Result→Shared→Prop}{I:Addr}{fp wr:List Addr}{n:Nat}{P:Nat→Value→Prop}{St:Nat→Heap→Prop}
def CmpKp (prog:Program)(w:World)(A:Around)(Kp:Heap→Prop)(P:Nat→Value→Prop)(bt:Nat→Nat→Bool):Prop :=
 ∀i j x y (t:Shared) (Q:Value→Shared→Prop) (E:Value→Shared→Prop),Kp t.heap→P i x→P j y→Q (.bool (bt i j)) t→wpAny (model prog w) A (richCompare .Lt x y) Q E t
theorem min_turns (W:Walks prog w A.in1 I fp wr n P St)(bt:Nat→Nat→Bool)(Kp:Heap→Prop)(cmp:CmpKp prog w A.in1 Kp P bt)(S:Addr)(sf:S ∉ fp)
   (kpk:∀h h',Kp h→(∀b o,b ∉ wr→b≠S→h.get? b=some o→h'.get? b=some o)→Kp h') :
   ∀(k j:Nat) (t:Shared) (vb:Value) (c:Nat),n-(j+1)=k→j+1≤n→St (j+1) t.heap→Kp t.heap→P (argBest bt j) vb →
   t.heap.get? S=some { cls:=.type "list",dict:=none,data:=.seq #[vb,vb] c,slots:=#[] } →
   (∀v h' tk,P (argBest bt (n-1)) v→(∀b o,b ∉ wr→b≠S→t.heap.get? b=some o→h'.get? b=some o)→R (.ok (.ret v)) { t with heap:=h',toks:=tk }) →
   codeAny (model prog w) A (.builtin "min.loop" ⟨[.ref I,.none,.ref S],[]⟩) R t:=by
 have sw:S ∉ wr:=fun h=>sf (W.sub _ h)
 have nm:(toString "min"++toString ".loop":String)="min.loop":=by decide
 intro k
 induction k with
 | zero =>
   intro j t vb c hk hj st kp pb hS fin
   have en:j+1=n:=by omega
   refine codeAny_builtin F.entry_min_loop ?_
   rw[Around.under_plainId F.plain_min_loop _]
   show wpAny _ A.in1 (seqItems? (.ref S) >>= _) _ _ t
   refine wpAny_bind (wpAny_seqItems hS rfl ?_)
   show wpAny _ A.in1 (tryCatch (pyNext (.ref I)) _ >>= _) _ _ t
   refine wpAny_bind (wpAny_tryCatch (W.done t _ _ (en▸st) fun h' tk kk=>?_))
   have hS1:=kk S _ sw hS
   show wpAny _ A.in1 (updateSeq S (fun _=>#[]) >>= _) _ _ _
   refine wpAny_bind ?_
   refine wpAny_updateSeq hS1 rfl (wpAny_bind (wpAny_letGo (wpAny_pure ?_)))
   exact fin vb _ tk (by rw[←en];exact pb) fun b o bw bS e=>(Heap.get?_update_other _ _ (Ne.symm bS)).trans (kk b o bw e)
 | succ k ih =>
   intro j t vb c hk hj st kp pb hS fin
   have lt:j+1<n:=by omega
   refine codeAny_builtin F.entry_min_loop ?_
   rw[Around.under_plainId F.plain_min_loop _]
   show wpAny _ A.in1 (seqItems? (.ref S) >>= _) _ _ t
   refine wpAny_bind (wpAny_seqItems hS rfl ?_)
   show wpAny _ A.in1 (tryCatch (pyNext (.ref I)) _ >>= _) _ _ t
   refine wpAny_bind (wpAny_tryCatch (W.item (j+1) t _ _ lt st fun v h' tk pv st1 kk=>?_))
   have hS1:=kk S _ sw hS
   have kp1:Kp h':=kpk _ _ kp fun b o bw _ e=>kk b o bw e
   show wpAny _ A.in1 (tryCatch (holding [v,v] (richCompare .Lt v vb >>= _)) _ >>= _) _ _ _
   refine wpAny_bind (wpAny_tryCatch (wpAny_holding (wpAny_bind (cmp (j+1) (argBest bt j) v vb _ _ _ kp1 pv pb ?_))))
   refine wpAny_bind (wpAny_holding (wpAny_truthy_bool ?_))
   refine wpAny_bind (wpAny_letGo (wpAny_pure ?_))
   cases hb:bt (j+1) (argBest bt j) with
   | true =>
     simp only [if_true]
     refine wpAny_bind ?_
     refine wpAny_updateSeq hS1 rfl (wpAny_bind (wpAny_letGo ?_))
     rw[nm]
     refine wpAny_pure ⟨plainId_quiet F.plain_min_loop _,ih (j+1) _ v _ (by omega) lt (W.frame _ _ _ st1 fun b bf o e=>?_) (kpk _ _ kp1 fun b o _ bS e=>(Heap.get?_update_other _ _ (Ne.symm bS)).trans e) (by simp only [argBest,hb,if_true];exact pv) (Heap.get?_update_self _ hS1 rfl)
       fun v' h2 tk2 pv2 kk2=>?_⟩
     · exact(Heap.get?_update_other _ _ (fun z:S=b=>sf (by rw[z];exact bf))).trans e
     · exact fin v' h2 tk2 pv2 fun b o bw bS e=>kk2 b o bw bS ((Heap.get?_update_other _ _ (Ne.symm bS)).trans (kk b o bw e))
   | false =>
     simp only [Bool.false_eq_true,if_false]
     refine wpAny_bind (wpAny_letGo ?_)
     rw[nm]
     refine wpAny_pure ⟨plainId_quiet F.plain_min_loop _,ih (j+1) _ vb c (by omega) lt st1 kp1 (by simp only [argBest,hb,Bool.false_eq_true,if_false];exact pb) hS1 fun v' h2 tk2 pv2 kk2=>?_⟩
     exact fin v' h2 tk2 pv2 fun b o bw bS e=>kk2 b o bw bS (kk b o bw e)
theorem min_first (W:Walks prog w A.in1 I fp wr n P St)(bt:Nat→Nat→Bool)(Kp:Heap→Prop)(cmp:CmpKp prog w A.in1 Kp P bt)(S:Addr)(sf:S ∉ fp)
   (kpk:∀h h',Kp h→(∀b o,b ∉ wr→b≠S→h.get? b=some o→h'.get? b=some o)→Kp h') (hn:0<n) {t:Shared} {c:Nat} (st:St 0 t.heap) (kp:Kp t.heap)
   (hS:t.heap.get? S=some { cls:=.type "list",dict:=none,data:=.seq #[] c,slots:=#[] })
   (fin:∀v h' tk,P (argBest bt (n-1)) v→(∀b o,b ∉ wr→b≠S→t.heap.get? b=some o→h'.get? b=some o)→R (.ok (.ret v)) { t with heap:=h',toks:=tk }) :
   codeAny (model prog w) A (.builtin "min.loop" ⟨[.ref I,.none,.ref S],[]⟩) R t:=by
 have sw:S ∉ wr:=fun h=>sf (W.sub _ h)
 have nm:(toString "min"++toString ".loop":String)="min.loop":=by decide
 refine codeAny_builtin F.entry_min_loop ?_
 rw[Around.under_plainId F.plain_min_loop _]
 show wpAny _ A.in1 (seqItems? (.ref S) >>= _) _ _ t
 refine wpAny_bind (wpAny_seqItems hS rfl ?_)
 show wpAny _ A.in1 (tryCatch (pyNext (.ref I)) _ >>= _) _ _ t
 refine wpAny_bind (wpAny_tryCatch (W.item 0 t _ _ hn st fun v h' tk pv st1 kk=>?_))
 have hS1:=kk S _ sw hS
 have kp1:Kp h':=kpk _ _ kp fun b o bw _ e=>kk b o bw e
 show wpAny _ A.in1 (updateSeq S (fun _=>#[v,v]) >>= _) _ _ _
 refine wpAny_bind ?_
 refine wpAny_updateSeq hS1 rfl ?_
 rw[nm]
 refine wpAny_pure ⟨plainId_quiet F.plain_min_loop _,min_turns W bt Kp cmp S sf kpk _ 0 _ v _ rfl hn (W.frame _ _ _ st1 fun b bf o e=>?_) (kpk _ _ kp1 fun b o _ bS e=>(Heap.get?_update_other _ _ (Ne.symm bS)).trans e) pv (Heap.get?_update_self _ hS1 rfl) fun v' h2 tk2 pv2 kk2=>?_⟩
 · exact(Heap.get?_update_other _ _ (fun z:S=b=>sf (by rw[z];exact bf))).trans e
 · exact fin v' h2 tk2 pv2 fun b o bw bS e=>kk2 b o bw bS ((Heap.get?_update_other _ _ (Ne.symm bS)).trans (kk b o bw e))
end
section
variable {prog:Program}{w:World}{A:Around}{E:Value→Shared→Prop}{s:Shared}
theorem call_minKp {x:Value}{Q:Value→Shared→Prop}
   (h:wpAny (model prog w) A.in1 (pyIter x) (fun itv t=>∃I fp wr n P St bt Kp,itv = .ref I∧Walks prog w A.in1 I fp wr n P St∧St 0 t.heap∧Kp t.heap∧(∀b∈fp,b<t.heap.objs.size)∧0<n∧CmpKp prog w A.in1 Kp P bt ∧
     (∀h h',Kp h→(∀b o,b ∉ wr→b≠t.heap.objs.size→h.get? b=some o→h'.get? b=some o)→Kp h') ∧
     ∀v h' tk,P (argBest bt (n-1)) v→(∀b o,b ∉ wr→t.heap.get? b=some o→h'.get? b=some o)→Q v { t with heap:=h',toks:=tk }) E s) :
   wpAny (model prog w) A (call (.builtin "min") [x]) Q E s:=by
 have nm:(toString "min"++toString ".loop":String)="min.loop":=by decide
 refine call_function_tree F.kind_min F.plain_min F.entry_min (F.args_min1 _) ?_
 show wpAny _ A.in1 (Builtin.Builtins.bindParams "min" ["key","default"] 0 ⟨[],[]⟩ >>= _) _ _ s
 refine wpAny_bind (wpAny_of_eq (show Builtin.Builtins.bindParams "min" ["key","default"] 0 ⟨[],[]⟩=pure [none,none] from rfl) ?_)
 refine wpAny_bind (wpAny_pure ?_)
 refine wpAny_bind (wpAny_mono h (fun itv t ht=>?_) fun _ _ e=>e)
 obtain⟨I,fp,wr,n,P,St,bt,Kp,rfl,W,st,kp,hfp,hn,cmp,kpk,hQ⟩:=ht
 refine wpAny_bind (wpAny_newObj_type ?_)
 have sf:t.heap.objs.size ∉ fp:=fun hm=>Nat.lt_irrefl _ (hfp _ hm)
 rw[nm]
 refine wpAny_pure ⟨plainId_quiet F.plain_min_loop _,min_first W bt Kp cmp t.heap.objs.size sf kpk hn (W.frame _ _ _ st fun b _ o e=>Heap.get?_push_of_some _ e) (kpk _ _ kp fun b o _ _ e=>Heap.get?_push_of_some _ e) (Heap.get?_push_size _ rfl) fun v h' tk pv kk=>?_⟩
 exact hQ v h' tk pv fun b o bw e=>kk b o bw (Nat.ne_of_lt (Heap.lt_size e)) (Heap.get?_push_of_some _ e)
end
def minAt (xs:List (List Int)):Nat→Nat
 | 0=>0
 | k+1=>if HT.lexLt (xs.getD (k+1) []) (xs.getD (minAt xs k) []) then k+1 else minAt xs k
theorem minAt_best (xs:List (List Int)):∀k,argBest (fun i j=>HT.lexLt (xs.getD i []) (xs.getD j [])) k=minAt xs k
 | 0=>rfl
 | k+1=>by
   unfold argBest minAt
   rw[minAt_best xs k]
theorem minAt_le (xs:List (List Int)):∀k,minAt xs k≤k
 | 0=>Nat.le_refl 0
 | k+1=>by
   unfold minAt
   have:=minAt_le xs k
   split <;> omega
section
variable {X:Cx}
theorem call_minT (hc:X.calm=true)(hu:X.A.units+64<cLine):CallR X (.builtin "min") (fun vs H Q=>∃p us,∃xs:List (List Int),vs=[.ref p]∧H p=some (.lst us)∧TupsAt H us (xs.map fun x=>x.map V.int)∧0<xs.length ∧
   ∀t,us[minAt xs (xs.length-1)]?=some (.ref t)→H t=some (.tup ((xs.getD (minAt xs (xs.length-1)) []).map V.int))→Q (.ref t) H):=by
 intro pins s σ H vs us' Q I r h
 obtain⟨p,us,xs,rfl,hp,ta,hn,q⟩:=h
 obtain⟨u,rfl,rx⟩:∃u,us'=[u]∧RelV (.ref p) u:=by
   cases r with
   | cons a b=>cases b;exact⟨_,rfl,a⟩
 cases rx
 obtain⟨its,r1,p1,_⟩:=I.list (SqL.of hp)
 have l1:=r1.length
 have l2:=ta.1
 rw[List.length_map] at l2
 have tups:∀i,i<xs.length→∃t its2,its[i]?=some (.ref t)∧us[i]?=some (.ref t)∧H t=some (.tup ((xs.getD i []).map V.int))∧s.heap.IsTuple t (List.toArray its2)∧IntsAre its2 (xs.getD i []):=fun i hi=>by
   obtain⟨t,e1,e2⟩:=ta.2 i ((xs[i]).map V.int) (by simp [hi])
   obtain⟨u1,g1,q1⟩:=r1.get e1
   cases q1
   obtain⟨its2,r2,p2,_⟩:=I.tuple (SqT.of e2)
   have ex:xs.getD i []=xs[i]:=by simp [hi]
   rw[ex]
   exact⟨t,its2,g1,e1,e2,p2,intsAre_of r2⟩
 have lt:p<s.heap.objs.size:=by obtain⟨_,e,_⟩:=p1.isList;exact Heap.lt_size e
 refine call_minKp (wpAny_pyIter_list p1.isList ?_)
 refine⟨s.heap.objs.size,[s.heap.objs.size,p],[s.heap.objs.size],its.toArray.size,fun i v=>its.toArray[i]?=some v,_,fun i j=>HT.lexLt (xs.getD i []) (xs.getD j []),fun (hh:Heap)=>∀(i:Nat) (t:Addr) (its2:List Value),its[i]?=some (Value.ref t)→s.heap.IsTuple t (List.toArray its2)→hh.IsTuple t (List.toArray its2),rfl,Walks.list (A:=X.A.in1) (I.ok.hd hc) _ p (Nat.ne_of_lt lt) its.toArray,
   ⟨⟨_,Heap.get?_push_size _ rfl,rfl,rfl⟩,p1.isList.push _⟩,?_,?_,?_,?_,?_,?_⟩
 · intro i t its2 _ ht
   exact ht.push _
 · intro b hb
   show b<(s.heap.push _).objs.size
   rw[Heap.size_push]
   rcases List.mem_cons.mp hb with z | z
   · rw[z];exact Nat.lt_succ_self _
   · have:b=p:=by simpa using z
     rw[this];exact Nat.lt_succ_of_lt lt
 · rw[List.size_toArray];omega
 · intro i j x y t Q' E' kp pi pj hq
   rw[List.getElem?_toArray] at pi pj
   have hi:i<xs.length:=by have:=(List.getElem?_eq_some_iff.mp pi).1;omega
   have hj:j<xs.length:=by have:=(List.getElem?_eq_some_iff.mp pj).1;omega
   obtain⟨t1,s1,a1,_,_,b1,c1⟩:=tups i hi
   obtain⟨t2,s2,a2,_,_,b2,c2⟩:=tups j hj
   rw[a1] at pi
   rw[a2] at pj
   cases pi
   cases pj
   exact HT.lt_tupInts (kp i t1 s1 a1 b1) (kp j t2 s2 a2 b2) c1 c2 (by show X.A.units+1<cLine;omega) hq
 · intro h h' kp kk i t its2 g ht
   have e0:=kp i t its2 g ht
   obtain⟨o,e,hcl,hd⟩:=ht
   obtain⟨o',e',r'⟩:=e0
   have lt':=Heap.lt_size e
   refine⟨o',kk t o' (fun z=>?_) (Nat.ne_of_lt ?_) e',r'⟩
   · have z':t=s.heap.objs.size:=by simpa using z
     rw[z'] at lt'
     exact Nat.lt_irrefl _ lt'
   · show t<(s.heap.push _).objs.size
     rw[Heap.size_push]
     exact Nat.lt_succ_of_lt lt'
 · intro v h' tk pv kk
   rw[List.size_toArray,←l1,l2,minAt_best,List.getElem?_toArray] at pv
   have hm:minAt xs (xs.length-1)<xs.length:=by have:=minAt_le xs (xs.length-1);omega
   obtain⟨t,its2,a1,a2,a3,_,_⟩:=tups _ hm
   rw[a1] at pv
   cases pv
   refine⟨.ref t,H,?_,rfl,q t a2 a3⟩
   refine I.kept (t':=tk) fun b o e=>kk b o (fun z=>?_) (Heap.get?_push_of_some _ e)
   have:=Heap.lt_size e
   have z':b=s.heap.objs.size:=by simpa using z
   rw[z'] at this
   exact Nat.lt_irrefl _ this
end
end Stow
namespace Stow
open PySem L2 PyProof.Rows
structure InsK (K:PySem.W.Frag)(C:Addr):Prop where
 cl:Cls K C
 ha:PySem.W.findIn K (.ref C) "__class__"=some (some (.builtin "object.__class__"))
 hn:PySem.W.specialIn K (.builtin "object.__class__") "__get__"=some (some (.builtin "getset_descriptor.__get__"))
 htk:PySem.W.takesIn K (.builtin "object.__class__")=some true
 hm:PySem.W.mroIn K C (.type "object")=some true
section
variable {X:Cx}
end
section
variable {K:PySem.W.Frag}{σ:L2.St}{H:Hp}{Q:VK}{D:Ends}
theorem r_sat {a C dx:Addr}{fs:List (Str×V)}{f:Str}{R:Addr→Addr→Addr→List (Str×V)→Prop}(h:H a=some (.ins C dx fs))(c:Cls K C)(n:NoAttr K C f)(l:fs.length<1000)(q:R a C dx fs) :
   ∃a' C' dx' fs',V.ref a=V.ref a'∧H a'=some (.ins C' dx' fs')∧Cls K C'∧NoAttr K C' f∧fs'.length<1000∧R a' C' dx' fs':=⟨a,C,dx,fs,rfl,h,c,n,l,q⟩
theorem r_mat {a C dx:Addr}{fs:List (Str×V)}{m:Str}{P:Prop}(h:H a=some (.ins C dx fs))(l:fs.lookup m=none)(q:P) :
   ∃a' dx' fs',V.ref a=V.ref a'∧H a'=some (.ins C dx' fs')∧fs'.lookup m=none∧P:=⟨a,dx,fs,rfl,h,l,q⟩
theorem r_make {C:Addr}{sp:Sp}{E:XK}{t:TA}(h:t σ H fun vs H1=>∀x dx,H1 x=none→H1 dx=none→dx≠x→sp (.ref x::vs) (upd (upd H1 dx (.own x)) x (.ins C dx [])) (fun v H2=>v = .non∧Q (.ref x) H2) E):tMake C sp [] E t σ H Q:=by
 unfold tMake
 simp only [List.append_nil]
 exact h
end
section
variable {X:Cx}
end
def KeepX (x:Addr)(H H':Hp):Prop:=∀b o,b≠x→H b=some o→H' b=some o
theorem KeepX.refl {x:Addr}{H:Hp}:KeepX x H H:=fun _ _ _ h=>h
theorem KeepX.of {x:Addr}{H H':Hp}(s:Same H H'):KeepX x H H':=fun b o _ h=>s b o h
theorem KeepX.trans {x:Addr}{H H' H'':Hp}(s:KeepX x H H')(t:KeepX x H' H''):KeepX x H H'':=fun b o n h=>t b o n (s b o n h)
theorem KeepX.put {x:Addr}{H H':Hp}{o:HO}(s:KeepX x H H'):KeepX x H (upd H' x o):=fun b o' n h=>look_ne n (s b o' n h)
end Stow
set_option Elab.async false
set_option linter.all false
set_option maxRecDepth 100000
set_option maxHeartbeats 4000000
namespace Stow
theorem pow_pos1 (i:Nat):1≤(2:Int)^i:=by
 have:=Int.pow_pos (n:=2) (m:=i) (by decide)
 omega
def Least (k:Nat)(c:Int):Prop:=c≤2^k∧∀i,i<k→(2:Int)^i<c
theorem pow_mono {i j:Nat}(h:i≤j):(2:Int)^i≤2^j:=by
 obtain⟨d,rfl⟩:=Nat.exists_eq_add_of_le h
 rw[Int.pow_add]
 have:=pow_pos1 d
 have:=Int.mul_le_mul_of_nonneg_left this (show 0≤(2:Int)^i by have:=pow_pos1 i;omega)
 omega
theorem pow_lt_of {i j:Nat}(h:(2:Int)^i<2^j):i<j:=by
 rcases Nat.lt_or_ge i j with h1 | h1
 · exact h1
 · have:=pow_mono h1
   omega
theorem Least.uniq {k k':Nat}{c:Int}(h:Least k c)(h':Least k' c):k=k':=by
 rcases Nat.lt_trichotomy k k' with g | g | g
 · have:=h'.2 k g
   have:=h.1
   omega
 · exact g
 · have:=h.2 k' g
   have:=h'.1
   omega
theorem least_bits {c:Nat}(h:1≤c):Least (c.log2+1) ((c:Int)+1):=by
 have h1:=Nat.lt_log2_self (n:=c)
 have h2:=Nat.log2_self_le (n:=c) (by omega)
 refine⟨?_,fun i hi=>?_⟩
 · have:((c+1:Nat):Int)≤((2^(c.log2+1):Nat):Int):=Int.ofNat_le.mpr h1
   rw[Int.natCast_pow] at this
   push_cast at this
   exact this
 · have:(2:Int)^i≤2^c.log2:=pow_mono (by omega)
   have h3:((2^c.log2:Nat):Int)≤(c:Int):=Int.ofNat_le.mpr h2
   rw[Int.natCast_pow] at h3
   push_cast at h3
   omega
end Stow
namespace Stow
open PySem L2 PyProof.Rows
structure MethD (P:Program)(w:World)(K:PySem.W.Frag)(mg:Str→Option Value)(base:Heap)(C:Addr)(m:Str)(j:Nat)(ps:List Str)(dvs:List V)(sp:Sp):Prop where
 all:Methx P w K mg base C m j ps [] sp
 less:Methx P w K mg base C m j ps dvs sp
theorem MethD.made {P:Program}{w:World}{K:PySem.W.Frag}{mg:Str→Option Value}{base:Heap}{C:Addr}{m:Str}{j:Nat}{ps:List Str}{dvs:List V}{sp:Sp}{f:Addr}{fd:FuncData}{ds:List Value}
   (F:FnOk P w K mg base (CXe P w) j f fd ps sp) (M:Meth K C m f) (b:Binds K fd ps []) (b':Binds K fd ps ds) (v:Vals dvs ds) (c:Cls K C):MethD P w K mg base C m j ps dvs sp :=
 ⟨⟨⟨f,fd,[],F,M,b,.nil⟩,c⟩,⟨⟨f,fd,ds,F,M,b',v⟩,c⟩⟩
theorem FunD.bindsA {K:PySem.W.Frag}{x qual:Str}{st:Stmt}{T:Addr}{f:Addr}{fd:FuncData}{ps:List Str}{ds:List Value}{tc:Value}{td:Option Addr}{tn:Nat}{tsl:Array (Option Value)}(F:FunD K x qual st (.ref T) f fd)
   (lt:K.lookup T=some ⟨tc,td,.seq ds.toArray tn,tsl⟩)
   (h:∀(kV doc pm:Value) (an:Option Addr) (cdv ct:Value) (us:List Value),us.length=ps.length→∃k:Option (Array Value)→Sem (List (Str×Value)),
     bindArgs (PySem.W.fnOf x qual (defArgs st) (defBody st) (defScope st) (.ref T) kV doc pm an cdv ct) ⟨us,[]⟩=seqItems? (.ref T) >>= k∧k (some ds.toArray)=pure (ps.zip us)):Binds K fd ps []:=by
 obtain⟨oc,od,kV,doc,pm,an,cdv,ct,osl,rfl,lk,hcd⟩:=F.ex
 intro s us X hl
 rw[List.append_nil] at hl ⊢
 obtain⟨k,h1,h2⟩:=h kV doc pm an cdv ct us hl
 exact .of_defaults rfl (X _ _ lt) rfl h1 h2
abbrev TXS:=Ends→XK→L2.St→Hp→Prop
section
variable {X:Cx}{e c:Expr}{t:TX}{tc:TT}{ta tb ts:TXS}{a b ss:List Stmt}{pos epos:Pos}{hs:List ExceptHandler}{th:TH}
end
section
variable {K:PySem.W.Frag}{σ:L2.St}{H:Hp}{Q:VK}{D:Ends}{EX:XK}
theorem r_xMethD {C:Addr}{m:Str}{sp:Sp}{ta:TE}{t:TA}{dvs:List V}(h:ta σ H fun x H1=>∃a dx fs,x = .ref a∧H1 a=some (.ins C dx fs)∧fs.lookup m=none∧t σ H1 fun vs H2=>sp (x::(vs++dvs)) H2 Q EX):xMeth C m sp dvs ta t σ H Q EX:=h
end
end Stow
set_option Elab.async false
set_option linter.all false
set_option maxRecDepth 100000
set_option maxHeartbeats 4000000
namespace Stow
theorem Marks.app {cs ds:List Int}{ps qs:List Pc}(h0:EndBy ps cs.length)(m:Marks cs ps)(h1:FromOn qs 0)(k:Marks ds qs) :
   Marks (cs++ds) (ps++qs.map fun q=>⟨q.a+cs.length,q.l,q.v⟩):=by
 intro p hp
 rcases List.mem_append.mp hp with h | h
 · obtain⟨a0,a1,a2⟩:=h0 p h
   obtain⟨m1,m2⟩:=m p h
   exact⟨by rw[List.getElem?_append_left (by omega)];exact m1,by rw[List.getElem?_append_left (by omega)];exact m2⟩
 · obtain⟨q,hq,rfl⟩:=List.mem_map.mp h
   obtain⟨b0,b1⟩:=h1 q hq
   obtain⟨m1,m2⟩:=k q hq
   constructor
   · show (cs++ds)[(q.a+cs.length).toNat]?=some (mkOf q.l q.v)
     rw[List.getElem?_append_right (by omega),show (q.a+cs.length).toNat-cs.length=q.a.toNat by omega]
     exact m1
   · show (cs++ds)[(q.a+cs.length+q.l-1).toNat]?=some (mkOf q.l q.v)
     rw[List.getElem?_append_right (by omega),show (q.a+cs.length+q.l-1).toNat-cs.length=(q.a+q.l-1).toNat by omega]
     exact m2
end Stow
namespace Stow
open PySem L2 PyProof.Rows
section
variable {X:Cx}
end
section
variable {X:Cx}{tg:Expr}
end
end Stow
set_option Elab.async false
set_option linter.all false
set_option maxRecDepth 100000
set_option maxHeartbeats 4000000
namespace Stow
open PySem L2 PyProof.Rows
section
variable {prog:Program}{w:World}{A:Around}{R:Result→Shared→Prop}{I:Addr}{fp wr:List Addr}{n:Nat}{P:Nat→Value→Prop}{St:Nat→Heap→Prop}{kw:List (Str×Value)}
end
section
variable {prog:Program}{w:World}{A:Around}{E:Value→Shared→Prop}{s:Shared}
end
section
variable {X:Cx}
end
end Stow
namespace Stow
open PySem L2 PyProof.Rows
section
variable {K:PySem.W.Frag}{σ:L2.St}{H:Hp}{Q:VK}
end
def planV (H:Hp)(v:V)(o:Option (List Int)):Prop:=match o with
 | none=>v = .non
 | some x=>∃t,v = .ref t∧H t=some (.tup (x.map V.int))
theorem planV.same {H H':Hp}{v:V}{o:Option (List Int)}(h:planV H v o)(s:Same H H'):planV H' v o:=by
 cases o with
 | none=>exact h
 | some x=>obtain⟨t,e1,e2⟩:=h;exact⟨t,e1,s t _ e2⟩
theorem planV.mono {H H':Hp}{v:V}{o:Option (List Int)}(h:planV H v o)(k:∀b xs,H b=some (.tup xs)→H' b=some (.tup xs)):planV H' v o:=by
 cases o with
 | none=>exact h
 | some x=>obtain⟨t,e1,e2⟩:=h;exact⟨t,e1,k t _ e2⟩
end Stow
namespace Stow
open PySem L2 PyProof.Rows
theorem KeepX.new {x t:Addr}{H H':Hp}{o:HO}(s:KeepX x H H')(ht:H' t=none):KeepX x H (upd H' t o):=fun b o' n h=>look_put ht (s b o' n h)
theorem KeepX.tups {x:Addr}{H H':Hp}{l us:List V}{xs:List (List V)}(s:KeepX x H H')(hx:H x=some (.lst l))(h:TupsAt H us xs):TupsAt H' us xs:=h.mono fun b ys e=>s b _ (fun z=>by rw[z,hx] at e;cases e) e
end Stow
set_option Elab.async false
set_option linter.all false
set_option maxRecDepth 100000
set_option maxHeartbeats 4000000
namespace Stow
open PySem L2 PyProof.Rows
end Stow
namespace Stow
open PySem L2 PyProof.Rows
theorem NoAdj.app {X Y:List Pc}(hX:NoAdj X)(hY:NoAdj Y)(hj:∀x y,X.getLast?=some x→Y[0]?=some y→x.v=true∨y.v=true):NoAdj (X++Y):=fun j y z h1 h2=>by
 by_cases e1:j+1<X.length
 · rw[List.getElem?_append_left (by omega)] at h1
   rw[List.getElem?_append_left e1] at h2
   exact hX j y z h1 h2
 · by_cases e2:j+1=X.length
   · rw[List.getElem?_append_left (by omega)] at h1
     rw[List.getElem?_append_right (by omega),show j+1-X.length=0 by omega] at h2
     refine hj y z ?_ h2
     rw[List.getLast?_eq_getElem?,show X.length-1=j by omega]
     exact h1
   · rw[List.getElem?_append_right (by omega)] at h1 h2
     rw[show j+1-X.length=(j-X.length)+1 by omega] at h2
     exact hY _ y z h1 h2
theorem NoAdj.left {X Y:List Pc}(h:NoAdj (X++Y)):NoAdj X:=fun j y z h1 h2=>by
 have l1:=(List.getElem?_eq_some_iff.mp h1).1
 have l2:=(List.getElem?_eq_some_iff.mp h2).1
 exact h j y z (by rw[List.getElem?_append_left l1];exact h1) (by rw[List.getElem?_append_left l2];exact h2)
theorem NoAdj.right {X Y:List Pc}(h:NoAdj (X++Y)):NoAdj Y:=fun j y z h1 h2=>h (X.length+j) y z (by rw[List.getElem?_append_right (by omega),show X.length+j-X.length=j by omega];exact h1) (by rw[List.getElem?_append_right (by omega),show X.length+j+1-X.length=j+1 by omega];exact h2)
theorem chain_part:∀{A B:List Pc} {s e:Int},Chain s (A++B) e→∃m,Chain s A m∧Chain m B e
 | [],B,s,e,c=>⟨s,rfl,c⟩
 | z::r,B,s,e,c=>by
   obtain⟨h1,h2,h3,h4⟩:=c
   obtain⟨m,g1,g2⟩:=chain_part h4
   exact⟨m,⟨h1,h2,h3,g1⟩,g2⟩
end Stow
set_option Elab.async false
set_option linter.all false
set_option maxRecDepth 100000
set_option maxHeartbeats 4000000
namespace Stow
open PySem L2 PyProof.Rows
theorem chain_meet {ps:List Pc}{s e p:Int}{y z:Pc}(c:Chain s ps e)(hy:y∈ps)(hz:z∈ps)(h1:y.a≤p)(h2:p<y.a+y.l)(h3:z.a≤p)(h4:p<z.a+z.l):y=z:=by
 obtain⟨i,hi⟩:=List.getElem?_of_mem hy
 obtain⟨j,hj⟩:=List.getElem?_of_mem hz
 rcases Nat.lt_trichotomy i j with g | g | g
 · exfalso
   obtain⟨ds,rs,e1,e2,c1,c2⟩:=chain_split c hj
   subst e1 e2
   rw[List.getElem?_append_left (by omega)] at hi
   have:=(c1.mem y (List.mem_of_getElem? hi)).2.2.2
   omega
 · subst g
   exact Option.some.inj (hi.symm.trans hj)
 · exfalso
   obtain⟨ds,rs,e1,e2,c1,c2⟩:=chain_split c hi
   subst e1 e2
   rw[List.getElem?_append_left (by omega)] at hj
   have:=(c1.mem z (List.mem_of_getElem? hj)).2.2.2
   omega
def carI (cs:List Int)(s g c:Nat):List Int:=cs.take g++(cs.drop s).take c++cs.drop (g+c)
theorem carI_len {cs:List Int}{s g c:Nat}(h1:s+c≤cs.length)(h2:g+c≤cs.length):(carI cs s g c).length=cs.length:=by
 unfold carI
 simp
 omega
theorem carI_out {cs:List Int}{s g c j:Nat}(h1:s+c≤cs.length)(h2:g+c≤cs.length)(h:j<g∨g+c≤j):(carI cs s g c)[j]?=cs[j]?:=by
 unfold carI
 have l1:(cs.take g).length=g:=by rw[List.length_take];omega
 have l2:((cs.drop s).take c).length=c:=by rw[List.length_take,List.length_drop];omega
 rcases h with h | h
 · rw[List.append_assoc,List.getElem?_append_left (by omega),List.getElem?_take,if_pos h]
 · rw[List.getElem?_append_right (by rw[List.length_append];omega),List.length_append,l1,l2,List.getElem?_drop,show g+c+(j-(g+c))=j by omega]
theorem marks_carry {cs:List Int}{ps:List Pc}{z:Pc}{s c n:Nat}(hc:Chain 0 ps n)(hn:cs.length=n)(m:Marks cs ps)(hz:z∈ps)(hv:z.v=true)(h1:s+c≤n)(h2:(c:Int)≤z.l-2):Marks (carI cs s (z.a+1).toNat c) ps:=fun p hp=>by
 obtain⟨z0,z1,z3,z4⟩:=hc.mem z hz
 have z3:=z3 hv
 obtain⟨p0,p1,p3,p4⟩:=hc.mem p hp
 obtain⟨m1,m2⟩:=m p hp
 have h2':(z.a+1).toNat+c≤cs.length:=by omega
 have out:∀j:Int,0≤j→(j≤z.a∨z.a+z.l-1≤j)→(carI cs s (z.a+1).toNat c)[j.toNat]?=cs[j.toNat]?:=fun j j0 hj=>carI_out (by omega) h2' (by omega)
 by_cases e:p=z
 · subst e
   exact⟨by rw[out _ p0 (.inl (Int.le_refl _))];exact m1,by rw[out _ (by omega) (.inr (Int.le_refl _))];exact m2⟩
 · have far:p.a+p.l≤z.a∨z.a+z.l≤p.a:=by
     rcases Int.lt_or_le p.a z.a with h | h
     · left
       rcases Int.lt_or_le z.a (p.a+p.l) with g | g
       · exact absurd (chain_meet hc hp hz (Int.le_of_lt h) g (Int.le_refl _) (by omega)) e
       · exact g
     · right
       rcases Int.lt_or_le p.a (z.a+z.l) with g | g
       · exact absurd (chain_meet hc hp hz (Int.le_refl _) (by omega) h g) e
       · exact g
   exact⟨by rw[out _ p0 (by omega)];exact m1,by rw[out _ (by omega) (by omega)];exact m2⟩
theorem sIx_at {n d:Nat}{k:Int}(h0:0≤k)(h:k≤n):HT.sIx n d (some k)=k.toNat:=by
 have:=HT.sIx_nat n d k.toNat
 rw[Int.toNat_of_nonneg h0] at this
 rw[this]
 omega
theorem cutI_to {ns:List Int}{k:Int}(h0:0≤k)(h:k≤ns.length):cutI ns none (some k)=ns.take k.toNat:=by
 unfold cutI
 rw[sIx_at h0 h,HT.sIx_none]
 rfl
theorem cutI_mid {ns:List Int}{k l:Int}(h0:0≤k)(h1:0≤l)(h:k+l≤ns.length):cutI ns (some k) (some (k+l))=(ns.drop k.toNat).take l.toNat:=by
 unfold cutI
 rw[sIx_at h0 (by omega),sIx_at (by omega) h,show (k+l).toNat-k.toNat=l.toNat by omega]
theorem cutI_from {ns:List Int}{k:Int}(h0:0≤k)(h:k≤ns.length):cutI ns (some k) none=ns.drop k.toNat:=by
 unfold cutI
 rw[sIx_at h0 h,HT.sIx_none]
 exact List.take_of_length_le (by rw[List.length_drop];omega)
section
variable {X:Cx}{e:Expr}{t:TX}{epos:Pos}
end
end Stow
set_option Elab.async false
set_option linter.all false
set_option maxRecDepth 100000
set_option maxHeartbeats 4000000
namespace Stow
open PySem L2 PyProof.Rows
theorem units1 {n m:Nat}(h:n+64<m):n+1<m:=by omega
theorem dget_f {H:Hp}{a:Addr}{o:Obj}{kvs:List (Key×V)}{k:Key}(e:H a=some (.frz o (.dK kvs))):DGet H a (kV k) (valV kvs k):=.inl ⟨kvs,k,.inr ⟨o,e⟩,rfl,rfl⟩
def Itd (d:Addr)(o:Obj)(kvs:List (Key×V)):It :=
 ⟨fun i H=>H d=some (.frz o (.dK kvs))∧∃k v,kvs[i]?=some (k,v),fun i H x H'=>H'=H∧∃k v,kvs[i]?=some (k,v)∧x=kV k,fun i H=>H d=some (.frz o (.dK kvs))∧kvs.length≤i⟩
theorem frz_at {P:Program}{w:World}{H:Hp}{h:Heap}{d:Addr}{o:Obj}{kvs:List (Key×V)}{es:Array DictEntry}{ep:Nat}(ok:HOk P w H h)(e:H d=some (.frz o (.dK kvs)))(ho:o.data = .dict es ep) :
   ∃vs,KV kvs vs∧h.DictAt (mixKind P w) d vs ep:=by
 obtain⟨h1,_,_,vs,r,o',es',ep',g1,g2,g3,g4⟩:=(show ObjOk P w H h d (.frz o (.dK kvs)) from ok d _ e)
 rw[h1] at g1
 cases g1
 rw[ho] at g3
 cases g3
 exact⟨vs,r,o,es,h1,g2,ho,g4⟩
theorem paired_get {α β:Type}{F:α→β→Prop}:∀{xs:List α} {us:List β} {i:Nat} {x:α},Paired F xs us→xs[i]?=some x→∃u,us[i]?=some u∧F x u
 | _,_,_,_,.nil,e=>by simp at e
 | _,_,0,_,.cons r _,e=>by simp at e;subst e;exact⟨_,rfl,r⟩
 | _,_,i+1,x,.cons _ t,e=>by
   obtain⟨u,h1,h2⟩:=paired_get (i:=i) (x:=x) t (by simpa using e)
   exact⟨u,by simpa using h1,h2⟩
theorem kv_get {kvs:List (Key×V)}{vs:List (Key×Value)}(r:KV kvs vs){i:Nat}{k:Key}{v:V}(e:kvs[i]?=some (k,v)):∃u,vs[i]?=some (k,u):=by
 obtain⟨⟨k',u⟩,hq,h1,_⟩:=paired_get (show Paired _ kvs vs from r) e
 have h1:k=k':=h1
 subst h1
 exact⟨u,hq⟩
theorem rel_key {P:Program}{w:World}{k:Key}{u:Value}(h:(mixKind P w).is k u=true):RelV (kV k) u:=by
 rcases keyIs_shape (show keyIs k u=true from h) with ⟨i,t,rfl,rfl⟩ | ⟨x,t,rfl,rfl⟩
 · exact⟨t,rfl⟩
 · exact⟨t,rfl⟩
theorem turn_dict {P:Program}{w:World}{K:PySem.W.Frag}{tg:Expr}(d it:Addr)(o:Obj)(kvs:List (Key×V)){es:Array DictEntry}{ep:Nat}(ho:o.data = .dict es ep) :
   Turn P w K tg (Itd d o kvs) [it] it (fun i h=>h.IsKeyIter it d i kvs.length ep) where
 mem:=by simp
 obj:=fun i h st b hb=>by
   have e:b=it:=by simpa using hb
   subst e
   obtain⟨o,e,c,d⟩:=st
   exact⟨o,e,fun v z=>by rw[d] at z;cases z⟩
 keep:=fun i h h' st k=>st.at fun o e=>k it (by simp) o e
 item:=by
   intro X hP hw hK hc i pins s σ H E I hf st hg
   subst hP hw hK
   obtain⟨hd,k,v,hx⟩:=hg
   obtain⟨vs,r,m⟩:=frz_at I.hok hd ho
   obtain⟨u,hu⟩:=kv_get r hx
   have hl:=KV.length r
   obtain⟨f0,f1,f2,f3,f4,f5⟩:=hf it (by simp)
   have st:s.heap.IsKeyIter it d i vs.length ep:=hl▸st
   refine wpAny_pyNext_dict_item st m hu fun key h' hkey st' sb=>?_
   have I1:Inv X pins σ H { s with heap:=h' }:=I.turned (t':=s.toks) (fun b o hb e=>(sb.2 b hb).trans e) f0 f1 f3 f4 f5
   have st':h'.IsKeyIter it d (i+1) kvs.length ep:=hl▸st'
   obtain⟨o2,e2,c2,d2⟩:=id st'
   exact⟨key,rfl,go_of (s:={ s with heap:=h' }) e2 c2 d2 (by decide) ⟨kV k,H,I1,rel_key hkey,⟨rfl,k,v,hx,rfl⟩,st',fun b hb=>(hf b hb).1⟩⟩
 done:=by
   intro X hP hw hK hc i pins s σ H E I hf st hg
   subst hP hw hK
   obtain⟨hd,hx⟩:=hg
   obtain⟨vs,r,m⟩:=frz_at I.hok hd ho
   have hl:=KV.length r
   have st:s.heap.IsKeyIter it d i vs.length ep:=hl▸st
   obtain⟨f0,f1,f2,f3,f4,f5⟩:=hf it (by simp)
   exact wpAny_pyNext_dict_end (I.ok.hd hc) st m (List.getElem?_eq_none (by omega)) fun h' eb=>⟨rfl,I.turned (t':=s.toks) (fun b o hb e=>eb b o hb e) f0 f1 f3 f4 f5⟩
 self:=fun _ _ _ _ _ st h=>wpAny_pyIter_keyiter st h
section
variable {X:Cx}{pins:List (Addr×Obj)}{σ:L2.St}{H:Hp}{s:Shared}{d:Addr}{kvs:List (Key×V)}{o:Obj}
theorem freeze (I:Inv X pins σ H s)(e:H d=some (.dK kvs)):∃(o:Obj) (es:Array DictEntry) (ep:Nat) (vs:List (Key×Value)),o.data = .dict es ep∧(d==sysModules)=false∧KV kvs vs∧s.heap.DictAt (mixKind X.prog X.w) d vs ep∧Inv X pins σ (upd H d (.frz o (.dK kvs))) s:=by
 obtain⟨z,y,vs,r,o,es,ep,g1,g2,g3,g4⟩:=(show ObjOk X.prog X.w H s.heap d (.dK kvs) from I.hok d _ e)
 refine⟨o,es,ep,vs,g3,y,r,⟨o,es,g1,g2,g3,g4⟩,?_⟩
 exact I.write (x:=d) (e:=d) (h':=s.heap) (t':=s.toks) (by rw[e];exact trivial) (.inl rfl) (fun _ _ _ q=>q) ⟨o,g1⟩ ⟨g1,z,y,vs,r,o,es,ep,g1,g2,g3,g4⟩
theorem thaw (I:Inv X pins σ H s)(nf:∀ob u,X.H₀ d≠some (.frz ob u))(e:H d=some (.frz o (.dK kvs))):Inv X pins σ (upd H d (.dK kvs)) s:=by
 have nn:∀b,H b=none→b≠d:=fun b n z=>by rw[z,e] at n;cases n
 have nu:∀b u,H b=some u→(∀ob w,u≠.frz ob w)→b≠d:=fun b u q hn z=>by
   rw[z,e] at q
   exact hn _ _ (Option.some.inj q).symm
 refine⟨I.ok,I.os,I.bare,⟨I.base.keep,I.base.slot,fun b o q n hx=>?_,I.base.there,fun b xs q=>?_,fun b ob u q=>?_,fun b ps q=>?_⟩,I.loc,I.cell,?_,fun x c q=>?_,fun p hp=>?_,fun b u q=>?_,I.len⟩
 · have:=I.base.free b o q n hx
   rw[upd_ne (nn b this)]
   exact this
 · have:=I.base.tups b xs q
   rw[upd_ne (nu b _ this fun _ _ z=>by cases z)]
   exact this
 · rw[upd_ne (fun z=>nf ob u (by rw[←z];exact q))]
   exact I.base.frzs b ob u q
 · obtain⟨more,this⟩:=I.base.tbls b ps q
   rw[upd_ne (nu b _ this fun _ _ z=>by cases z)]
   exact⟨more,this⟩
 · rw[upd_ne (nn _ I.free)]
   exact I.free
 · have:=I.freeC x c q
   rw[upd_ne (nn c this)]
   exact this
 · obtain⟨h1,h2,h3⟩:=I.pin p hp
   exact⟨h1,by rw[upd_ne (nn _ h2)];exact h2,h3⟩
 · by_cases hb:b=d
   · subst hb
     rw[upd_same] at q
     cases q
     exact(show ObjOk X.prog X.w H s.heap b (.frz o (.dK kvs)) from I.hok b _ e).2
   · rw[upd_ne hb] at q
     refine(I.hok b u q).stay (fun _ _ _ g=>g) (fun c g=>?_) fun c xs g=>?_
     · rw[upd_ne (nu c _ g fun _ _ z=>by cases z)]
       exact g
     · rw[upd_ne (nu c _ g fun _ _ z=>by cases z)]
       exact g
end
section
variable {X:Cx}{tg:Expr}
def iDict (NF:Addr→Prop)(tl:TE):TI:=fun σ H R=>tl σ H fun x H1=>∃d kvs,x = .ref d∧H1 d=some (.dK kvs)∧∀o,NF d→R (Itd d o kvs) (upd H1 d (.frz o (.dK kvs)))
theorem pi_dict {l:Expr}{tl:TE}(hl:PE X l tl):PI X tg l (iDict (fun d=>∀ob u,X.H₀ d≠some (.frz ob u)) tl):=by
 intro pins s σ H R I h
 refine thn (hl pins s σ H _ I h) fun v s1 ⟨x,H1,I1,r1,q1⟩=>?_
 obtain⟨d,kvs,e,hd,q⟩:=q1
 subst e
 cases r1
 obtain⟨o,es,ep,vs,g2,y,kvl,m,I2⟩:=freeze I1 hd
 have nf:∀ob u,X.H₀ d≠some (.frz ob u):=fun ob u z=>by
   have:=I1.base.frzs d ob u z
   rw[hd] at this
   cases this
 refine wpAny_pyIter_dict y m ?_
 refine⟨s1.heap.objs.size,[s1.heap.objs.size],_,_,_,rfl,I2.kept (t':=s1.toks) fun b o e=>Heap.get?_push_of_some _ e,turn_dict d _ o kvs g2,?_,fun b hb=>?_,q o nf⟩
 · refine⟨_,Heap.get?_push_size _ rfl,rfl,?_⟩
   rw[KV.length kvl]
   rfl
 have e:b=s1.heap.objs.size:=by simpa using hb
 subst e
 exact I2.fpOk (Nat.le_refl _) (I2.hok.fresh (Nat.le_refl _))
def tForD (tl:TE)(g:TG)(tb:TS):TS:=fun D σ H=>∀NF:Addr→Prop,tFor (iDict NF tl) g tb { D with nx:=fun σ' H'=>∃d o kvs,NF d∧H' d=some (.frz o (.dK kvs))∧D.nx σ' (upd H' d (.dK kvs)) } σ H
theorem ps_forD {iter:Expr}{body:List Stmt}{tl:TE}{g:TG}{tb:TS}{pos:Pos}(hp:PassesOwn (model X.prog X.w) X.A X.env X.xe)(hc:X.calm=true)(hl:PE X iter tl)(hg:PG X tg g)(hb:PSs X body tb)
   (hs:∀x,foldedSetIterable iter X.env x=pure x:=by intro _;rfl):PS X (.For tg iter body [] pos) (tForD tl g tb):=by
 intro pins s σ H D I h
 refine thn (ps_for hp hc (pi_dict hl) hg hb hs pins s σ H _ I (h _)) fun f s' q=>?_
 cases f with
 | next =>
   obtain⟨σ',H',I',d,o,kvs,nf,e,q⟩:=q
   exact⟨σ',_,thaw I' nf e,q⟩
 | brk=>exact q
 | cont=>exact q
 | ret v=>exact q
end
section
variable {K:PySem.W.Frag}{σ:L2.St}{H:Hp}{Q:VK}{D:Ends}
theorem r_forD {tl:TE}{g:TG}{tb:TS}(h:∀NF:Addr→Prop,tl σ H fun x H1=>∃d kvs,x = .ref d∧H1 d=some (.dK kvs)∧∀o,NF d→∃W:Nat→Nat→L2.St→Hp→Prop,(∃m,W 0 m σ (upd H1 d (.frz o (.dK kvs))))∧∀i m σ H,W i m σ H →
   ((Itd d o kvs).stop i H∧(∃d o kvs,NF d∧H d=some (.frz o (.dK kvs))∧D.nx σ (upd H d (.dK kvs))))∨((Itd d o kvs).go i H∧∃N:L2.St→Hp→Prop,(∀σ' H',N σ' H'→∃m',m'<m∧W (i+1) m' σ' H')∧∀x H',(Itd d o kvs).yld i H x H'→g x σ H' fun σ2 H2=>tb { D with nx:=N,ct:=N,bk:=fun σ' H'=>∃d o kvs,NF d∧H' d=some (.frz o (.dK kvs))∧D.nx σ' (upd H' d (.dK kvs)) } σ2 H2)):tForD tl g tb D σ H:=h
theorem for_dict {d:Addr}{o:Obj}{kvs:List (Key×V)}{NF:Addr→Prop}{g:TG}{tb:TS}(nf:NF d)(Pv:Nat→L2.St→Hp→Prop)(h0:Pv 0 σ H)(hl:∀i σ H,Pv i σ H→H d=some (.frz o (.dK kvs)))
   (hs:∀i k v σ H,kvs[i]?=some (k,v)→Pv i σ H→g (kV k) σ H fun σ2 H2=>tb { D with nx:=Pv (i+1),ct:=Pv (i+1),bk:=fun σ' H'=>∃d o kvs,NF d∧H' d=some (.frz o (.dK kvs))∧D.nx σ' (upd H' d (.dK kvs)) } σ2 H2)
   (hd:∀σ H,Pv kvs.length σ H→D.nx σ (upd H d (.dK kvs))) :
   ∃W:Nat→Nat→L2.St→Hp→Prop,(∃m,W 0 m σ H)∧∀i m σ H,W i m σ H →
   ((Itd d o kvs).stop i H∧(∃d o kvs,NF d∧H d=some (.frz o (.dK kvs))∧D.nx σ (upd H d (.dK kvs))))∨((Itd d o kvs).go i H∧∃N:L2.St→Hp→Prop,(∀σ' H',N σ' H'→∃m',m'<m∧W (i+1) m' σ' H')∧∀x H',(Itd d o kvs).yld i H x H'→g x σ H' fun σ2 H2=>tb { D with nx:=N,ct:=N,bk:=fun σ' H'=>∃d o kvs,NF d∧H' d=some (.frz o (.dK kvs))∧D.nx σ' (upd H' d (.dK kvs)) } σ2 H2):=by
 refine⟨fun i m σ H=>m=kvs.length-i∧i≤kvs.length∧Pv i σ H,⟨kvs.length,by simp,Nat.zero_le _,h0⟩,?_⟩
 rintro i m σ H ⟨rfl,hi,p⟩
 have q:=hl i σ H p
 by_cases hlt:i<kvs.length
 · obtain⟨k,v,ekv⟩:∃k v,kvs[i]?=some (k,v):=⟨kvs[i].1,kvs[i].2,by simp [hlt]⟩
   refine .inr ⟨⟨q,k,v,ekv⟩,Pv (i+1),fun σ' H' p'=>⟨kvs.length-(i+1),by omega,rfl,hlt,p'⟩,fun x H' y=>?_⟩
   obtain⟨e,k',v',e',ex⟩:=y
   subst e ex
   exact hs i k' v' σ _ e' p
 · have e:i=kvs.length:=by omega
   subst e
   exact .inl ⟨⟨q,Nat.le_refl _⟩,d,o,kvs,nf,q,hd σ H p⟩
theorem r_dget {td ty:TE}(h:td σ H fun x H1=>ty σ H1 fun y H2=>∃a v,x = .ref a∧DGet H2 a y (some v)∧Q v H2):tDGet td ty σ H Q:=h
theorem r_dput {td ty tv:TE}(h:tv σ H fun v H1=>td σ H1 fun x H2=>ty σ H2 fun y H3=>∃a H4,x = .ref a∧DPut H3 a y v H4∧D.nx σ H4):sDPut td ty tv D σ H:=h
theorem r_dnew (h:∀p,H p=none→Q (.ref p) (upd H p (.dK []))):tDNewK σ H Q:=h
theorem r_tyD {p:Addr}{kvs:List (Key×V)}{P:Prop}(h:H p=some (.dK kvs))(q:P):tyV K "dict" (.ref p) H∧P:=⟨.inr (.inr (.inl ⟨rfl,.inl ⟨_,h⟩⟩)),q⟩
end
def rDClear:V→List V→Hp→VK→Prop:=fun x vs H Q=>∃a kvs,x = .ref a∧vs=[]∧H a=some (.dK kvs)∧Q .non (upd H a (.dK []))
theorem mt_dclear {X:Cx}:MtM X "dict.clear" rDClear:=by
 intro pins s σ H x vs v us Q I rx rv h
 obtain⟨a,kvs,rfl,rfl,hH,q⟩:=h
 cases rx
 have hus:=rv.zero
 subst hus
 exact d_clear I hH fun s' I'=>⟨.non,_,I',rfl,q⟩
theorem r_dclear {H:Hp}{Q:VK}{a:Addr}{kvs:List (Key×V)}(h:H a=some (.dK kvs))(q:Q .non (upd H a (.dK []))):rDClear (.ref a) [] H Q:=⟨a,kvs,rfl,rfl,h,q⟩
theorem mem_putK {kvs:List (Key×V)}{k:Key}{v:V}{p:Key×V}(h:p∈putK kvs k v):p=(k,v)∨(p∈kvs∧p.1≠k):=by
 unfold putK at h
 split at h
 · obtain⟨q,hq,e⟩:=List.mem_map.mp h
   by_cases hk:q.1=k
   · rw[if_pos hk] at e
     left
     rw[←e,hk]
   · rw[if_neg hk] at e
     subst e
     exact .inr ⟨hq,hk⟩
 · rename_i hn
   rcases List.mem_append.mp h with g | g
   · refine .inr ⟨g,fun z=>hn ?_⟩
     exact List.any_eq_true.mpr ⟨p,g,decide_eq_true z⟩
   · exact .inl (List.mem_singleton.mp g)
end Stow
namespace Stow
open PySem L2 PyProof.Rows
inductive W4
 | first | best | next | likes
def MethS (P:Program)(w:World)(K:PySem.W.Frag)(mg:Str→Option Value)(base:Heap)(ok:W4→Prop)(C:W4→Addr)(m:Str)(j:Nat)(ps:List Str)(dvs:List V)(sp:W4→Sp):Prop:=∀i,ok i→Methx P w K mg base (C i) m j ps dvs (sp i)
def MethF (P:Program)(w:World)(K:PySem.W.Frag)(mg:Str→Option Value)(base:Heap)(C:W4→Addr)(m:Str)(j:Nat)(ps:List Str)(dvs:List V)(sp:W4→Sp):Prop:=∀i,Methx P w K mg base (C i) m j ps dvs (sp i)
structure MethFD (P:Program)(w:World)(K:PySem.W.Frag)(mg:Str→Option Value)(base:Heap)(C:W4→Addr)(m:Str)(j:Nat)(ps:List Str)(dvs:List V)(sp:W4→Sp):Prop where
 all:MethF P w K mg base C m j ps [] sp
 less:MethF P w K mg base C m j ps dvs sp
section
variable {P:Program}{w:World}{K:PySem.W.Frag}{mg:Str→Option Value}{base:Heap}{C:W4→Addr}{m:Str}{j k:Nat}{ps:List Str}{dvs:List V}{sp:W4→Sp}{ok ok':W4→Prop}{f:Addr}{fd:FuncData}{ds:List Value}
theorem MethS.made (F:FnOk P w K mg base (CXe P w) j f fd ps (fun vs H Q E=>∃i,ok i∧sp i vs H Q E))(M:∀i,ok i→Meth K (C i) m f)(b:Binds K fd ps [])(c:∀i,Cls K (C i)):MethS P w K mg base ok C m j ps [] sp :=
 fun i hi=>⟨⟨f,fd,[],F.imp fun _ _ _ _ h=>⟨i,hi,h⟩,M i hi,b,.nil⟩,c i⟩
theorem MethF.made (F:FnOk P w K mg base (CXe P w) j f fd ps (fun vs H Q E=>∃i,sp i vs H Q E))(M:∀i,Meth K (C i) m f)(b:Binds K fd ps [])(c:∀i,Cls K (C i)):MethF P w K mg base C m j ps [] sp :=
 fun i=>⟨⟨f,fd,[],F.imp fun _ _ _ _ h=>⟨i,h⟩,M i,b,.nil⟩,c i⟩
theorem MethFD.made (F:FnOk P w K mg base (CXe P w) j f fd ps (fun vs H Q E=>∃i,sp i vs H Q E))(M:∀i,Meth K (C i) m f)(b:Binds K fd ps [])(b':Binds K fd ps ds)(v:Vals dvs ds)(c:∀i,Cls K (C i)):MethFD P w K mg base C m j ps dvs sp :=
 ⟨fun i=>⟨⟨f,fd,[],F.imp fun _ _ _ _ h=>⟨i,h⟩,M i,b,.nil⟩,c i⟩,fun i=>⟨⟨f,fd,ds,F.imp fun _ _ _ _ h=>⟨i,h⟩,M i,b',v⟩,c i⟩⟩
theorem Methx.up {C₀:Addr}{sp₀:Sp}(D:Methx P w K mg base C₀ m j ps dvs sp₀)(h:j≤k):Methx P w K mg base C₀ m k ps dvs sp₀:=by
 obtain⟨f,fd,ds,F,M,b,v⟩:=D.ex
 exact⟨⟨f,fd,ds,F.mono h,M,b,v⟩,D.cl⟩
end
section
variable {X:Cx}{j k:Nat}{C:W4→Addr}{ps:List Str}{sp:W4→Sp}{dvs:List V}{m:Str}{pos apos:Pos}{e o:Expr}{es:List Expr}{to:TE}{t:TA}{E:XK}
end
section
variable {K:PySem.W.Frag}{σ:L2.St}{H:Hp}{Q:VK}{EX:XK}{C:W4→Addr}{m:Str}{sp:W4→Sp}{E:XK}{ta:TE}{t:TA}{dvs:List V}
end
theorem decS {i j:Str}:decide (V.str i=V.str j)=decide (i=j):=by
 rw[dec_str,Bool.eq_iff_iff]
 simp
section
variable {H:Hp}{Q:VK}
theorem r_eqSS {i:Str}(h:Q (.bl true) H):rEq (.str i) (.str i) H Q:=⟨rfl,by rw[decide_eq_true rfl];exact h⟩
theorem r_eqSt {i j:Str}(h:Q (.bl (decide (i=j))) H):rEq (.str i) (.str j) H Q:=⟨rfl,by rw[decS];exact h⟩
end
end Stow
namespace Stow
open PySem L2 PyProof.Rows
theorem vals_by:∀{xs:List V} {us:List Value},us.length=xs.length→(∀(j:Nat) (v:V) (u:Value),xs[j]?=some v→us[j]?=some u→RelV v u)→Vals xs us
 | [],[],_,_=>.nil
 | x::xs,u::us,hl,h=>.cons (h 0 x u rfl rfl) (vals_by (by simpa using hl) fun j v u' h1 h2=>h (j+1) v u' (by simpa using h1) (by simpa using h2))
section
variable {X:Cx}{a:Expr}{ta:TE}
theorem pt_truthD (ha:PE X a ta)(he:∀whole,isTrue a X.env whole=(do let v ←whole;standAt a.pos;holding [v] (truthy v))) :
   PT X a (fun σ H Q=>ta σ H fun x H'=>∃p,∃kvs:List (Key×V),x = .ref p∧H' p=some (.dK kvs)∧Q (!kvs.isEmpty) H'):=by
 intro pins s σ H Q I h
 refine isTrue_plain (thn (ha pins s σ H _ I h) fun v s1 ⟨x,H1,I1,r1,p,kvs,ex,e,q1⟩=>?_) (he _)
 subst ex
 obtain rfl:v=Value.ref p:=r1
 exact d_truth I1 (.inl e) fun s' I'=>⟨H1,I',q1⟩
end
section
variable {K:PySem.W.Frag}{σ:L2.St}{H:Hp}{Q:VK}
theorem r_dIn {ty td:TE}(h:ty σ H fun y H1=>td σ H1 fun x H2=>∃a o,x = .ref a∧DGet H2 a y o∧Q (.bl o.isSome) H2):tDIn ty td σ H Q:=h
theorem r_dPop {td ty:TE}(h:td σ H fun x H1=>∃a,x = .ref a∧IsD H1 a∧ty σ H1 fun y H2=>∃kvs k v,H2 a=some (.dK kvs)∧y=kV k∧valV kvs k=some v∧Q v (upd H2 a (.dK (dropK kvs k)))):tDPop1 td ty σ H Q:=h
end
end Stow
namespace Stow
def Inn (z:Pc)(i:Nat):Prop:=z.a+1≤i∧(i:Int)<z.a+z.l-1
theorem apart {ps:List Pc}{s e:Int}{y z:Pc}{i:Int}(c:Chain s ps e)(hy:y∈ps)(hz:z∈ps)(hne:y≠z)(h1:z.a≤i)(h2:i<z.a+z.l):i<y.a∨y.a+y.l≤i:=by
 rcases Int.lt_or_le i y.a with g | g
 · exact .inl g
 · rcases Int.lt_or_le i (y.a+y.l) with g2 | g2
   · exact absurd (chain_meet c hy hz g g2 h1 h2) hne
   · exact .inr g2
theorem carI_in {cs:List Int}{s g c j:Nat}(h1:s+c≤cs.length)(h2:g+c≤cs.length)(hj:j<c):(carI cs s g c)[g+j]?=cs[s+j]?:=by
 unfold carI
 have lt:(cs.take g).length=g:=by rw[List.length_take];omega
 have lm:((cs.drop s).take c).length=c:=by rw[List.length_take,List.length_drop];omega
 rw[List.append_assoc,List.getElem?_append_right (by omega),lt,List.getElem?_append_left (by omega),show g+j-g=j by omega,List.getElem?_take,if_pos hj,List.getElem?_drop]
theorem carI_off {cs:List Int}{s g c j:Nat}(h1:s+c≤cs.length)(h2:g+c≤cs.length)(hj:j<g∨g+c≤j):(carI cs s g c)[j]?=cs[j]?:=by
 unfold carI
 have lt:(cs.take g).length=g:=by rw[List.length_take];omega
 have lm:((cs.drop s).take c).length=c:=by rw[List.length_take,List.length_drop];omega
 rcases hj with hj | hj
 · rw[List.append_assoc,List.getElem?_append_left (by omega),List.getElem?_take,if_pos hj]
 · rw[List.getElem?_append_right (by rw[List.length_append];omega),List.getElem?_drop,List.length_append,lt,lm]
   congr 1
   omega
end Stow
set_option Elab.async false
set_option linter.all false
set_option maxRecDepth 100000
set_option maxHeartbeats 4000000
namespace Stow
open PySem L2 PyProof.Rows PySem.W
section
variable {prog:Program}{w:World}{A:Around}{E:Value→Shared→Prop}{s:Shared}
end
section
variable {X:Cx}
end
section
variable {X:Cx}
end
end Stow
namespace Stow
open PySem L2 PyProof.Rows
def eqP (y z:Pc):Bool:=decide (y.a=z.a∧y.l=z.l∧y.v=z.v)
theorem eqP_iff {y z:Pc}:eqP y z=true↔y=z:=by
 unfold eqP
 rw[decide_eq_true_iff]
 constructor
 · rintro⟨h1,h2,h3⟩
   obtain⟨a,l,v⟩:=y
   obtain⟨a',l',v'⟩:=z
   simp only at h1 h2 h3
   rw[h1,h2,h3]
 · rintro rfl
   exact⟨rfl,rfl,rfl⟩
theorem eqVs_pc (y z:Pc):eqVs [.int y.a,.int y.l,.bl y.v] [.int z.a,.int z.l,.bl z.v]=eqP y z:=by
 rw[Bool.eq_iff_iff,eqP_iff]
 constructor
 · intro h
   unfold eqVs at h
   have h:=List.all_eq_true.mp (Bool.and_eq_true_iff.mp h).1
   have h0:=h 0 (by simp)
   have h1:=h 1 (by simp)
   have h2:=h 2 (by simp)
   have e0:y.a=z.a:=by
     have:decide (y.a=z.a)=true:=h0
     simpa using this
   have e1:y.l=z.l:=by
     have:decide (y.l=z.l)=true:=h1
     simpa using this
   have e2:y.v=z.v:=by
     have g:eqV (.bl y.v) (.bl z.v)=true:=h2
     cases hy:y.v <;> cases hz:z.v <;> rw[hy,hz] at g <;> first | rfl | cases g
   exact eqP_iff.mp (by unfold eqP;exact decide_eq_true ⟨e0,e1,e2⟩)
 · rintro rfl
   exact eqVs_self rfl
open Classical in
theorem op_inP {X:Cx}(hu:X.A.units+64<cLine):OpR X (compareOp .In) (fun x y H Q=>∃t p us ps z,x = .ref t∧y = .ref p∧H t=some (.tup [.int z.a,.int z.l,.bl z.v])∧H p=some (.lst us)∧PcsAt H us ps∧Q (.bl (ps.any fun y=>eqP y z)) H):=by
 intro pins s σ H x y v u Q I rx ry h
 obtain⟨t,p,us,ps,z,rfl,rfl,ht,hp,pa,q⟩:=h
 cases rx
 cases ry
 obtain⟨its,r,pl,hz⟩:=I.list (SqL.of hp)
 have hl:=r.length
 have hpl:=pa.1
 have at':∀w∈its,∃t' z',w = .ref t'∧H t'=some (.tup [.int z'.a,.int z'.l,.bl z'.v])∧z'∈ps:=fun w hw=>by
   obtain⟨i,hi,rfl⟩:=List.mem_iff_getElem.mp hw
   have hip:i<ps.length:=by omega
   obtain⟨t',e1,e2⟩:=pa.2 i ps[i] (by simp [hip])
   obtain⟨u',g1,q1⟩:=r.get e1
   cases q1
   rw[List.getElem?_eq_getElem hi] at g1
   exact⟨t',ps[i],Option.some.inj g1,e2,List.getElem_mem hip⟩
 refine SeqAt.in_listAt (fun w=>decide (∃t' z',w=Value.ref t'∧H t'=some (.tup [.int z'.a,.int z'.l,.bl z'.v])∧eqP z' z=true)) pl.isList (fun w hw=>?_) ⟨.bl _,H,I,rfl,?_⟩
 · obtain⟨t',z',rfl,h1,_⟩:=at' w (by simpa using hw)
   have ev:decide (∃t'' z'',Value.ref t'=Value.ref t''∧H t''=some (.tup [.int z''.a,.int z''.l,.bl z''.v])∧eqP z'' z=true)=eqP z' z:=by
     rw[Bool.eq_iff_iff,decide_eq_true_iff]
     constructor
     · rintro⟨t'',z'',e,g1,g2⟩
       cases e
       rw[h1] at g1
       have e2:=HO.tup.inj (Option.some.inj g1)
       simp only [List.cons.injEq,V.int.injEq,V.bl.injEq,and_true] at e2
       have:z'=z'':=eqP_iff.mp (by unfold eqP;exact decide_eq_true e2)
       rw[this]
       exact g2
     · exact fun g=>⟨t',z',rfl,h1,g⟩
   rw[ev,←eqVs_pc]
   by_cases e:t'=t
   · subst e
     rw[h1] at ht
     rw[HO.tup.inj (Option.some.inj ht),eqVs_self rfl]
     exact SeqAt.EqAt.same _
   · exact SeqAt.EqAt.of_refs e (rc_tups (A:=X.A.in1) (by show X.A.units+1<cLine;omega) I (SqT.of h1) (SqT.of ht) rfl rfl)
 · have:its.toArray.any (fun w=>decide (∃t' z',w=Value.ref t'∧H t'=some (.tup [.int z'.a,.int z'.l,.bl z'.v])∧eqP z' z=true))=ps.any fun y=>eqP y z:=by
     rw[List.any_toArray,Bool.eq_iff_iff,List.any_eq_true,List.any_eq_true]
     constructor
     · rintro⟨w,hw,hd⟩
       obtain⟨t',z',e,g1,g2⟩:=of_decide_eq_true hd
       obtain⟨t2,z2,e2,g3,g4⟩:=at' w hw
       rw[e] at e2
       cases e2
       rw[g1] at g3
       have e2:=HO.tup.inj (Option.some.inj g3)
       simp only [List.cons.injEq,V.int.injEq,V.bl.injEq,and_true] at e2
       have:z'=z2:=eqP_iff.mp (by unfold eqP;exact decide_eq_true e2)
       exact⟨z2,g4,by rw[←this];exact g2⟩
     · rintro⟨y,hy,g⟩
       obtain⟨i,hi,rfl⟩:=List.mem_iff_getElem.mp hy
       obtain⟨t',e1,e2⟩:=pa.2 i ps[i] (by simp [hi])
       obtain⟨u',g1,q1⟩:=r.get e1
       cases q1
       exact⟨_,List.mem_of_getElem? g1,decide_eq_true ⟨t',ps[i],rfl,e2,g⟩⟩
   rw[this]
   exact q
end Stow
namespace Stow
def Al (z:Pc):Prop:=∃m q:Nat,z.l=2^m∧z.a=2^m*(q:Int)
theorem pw1 (i:Nat):1≤(2:Int)^i:=pow_pos1 i
theorem pw2 (i:Nat):(2:Int)^(i+1)=2^i+2^i:=by rw[Int.pow_succ];omega
def spl (a:Int)(B e:Nat):List Pc:=(List.range' B e).map fun i:Nat=>⟨a+2^i,2^i,false⟩
theorem spl_cons (a:Int)(B e:Nat):spl a B (e+1)=⟨a+2^B,2^B,false⟩::spl a (B+1) e:=by
 unfold spl
 rw[List.range'_succ]
 rfl
theorem spl_chain (a:Int):∀(e B:Nat),Chain (a+2^B) (spl a B e) (a+2^(B+e))
 | 0,B=>rfl
 | e+1,B=>by
   rw[spl_cons]
   refine⟨rfl,pw1 B,(fun h=>by cases h),?_⟩
   have:=spl_chain a e (B+1)
   rw[pw2,show a+(2^B+2^B)=a+2^B+2^B by omega,show B+1+e=B+(e+1) by omega] at this
   exact this
theorem spl_len (a:Int)(B e:Nat):(spl a B e).length=e:=by unfold spl;rw[List.length_map,List.length_range']
theorem spl_mem {a:Int}{B e:Nat}{z:Pc}(h:z∈spl a B e):∃i,B≤i∧i<B+e∧z=⟨a+2^i,2^i,false⟩:=by
 unfold spl at h
 obtain⟨i,hi,e'⟩:=List.mem_map.mp h
 obtain⟨h1,h2⟩:=List.mem_range'_1.mp hi
 exact⟨i,h1,h2,e'.symm⟩
theorem pow_add' (i e:Nat):(2:Int)^(i+e)=2^i*2^e:=Int.pow_add 2 i e
theorem cast_pow (e:Nat):((2^e:Nat):Int)=2^e:=by
 induction e with
 | zero=>rfl
 | succ e ih=>rw[Nat.pow_succ,Int.natCast_mul,ih,Int.pow_succ];rfl
theorem al_sub {a:Int}{M i q:Nat}(h:a=2^M*(q:Int))(hi:i≤M):∃r:Nat,a=2^i*(r:Int):=by
 obtain⟨e,rfl⟩:∃e,M=i+e:=⟨M-i,by omega⟩
 refine⟨2^e*q,?_⟩
 rw[h,pow_add',Int.natCast_mul,cast_pow,Int.mul_assoc]
theorem spl_al {a:Int}{M B e q:Nat}(h:a=2^M*(q:Int))(hB:B+e≤M):∀z∈spl a B e,Al z:=fun z hz=>by
 obtain⟨i,h1,h2,rfl⟩:=spl_mem hz
 obtain⟨r,hr⟩:=al_sub h (show i≤M by omega)
 refine⟨i,r+1,rfl,?_⟩
 show a+2^i=2^i*((r+1:Nat):Int)
 rw[hr,Int.natCast_add,Int.mul_add]
 simp
def hcP (a:Int)(B M:Nat):List Pc:=⟨a,2^B,true⟩::spl a B (M-B)
theorem hcP_chain {a:Int}{B M:Nat}(h2:2≤B)(h:B≤M):Chain a (hcP a B M) (a+2^M):=by
 have h3:(3:Int)≤2^B:=by
   have:=pow_mono h2
   have e:(2:Int)^2=4:=by decide
   omega
 refine⟨rfl,pw1 B,fun _=>h3,?_⟩
 have:=spl_chain a (M-B) B
 rw[show B+(M-B)=M by omega] at this
 exact this
theorem spl_lay {row:List Int}{ds rs:List Pc}{a:Int}{L e:Nat}(h0:0≤a)(hd:EndBy ds a)(hr:FromOn rs (a+2^(L+1+e)))(hl:a+2^(L+1+e)≤row.length)(m:Marks row (ds++(spl a (L+1) e++rs))) :
   a+2^L+2^L≤row.length∧Marks (laidI row (a+2^L) (2^L) false) (ds++(spl a L (e+1)++rs)):=by
 have c:=spl_chain a e (L+1)
 have hle:=c.le
 have p1:=pw1 L
 have p2:=pw2 L
 have hb:a+2^L+2^L≤row.length:=by omega
 refine⟨hb,?_⟩
 rw[spl_cons,List.cons_append]
 refine Marks.lay (by omega) p1 hb (hd.mono (by omega)) ?_ m
 intro p hp
 rcases List.mem_append.mp hp with g | g
 · have:=c.fromOn p g
   omega
 · have:=hr p g
   omega
theorem blk_lay {row:List Int}{ds rs:List Pc}{a:Int}{B e:Nat}(h0:0≤a)(hd:EndBy ds a)(hr:FromOn rs (a+2^(B+e)))(hl:a+2^(B+e)≤row.length)(m:Marks row (ds++(spl a B e++rs))) :
   a+2^B≤row.length∧Marks (laidI row a (2^B) true) (ds++(⟨a,2^B,true⟩::(spl a B e++rs))):=by
 have c:=spl_chain a e B
 have hle:=c.le
 have p1:=pw1 B
 have hb:a+2^B≤row.length:=by omega
 refine⟨hb,Marks.lay h0 p1 hb hd ?_ m⟩
 intro p hp
 rcases List.mem_append.mp hp with g | g
 · have:=c.fromOn p g
   omega
 · have:=hr p g
   omega
def Bst (b:Int)(ps:List Pc)(z:Pc):Prop:=z∈ps∧z.v=false∧b≤z.l∧∀y∈ps,y.v=false→b≤y.l→z.l<y.l∨(z.l=y.l∧z.a≤y.a)
theorem Bst.uniq {b n:Int}{ps:List Pc}{z y:Pc}(c:Chain 0 ps n)(h:Bst b ps z)(g:Bst b ps y):z=y:=by
 have h1:=h.2.2.2 y g.1 g.2.1 g.2.2.1
 have h2:=g.2.2.2 z h.1 h.2.1 h.2.2.1
 exact chain_same c h.1 g.1 (by omega)
def bud (m q:Nat):Int:=if q%2=0 then 2^m*(q:Int)+2^m else 2^m*(q:Int)-2^m
inductive MgTo (ps:List Pc):List Pc→List Pc→Nat→Nat→List Pc→List Pc→Nat→Nat→Prop
 | stop {ds rs:List Pc} {m q:Nat} (h:(⟨bud m q,2^m,false⟩:Pc) ∉ ps):MgTo ps ds rs m q ds rs m q
 | right {ds rs:List Pc} {m q:Nat} {ds' rs':List Pc} {m' q':Nat} (hq:q%2=0) (h:(⟨bud m q,2^m,false⟩:Pc)∈ps) (k:MgTo ps ds rs (m+1) (q/2) ds' rs' m' q'):MgTo ps ds (⟨bud m q,2^m,false⟩::rs) m q ds' rs' m' q'
 | left {ds rs:List Pc} {m q:Nat} {ds' rs':List Pc} {m' q':Nat} (hq:q%2=1) (h:(⟨bud m q,2^m,false⟩:Pc)∈ps) (k:MgTo ps ds rs (m+1) (q/2) ds' rs' m' q'):MgTo ps (ds++[⟨bud m q,2^m,false⟩]) rs m q ds' rs' m' q'
structure Lie (N:Nat)(ps ds rs:List Pc)(m q:Nat):Prop where
 le:m≤N
 c1:Chain 0 ds (2^m*(q:Int))
 c2:Chain (2^m*(q:Int)+2^m) rs (2^N)
 is:∀z:Pc,(z.a+z.l≤2^m*(q:Int)∨2^m*(q:Int)+2^m≤z.a)→(z∈ps↔z∈ds∨z∈rs)
theorem even_at {m q:Nat}(hq:q%2=0):(2:Int)^(m+1)*((q/2:Nat):Int)=2^m*(q:Int):=by
 obtain⟨r,rfl⟩:∃r,q=2*r:=⟨q/2,by omega⟩
 rw[show 2*r/2=r by omega,Int.pow_succ,Int.natCast_mul,Int.mul_assoc]
 rfl
theorem odd_at {m q:Nat}(hq:q%2=1):(2:Int)^(m+1)*((q/2:Nat):Int)=2^m*(q:Int)-2^m:=by
 obtain⟨r,rfl⟩:∃r,q=2*r+1:=⟨q/2,by omega⟩
 rw[show (2*r+1)/2=r by omega,Int.pow_succ,Int.natCast_add,Int.natCast_mul,Int.mul_add,Int.mul_assoc]
 simp
theorem Lie.right {N:Nat}{ps ds rs:List Pc}{m q:Nat}(L:Lie N ps ds rs m q)(hq:q%2=0)(h:(⟨bud m q,2^m,false⟩:Pc)∈ps):∃rs1,rs=⟨bud m q,2^m,false⟩::rs1∧Lie N ps ds rs1 (m+1) (q/2):=by
 have eb:bud m q=2^m*(q:Int)+2^m:=by unfold bud;rw[if_pos hq]
 have p1:=pw1 m
 have p2:=pw2 m
 have ea:=even_at (m:=m) hq
 have hin:(⟨bud m q,2^m,false⟩:Pc)∈rs:=by
   rcases(L.is ⟨bud m q,2^m,false⟩ (.inr (by show _≤bud m q;omega))).mp h with g | g
   · have:=(L.c1.mem _ g).2.2.2
     have:bud m q+2^m≤2^m*(q:Int):=this
     omega
   · exact g
 cases rs with
 | nil=>cases hin
 | cons y r =>
   obtain⟨h0,h1,h3,h4⟩:=L.c2
   have ey:(⟨bud m q,2^m,false⟩:Pc)=y:=chain_same (ps:=y::r) ⟨h0,h1,h3,h4⟩ hin List.mem_cons_self (by show bud m q=y.a;omega)
   subst ey
   have h4:Chain (2^m*(q:Int)+2^m+2^m) r (2^N):=h4
   refine⟨r,rfl,?_,by rw[ea];exact L.c1,by rw[ea,p2,show (2:Int)^m*(q:Int)+(2^m+2^m)=2^m*(q:Int)+2^m+2^m by omega];exact h4,fun z hz=>?_⟩
   · have hle:=h4.le
     have hm:(2:Int)^m<2^N:=by
       have:0≤2^m*(q:Int):=Int.mul_nonneg (by omega) (by omega)
       omega
     exact pow_lt_of hm
   · rw[ea,p2] at hz
     rw[L.is z (by omega)]
     constructor
     · rintro(g | g)
       · exact .inl g
       · rcases List.mem_cons.mp g with e | e
         · rw[e] at hz
           have hz:bud m q+2^m≤2^m*(q:Int)∨2^m*(q:Int)+(2^m+2^m)≤bud m q:=hz
           omega
         · exact .inr e
     · rintro(g | g)
       · exact .inl g
       · exact .inr (List.mem_cons_of_mem _ g)
theorem Lie.left {N:Nat}{ps ds rs:List Pc}{m q:Nat}(L:Lie N ps ds rs m q)(hq:q%2=1)(h:(⟨bud m q,2^m,false⟩:Pc)∈ps):∃ds1,ds=ds1++[⟨bud m q,2^m,false⟩]∧Lie N ps ds1 rs (m+1) (q/2):=by
 have eb:bud m q=2^m*(q:Int)-2^m:=by unfold bud;rw[if_neg (by omega)]
 have p1:=pw1 m
 have p2:=pw2 m
 have ea:=odd_at (m:=m) hq
 have hin:(⟨bud m q,2^m,false⟩:Pc)∈ds:=by
   rcases(L.is ⟨bud m q,2^m,false⟩ (.inl (by show bud m q+2^m≤_;omega))).mp h with g | g
   · exact g
   · have:=(L.c2.mem _ g).1
     have:2^m*(q:Int)+2^m≤bud m q:=this
     omega
 obtain⟨i,hi⟩:=List.getElem?_of_mem hin
 obtain⟨d1,d2,e1,_,k1,k2⟩:=chain_split L.c1 hi
 have k2:Chain (bud m q+2^m) d2 (2^m*(q:Int)):=k2
 have k1:Chain 0 d1 (bud m q):=k1
 have e2:d2=[]:=by
   cases d2 with
   | nil=>rfl
   | cons y r =>
     have:=k2.le
     rw[List.length_cons] at this
     omega
 subst e2
 have hN:(2:Int)^m*(q:Int)+2^m≤2^N:=by have:=L.c2.le;omega
 refine⟨d1,e1,?_,by rw[ea,←eb];exact k1,by rw[ea,p2,show (2:Int)^m*(q:Int)-2^m+(2^m+2^m)=2^m*(q:Int)+2^m by omega];exact L.c2,fun z hz=>?_⟩
 · have hq1:(2:Int)^m≤2^m*(q:Int):=by
     have:=Int.mul_le_mul_of_nonneg_left (show (1:Int)≤(q:Int) by omega) (show (0:Int)≤2^m by omega)
     omega
   exact pow_lt_of (show (2:Int)^m<2^N by omega)
 · rw[ea,p2] at hz
   rw[L.is z (by omega),e1]
   constructor
   · rintro(g | g)
     · rcases List.mem_append.mp g with e | e
       · exact .inl e
       · rw[List.mem_singleton.mp e] at hz
         have hz:bud m q+2^m≤2^m*(q:Int)-2^m∨2^m*(q:Int)-2^m+(2^m+2^m)≤bud m q:=hz
         omega
     · exact .inr g
   · rintro(g | g)
     · exact .inl (List.mem_append_left _ g)
     · exact .inr g
theorem MgTo.ex {N:Nat}{ps:List Pc}:∀(f:Nat) {ds rs:List Pc} {m q:Nat},N-m≤f→Lie N ps ds rs m q→∃ds' rs' m' q',MgTo ps ds rs m q ds' rs' m' q'∧Lie N ps ds' rs' m' q'
 | f,ds,rs,m,q,hf,L=>by
   by_cases h:(⟨bud m q,2^m,false⟩:Pc)∈ps
   · by_cases hq:q%2=0
     · obtain⟨rs1,e,L1⟩:=L.right hq h
       cases f with
       | zero=>have:=L1.le;omega
       | succ f =>
         obtain⟨ds',rs',m',q',k,L'⟩:=MgTo.ex f (by omega) L1
         exact⟨ds',rs',m',q',by rw[e];exact .right hq h k,L'⟩
     · obtain⟨ds1,e,L1⟩:=L.left (by omega) h
       cases f with
       | zero=>have:=L1.le;omega
       | succ f =>
         obtain⟨ds',rs',m',q',k,L'⟩:=MgTo.ex f (by omega) L1
         exact⟨ds',rs',m',q',by rw[e];exact .left (by omega) h k,L'⟩
   · exact⟨ds,rs,m,q,.stop h,L⟩
end Stow
namespace Stow
open PySem L2 PyProof.Rows
def cntF (f:Nat→Bool):Nat→Nat
 | 0=>0
 | n+1=>cntF f n+(if f n=true then 1 else 0)
theorem cntF_ask {f g:Nat→Bool}{B M:Nat}(hB:B≤M)(h1:∀i,i≠M→f i=true→g i=true)(h2:∀i,B≤i→i<M→f i=false∧g i=true):∀n,cntF f n+(min M n-min B n)≤cntF g n+(if M<n then 1 else 0)
 | 0=>by simp [cntF]
 | n+1=>by
   have ih:=cntF_ask hB h1 h2 n
   unfold cntF
   by_cases e:n=M
   · subst e
     rw[if_neg (by omega)] at ih
     rw[if_pos (show n<n+1 by omega)]
     split <;> split <;> omega
   · by_cases h:B≤n∧n<M
     · obtain⟨k1,k2⟩:=h2 n h.1 h.2
       rw[k1,k2,if_neg Bool.false_ne_true,if_pos rfl]
       rw[if_neg (by omega)] at ih ⊢
       omega
     · have hx:(if M<n+1 then 1 else 0)=(if M<n then 1 else (0:Nat)):=by
         by_cases g:M<n
         · rw[if_pos g,if_pos (by omega)]
         · rw[if_neg g,if_neg (by omega)]
       rw[hx]
       generalize (if M<n then 1 else (0:Nat))=c at ih
       cases hf:f n with
       | true =>
         rw[h1 n e hf,if_pos rfl]
         omega
       | false =>
         rw[if_neg Bool.false_ne_true]
         have:cntF g n≤cntF g n+(if g n=true then 1 else 0):=Nat.le_add_right _ _
         omega
theorem cntF_give {f g:Nat→Bool}{m m':Nat}(hm:m≤m')(h1:∀i,(i<m∨m'≤i)→f i=true→g i=true):∀n,cntF f n≤cntF g n+(min m' n-min m n)
 | 0=>by simp [cntF]
 | n+1=>by
   have ih:=cntF_give hm h1 n
   unfold cntF
   by_cases h:n<m∨m'≤n
   · cases hf:f n with
     | true =>
       rw[h1 n h hf]
       simp
       omega
     | false =>
       simp
       split <;> omega
   · split <;> split <;> omega
def levF (ps:List Pc)(i:Nat):Bool:=ps.any fun z=>!z.v&&decide (z.l=2^i)
theorem levF_iff {ps:List Pc}{i:Nat}:levF ps i=true↔∃z∈ps,z.v=false∧z.l=2^i:=by
 unfold levF
 rw[List.any_eq_true]
 constructor
 · rintro⟨z,h1,h2⟩
   obtain⟨h3,h4⟩:=Bool.and_eq_true_iff.mp h2
   exact⟨z,h1,by simpa using h3,of_decide_eq_true h4⟩
 · rintro⟨z,h1,h2,h3⟩
   exact⟨z,h1,by rw[h2,decide_eq_true h3];rfl⟩
def Cap (ps:List Pc)(k:Nat):Prop:=ps.length≤k+cntF (levF ps) 9
theorem pow_inj {i j:Nat}(h:(2:Int)^i=2^j):i=j:=by
 rcases Nat.lt_trichotomy i j with g | g | g
 · have:=pow_mono (show i+1≤j by omega)
   have:=pw2 i
   have:=pw1 i
   omega
 · exact g
 · have:=pow_mono (show j+1≤i by omega)
   have:=pw2 j
   have:=pw1 j
   omega
theorem Cap.ask {ds rs:List Pc}{a:Int}{B M k:Nat}(c:Cap (ds++⟨a,2^M,false⟩::rs) k)(hB:B≤M)(hM:M≤8)(b:Bst (2^B) (ds++⟨a,2^M,false⟩::rs) ⟨a,2^M,false⟩):Cap (ds++(hcP a B M++rs)) (k+1):=by
 have h:=cntF_ask (f:=levF (ds++⟨a,2^M,false⟩::rs)) (g:=levF (ds++(hcP a B M++rs))) hB (fun i hi hf=>?_) (fun i h1 h2=>⟨?_,?_⟩) 9
 · unfold Cap at *
   rw[if_pos (show M<9 by omega)] at h
   have e1:(ds++(hcP a B M++rs)).length=(ds++(⟨a,2^M,false⟩::rs:List Pc)).length+(M-B):=by
     unfold hcP
     rw[List.length_append,List.length_append,List.length_append,List.length_cons,List.length_cons,spl_len]
     omega
   rw[e1]
   omega
 · obtain⟨z,hz,hv,hl⟩:=levF_iff.mp hf
   refine levF_iff.mpr ⟨z,?_,hv,hl⟩
   rcases List.mem_append.mp hz with g | g
   · exact List.mem_append_left _ g
   · rcases List.mem_cons.mp g with e | e
     · rw[e] at hl
       exact absurd (pow_inj hl).symm hi
     · exact List.mem_append_right _ (List.mem_append_right _ e)
 · cases hf:levF (ds++⟨a,2^M,false⟩::rs) i with
   | false=>rfl
   | true =>
     obtain⟨z,hz,hv,hl⟩:=levF_iff.mp hf
     have p1:=pow_mono h1
     have p2:=pow_mono (show i+1≤M by omega)
     have p3:=pw2 i
     have p4:=pw1 i
     rcases b.2.2.2 z hz hv (by omega) with g | g
     · have g:(2:Int)^M<z.l:=g
       omega
     · have g:(2:Int)^M=z.l∧_:=g
       omega
 · refine levF_iff.mpr ⟨⟨a+2^i,2^i,false⟩,List.mem_append_right _ (List.mem_append_left _ (List.mem_cons_of_mem _ ?_)),rfl,rfl⟩
   unfold spl
   exact List.mem_map.mpr ⟨i,List.mem_range'_1.mpr ⟨h1,by omega⟩,rfl⟩
theorem MgTo.facts {ps ds rs ds' rs':List Pc}{m q m' q':Nat}(h:MgTo ps ds rs m q ds' rs' m' q'):m≤m'∧ds.length+rs.length=ds'.length+rs'.length+(m'-m)∧(∀y,y∈ds∨y∈rs→(y∈ds'∨y∈rs')∨∃i,m≤i∧i<m'∧y.l=2^i)∧(∀y,y∈ds'∨y∈rs'→y∈ds∨y∈rs):=by
 induction h with
 | stop _=>exact⟨Nat.le_refl _,by omega,fun y hy=>.inl hy,fun y hy=>hy⟩
 | right hq hb k ih =>
   obtain⟨h1,h2,h3,h4⟩:=ih
   refine⟨by omega,by rw[List.length_cons];omega,fun y hy=>?_,fun y hy=>?_⟩
   · rcases hy with g | g
     · rcases h3 y (.inl g) with e | ⟨i,e1,e2,e3⟩
       · exact .inl e
       · exact .inr ⟨i,by omega,e2,e3⟩
     · rcases List.mem_cons.mp g with e | e
       · rw[e]
         exact .inr ⟨_,Nat.le_refl _,by omega,rfl⟩
       · rcases h3 y (.inr e) with e | ⟨i,e1,e2,e3⟩
         · exact .inl e
         · exact .inr ⟨i,by omega,e2,e3⟩
   · rcases h4 y hy with g | g
     · exact .inl g
     · exact .inr (List.mem_cons_of_mem _ g)
 | left hq hb k ih =>
   obtain⟨h1,h2,h3,h4⟩:=ih
   refine⟨by omega,by rw[List.length_append,List.length_singleton];omega,fun y hy=>?_,fun y hy=>?_⟩
   · rcases hy with g | g
     · rcases List.mem_append.mp g with e | e
       · rcases h3 y (.inl e) with e | ⟨i,e1,e2,e3⟩
         · exact .inl e
         · exact .inr ⟨i,by omega,e2,e3⟩
       · rw[List.mem_singleton.mp e]
         exact .inr ⟨_,Nat.le_refl _,by omega,rfl⟩
     · rcases h3 y (.inr g) with e | ⟨i,e1,e2,e3⟩
       · exact .inl e
       · exact .inr ⟨i,by omega,e2,e3⟩
   · rcases h4 y hy with g | g
     · exact .inl (List.mem_append_left _ g)
     · exact .inr g
theorem Cap.give {ps0 ds rs ds' rs':List Pc}{z:Pc}{m q m' q' k:Nat}{a:Int}(c:Cap (ds++z::rs) k)(hv:z.v=true)(g:MgTo ps0 ds rs m q ds' rs' m' q'):Cap (ds'++⟨a,2^m',false⟩::rs') k:=by
 obtain⟨h1,h2,h3,_⟩:=g.facts
 have h:=cntF_give (f:=levF (ds++z::rs)) (g:=levF (ds'++⟨a,2^m',false⟩::rs')) h1 (fun i hi hf=>?_) 9
 · unfold Cap at *
   rw[List.length_append,List.length_cons] at c ⊢
   omega
 · obtain⟨y,hy,hyv,hyl⟩:=levF_iff.mp hf
   have hy':y∈ds∨y∈rs:=by
     rcases List.mem_append.mp hy with e | e
     · exact .inl e
     · rcases List.mem_cons.mp e with e | e
       · rw[e,hv] at hyv
         cases hyv
       · exact .inr e
   rcases h3 y hy' with e | ⟨j,e1,e2,e3⟩
   · refine levF_iff.mpr ⟨y,?_,hyv,hyl⟩
     rcases e with e | e
     · exact List.mem_append_left _ e
     · exact List.mem_append_right _ (List.mem_cons_of_mem _ e)
   · have:=pow_inj (hyl.symm.trans e3)
     omega
theorem xor_bud:∀m:Nat,m<9→∀q:Nat,q<257→Builtin.bitXor ((2:Int)^m*(q:Int)) (2^m)=bud m q:=by decide +kernel
theorem lex2 (l1 a1 l2 a2:Int):HT.lexLt [l1,a1] [l2,a2]=if l1=l2 then decide (a1<a2) else decide (l1<l2):=by
 by_cases h:l1=l2
 · rw[if_pos h];simp [HT.lexLt,h];omega
 · rw[if_neg h];simp [HT.lexLt,h]
theorem min_pairs {xs:List (List Int)}(h2:∀k,k<xs.length→∃l a:Int,xs.getD k []=[l,a]):∀j,j<xs.length→∀k,k≤j→HT.lexLt (xs.getD k []) (xs.getD (minAt xs j) [])=false
 | 0,h,k,hk=>by
   have:k=0:=by omega
   subst this
   obtain⟨l,a,e⟩:=h2 0 h
   show HT.lexLt (xs.getD 0 []) (xs.getD 0 [])=false
   rw[e]
   simp [HT.lexLt]
 | j+1,h,k,hk=>by
   have hm:=minAt_le xs j
   obtain⟨l1,a1,e1⟩:=h2 (j+1) h
   obtain⟨l2,a2,e2⟩:=h2 (minAt xs j) (by omega)
   obtain⟨l3,a3,e3⟩:=h2 k (by omega)
   unfold minAt
   by_cases hl:HT.lexLt (xs.getD (j+1) []) (xs.getD (minAt xs j) [])=true
   · rw[if_pos hl]
     by_cases e:k=j+1
     · rw[e,e1]
       simp [HT.lexLt]
     · have ih:=min_pairs h2 j (by omega) k (by omega)
       rw[e2,e3] at ih
       rw[e1,e2] at hl
       rw[e1,e3]
       rw[lex2] at ih hl ⊢
       by_cases c1:l3=l2
       · rw[if_pos c1] at ih
         have ih:=of_decide_eq_false ih
         by_cases c2:l1=l2
         · rw[if_pos c2] at hl
           have hl:=of_decide_eq_true hl
           rw[if_pos (by omega)]
           exact decide_eq_false (by omega)
         · rw[if_neg c2] at hl
           have hl:=of_decide_eq_true hl
           rw[if_neg (by omega)]
           exact decide_eq_false (by omega)
       · rw[if_neg c1] at ih
         have ih:=of_decide_eq_false ih
         by_cases c2:l1=l2
         · rw[if_pos c2] at hl
           rw[if_neg (by omega)]
           exact decide_eq_false (by omega)
         · rw[if_neg c2] at hl
           have hl:=of_decide_eq_true hl
           rw[if_neg (by omega)]
           exact decide_eq_false (by omega)
   · rw[if_neg hl]
     by_cases e:k=j+1
     · rw[e]
       simpa using hl
     · exact min_pairs h2 j (by omega) k (by omega)
end Stow
set_option Elab.async false
set_option linter.all false
set_option maxRecDepth 100000
set_option maxHeartbeats 4000000
namespace Stow
open PySem L2 PyProof.Rows
theorem vals_ints:∀{us:List Value} {ns:List Int},IntsAre us ns→Vals (ns.map V.int) us
 | _,_,.nil=>.nil
 | _,_,.cons n t h=>.cons ⟨t,rfl⟩ (vals_ints h)
theorem call_sortedD {X:Cx}(hc:X.calm=true):CallR X (.builtin "sorted") (fun xs H Q=>∃d,∃kvs:List (Key×V),∃ns:List Int,xs=[.ref d]∧H d=some (.dK kvs)∧kvs.map (·.1)=ns.map Sum.inl∧ns.length<64∧∀D (ms:List Int),H D=none→ms.Perm ns→ms.Pairwise (·≤·)→Q (.ref D) (upd H D (.lst (ms.map V.int)))):=by
 intro pins s σ H xs us Q I r h
 obtain⟨d,kvs,ns,rfl,e,ek,h64,q⟩:=h
 obtain⟨u,rfl,rx⟩:=vals1 r
 cases rx
 obtain⟨hz,lo,vs,rk,hd⟩:=dk_of I.hok e
 obtain⟨ep,hat⟩:=hd.dictAt
 have hlen:=KV.length rk
 have hkl:kvs.length=ns.length:=by
   have:=congrArg List.length ek
   rwa [List.length_map,List.length_map] at this
 have ekv:(kvs.map fun kv=>kV kv.1)=ns.map V.int:=by
   have:(kvs.map fun kv=>kV kv.1)=(kvs.map (·.1)).map kV:=by rw[List.map_map];rfl
   rw[this,ek,List.map_map]
   rfl
 refine Calls.call_function_entry kind_sorted plain_sorted entry_sorted (args_sorted1 _) ?_
 unfold Builtin.«sorted»
 refine wpAny_bind (m:=checkCount "sorted" 1 1 _) (wpAny_pure ?_)
 refine wpAny_bind (PySem.W.kdu_collect (A:=X.A.in1) (PySem.W.kdl_dict (knd:=mixKind X.prog X.w) (kvs:=vs) (ep:=ep) lo) (I.ok.hd hc) hat (by rw[←hlen];exact hz) fun h' tk acc hk hacc=>?_)
 have hv:Vals (kvs.map fun kv=>kV kv.1) acc.toList:=vals_by (by rw[List.length_map,Array.length_toList,hacc.1,hlen]) fun j v u h1 h2=>by
   obtain⟨k,x,hx,hkk⟩:=hacc.2 j u (by rw[←Array.getElem?_toList];exact h2)
   rw[List.getElem?_map] at h1
   obtain⟨kv,hkv,rfl⟩:=Option.map_eq_some_iff.mp h1
   obtain⟨u',hu'⟩:=kv_get rk (i:=j) (k:=kv.1) (v:=kv.2) (by rw[hkv])
   rw[hu'] at hx
   cases hx
   exact rel_key hkk
 rw[ekv] at hv
 have hal:acc.toList.length=ns.length:=by rw[←hv.length,List.length_map]
 refine wpAny_bind (wpAny_newList ?_ (by rw[hal,sizeLine_eq];omega))
 have hoL:(h'.push (seqObj "list" acc.toList.toArray 0)).get? h'.objs.size=some (seqObj "list" acc.toList.toArray 0):=Heap.get?_push_size _ rfl
 refine wpAny_bind (wpAny_holding (wpAny_call_entry slot_list_sort (s:={ s with heap:=h'.push (seqObj "list" acc.toList.toArray 0),toks:=tk }) ⟨_,hoL,rfl⟩ entry_list_sort (list_sort_tree hoL (intsAre_of hv) (by omega) fun out ns' a1 a2 a3=>⟨_,rfl,?_⟩) (args_list_sort _)))
 obtain⟨c,hc'⟩:=sortedHeap_at (out:=out) hoL
 have kp:∀b o,h'.get? b=some o→(sortedHeap (h'.push (seqObj "list" acc.toList.toArray 0)) h'.objs.size acc.toList out).get? b=some o:=fun b o hb'=>by
   have hlt:=Heap.lt_size hb'
   have e1:=size_push' h' (seqObj "list" acc.toList.toArray 0)
   rw[sortedHeap_old (Nat.ne_of_lt hlt) (by rw[e1];exact Nat.lt_succ_of_lt hlt),Heap.get?_push_ne _ _ _ (Nat.ne_of_lt hlt)]
   exact hb'
 have I2:Inv X pins σ H { s with heap:=h',toks:=tk }:=I.kept (t':=tk) hk
 exact wpAny_pure ⟨_,rfl,.ref h'.objs.size,_,I2.laid (t':=tk) kp (Nat.le_refl _) (show ObjOk X.prog X.w _ _ _ (.lst (ns'.map V.int)) from ⟨by rw[List.length_map,a2.length_eq,←hkl];exact hz,out.toList,c,vals_ints a1,by rw[Array.toArray_toList];exact hc'⟩),rfl,q _ ns' (I2.hok.fresh (Nat.le_refl _)) a2 a3⟩
def rItems:V→List V→Hp→VK→Prop:=fun x vs H Q=>∃d,∃kvs:List (Key×V),x = .ref d∧vs=[]∧H d=some (.dK kvs)∧∀v,H v=none→Q (.ref v) (upd H v (.ext fun h=>h.IsItemsView v d))
theorem mt_items {X:Cx}:MtM X "dict.items" rItems:=by
 intro pins s σ H x vs v us Q I rx rv h
 obtain⟨a,kvs,rfl,rfl,e,q⟩:=h
 cases rx
 have hus:=rv.zero
 subst hus
 obtain⟨z,lo,ws,rel,dd⟩:=dk_of I.hok e
 refine call_meetsIn PySem.F.slot_dict_items dd.typeIs PySem.F.entry_dict_items (PySem.F.args_dict_items_1 _) (meets_dict_items (mixKind X.prog X.w) a lo) ⟨⟨ws,dd⟩,?_⟩
 have hg:(s.heap.push { cls:=.type "dict_items",data:=.fields #[.ref a] }).get? s.heap.objs.size=some { cls:=.type "dict_items",data:=.fields #[.ref a] }:=Heap.get?_push_size _ rfl
 exact⟨.ref s.heap.objs.size,_,I.laid (t':=s.toks) (fun b u q=>Heap.get?_push_of_some _ q) (Nat.le_refl _) (show ObjOk X.prog X.w _ _ _ (.ext fun h=>h.IsItemsView s.heap.objs.size a) from ⟨⟨_,hg,rfl,rfl⟩,⟨_,hg⟩,fun h1 h2 ⟨o,ho,r⟩ k=>⟨o,k o ho,r⟩⟩),rfl,q _ (I.hok.fresh (Nat.le_refl _))⟩
def Iti (d:Addr)(o:Obj)(kvs:List (Key×V)):It :=
 ⟨fun i H=>H d=some (.frz o (.dK kvs))∧∃k v,kvs[i]?=some (k,v),fun i H x H'=>∃k v t,kvs[i]?=some (k,v)∧x = .ref t∧H t=none∧H'=upd H t (.tup [kV k,v]),fun i H=>H d=some (.frz o (.dK kvs))∧kvs.length≤i⟩
theorem kv_getV {kvs:List (Key×V)}{vs:List (Key×Value)}(r:KV kvs vs){i:Nat}{k:Key}{v:V}(e:kvs[i]?=some (k,v)):∃u,vs[i]?=some (k,u)∧RelV v u:=by
 obtain⟨⟨k',u⟩,hq,h1,h2⟩:=paired_get (show Paired _ kvs vs from r) e
 have h1:k=k':=h1
 subst h1
 exact⟨u,hq,h2⟩
theorem look_none {H:Hp}{t b:Addr}{o:HO}(n:t≠b)(h:H b=none):upd H t o b=none:=by rw[upd_ne (Ne.symm n)];exact h
theorem turn_items {P:Program}{w:World}{K:PySem.W.Frag}{elts:List Expr}{x1:Nat}{pos:Pos}(d it:Addr)(o:Obj)(kvs:List (Key×V)){es:Array DictEntry}{ep:Nat}(ho:o.data = .dict es ep) :
   Turn P w K (.Tuple elts x1 pos) (Iti d o kvs) [it] it (fun i h=>∃ok ov,IsItemIter h it d i kvs.length ep ok ov) where
 mem:=by simp
 obj:=fun i h st b hb=>by
   have e:b=it:=by simpa using hb
   subst e
   obtain⟨ok,ov,st⟩:=st
   exact⟨_,st,fun v z=>by cases z⟩
 keep:=fun i h h' ⟨ok,ov,st⟩ k=>⟨ok,ov,k it (by simp) _ st⟩
 item:=by
   intro X hP hw hK hc i pins s σ H E I hf st hg
   subst hP hw hK
   obtain⟨ok,ov,st⟩:=st
   obtain⟨hd,k,v,hx⟩:=hg
   obtain⟨vs,r,m⟩:=frz_at I.hok hd ho
   obtain⟨u,hu,ru⟩:=kv_getV r hx
   have hl:=KV.length r
   obtain⟨f0,f1,f2,f3,f4,f5⟩:=hf it (by simp)
   have st:IsItemIter s.heap it d i vs.length ep ok ov:=hl▸st
   refine wpAny_pyNext_items_item st m hu fun key h' hkey st' ht hsz kp=>⟨_,rfl,?_⟩
   refine wpAny_letOwnedTupleGo_items (s:={ s with heap:=h' }) st' fun h2 st2 sb=>?_
   have kp2:∀b o,b≠it→s.heap.get? b=some o→h2.get? b=some o:=fun b o hb e=>(sb.2 b hb).trans (kp b o hb e)
   have hti:s.heap.objs.size≠it:=fun e=>absurd (Heap.lt_size st) (by rw[e];exact Nat.lt_irrefl _)
   have ht2:h2.get? s.heap.objs.size=some { cls:=.type "tuple",data:=.seq #[key,u] }:=(sb.2 _ hti).trans ht
   have nt:H s.heap.objs.size=none:=I.hok.fresh (Nat.le_refl _)
   have hg:(s.heap.push { cls:=.type "tuple",data:=.seq #[key,u] }).get? s.heap.objs.size=some { cls:=.type "tuple",data:=.seq #[key,u] }:=Heap.get?_push_size _ rfl
   have Ia:Inv X pins σ (upd H s.heap.objs.size (.tup [kV k,v])) { s with heap:=s.heap.push { cls:=.type "tuple",data:=.seq #[key,u] } }:=I.laid (t':=s.toks) (fun b u q=>Heap.get?_push_of_some _ q) (Nat.le_refl _) (show ObjOk X.prog X.w _ _ _ (.tup [kV k,v]) from ⟨by show 2≤sizeLine;decide,[key,u],.cons (rel_key hkey) (.cons ru .nil),_,hg,rfl,0,rfl⟩)
   have Ib:Inv X pins σ (upd H s.heap.objs.size (.tup [kV k,v])) { s with heap:=h2 }:=Ia.turned (t':=s.toks) (fun b o hb e=>by
     by_cases g:b=s.heap.objs.size
     · rw[g] at e ⊢
       have e:(s.heap.push { cls:=.type "tuple",data:=.seq #[key,u] }).get? s.heap.objs.size=some o:=e
       rw[hg] at e
       rw[ht2]
       exact e
     · have e:(s.heap.push { cls:=.type "tuple",data:=.seq #[key,u] }).get? b=some o:=e
       rw[Heap.get?_push_ne _ _ _ g] at e
       exact kp2 b o hb e) (look_none hti f0) f1 f3 f4 f5
   refine⟨.ref s.heap.objs.size,_,Ib,rfl,⟨k,v,_,hx,rfl,nt,rfl⟩,⟨key,u,hl▸st2⟩,fun b hb=>?_⟩
   have e:b=it:=by simpa using hb
   subst e
   exact look_none hti f0
 done:=by
   intro X hP hw hK hc i pins s σ H E I hf st hg
   subst hP hw hK
   obtain⟨ok,ov,st⟩:=st
   obtain⟨hd,hx⟩:=hg
   obtain⟨vs,r,m⟩:=frz_at I.hok hd ho
   have hl:=KV.length r
   have st:IsItemIter s.heap it d i vs.length ep ok ov:=hl▸st
   obtain⟨f0,f1,f2,f3,f4,f5⟩:=hf it (by simp)
   exact wpAny_pyNext_items_end (I.ok.hd hc) st m (List.getElem?_eq_none (by omega)) fun h' eb=>⟨rfl,I.turned (t':=s.toks) (fun b o hb e=>eb b o hb e) f0 f1 f3 f4 f5⟩
 self:=fun _ _ _ _ _ ⟨ok,ov,st⟩ h=>PySem.W.kcp_self st h
section
variable {X:Cx}
def iItems (NF:Addr→Prop)(tl:TE):TI:=fun σ H R=>tl σ H fun x H1=>∃v d kvs,x = .ref v∧H1 v=some (.ext fun h=>h.IsItemsView v d)∧H1 d=some (.dK kvs)∧∀o,NF d→R (Iti d o kvs) (upd H1 d (.frz o (.dK kvs)))
theorem pi_items {elts:List Expr}{x1:Nat}{pos:Pos}{l:Expr}{tl:TE}(hl:PE X l tl):PI X (.Tuple elts x1 pos) l (iItems (fun d=>∀ob u,X.H₀ d≠some (.frz ob u)) tl):=by
 intro pins s σ H R I h
 refine thn (hl pins s σ H _ I h) fun vv s1 ⟨x,H1,I1,r1,q1⟩=>?_
 obtain⟨v,d,kvs,e,hv,hd,q⟩:=q1
 subst e
 cases r1
 obtain⟨o,es,ep,vs,g2,y,kvl,m,I2⟩:=freeze I1 hd
 have nf:∀ob u,X.H₀ d≠some (.frz ob u):=fun ob u z=>by
   have:=I1.base.frzs d ob u z
   rw[hd] at this
   cases this
 have hview:s1.heap.IsItemsView v d:=(show ObjOk X.prog X.w H1 s1.heap v (.ext fun h=>h.IsItemsView v d) from I1.hok v _ hv).1
 refine wpAny_pyIter_items hview m ?_
 refine⟨s1.heap.objs.size,[s1.heap.objs.size],_,_,_,rfl,I2.kept (t':=s1.toks) fun b o e=>Heap.get?_push_of_some _ e,turn_items d _ o kvs g2,⟨.none,.none,?_⟩,fun b hb=>?_,q o nf⟩
 · rw[KV.length kvl]
   exact Heap.get?_push_size _ rfl
 have e:b=s1.heap.objs.size:=by simpa using hb
 subst e
 exact I2.fpOk (Nat.le_refl _) (I2.hok.fresh (Nat.le_refl _))
def tForI (tl:TE)(g:TG)(tb:TS):TS:=fun D σ H=>∀NF:Addr→Prop,tFor (iItems NF tl) g tb { D with nx:=fun σ' H'=>∃d o kvs,NF d∧H' d=some (.frz o (.dK kvs))∧D.nx σ' (upd H' d (.dK kvs)) } σ H
theorem ps_forI {elts:List Expr}{x1:Nat}{ps:Pos}{iter:Expr}{body:List Stmt}{tl:TE}{g:TG}{tb:TS}{pos:Pos}(hp:PassesOwn (model X.prog X.w) X.A X.env X.xe)(hc:X.calm=true)(hl:PE X iter tl)(hg:PG X (.Tuple elts x1 ps) g)(hb:PSs X body tb)
   (hs:∀x,foldedSetIterable iter X.env x=pure x:=by intro _;rfl):PS X (.For (.Tuple elts x1 ps) iter body [] pos) (tForI tl g tb):=by
 intro pins s σ H D I h
 refine thn (L2.ps_for hp hc (pi_items hl) hg hb hs pins s σ H _ I (h _)) fun f s' q=>?_
 cases f with
 | next =>
   obtain⟨σ',H',I',d,o,kvs,nf,e,q⟩:=q
   exact⟨σ',_,thaw I' nf e,q⟩
 | brk=>exact q
 | cont=>exact q
 | ret v=>exact q
end
section
variable {K:PySem.W.Frag}{σ:L2.St}{H:Hp}{Q:VK}{D:Ends}
theorem r_forI {tl:TE}{g:TG}{tb:TS}(h:∀NF:Addr→Prop,tl σ H fun x H1=>∃v d kvs,x = .ref v∧H1 v=some (.ext fun h=>h.IsItemsView v d)∧H1 d=some (.dK kvs)∧∀o,NF d→∃W:Nat→Nat→L2.St→Hp→Prop,(∃m,W 0 m σ (upd H1 d (.frz o (.dK kvs))))∧∀i m σ H,W i m σ H →
   ((Iti d o kvs).stop i H∧(∃d o kvs,NF d∧H d=some (.frz o (.dK kvs))∧D.nx σ (upd H d (.dK kvs))))∨((Iti d o kvs).go i H∧∃N:L2.St→Hp→Prop,(∀σ' H',N σ' H'→∃m',m'<m∧W (i+1) m' σ' H')∧∀x H',(Iti d o kvs).yld i H x H'→g x σ H' fun σ2 H2=>tb { D with nx:=N,ct:=N,bk:=fun σ' H'=>∃d o kvs,NF d∧H' d=some (.frz o (.dK kvs))∧D.nx σ' (upd H' d (.dK kvs)) } σ2 H2)):tForI tl g tb D σ H:=h
theorem for_items {d:Addr}{o:Obj}{kvs:List (Key×V)}{NF:Addr→Prop}{g:TG}{tb:TS}(nf:NF d)(Pv:Nat→L2.St→Hp→Prop)(h0:Pv 0 σ H)(hl:∀i σ H,Pv i σ H→H d=some (.frz o (.dK kvs)))
   (hs:∀i k v t σ H,kvs[i]?=some (k,v)→Pv i σ H→H t=none→g (.ref t) σ (upd H t (.tup [kV k,v])) fun σ2 H2=>tb { D with nx:=Pv (i+1),ct:=Pv (i+1),bk:=fun σ' H'=>∃d o kvs,NF d∧H' d=some (.frz o (.dK kvs))∧D.nx σ' (upd H' d (.dK kvs)) } σ2 H2)
   (hd:∀σ H,Pv kvs.length σ H→D.nx σ (upd H d (.dK kvs))) :
   ∃W:Nat→Nat→L2.St→Hp→Prop,(∃m,W 0 m σ H)∧∀i m σ H,W i m σ H →
   ((Iti d o kvs).stop i H∧(∃d o kvs,NF d∧H d=some (.frz o (.dK kvs))∧D.nx σ (upd H d (.dK kvs))))∨((Iti d o kvs).go i H∧∃N:L2.St→Hp→Prop,(∀σ' H',N σ' H'→∃m',m'<m∧W (i+1) m' σ' H')∧∀x H',(Iti d o kvs).yld i H x H'→g x σ H' fun σ2 H2=>tb { D with nx:=N,ct:=N,bk:=fun σ' H'=>∃d o kvs,NF d∧H' d=some (.frz o (.dK kvs))∧D.nx σ' (upd H' d (.dK kvs)) } σ2 H2):=by
 refine⟨fun i m σ H=>m=kvs.length-i∧i≤kvs.length∧Pv i σ H,⟨kvs.length,by simp,Nat.zero_le _,h0⟩,?_⟩
 rintro i m σ H ⟨rfl,hi,p⟩
 have q:=hl i σ H p
 by_cases hlt:i<kvs.length
 · obtain⟨k,v,ekv⟩:∃k v,kvs[i]?=some (k,v):=⟨kvs[i].1,kvs[i].2,by simp [hlt]⟩
   refine .inr ⟨⟨q,k,v,ekv⟩,Pv (i+1),fun σ' H' p'=>⟨kvs.length-(i+1),by omega,rfl,hlt,p'⟩,fun x H' y=>?_⟩
   obtain⟨k',v',t,e',ex,ht,eH⟩:=y
   subst ex eH
   exact hs i k' v' t σ _ e' p ht
 · have e:i=kvs.length:=by omega
   subst e
   exact .inl ⟨⟨q,Nat.le_refl _⟩,d,o,kvs,nf,q,hd σ H p⟩
end
theorem entry_dloop:entryFor table "dict.update.loop"=some Builtin.«dict.update.loop»:=entryFor_of_fast (by kernel_rfl)
theorem plain_dloop:plainId "dict.update.loop"=true:=by decide +kernel
theorem list_keys_none:typeLookup (.type "list") "keys"=pure none:=am_miss_of_fast (by decide +kernel)
theorem keys_of_list {prog:Program}{w:World}{A:Around}{E:Value→Shared→Prop}{s:Shared}{a:Addr}{xs:Array Value}{k:Nat}{Q:Option Value→Shared→Prop}
   (hx:s.heap.get? a=some { cls:=.type "list",data:=.seq xs k }) (hA:A.handled=none)
   (h:∀h' tk,(∀b o,s.heap.get? b=some o→h'.get? b=some o)→Q none { s with heap:=h',toks:=tk }) :
   wpAny (model prog w) A (getAttr? (.ref a) "keys") Q E s:=by
 obtain⟨hp,g,d,tk,os⟩:=s
 have hT:∀tk',(⟨hp,g,d,tk',os⟩:Shared).TypeIs (.ref a) "list":=fun _=>⟨_,hx,rfl⟩
 have f1:=sub_AttributeError
 have f3:=F.slot_list_getattribute.lookup
 have f4:=F.slot_list_getattribute.bind (.ref a)
 have f5:=am_list_getattr_none
 unfold getAttr? getAttrBy? getAttrBy
 repeat (any_goals (first | assumption | exact hT _ | ((with_reducible show wpAny _ _ (call (Value.builtin "list.__getattribute__") _ _) _ _ _);refine call_meets F.slot_list_getattribute (hT _) am_entry_list_getattribute (F.args_list_getattribute_2 _ _) (meets_getattribute_miss_list a xs k #[] "keys" _ list_keys_none (by decide +kernel)) ⟨hx,hA,fun h' tk' e hx'=>?_⟩) | wp_step))
 obtain⟨t',u',he⟩:=hx'.there
 show wpAny _ _ (getattributeRaised _ _ _ _ _ _ _) _ _ _
 unfold getattributeRaised
 repeat (any_goals (first | assumption | wp_step))
 exact h _ _ hx'.keeps
section
variable {prog:Program}{w:World}{A:Around}{E:Value→Shared→Prop}{d it l:Addr}{items:Array Value}{ps:List (Key×Value)}
theorem dict_loop {R:Result→Shared→Prop}(hA:A.handled=none)(hdl:d≠it)(hll:l≠it)(hdd:l≠d)(hz:ps.length≤sizeLine)(hn:(ps.map (·.1)).Nodup)(hps:items.size=ps.length):∀(n i:Nat) (s:Shared),ps.length-i=n→i≤ps.length →
   s.heap.IsListIter it l i→s.heap.IsList l items→s.heap.DictOf (mixKind prog w) d (ps.take i) →
   (∀(j:Nat) (q:Key×Value),ps[j]?=some q→∃(t:Addr) (key:Value),items[j]?=some (Value.ref t)∧t≠it∧t≠d∧s.heap.IsTuple t #[key,q.2]∧(mixKind prog w).is q.1 key=true) →
   (∀h' tk,(∀b o,b≠it→b≠d→s.heap.get? b=some o→h'.get? b=some o)→h'.DictOf (mixKind prog w) d ps→R (.ok (.ret .none)) { s with heap:=h',toks:=tk }) →
   codeAny (model prog w) A (.builtin "dict.update.loop" ⟨[.ref d,.ref it,rawInt i,.none],[]⟩) R s
 | n,i,s,e,hi,hit,hl,hd,tups,q=>by
   refine codeAny_builtin entry_dloop ?_
   rw[Around.under_plainId plain_dloop _]
   unfold Builtin.«dict.update.loop»
   refine wpAny_bind ?_
   by_cases hlt:i<ps.length
   · obtain⟨q0,hq0⟩:∃q0,ps[i]?=some q0:=⟨_,List.getElem?_eq_getElem hlt⟩
     obtain⟨t,key,hti,tn1,tn2,ht,hk⟩:=tups i q0 hq0
     refine wpAny_pyNext_list_item hit hl hti fun h1 st1 sb1=>?_
     have tup1:∀(j:Nat) (q:Key×Value),ps[j]?=some q→∃(t:Addr) (key:Value),items[j]?=some (Value.ref t)∧t≠it∧t≠d∧h1.IsTuple t #[key,q.2]∧(mixKind prog w).is q.1 key=true:=fun j q hq=>by
       obtain⟨t,key,g1,g2,g3,⟨o,g4,g5⟩,g6⟩:=tups j q hq
       exact⟨t,key,g1,g2,g3,⟨o,(sb1.2 t g2).trans g4,g5⟩,g6⟩
     have hd1:h1.DictOf (mixKind prog w) d (ps.take i):=hd.sameBut sb1 hdl
     have hl1:h1.IsList l items:=by
       obtain⟨o,g1,g2⟩:=hl
       exact⟨o,(sb1.2 l hll).trans g1,g2⟩
     have ht1:h1.IsTuple t #[key,q0.2]:=by
       obtain⟨o,g1,g2⟩:=ht
       exact⟨o,(sb1.2 t tn1).trans g1,g2⟩
     obtain⟨ot,ho,hoc,m,hod⟩:=ht1
     refine wpAny_bind (wpAny_holding (wpAny_bind (wpAny_tryCatch ?_)))
     unfold Builtin.Dict.pairItems
     refine wpAny_bind (wpAny_typeOf (T:="tuple") ⟨_,ho,hoc⟩ ?_)
     rw[if_pos (by decide)]
     refine wpAny_bind (wpAny_seqItems (s:={ s with heap:=h1 }) ho hod (wpAny_pure ?_))
     show wpAny _ _ (holding [key,q0.2] (dictSet d key q0.2)) _ _ _
     have hlen:(ps.take i).length≤sizeLine:=by rw[List.length_take];omega
     refine wpAny_holding (wpAny_dictSet_pairs (s:={ s with heap:=h1 }) hk hd1 (fun h2 hd2 sb2=>?_) hlen)
     have est:stored (ps.take i) q0.1 q0.2=ps.take (i+1):=by
       unfold stored
       rw[if_neg,List.take_add_one,hq0]
       · rfl
       · intro h
         obtain⟨kv,g1,g2⟩:=List.any_eq_true.mp h
         obtain⟨j,hj,ej⟩:=List.mem_take_iff_getElem.mp g1
         have:=(List.getElem?_inj (i:=j) (j:=i) (by rw[List.length_map];omega) hn).mp (by rw[List.getElem?_map,List.getElem?_map,hq0,List.getElem?_eq_getElem (by omega),ej];show some kv.1=some q0.1;rw[of_decide_eq_true g2])
         omega
     rw[est] at hd2
     refine wpAny_pure ⟨plainId_quiet plain_dloop _,?_⟩
     have kp:∀b o,b≠it→b≠d→s.heap.get? b=some o→h2.get? b=some o:=fun b o n1 n2 g=>(sb2.2 b n2).trans ((sb1.2 b n1).trans g)
     have:=dict_loop (R:=R) hA hdl hll hdd hz hn hps (ps.length-(i+1)) (i+1) { s with heap:=h2,toks:=s.toks+1 } rfl hlt (by
       obtain⟨o,g1,g2⟩:=st1
       exact⟨o,(sb2.2 it (Ne.symm hdl)).trans g1,g2⟩) (by
       obtain⟨o,g1,g2⟩:=hl1
       exact⟨o,(sb2.2 l hdd).trans g1,g2⟩) hd2 (fun j q hq=>by
       obtain⟨t,key,g1,g2,g3,⟨o,g4,g5⟩,g6⟩:=tup1 j q hq
       exact⟨t,key,g1,g2,g3,⟨o,(sb2.2 t g3).trans g4,g5⟩,g6⟩) (fun h' tk k3 hd3=>q h' tk (fun b o n1 n2 g=>k3 b o n1 n2 (kp b o n1 n2 g)) hd3)
     exact this
   · have ei:i=ps.length:=by omega
     refine wpAny_pyNext_list_end hA hit hl (Array.getElem?_eq_none (by omega)) fun h1 eb=>?_
     show wpAny _ _ (Builtin.Dict.addKeywords d [] >>= _) _ _ _
     refine wpAny_bind (wpAny_pure (wpAny_pure ?_))
     rw[ei,List.take_length] at hd
     exact q h1 s.toks (fun b o n1 _ g=>eb b o n1 g) (hd.extBut eb hdl)
termination_by n i=>n
decreasing_by omega
end
theorem pairs_ex {F:Nat→Key×V→Value→Prop}:∀(ps:List (Key×V)) (n:Nat),(∀(j:Nat) (q:Key×V),ps[j]?=some q→∃u,RelV q.2 u∧F (n+j) q u)→∃pv:List (Key×Value),KV ps pv∧∀(j:Nat) (q':Key×Value),pv[j]?=some q'→∃q,ps[j]?=some q∧q'.1=q.1∧F (n+j) q q'.2
 | [],_,_=>⟨[],.nil,fun j q' h=>by simp at h⟩
 | p::r,n,h=>by
   obtain⟨u,hu,hF⟩:=h 0 p rfl
   obtain⟨pv,hkv,hp⟩:=pairs_ex r (n+1) fun j q hq=>by
     obtain⟨u',h1,h2⟩:=h (j+1) q (by simpa using hq)
     exact⟨u',h1,by rw[show n+1+j=n+(j+1) by omega];exact h2⟩
   refine⟨(p.1,u)::pv,.cons ⟨rfl,hu⟩ hkv,fun j q' hq=>?_⟩
   cases j with
   | zero =>
     have e:(p.1,u)=q':=by simpa using hq
     subst e
     exact⟨p,rfl,rfl,hF⟩
   | succ j =>
     obtain⟨q,g1,g2,g3⟩:=hp j q' (by simpa using hq)
     exact⟨q,by simpa using g1,g2,by rw[show n+(j+1)=n+1+j by omega];exact g3⟩
theorem kv_keys:∀{ps:List (Key×V)} {pv:List (Key×Value)},KV ps pv→pv.map (·.1)=ps.map (·.1)
 | _,_,.nil=>rfl
 | _,_,.cons h t=>by rw[List.map_cons,List.map_cons,kv_keys t,h.1]
theorem call_dictL {X:Cx}(hc:X.calm=true):CallR X (.type "dict") (fun xs H Q=>∃l,∃us:List V,∃ps:List (Key×V),xs=[.ref l]∧H l=some (.lst us)∧us.length=ps.length∧(∀(j:Nat) (q:Key×V),ps[j]?=some q→∃t,us[j]?=some (.ref t)∧H t=some (.tup [kV q.1,q.2]))∧(ps.map (·.1)).Nodup∧ps.length≤sizeLine∧∀D,H D=none→Q (.ref D) (upd H D (.dK ps))):=by
 intro pins s σ H xs us Q I r h
 obtain⟨l,vs,ps,rfl,hl,hlen,tups,hn,hz,q⟩:=h
 obtain⟨u,rfl,rx⟩:=vals1 r
 cases rx
 obtain⟨hzl,its,nn,r1,p1⟩:=(show ObjOk X.prog X.w H s.heap l (.lst vs) from I.hok l _ hl)
 have hil:=r1.length
 obtain⟨pv,hkv,hpv⟩:=pairs_ex (F:=fun j q u=>∃t key,its[j]?=some (Value.ref t)∧s.heap.IsTuple t #[key,u]∧(mixKind X.prog X.w).is q.1 key=true) ps 0 fun j q hq=>by
   obtain⟨t,g1,g2⟩:=tups j q hq
   obtain⟨u1,g3,g4⟩:=r1.get g1
   cases g4
   obtain⟨its2,r2,p2,_⟩:=I.tuple (SqT.of g2)
   obtain⟨key,v1,rfl,ra,rb⟩:=vals2 r2
   exact⟨v1,rb,t,key,by rw[Nat.zero_add];exact g3,p2,kV_is ra⟩
 have hkl:=KV.length hkv
 have hkeys:=kv_keys hkv
 have lt:∀{b o},s.heap.get? b=some o→b≠s.heap.objs.size:=fun h e=>absurd (Heap.lt_size h) (by rw[e];exact Nat.lt_irrefl _)
 refine callType_codes (Q₁:=fun obj s₁=>obj = .ref s.heap.objs.size∧s₁={ s with heap:=s.heap.push { cls:=.type "dict",data:=.dict #[] } }) F.kt_called_dict (F.kt_typeCall_dict_1 _) F.entry_dict_init (kt_code_dict_new _ ⟨rfl,rfl⟩) ?_
 rintro obj s₁ ⟨rfl,rfl⟩
 have hnew:(s.heap.push { cls:=.type "dict",data:=.dict #[] }).DictOf (mixKind X.prog X.w) s.heap.objs.size []:=Heap.DictOf.new s.heap
 have p2:(s.heap.push { cls:=.type "dict",data:=.dict #[] }).get? l=some { cls:=.type "list",data:=.seq its.toArray nn }:=Heap.get?_push_of_some _ p1
 refine⟨hnew.typeIs,F.args_dict_init_2 _ _,?_⟩
 unfold Builtin.«dict.__init__»
 refine wpAny_bind ?_
 unfold Builtin.Dict.selfAndRest
 refine wpAny_bind (wpAny_notOrdered_dict hnew.typeIs ?_)
 show wpAny _ _ (pure (s.heap.objs.size,[Value.ref l])) _ _ _
 refine wpAny_pure ?_
 show wpAny _ _ (Builtin.Dict.updateFrom "dict.__init__" s.heap.objs.size (.ref l) [] .none) _ _ _
 unfold Builtin.Dict.updateFrom
 refine wpAny_bind (wpAny_typeOf (T:="list") ⟨_,p2,rfl⟩ ?_)
 rw[if_pos (by decide)]
 refine wpAny_bind (keys_of_list p2 (I.ok.hd hc) fun h1 tk k1=>?_)
 rw[if_pos (by rfl)]
 refine wpAny_bind (wpAny_rule ?_)
 have p3:=k1 l _ p2
 refine wpAny_bind (wpAny_pyIter_list (items:=its.toArray) ⟨_,p3,rfl,_,rfl⟩ ?_)
 have hd1:h1.DictOf (mixKind X.prog X.w) s.heap.objs.size []:=by
   obtain⟨o,es,ep,g1,g2⟩:=hnew
   exact⟨o,es,ep,k1 _ _ g1,g2⟩
 have hdi:s.heap.objs.size≠h1.objs.size:=fun e=>by
   obtain⟨o,es,ep,g1,g2⟩:=hd1
   exact absurd (Heap.lt_size g1) (by rw[e];exact Nat.lt_irrefl _)
 have hli:l≠h1.objs.size:=fun e=>absurd (Heap.lt_size p3) (by rw[e];exact Nat.lt_irrefl _)
 refine wpAny_pure ⟨plainId_quiet plain_dloop _,?_⟩
 have key:∀R:Result→Shared→Prop,(∀h' tk',(∀b o,s.heap.get? b=some o→h'.get? b=some o)→h'.DictOf (mixKind X.prog X.w) s.heap.objs.size pv→R (.ok (.ret .none)) { s with heap:=h',toks:=tk' }) →
     codeAny (model X.prog X.w) X.A.in1 (.builtin "dict.update.loop" ⟨[.ref s.heap.objs.size,.ref h1.objs.size,rawInt ((0:Nat):Int),.none],[]⟩) R { s with heap:=h1.push { cls:=.type "list_iterator",data:=.fields #[.ref l,.int 0 0] },toks:=tk }:=fun R hR=>by
   refine dict_loop (A:=X.A.in1) (d:=s.heap.objs.size) (it:=h1.objs.size) (l:=l) (items:=its.toArray) (ps:=pv) (I.ok.hd hc) hdi hli (lt p1) (by omega) (by rw[hkeys];exact hn) (by rw[List.size_toArray];omega) pv.length 0 { s with heap:=h1.push { cls:=.type "list_iterator",data:=.fields #[.ref l,.int 0 0] },toks:=tk } rfl (Nat.zero_le _) ⟨_,Heap.get?_push_size _ rfl,rfl,rfl⟩ ⟨_,Heap.get?_push_of_some _ p3,rfl,_,rfl⟩ (hd1.push _) (fun j q' hq=>?_) fun h' tk' k3 hd3=>hR h' tk' (fun b o hb=>?_) hd3
   · obtain⟨q,g0,e1,t,key,g1,⟨o,g2,g4⟩,g3⟩:=hpv j q' hq
     have g2':=k1 t o (Heap.get?_push_of_some _ g2)
     refine⟨t,key,by rw[Nat.zero_add] at g1;rw[List.getElem?_toArray];exact g1,fun e=>absurd (Heap.lt_size g2') (by rw[e];exact Nat.lt_irrefl _),lt g2,⟨o,Heap.get?_push_of_some _ g2',g4⟩,by rw[e1];exact g3⟩
   · have g:=k1 b o (Heap.get?_push_of_some _ hb)
     exact k3 b o (fun e=>absurd (Heap.lt_size g) (by rw[e];exact Nat.lt_irrefl _)) (lt hb) (Heap.get?_push_of_some _ g)
 have hsys:(s.heap.objs.size==sysModules)=false:=beq_eq_false_iff_ne.mpr (fun e=>absurd I.big (by rw[e];exact Nat.lt_irrefl _))
 exact key _ fun h' tk' kp hd3=>⟨rfl,.ref s.heap.objs.size,_,I.laid (t':=tk') kp (Nat.le_refl _) (show ObjOk X.prog X.w _ _ _ (.dK ps) from ⟨hz,hsys,pv,hkv,hd3⟩),rfl,q _ (I.hok.fresh (Nat.le_refl _))⟩
theorem call_maxM {X:Cx}(hc:X.calm=true):CallR X (.builtin "max") (fun vs H Q=>∃p,∃ns:List Int,vs=[.ref p]∧H p=some (.lst (ns.map V.int))∧0<ns.length∧∀m:Int,(∀i,i<ns.length→ns.getD i 0≤m)→(∃i,i<ns.length∧m=ns.getD i 0)→Q (.int m) H):=by
 intro pins s σ H vs us' Q I r h
 obtain⟨p,ns,rfl,hp,hn,q⟩:=h
 obtain⟨u,rfl,rx⟩:∃u,us'=[u]∧RelV (.ref p) u:=by
   cases r with
   | cons a b=>cases b;exact⟨_,rfl,a⟩
 cases rx
 obtain⟨its,r1,p1,_⟩:=I.list (SqL.of hp)
 have l1:=r1.length
 rw[List.length_map] at l1
 have lt:p<s.heap.objs.size:=by obtain⟨_,e,_⟩:=p1.isList;exact Heap.lt_size e
 have hval:∀(i:Nat) (v:Value),its.toArray[i]?=some v→∃t,v = .int (ns.getD i 0) t:=fun i v hv=>by
   rw[List.getElem?_toArray] at hv
   have hi:i<ns.length:=by have:=(List.getElem?_eq_some_iff.mp hv).1;omega
   obtain⟨u1,e1,q1⟩:=r1.get (i:=i) (x:=V.int (ns[i])) (by simp [hi])
   have ev:v=u1:=Option.some.inj (hv.symm.trans e1)
   subst ev
   have ex:ns.getD i 0=ns[i]:=by simp [hi]
   rw[ex]
   obtain⟨tk,e2⟩:=q1
   exact⟨tk,e2⟩
 refine call_max_walk (wpAny_pyIter_list p1.isList ?_)
 refine⟨s.heap.objs.size,[s.heap.objs.size,p],[s.heap.objs.size],its.toArray.size,fun i v=>its.toArray[i]?=some v,_,_,rfl,Walks.list (A:=X.A.in1) (I.ok.hd hc) _ p (Nat.ne_of_lt lt) its.toArray,
   ⟨⟨_,Heap.get?_push_size _ rfl,rfl,rfl⟩,p1.isList.push _⟩,?_,by rw[List.size_toArray];omega,CmpOf.ints_gt (fun i=>ns.getD i 0) hval,?_⟩
 · intro b hb
   show b<(s.heap.push _).objs.size
   rw[Heap.size_push]
   rcases List.mem_cons.mp hb with z | z
   · rw[z];exact Nat.lt_succ_self _
   · have:b=p:=by simpa using z
     rw[this];exact Nat.lt_succ_of_lt lt
 · intro v h' tk pv kk
   obtain⟨t,rfl⟩:=hval _ v pv
   obtain⟨b1,b2⟩:=argBest_gt (fun i=>ns.getD i 0) (its.toArray.size-1)
   refine⟨.int _,H,?_,⟨t,rfl⟩,q _ (fun i hi=>b2 i (by rw[List.size_toArray];omega)) ⟨_,by rw[List.size_toArray] at b1 ⊢;omega,rfl⟩⟩
   refine I.kept (t':=tk) fun b o e=>kk b o (fun z=>?_) (Heap.get?_push_of_some _ e)
   have:=Heap.lt_size e
   have z':b=s.heap.objs.size:=by simpa using z
   rw[z'] at this
   exact Nat.lt_irrefl _ this
theorem r_chain {σ:L2.St}{H:Hp}{Q:VK}{r r':R2}{ta tb tc:TE}(h:ta σ H fun x H1=>tb σ H1 fun y H2=>r x y H2 fun z H3=>∃k,z = .bl k∧(if k=true then tc σ H3 fun w' H4=>r' y w' H4 Q else Q (.bl false) H3)):tChain r r' ta tb tc σ H Q:=h
end Stow
namespace Stow
open PySem L2 PyProof.Rows
theorem nodup_le {α:Type}[DecidableEq α]:∀(l m:List α),l.Nodup→(∀x∈l,x∈m)→l.length≤m.length
 | [],_,_,_=>Nat.zero_le _
 | x::r,m,hn,h=>by
   obtain⟨h1,h2⟩:=List.nodup_cons.mp hn
   have hx:=h x List.mem_cons_self
   have ih:=nodup_le r (m.erase x) h2 fun y hy=>(List.mem_erase_of_ne (fun e=>h1 (by rw[←e];exact hy))).mpr (h y (List.mem_cons_of_mem _ hy))
   rw[List.length_erase_of_mem hx] at ih
   have:0<m.length:=List.length_pos_of_mem hx
   rw[List.length_cons]
   omega
theorem chain_nodup:∀{ps:List Pc} {s e:Int},Chain s ps e→(ps.map fun z=>z.a).Nodup
 | [],_,_,_=>List.nodup_nil
 | p::r,s,e,c=>by
   obtain⟨h0,h1,_,h3⟩:=c
   rw[List.map_cons]
   refine List.nodup_cons.mpr ⟨fun h=>?_,chain_nodup h3⟩
   obtain⟨y,hy,ey⟩:=List.mem_map.mp h
   have:=h3.mem y hy
   have ey:y.a=p.a:=ey
   omega
theorem nodup_filter_map {α β:Type}{f:α→β}{g:α→Bool}:∀{l:List α},(l.map f).Nodup→((l.filter g).map f).Nodup
 | [],_=>List.nodup_nil
 | x::r,h=>by
   rw[List.map_cons] at h
   obtain⟨h1,h2⟩:=List.nodup_cons.mp h
   have ih:=nodup_filter_map (g:=g) h2
   rw[List.filter_cons]
   split
   · rw[List.map_cons]
     refine List.nodup_cons.mpr ⟨fun h=>h1 ?_,ih⟩
     obtain⟨y,hy,ey⟩:=List.mem_map.mp h
     exact List.mem_map.mpr ⟨y,(List.mem_filter.mp hy).1,ey⟩
   · exact ih
theorem nodup_map_inj {α β:Type}{f:α→β}(hf:∀x y,f x=f y→x=y):∀{l:List α},l.Nodup→(l.map f).Nodup
 | [],_=>List.nodup_nil
 | x::r,h=>by
   obtain⟨h1,h2⟩:=List.nodup_cons.mp h
   rw[List.map_cons]
   refine List.nodup_cons.mpr ⟨fun g=>h1 ?_,nodup_map_inj hf h2⟩
   obtain⟨y,hy,ey⟩:=List.mem_map.mp g
   rw[hf x y ey.symm]
   exact hy
theorem lives_len {ps:List Pc}{n:Int}{kvs:List (Key×V)}(c:Chain 0 ps n)(nd:(kvs.map (·.1)).Nodup)(h1:∀kv∈kvs,∃z∈ps,z.v=true∧kv.1 = .inl (z.a+1))(h2:∀z∈ps,z.v=true→∃kv∈kvs,kv.1 = .inl (z.a+1)):(ps.filter fun z=>z.v).length=kvs.length:=by
 have n1:(((ps.filter fun z=>z.v).map fun z=>z.a).map fun a:Int=>(Sum.inl (a+1):Key)).Nodup:=nodup_map_inj (fun x y e=>by have:=Sum.inl.inj e;omega) (nodup_filter_map (chain_nodup c))
 have le1:=nodup_le _ (kvs.map (·.1)) n1 fun k hk=>by
   obtain⟨a,ha,rfl⟩:=List.mem_map.mp hk
   obtain⟨z,hz,rfl⟩:=List.mem_map.mp ha
   obtain⟨hz1,hz2⟩:=List.mem_filter.mp hz
   obtain⟨kv,hkv,e⟩:=h2 z hz1 hz2
   exact List.mem_map.mpr ⟨kv,hkv,e⟩
 have le2:=nodup_le _ (((ps.filter fun z=>z.v).map fun z=>z.a).map fun a:Int=>(Sum.inl (a+1):Key)) nd fun k hk=>by
   obtain⟨kv,hkv,rfl⟩:=List.mem_map.mp hk
   obtain⟨z,hz,hv,e⟩:=h1 kv hkv
   exact List.mem_map.mpr ⟨z.a,List.mem_map.mpr ⟨z,List.mem_filter.mpr ⟨hz,hv⟩,rfl⟩,e.symm⟩
 rw[List.length_map,List.length_map,List.length_map] at le1
 rw[List.length_map,List.length_map,List.length_map] at le2
 omega
end Stow
namespace Stow
open PySem L2 PyProof.Rows
theorem Lie.outer {N m q:Nat}{ps ds rs:List Pc}(L:Lie N ps ds rs m q){y:Pc}(h:y∈ds∨y∈rs):y.a+y.l≤2^m*(q:Int)∨2^m*(q:Int)+2^m≤y.a:=by
 rcases h with h | h
 · exact .inl (L.c1.mem y h).2.2.2
 · exact .inr (L.c2.mem y h).1
theorem MgTo.live {ps ds rs ds' rs':List Pc}{m q m' q':Nat}(h:MgTo ps ds rs m q ds' rs' m' q'):∀y,y.v=true→y∈ds∨y∈rs→y∈ds'∨y∈rs':=by
 induction h with
 | stop _=>exact fun y _ h=>h
 | right hq hb k ih =>
   intro y hv hy
   rcases hy with g | g
   · exact ih y hv (.inl g)
   · rcases List.mem_cons.mp g with e | e
     · rw[e] at hv;cases hv
     · exact ih y hv (.inr e)
 | left hq hb k ih =>
   intro y hv hy
   rcases hy with g | g
   · rcases List.mem_append.mp g with e | e
     · exact ih y hv (.inl e)
     · rw[List.mem_singleton.mp e] at hv;cases hv
   · exact ih y hv (.inr g)
theorem MgTo.end {ps ds rs ds' rs':List Pc}{m q m' q':Nat}(h:MgTo ps ds rs m q ds' rs' m' q'):(⟨bud m' q',2^m',false⟩:Pc) ∉ ps:=by
 induction h with
 | stop h=>exact h
 | right _ _ _ ih=>exact ih
 | left _ _ _ ih=>exact ih
theorem pow_cancel {m a b:Nat}(h:(2:Int)^m*(a:Int)=2^m*(b:Int)):a=b:=by
 have p:=pw1 m
 have:=Int.eq_of_mul_eq_mul_left (show (2:Int)^m≠0 by omega) h
 omega
theorem bud_inv {m q q':Nat}(h:bud m q=2^m*(q':Int)):2^m*(q:Int)=bud m q':=by
 unfold bud at *
 by_cases e:q%2=0
 · rw[if_pos e] at h
   have:q'=q+1:=(pow_cancel (m:=m) (by rw[←h,Int.natCast_add,Int.mul_add];simp)).symm
   rw[this,if_neg (by omega),Int.natCast_add,Int.mul_add]
   simp
 · rw[if_neg e] at h
   obtain⟨r,rfl⟩:∃r,q=r+1:=⟨q-1,by omega⟩
   have hr:(2:Int)^m*((r+1:Nat):Int)=2^m*(r:Int)+2^m:=by rw[Int.natCast_add,Int.mul_add];simp
   have:q'=r:=(pow_cancel (m:=m) (by rw[←h,hr];omega)).symm
   rw[this,if_pos (by omega)]
   exact hr
theorem bud_ne {m q:Nat}:bud m q≠2^m*(q:Int):=by
 have:=pw1 m
 unfold bud
 split <;> omega
def NbF (ps:List Pc):Prop:=∀m q:Nat,(⟨2^m*(q:Int),2^m,false⟩:Pc)∈ps→(⟨bud m q,2^m,false⟩:Pc) ∉ ps
theorem NbF.one (N:Nat):NbF [⟨0,2^N,false⟩]:=fun m q h1 h2=>by
 have e1:=Pc.mk.inj (List.mem_singleton.mp h1)
 have e2:=Pc.mk.inj (List.mem_singleton.mp h2)
 exact bud_ne (e2.1.trans e1.1.symm)
theorem NbF.give {N m q m' q':Nat}{ps ds rs ds' rs':List Pc}(nb:NbF ps)(G:MgTo ps ds rs m q ds' rs' m' q')(hin:∀y,y∈ds∨y∈rs→y∈ps):NbF (ds'++⟨2^m'*(q':Int),2^m',false⟩::rs'):=by
 obtain⟨_,_,_,f4⟩:=G.facts
 have hen:=G.end
 have part:∀{y:Pc},y∈ds'++(⟨2^m'*(q':Int),2^m',false⟩::rs':List Pc)→y=⟨2^m'*(q':Int),2^m',false⟩∨y∈ps:=fun {y} h=>by
   rcases List.mem_append.mp h with g | g
   · exact .inr (hin y (f4 y (.inl g)))
   · rcases List.mem_cons.mp g with e | e
     · exact .inl e
     · exact .inr (hin y (f4 y (.inr e)))
 intro a b h1 h2
 rcases part h1 with e1 | g1
 · have e1:=Pc.mk.inj e1
   have ea:a=m':=pow_inj e1.2.1
   subst ea
   have eb:b=q':=pow_cancel e1.1
   subst eb
   rcases part h2 with e2 | g2
   · exact bud_ne (Pc.mk.inj e2).1
   · exact hen g2
 · rcases part h2 with e2 | g2
   · have e2:=Pc.mk.inj e2
     have ea:a=m':=pow_inj e2.2.1
     subst ea
     rw[bud_inv e2.1] at g1
     exact hen g1
   · exact nb a b g1 g2
theorem NbF.ask {N B M:Nat}{ps ds rs:List Pc}{b:Int}(nb:NbF ps)(e:ps=ds++⟨b,2^M,false⟩::rs)(al:∀z∈ps,Al z)(hBM:B≤M)(c4:Chain 0 (ds++(hcP b B M++rs)) (2^N)):NbF (ds++(hcP b B M++rs)):=by
 obtain⟨m0,q0,e1,e2⟩:=al ⟨b,2^M,false⟩ (by rw[e];exact List.mem_append_right _ List.mem_cons_self)
 have e1:(2:Int)^M=2^m0:=e1
 have e2:b=2^m0*(q0:Int):=e2
 rw[←pow_inj e1] at e2
 have hlive:(⟨b,2^B,true⟩:Pc)∈ds++(hcP b B M++rs):=List.mem_append_right _ (List.mem_append_left _ List.mem_cons_self)
 have notb:∀l,(⟨b,l,false⟩:Pc) ∉ ds++(hcP b B M++rs):=fun l h=>by
   have:=chain_same c4 h hlive rfl
   cases (Pc.mk.inj this).2.2
 have part:∀{y:Pc},y.v=false→y∈ds++(hcP b B M++rs)→y∈ps∨∃i,i<M∧y=⟨b+2^i,2^i,false⟩:=fun {y} hv h=>by
   rcases List.mem_append.mp h with g | g
   · exact .inl (by rw[e];exact List.mem_append_left _ g)
   · rcases List.mem_append.mp g with g | g
     · rcases List.mem_cons.mp g with w | w
       · rw[w] at hv;cases hv
       · obtain⟨i,h1,h2,h3⟩:=spl_mem w
         exact .inr ⟨i,by omega,h3⟩
     · exact .inl (by rw[e];exact List.mem_append_right _ (List.mem_cons_of_mem _ g))
 have even:∀{i},i<M→∃r:Nat,b=2^i*((2*r:Nat):Int):=fun {i} hi=>by
   obtain⟨r,hr⟩:=al_sub e2 (show i+1≤M from hi)
   refine⟨r,?_⟩
   rw[hr,pw2,Int.natCast_mul,←Int.mul_assoc,Int.add_mul]
   have:(2:Int)^i*((2:Nat):Int)=2^i+2^i:=by omega
   rw[this,Int.add_mul]
 intro m q h1 h2
 rcases part rfl h1 with g1 | ⟨i,hi,w1⟩
 · rcases part rfl h2 with g2 | ⟨i,hi,w2⟩
   · exact nb m q g1 g2
   · have w2:=Pc.mk.inj w2
     have em:m=i:=pow_inj w2.2.1
     subst em
     obtain⟨r,hr⟩:=even hi
     have:bud m q=2^m*((2*r+1:Nat):Int):=by
       rw[w2.1,hr,Int.natCast_add,Int.mul_add]
       simp
     have h3:=bud_inv this
     have hb:bud m (2*r+1)=b:=by
       unfold bud
       rw[if_neg (by omega),hr,Int.natCast_add,Int.mul_add]
       simp
     rw[h3,hb] at h1
     exact notb _ h1
 · have w1:=Pc.mk.inj w1
   have em:m=i:=pow_inj w1.2.1
   subst em
   obtain⟨r,hr⟩:=even hi
   have eq:q=2*r+1:=pow_cancel (m:=m) (by rw[w1.1,hr,Int.natCast_add,Int.mul_add];simp)
   have hb:bud m q=b:=by
     rw[eq]
     unfold bud
     rw[if_neg (by omega),hr,Int.natCast_add,Int.mul_add]
     simp
   rw[hb] at h2
   exact notb _ h2
end Stow
local macro_rules
 | `(tactic| walk_at "set")=>`(tactic| first
   | exact Stow.set0_c
   | exact Stow.set0_1
   | exact Stow.set0_0
   | ((refine Stow.setS_c (r:=?r) ?h);(case h=>walk_at "set"))
   | ((refine Stow.setS_1 (r:=?r) ?h);(case h=>walk_at "set"))
   | ((refine Stow.setS_0 (r:=?r) ?h);(case h=>walk_at "set")))
local macro_rules
 | `(tactic| walk_at "look")=>`(tactic| first
   | with_reducible assumption
   | exact L2.upd_same
   | ((with_reducible refine Stow.look_ne ?a ?b);(case a=>(first | assumption | exact Ne.symm (by assumption)));(case b=>walk_at "look"))
   | ((with_reducible refine Stow.look_put ?a ?b);(case a=>(first | assumption | walk_at "look"));(case b=>walk_at "look"))
   | ((with_reducible refine Stow.look_tup (ys:=?ys) ?a ?b);(case a=>walk_at "look");(case b=>walk_at "look"))
   | assumption)
local macro_rules
 | `(tactic| walk_at "seq")=>`(tactic| first
   | with_reducible assumption
   | exact L2.SqL.of (by walk_at "look")
   | ((with_reducible refine Stow.seq_put ?a ?b);(case a=>assumption);(case b=>walk_at "seq"))
   | assumption)
local macro_rules
 | `(tactic| walk_at "num")=>`(tactic| first | assumption | omega | (simp only [List.length_map,List.length_set,List.length_append,List.length_cons,List.length_nil] <;> omega))
local macro_rules
 | `(tactic| walk_at "size")=>`(tactic| first | exact Stow.small4000 (by first | omega | (simp only [List.length_map,List.length_set,List.length_append,List.length_cons,List.length_nil] <;> omega)))
local macro_rules
 | `(tactic| walk_at "side")=>`(tactic| first
   | (show (0:Int)<_;first | decide | omega)
   | (show (0:Int)≤_;first | decide | omega)
   | exact Or.inr ⟨by decide,by decide⟩
   | exact Or.inl ⟨by decide,by decide⟩
   | exact⟨by decide,by decide⟩
   | exact⟨by decide,by decide,by decide⟩
   | exact⟨by decide,by decide,by assumption⟩
   | exact⟨by decide,by decide,by omega⟩
   | exact⟨by omega,by omega,by decide⟩
   | exact Or.inr ⟨by omega,by omega⟩
   | exact Or.inl ⟨by omega,by omega⟩
   | exact⟨by omega,by omega⟩)
local macro_rules
 | `(tactic| walk_at "ty")=>`(tactic| first | exact L2.TyOf.int _ | exact L2.TyOf.bl _ | exact L2.TyOf.non | ((refine L2.TyOf.lst (xs:=?xs) ?h);(case h=>walk_at "look")) | ((refine L2.TyOf.tup (xs:=?xs) ?h);(case h=>walk_at "look")) | exact L2.TyOf.str _)
local macro_rules
 | `(tactic| walk_at "kit")=>`(tactic| first | exact Stow.kit_ii | exact Stow.kit_ib | exact Stow.kit_bb | exact Stow.kit_ll | exact Stow.kit_tt)
local macro_rules
 | `(tactic| walk_at "sp")=>`(tactic| fail "no promise")
local macro_rules
 | `(tactic| walk_at "st")=>`(tactic| first
   | ((with_reducible refine Stow.r_var (v:=?v) ?e ?_);(case e=>exact rfl))
   | (with_reducible refine Stow.r_seq ?_)
   | (with_reducible refine Stow.r_chain ?_)
   | (with_reducible refine Stow.r_nx ?_)
   | (with_reducible refine Stow.r_asg ?_)
   | ((with_reducible refine Stow.r_gnameN (σ':=?s) ?e ?_);(case e=>with_reducible (walk_at "set")))
   | (with_reducible refine Stow.r_gname ?_)
   | (with_reducible refine Stow.r_op ?_)
   | (with_reducible refine Stow.r_cons ?_)
   | (with_reducible refine Stow.r_nil ?_)
   | (with_reducible refine Stow.r_c ?_)
   | (with_reducible refine Stow.r_rI0 ?_)
   | (with_reducible refine Stow.r_call ?_)
   | (with_reducible refine Stow.r_cb ?_)
   | (with_reducible refine Stow.r_test ?_)
   | (with_reducible refine Stow.r_tB ?_)
   | (with_reducible refine Stow.r_bl ?_)
   | (with_reducible refine Stow.r_ifS ?_)
   | (with_reducible refine Stow.r_ret ?_)
   | (with_reducible refine Stow.r_rt ?_)
   | (with_reducible refine Stow.r_drop ?_)
   | (with_reducible refine Stow.r_next ?_)
   | (with_reducible refine Stow.r_not ?_)
   | (with_reducible refine Stow.r_and ?_)
   | (with_reducible refine Stow.r_or ?_)
   | (with_reducible refine Stow.r_andV ?_)
   | (with_reducible refine Stow.r_orV ?_)
   | (with_reducible refine Stow.r_notV ?_)
   | (with_reducible refine Stow.r_ifE ?_)
   | (with_reducible refine Stow.r_ifN ?_)
   | (with_reducible refine Stow.r_eqI ?_)
   | (with_reducible refine Stow.r_neI ?_)
   | (with_reducible refine Stow.r_isN ?_)
   | (with_reducible refine Stow.r_int ?_)
   | (with_reducible refine Stow.r_eqB ?_)
   | (with_reducible refine Stow.r_neB ?_)
   | (with_reducible refine Stow.r_tup ?_)
   | (with_reducible refine Stow.r_lst ?_)
   | (with_reducible refine Stow.r_bm ?_)
   | (with_reducible refine Stow.r_bm0 ?_)
   | (with_reducible refine Stow.r_sl ?_)
   | (with_reducible refine Stow.r_part ?_)
   | (with_reducible refine Stow.r_nopart ?_)
   | (with_reducible refine Stow.r_un ?_)
   | (with_reducible refine Stow.r_rU ?_)
   | (with_reducible refine Stow.r_intB ?_)
   | (with_reducible refine Stow.r_intI ?_)
   | (with_reducible refine Stow.r_truB ?_)
   | (with_reducible refine Stow.r_gsub ?_)
   | (with_reducible refine Stow.r_retN ?_)
   | (with_reducible refine Stow.r_ct ?_)
   | (with_reducible refine Stow.r_bk ?_)
   | (with_reducible refine Stow.r_break ?_)
   | (with_reducible refine Stow.r_cont ?_)
   | (with_reducible refine L2.iteT ?_)
   | (with_reducible refine L2.iteF ?_)
   | ((with_reducible refine Stow.r_rI ?c ?_);(case c=>walk_at "side"))
   | ((with_reducible refine Stow.r_tyL (xs:=?xs) ?h ?_);(case h=>walk_at "look"))
   | ((with_reducible refine Stow.r_appendI (ns:=?ns) ?h ?z ?_);(case h=>walk_at "look");(case z=>walk_at "size"))
   | ((with_reducible refine Stow.r_append (xs:=?xs) ?h ?z ?_);(case h=>walk_at "look");(case z=>walk_at "size"))
   | ((with_reducible refine Stow.r_gtup (xs:=?xs) ?h ?l ?_);(case h=>walk_at "look");(case l=>exact rfl))
   | (with_reducible refine Stow.r_gcons ?_)
   | (with_reducible refine Stow.r_gnil ?_)
   | ((with_reducible refine Stow.r_ixI (ns:=?ns) ?h ?a ?b ?_);(case h=>walk_at "seq");(case a=>walk_at "num");(case b=>walk_at "num"))
   | ((with_reducible refine Stow.r_ixT (xs:=?xs) (v:=?v) ?h ?e ?_);(case h=>walk_at "look");(case e=>exact rfl))
   | ((with_reducible refine Stow.r_setI (ns:=?ns) ?h ?a ?b ?_);(case h=>walk_at "look");(case a=>walk_at "num");(case b=>walk_at "num"))
   | ((with_reducible refine Stow.r_sllG (ns:=?ns) ?h ?_);(case h=>walk_at "seq"))
   | ((with_reducible refine Stow.r_sll (xs:=?xs) ?h ?_);(case h=>walk_at "seq"))
   | ((with_reducible refine Stow.r_lenI (ns:=?ns) ?h ?_);(case h=>walk_at "seq");(try rw[List.length_map]))
   | ((with_reducible refine Stow.r_lenL (xs:=?xs) ?h ?_);(case h=>walk_at "look"))
   | ((with_reducible refine Stow.r_lenT (xs:=?xs) ?h ?_);(case h=>walk_at "look"))
   | ((with_reducible refine Stow.r_listI (xs:=?xs) ?h ?_);(case h=>walk_at "seq"))
   | ((with_reducible refine Stow.r_isi (t:=?t) (b:=?b) ?y ?e ?_);(case y=>walk_at "ty");(case e=>walk_at "kit"))
   | ((with_reducible refine Stow.r_new ?h ?_);(case h=>(first | exact Nat.zero_le _ | simp)))
   | ((with_reducible refine Stow.r_truL (xs:=?xs) ?h ?_);(case h=>walk_at "seq"))
   | ((with_reducible refine Stow.r_ifdT ?c ?_);(case c=>(first | omega | exact rfl)))
   | ((with_reducible refine Stow.r_ifdF ?c ?_);(case c=>(first | omega | (intro h;cases h;done))))
   | (with_reducible refine Stow.r_raise ?_)
   | (with_reducible refine Stow.r_raiseI ?_)
   | (with_reducible refine Stow.r_tryAs ?_)
   | (with_reducible refine Stow.r_try ?_)
   | (with_reducible refine Stow.r_fldX ?_)
   | (with_reducible refine Stow.r_for ?_)
   | (with_reducible refine Stow.r_iL ?_)
   | (with_reducible refine Stow.r_iR1 ?_)
   | (with_reducible refine Stow.r_iR2 ?_)
   | (with_reducible refine Stow.r_comp ?_)
   | ((with_reducible refine Stow.r_isiX (C:=?C) (od:=?od) (b:=?b) ?h ?z ?e ?_);(case h=>walk_at "look");(case z=>assumption);(case e=>assumption))
   | ((with_reducible refine Stow.r_isiN (C:=?C) (od:=?od) (b:=?b) ?h ?z ?n ?e ?_);(case h=>walk_at "look");(case z=>assumption);(case n=>exact fun z=>nomatch z);(case e=>assumption))
   | (with_reducible refine Stow.r_makeX ?_)
   | (with_reducible refine Stow.r_makeI ?_)
   | (with_reducible refine Stow.r_fldN ?_)
   | ((with_reducible refine Stow.r_catG (xs:=?xs) (zs:=?zs) ?h ?g ?z ?_);(case h=>walk_at "look");(case g=>walk_at "look");(case z=>walk_at "num"))
   | ((with_reducible refine Stow.r_cat (xs:=?xs) (zs:=?zs) ?h ?g ?z ?_);(case h=>walk_at "look");(case g=>walk_at "look");(case z=>(refine Nat.le_of_lt (L2.small1000 ?_);first | omega | simp)))
   | ((with_reducible refine Stow.r_slS ?h ?_);(case h=>decide))
   | (with_reducible refine Stow.r_max ?_)
   | (with_reducible refine Stow.r_fld ?_)
   | ((with_reducible refine Stow.r_at (C:=?C) (dx:=?dx) (fs:=?fs) (v:=?v) ?h ?c ?n ?l ?_);(case h=>walk_at "look");(case c=>assumption);(case n=>assumption);(case l=>exact rfl))
   | (with_reducible refine Stow.r_sfld ?_)
   | ((with_reducible refine Stow.r_sat (C:=?C) (dx:=?dx) (fs:=?fs) ?h ?c ?n ?l ?_);(case h=>walk_at "look");(case c=>assumption);(case n=>assumption);(case l=>(first | decide | simp)))
   | (with_reducible refine Stow.r_meth ?_)
   | ((with_reducible refine Stow.r_mat (dx:=?dx) (fs:=?fs) ?h ?l ?_);(case h=>walk_at "look");(case l=>exact rfl))
   | (with_reducible refine Stow.r_make ?_)
   | (with_reducible refine Stow.r_compG ?_)
   | ((with_reducible refine Stow.r_isiO (C:=?C) (dx:=?dx) (fs:=?fs) (b:=?b) ?h ?z ?e ?_);(case h=>walk_at "look");(case z=>assumption);(case e=>assumption))
   | (with_reducible refine Stow.r_tryE ?_)
   | (with_reducible refine Stow.r_tryA ?_)
   | (with_reducible refine Stow.r_xCall ?_)
   | (with_reducible refine Stow.r_tryS ?_)
   | (with_reducible refine Stow.r_xSet ?_)
   | (with_reducible refine Stow.r_xIf ?_)
   | (with_reducible refine Stow.r_xMeth ?_)
   | (with_reducible refine Stow.r_xMethD ?_)
   | (with_reducible refine Stow.r_xMake ?_)
   | (with_reducible refine Stow.r_methD ?_)
   | (with_reducible refine Stow.r_isB ?_)
   | ((with_reducible refine Stow.r_notIn (xs:=?xs) ?h ?f ?g ?_);(case h=>walk_at "look");(case f=>exact rfl);(case g=>exact rfl))
   | walk_at "sp")
local macro_rules
 | `(tactic| walk_at "go")=>`(tactic| repeat walk_at "st")
local macro_rules
 | `(tactic| walk_at "len")=>`(tactic| first
   | (rintro⟨e,_⟩;exact congrArg List.length e)
   | (rintro⟨_,e,_⟩;exact congrArg List.length e)
   | (rintro⟨_,_,e,_⟩;exact congrArg List.length e)
   | (rintro⟨_,_,_,e,_⟩;exact congrArg List.length e)
   | (rintro⟨_,_,_,_,e,_⟩;exact congrArg List.length e)
   | (rintro⟨_,_,_,_,_,e,_⟩;exact congrArg List.length e)
   | (rintro⟨_,_,_,_,_,_,e,_⟩;exact congrArg List.length e)
   | (rintro⟨_,_,_,_,_,_,_,e,_⟩;exact congrArg List.length e)
   | (rintro⟨_,_,_,_,_,_,_,_,e,_⟩;exact congrArg List.length e)
   | (rintro⟨_,_,_,_,_,_,_,_,_,e,_⟩;exact congrArg List.length e)
   | (rintro⟨_,_,_,_,_,_,_,_,_,_,e,_⟩;exact congrArg List.length e)
   | (rintro⟨_,_,_,_,_,_,_,_,_,_,_,e,_⟩;exact congrArg List.length e)
   | (rintro⟨_,_,_,_,_,_,_,_,_,_,_,_,e,_⟩;exact congrArg List.length e)
   | (rintro⟨_,_,_,_,_,_,_,_,_,_,_,_,_,e,_⟩;exact congrArg List.length e)
   | (rintro⟨_,_,_,_,_,_,_,_,_,_,_,_,_,_,e,_⟩;exact congrArg List.length e)
   | (rintro⟨_,_,_,_,_,_,_,_,_,_,_,_,_,_,_,e,_⟩;exact congrArg List.length e)
   | (rintro⟨_,_,_,_,_,_,_,_,_,_,_,_,_,_,_,_,e,_⟩;exact congrArg List.length e)
   | (rintro⟨_,_,_,_,_,_,_,_,_,_,_,_,_,_,_,_,_,e,_⟩;exact congrArg List.length e))
local macro_rules
 | `(tactic| walk_at "gs")=>`(tactic| repeat (first | (with_reducible refine Stow.r_nx ?_) | ((fail_if_success (with_reducible refine Stow.r_isIf ?_));walk_at "st")))
local macro_rules
 | `(tactic| walk_at "ga")=>`(tactic| repeat ((fail_if_success (with_reducible refine Stow.r_isAnd ?_));(fail_if_success (with_reducible refine Stow.r_isOr ?_));walk_at "st"))
local macro_rules
 | `(tactic| walk_at "ge")=>`(tactic| repeat (first | (with_reducible refine Stow.r_nx ?_) | ((fail_if_success (with_reducible refine Stow.r_isSeq ?_));walk_at "st")))
local macro_rules
 | `(tactic| walk_at "g1")=>`(tactic| ((with_reducible refine Stow.r_seq ?_);walk_at "ge"))
local macro_rules
 | `(tactic| walk_at "st")=>`(tactic| first
   | (with_reducible refine Stow.r_dget ?_)
   | (with_reducible refine Stow.r_dput ?_)
   | (with_reducible refine Stow.r_forD ?_)
   | (with_reducible refine Stow.r_forI ?_)
   | (with_reducible refine Stow.r_dnew ?_)
   | (with_reducible refine Stow.r_xExp ?_)
   | ((with_reducible refine Stow.r_tyD (kvs:=?kvs) ?h ?_);(case h=>walk_at "look")))
local macro_rules
 | `(tactic| walk_at "st")=>`(tactic| first
   | (with_reducible refine Stow.r_dIn ?_)
   | (with_reducible refine Stow.r_dPop ?_)
   | ((with_reducible refine Stow.r_truD (kvs:=?kvs) ?h ?_);(case h=>walk_at "look"))
   | (with_reducible refine Stow.r_eqSS ?_)
   | (with_reducible refine Stow.r_neSS ?_)
   | (with_reducible refine Stow.r_eqSt ?_)
   | (with_reducible refine Stow.r_neSt ?_)
   | (with_reducible refine Stow.r_methF ?_)
   | (with_reducible refine Stow.r_methFD ?_)
   | (with_reducible refine Stow.r_xMethF ?_)
   | (with_reducible refine Stow.r_xMethFD ?_)
   | ((with_reducible refine Stow.r_matF (i:=?i) (dx:=?dx) (fs:=?fs) ?h ?l ?_);(case h=>walk_at "look");(case l=>(first | exact Stow.fsF_none (by decide) (by decide) | exact rfl)))
   | ((with_reducible refine Stow.r_at (C:=?C) (dx:=?dx) (fs:=?fs) (v:=?v) ?h ?c ?n ?l ?_);(case h=>walk_at "look");(case c=>assumption);(case n=>assumption);(case l=>exact Stow.fsF_cells))
   | ((with_reducible refine Stow.r_sat (C:=?C) (dx:=?dx) (fs:=?fs) ?h ?c ?n ?l ?_);(case h=>walk_at "look");(case c=>assumption);(case n=>assumption);(case l=>exact Stow.fsF_few)))
local macro_rules
 | `(tactic| walk_at "sp")=>`(tactic| first
   | (with_reducible refine Stow.i_long ?_)
   | (with_reducible refine Stow.i_live ?_)
   | (with_reducible refine Stow.i_whole ?_)
   | ((with_reducible refine Stow.i_cell (ns:=?ns) ?h ?a ?_);(case h=>walk_at "seq");(case a=>walk_at "nn"))
   | ((with_reducible refine Stow.i_can (ns:=?ns) ?h ?a ?b ?_);(case h=>walk_at "seq");(case a=>walk_at "num");(case b=>walk_at "num"))
   | ((with_reducible refine Stow.i_bad (ns:=?ns) ?h ?a ?b ?_);(case h=>walk_at "seq");(case a=>walk_at "num");(case b=>walk_at "num")))
local macro_rules
 | `(tactic| walk_at "nn")=>`(tactic| first | decide | omega | exact Int.emod_nonneg _ (by decide) | exact Int.emod_nonneg _ (by omega))
--GEN
namespace Stow
open PySem L2 PyProof.Rows
theorem fS {N Q:List Str}{sc:Scope}(a:sc.kind = .function:=by rfl)(b:sc.isCoroutine=false:=by rfl)(c:sc.isGenerator=false:=by rfl)(d:N.Nodup:=by decide +kernel)(e:N.take Q.length=Q:=by rfl)(f:∀x∈Q,sc.names.lookup x=some .local∨sc.names.lookup x=some .cell:=by decide +kernel)(g:∀y∈sc.names,y.2≠.free:=by decide +kernel):FnScope N Q sc:=⟨a,b,c,d,e,f,g⟩
abbrev s_Z22:Stmt:=top 11
theorem sc_Z22:FnScope ["count","bound"] ["count","bound"] (defScope s_Z22):=fS
abbrev BiS (x q:Str)(s:Stmt)(ps:List Str):Prop:=∀(kV doc pm:Value) (an:Option Addr) (cdv ct:Value) (us:List Value),us.length=ps.length→bindArgs (PySem.W.fnOf x q (defArgs s) (defBody s) (defScope s) .none kV doc pm an cdv ct) ⟨us,[]⟩=pure (ps.zip us)
theorem bi_Z22:BiS "check_ask" "check_ask" s_Z22 ["count","bound"]:=fun _ _ _ _ _ _ us hl=>match us,hl with | [_,_],_=>rfl
abbrev s_Z3:Stmt:=top 12
theorem sc_Z3:FnScope ["count","bound"] ["count","bound"] (defScope s_Z3):=fS
theorem bi_Z3:BiS "check_plain_ask" "check_plain_ask" s_Z3 ["count","bound"]:=fun _ _ _ _ _ _ us hl=>match us,hl with | [_,_],_=>rfl
abbrev s_Z34:Stmt:=top 14
theorem sc_Z34:FnScope ["long","live"] ["long","live"] (defScope s_Z34):=fS
theorem bi_Z34:BiS "mark_of" "mark_of" s_Z34 ["long","live"]:=fun _ _ _ _ _ _ us hl=>match us,hl with | [_,_],_=>rfl
abbrev s_Z35:Stmt:=top 15
theorem sc_Z35:FnScope ["number"] ["number"] (defScope s_Z35):=fS
theorem bi_Z35:BiS "long_of" "long_of" s_Z35 ["number"]:=fun _ _ _ _ _ _ us hl=>match us,hl with | [_],_=>rfl
abbrev s_Z36:Stmt:=top 16
theorem sc_Z36:FnScope ["number"] ["number"] (defScope s_Z36):=fS
theorem bi_Z36:BiS "live_of" "live_of" s_Z36 ["number"]:=fun _ _ _ _ _ _ us hl=>match us,hl with | [_],_=>rfl
abbrev s_Z21:Stmt:=top 19
theorem sc_Z21:FnScope ["cells","at","long"] ["cells","at"] (defScope s_Z21):=fS
theorem bi_Z21:BiS "can_begin" "can_begin" s_Z21 ["cells","at"]:=fun _ _ _ _ _ _ us hl=>match us,hl with | [_,_],_=>rfl
abbrev s_Z9:Stmt:=top 20
theorem sc_Z9:FnScope ["cells","at","last"] ["cells","at"] (defScope s_Z9):=fS
theorem bi_Z9:BiS "bad_of_piece" "bad_of_piece" s_Z9 ["cells","at"]:=fun _ _ _ _ _ _ us hl=>match us,hl with | [_,_],_=>rfl
abbrev s_Z43:Stmt:=top 21
theorem sc_Z43:FnScope ["cells","pieces","at","bad","long"] ["cells"] (defScope s_Z43):=fS
theorem bi_Z43:BiS "looked" "looked" s_Z43 ["cells"]:=fun _ _ _ _ _ _ us hl=>match us,hl with | [_],_=>rfl
abbrev s_Z19:Stmt:=top 22
theorem sc_Z19:FnScope ["count","cells"] ["count"] (defScope s_Z19):=fS
theorem bi_Z19:BiS "fresh_room" "fresh_room" s_Z19 ["count"]:=fun _ _ _ _ _ _ us hl=>match us,hl with | [_],_=>rfl
abbrev s_Z48:Stmt:=top 24
theorem sc_Z48:FnScope ["cells","at","long","live","row"] ["cells","at","long","live"] (defScope s_Z48):=fS
theorem bi_Z48:BiS "laid" "laid" s_Z48 ["cells","at","long","live"]:=fun _ _ _ _ _ _ us hl=>match us,hl with | [_,_,_,_],_=>rfl
abbrev s_Z27:Stmt:=top 25
theorem sc_Z27:FnScope ["cells","at","piece"] ["cells","at"] (defScope s_Z27):=fS
theorem bi_Z27:BiS "piece_at" "piece_at" s_Z27 ["cells","at"]:=fun _ _ _ _ _ _ us hl=>match us,hl with | [_,_],_=>rfl
abbrev s_Z29:Stmt:=top 26
theorem sc_Z29:FnScope ["cells","at","piece"] ["cells","at"] (defScope s_Z29):=fS
theorem bi_Z29:BiS "live_at" "live_at" s_Z29 ["cells","at"]:=fun _ _ _ _ _ _ us hl=>match us,hl with | [_,_],_=>rfl
abbrev s_Z37:Stmt:=top 27
theorem sc_Z37:FnScope ["cells","source","goal","count","row"] ["cells","source","goal","count"] (defScope s_Z37):=fS
theorem bi_Z37:BiS "carried" "carried" s_Z37 ["cells","source","goal","count"]:=fun _ _ _ _ _ _ us hl=>match us,hl with | [_,_,_,_],_=>rfl
abbrev s_Z25:Stmt:=top 31
theorem sc_Z25:FnScope ["number"] ["number"] (defScope s_Z25):=fS
theorem bi_Z25:BiS "is_power" "is_power" s_Z25 ["number"]:=fun _ _ _ _ _ _ us hl=>match us,hl with | [_],_=>rfl
abbrev s_Z24:Stmt:=top 32
theorem sc_Z24:FnScope ["need"] ["need"] (defScope s_Z24):=fS
theorem bi_Z24:BiS "block_for" "block_for" s_Z24 ["need"]:=fun _ _ _ _ _ _ us hl=>match us,hl with | [_],_=>rfl
abbrev s_Z15:Stmt:=top 33
theorem sc_Z15:FnScope ["pieces","block","fit","long","at"] ["pieces","block"] (defScope s_Z15):=fS
theorem bi_Z15:BiS "least_free" "least_free" s_Z15 ["pieces","block"]:=fun _ _ _ _ _ _ us hl=>match us,hl with | [_,_],_=>rfl
abbrev s_Z28:Stmt:=top 34
theorem sc_Z28:FnScope ["cells","at","long","block","row"] ["cells","at","long","block"] (defScope s_Z28):=fS
theorem bi_Z28:BiS "cut_down" "cut_down" s_Z28 ["cells","at","long","block"]:=fun _ _ _ _ _ _ us hl=>match us,hl with | [_,_,_,_],_=>rfl
abbrev s_Z4:Stmt:=top 35
theorem sc_Z4:FnScope ["pieces","at","long"] ["pieces","at","long"] (defScope s_Z4):=fS
theorem bi_Z4:BiS "grown_together" "grown_together" s_Z4 ["pieces","at","long"]:=fun _ _ _ _ _ _ us hl=>match us,hl with | [_,_,_],_=>rfl
abbrev s_Z23:Stmt:=top 38
theorem sc_Z23:FnScope ["_law_script","_law_k"] ["_law_script","_law_k"] (defScope s_Z23):=fS
theorem bi_Z23:BiS "_law_cell_at" "_law_cell_at" s_Z23 ["_law_script","_law_k"]:=fun _ _ _ _ _ _ us hl=>match us,hl with | [_,_],_=>rfl
abbrev s_Z33:Stmt:=top 39
theorem sc_Z33:FnScope ["_law_found"] ["_law_found"] (defScope s_Z33):=fS
theorem bi_Z33:BiS "_law_whole" "_law_whole" s_Z33 ["_law_found"]:=fun _ _ _ _ _ _ us hl=>match us,hl with | [_],_=>rfl
abbrev s_Z41:Stmt:=top 40
theorem sc_Z41:FnScope ["_law_cells","_law_told_here","_law_at","_law_long","_law_live"] ["_law_cells"] (defScope s_Z41):=fS
theorem bi_Z41:BiS "_law_walk" "_law_walk" s_Z41 ["_law_cells"]:=fun _ _ _ _ _ _ us hl=>match us,hl with | [_],_=>rfl
abbrev s_Z26:Stmt:=top 41
theorem sc_Z26:FnScope ["_law_cell"] ["_law_cell"] (defScope s_Z26):=fS
theorem bi_Z26:BiS "_law_number" "_law_number" s_Z26 ["_law_cell"]:=fun _ _ _ _ _ _ us hl=>match us,hl with | [_],_=>rfl
abbrev s_Z38:Stmt:=top 42
theorem sc_Z38:FnScope ["_law_keeper","_law_held","_law_cells","_law_pieces","_law_at","_law_long","_law_live","_law_longs","_law_place","_law_k","_law_number_here"] ["_law_keeper","_law_held"] (defScope s_Z38):=fS
theorem bi_Z38:BiS "_law_good" "_law_good" s_Z38 ["_law_keeper","_law_held"]:=fun _ _ _ _ _ _ us hl=>match us,hl with | [_,_],_=>rfl
abbrev s_Z39:Stmt:=top 43
theorem sc_Z39:FnScope ["_law_keeper","_law_held","_law_cell","_law_places","_law_place","_law_known","_law_many","_law_k","_law_found"] ["_law_keeper","_law_held","_law_cell"] (defScope s_Z39):=fS
theorem bi_Z39:BiS "_law_told" "_law_told" s_Z39 ["_law_keeper","_law_held","_law_cell"]:=fun _ _ _ _ _ _ us hl=>match us,hl with | [_,_,_],_=>rfl
abbrev s_Z32:Stmt:=top 44
theorem sc_Z32:FnScope ["_law_keeper","_law_held","_law_count","_law_most","_law_before","_law_word","_law_place"] ["_law_keeper","_law_held","_law_count","_law_most"] (defScope s_Z32):=fS
theorem bi_Z32:BiS "_law_asked" "_law_asked" s_Z32 ["_law_keeper","_law_held","_law_count","_law_most"]:=fun _ _ _ _ _ _ us hl=>match us,hl with | [_,_,_,_],_=>rfl
abbrev s_Z31:Stmt:=top 45
theorem sc_Z31:FnScope ["_law_keeper","_law_held","_law_place","_law_count","_law_least","_law_most","_law_before","_law_word","_law_goal"] ["_law_keeper","_law_held","_law_place","_law_count","_law_least","_law_most"] (defScope s_Z31):=fS
theorem bi_Z31:BiS "_law_grown" "_law_grown" s_Z31 ["_law_keeper","_law_held","_law_place","_law_count","_law_least","_law_most"]:=fun _ _ _ _ _ _ us hl=>match us,hl with | [_,_,_,_,_,_],_=>rfl
abbrev s_Z42:Stmt:=top 46
theorem sc_Z42:FnScope ["_law_keeper","_law_held","_law_pieces","_law_cell","_law_size","_law_count","_law_most","_law_way","_law_places","_law_place","_law_many","_law_k"] ["_law_keeper","_law_held","_law_pieces","_law_cell","_law_size"] (defScope s_Z42):=fS
theorem bi_Z42:BiS "_law_step" "_law_step" s_Z42 ["_law_keeper","_law_held","_law_pieces","_law_cell","_law_size"]:=fun _ _ _ _ _ _ us hl=>match us,hl with | [_,_,_,_,_],_=>rfl
abbrev s_law:Stmt:=top 47
theorem sc_law:FnScope ["_law_script","_law_size","_law_keeper","_law_held","_law_pieces","_law_cell"] ["_law_script"] (defScope s_law):=fS
theorem bi_law:BiS "law" "law" s_law ["_law_script"]:=fun _ _ _ _ _ _ us hl=>match us,hl with | [_],_=>rfl
abbrev s_Broken_init:Stmt:=inClass (top 3) 0
theorem sc_Broken_init:FnScope ["self","cell"] ["self","cell"] (defScope s_Broken_init):=fS
theorem bi_Broken_init:BiS "__init__" "Broken.__init__" s_Broken_init ["self","cell"]:=fun _ _ _ _ _ _ us hl=>match us,hl with | [_,_],_=>rfl
abbrev s_Keeper_init:Stmt:=inClass (top 29) 0
theorem sc_Keeper_init:FnScope ["self","size"] ["self","size"] (defScope s_Keeper_init):=fS
theorem bi_Keeper_init:BiS "__init__" "Keeper.__init__" s_Keeper_init ["self","size"]:=fun _ _ _ _ _ _ us hl=>match us,hl with | [_,_],_=>rfl
abbrev s_Z2:Stmt:=inClass (top 29) 11
theorem sc_Z2:FnScope ["self","cells"] ["self","cells"] (defScope s_Z2):=fS
theorem bi_Z2:BiS "room_begin" "Keeper.room_begin" s_Z2 ["self","cells"]:=fun _ _ _ _ _ _ us hl=>match us,hl with | [_,_],_=>rfl
abbrev s_Z13:Stmt:=inClass (top 29) 3
theorem sc_Z13:FnScope ["self","cells"] ["self","cells"] (defScope s_Z13):=fS
theorem bi_Z13:BiS "lay" "Keeper.lay" s_Z13 ["self","cells"]:=fun _ _ _ _ _ _ us hl=>match us,hl with | [_,_],_=>rfl
abbrev s_Z5:Stmt:=inClass (top 29) 2
theorem sc_Z5:FnScope ["self"] ["self"] (defScope s_Z5):=fS
theorem bi_Z5:BiS "pieces" "Keeper.pieces" s_Z5 ["self"]:=fun _ _ _ _ _ _ us hl=>match us,hl with | [_],_=>rfl
abbrev s_Z7:Stmt:=inClass (top 29) 1
theorem sc_Z7:FnScope ["self"] ["self"] (defScope s_Z7):=fS
theorem bi_Z7:BiS "cells" "Keeper.cells" s_Z7 ["self"]:=fun _ _ _ _ _ _ us hl=>match us,hl with | [_],_=>rfl
abbrev s_Z11:Stmt:=inClass (top 29) 5
theorem sc_Z11:FnScope ["self","place","at","long","live"] ["self","place"] (defScope s_Z11):=fS
theorem bi_Z11:BiS "many" "Keeper.many" s_Z11 ["self","place"]:=fun _ _ _ _ _ _ us hl=>match us,hl with | [_,_],_=>rfl
abbrev s_Halves_init:Stmt:=inClass (top 36) 0
theorem sc_Halves_init:FnScope ["self","size"] ["self","size"] (defScope s_Halves_init):=fS
theorem bi_Halves_init:BiS "__init__" "Halves.__init__" s_Halves_init ["self","size"]:=fun _ _ _ _ _ _ us hl=>match us,hl with | [_,_],_=>rfl
abbrev s_Z12:Stmt:=inClass (top 36) 2
theorem sc_Z12:FnScope ["self","place","at","long"] ["self","place"] (defScope s_Z12):=fS
theorem bi_Z12:BiS "give" "Halves.give" s_Z12 ["self","place"]:=fun _ _ _ _ _ _ us hl=>match us,hl with | [_,_],_=>rfl
abbrev s_Z17:Stmt:=inClass (top 36) 1
theorem sc_Z17:FnScope ["self","count","bound","block","at","long"] ["self","count","bound"] (defScope s_Z17):=fS
theorem bi_Z17 (T:Addr)(d1:Value)(kV doc pm:Value)(an:Option Addr)(cdv ct:Value)(us:List Value)(hl:us.length=["self","count","bound"].length):∃k:Option (Array Value)→Sem (List (Str×Value)),bindArgs (PySem.W.fnOf "ask" "Halves.ask" (defArgs s_Z17) (defBody s_Z17) (defScope s_Z17) (.ref T) kV doc pm an cdv ct) ⟨us,[]⟩=seqItems? (.ref T) >>= k∧k (some [d1].toArray)=pure ((["self","count","bound"]:List Str).zip us):=match us,hl with | [_,_,_],_=>⟨_,rfl,rfl⟩
theorem bd_Z17 (T:Addr)(d1:Value)(kV doc pm:Value)(an:Option Addr)(cdv ct:Value)(us:List Value)(hl:(us++[d1]).length=["self","count","bound"].length):∃k:Option (Array Value)→Sem (List (Str×Value)),bindArgs (PySem.W.fnOf "ask" "Halves.ask" (defArgs s_Z17) (defBody s_Z17) (defScope s_Z17) (.ref T) kV doc pm an cdv ct) ⟨us,[]⟩=seqItems? (.ref T) >>= k∧k (some [d1].toArray)=pure ((["self","count","bound"]:List Str).zip (us++[d1])):=match us,(show us.length=2 by simpa using hl) with | [_,_],_=>⟨_,rfl,rfl⟩
abbrev s_Z8:Stmt:=inClass (top 29) 4
theorem sc_Z8:FnScope ["self"] ["self"] (defScope s_Z8):=fS
theorem bi_Z8:BiS "clear" "Keeper.clear" s_Z8 ["self"]:=fun _ _ _ _ _ _ us hl=>match us,hl with | [_],_=>rfl
abbrev s_Z1:Stmt:=inClass (top 29) 13
theorem sc_Z1:FnScope ["self","place","count","bound","goal"] ["self","place","count","bound"] (defScope s_Z1):=fS
theorem bi_Z1:BiS "room_moved" "Keeper.room_moved" s_Z1 ["self","place","count","bound"]:=fun _ _ _ _ _ _ us hl=>match us,hl with | [_,_,_,_],_=>rfl
abbrev s_Z10:Stmt:=inClass (top 29) 10
theorem sc_Z10:FnScope ["self","place","count","bound","had"] ["self","place","count","bound"] (defScope s_Z10):=fS
theorem bi_Z10 (T:Addr)(d1:Value)(kV doc pm:Value)(an:Option Addr)(cdv ct:Value)(us:List Value)(hl:us.length=["self","place","count","bound"].length):∃k:Option (Array Value)→Sem (List (Str×Value)),bindArgs (PySem.W.fnOf "grow" "Keeper.grow" (defArgs s_Z10) (defBody s_Z10) (defScope s_Z10) (.ref T) kV doc pm an cdv ct) ⟨us,[]⟩=seqItems? (.ref T) >>= k∧k (some [d1].toArray)=pure ((["self","place","count","bound"]:List Str).zip us):=match us,hl with | [_,_,_,_],_=>⟨_,rfl,rfl⟩
theorem bd_Z10 (T:Addr)(d1:Value)(kV doc pm:Value)(an:Option Addr)(cdv ct:Value)(us:List Value)(hl:(us++[d1]).length=["self","place","count","bound"].length):∃k:Option (Array Value)→Sem (List (Str×Value)),bindArgs (PySem.W.fnOf "grow" "Keeper.grow" (defArgs s_Z10) (defBody s_Z10) (defScope s_Z10) (.ref T) kV doc pm an cdv ct) ⟨us,[]⟩=seqItems? (.ref T) >>= k∧k (some [d1].toArray)=pure ((["self","place","count","bound"]:List Str).zip (us++[d1])):=match us,(show us.length=3 by simpa using hl) with | [_,_,_],_=>⟨_,rfl,rfl⟩
abbrev s_Z0:Stmt:=inClass (top 29) 12
theorem sc_Z0:FnScope ["self","place","k","many"] ["self","place","k"] (defScope s_Z0):=fS
theorem bi_Z0:BiS "room_cell_of" "Keeper.room_cell_of" s_Z0 ["self","place","k"]:=fun _ _ _ _ _ _ us hl=>match us,hl with | [_,_,_],_=>rfl
abbrev s_Z18:Stmt:=inClass (top 29) 7
theorem sc_Z18:FnScope ["self","place","k","number","cell"] ["self","place","k","number"] (defScope s_Z18):=fS
theorem bi_Z18:BiS "put" "Keeper.put" s_Z18 ["self","place","k","number"]:=fun _ _ _ _ _ _ us hl=>match us,hl with | [_,_,_,_],_=>rfl
abbrev s_Z20:Stmt:=inClass (top 29) 6
theorem sc_Z20:FnScope ["self","place","k"] ["self","place","k"] (defScope s_Z20):=fS
theorem bi_Z20:BiS "get" "Keeper.get" s_Z20 ["self","place","k"]:=fun _ _ _ _ _ _ us hl=>match us,hl with | [_,_,_],_=>rfl
structure Txt (K:PySem.W.Frag)(mg:Str→Option Value)(Y0 Y8 Y3 Y2 Y6 Y9 Y1 Y7 Y5 Y4:Addr)(W0_:Tok)(W1_:Tok):Prop where
 n_bool:mg "bool"=none
 n_dict:mg "dict"=none
 n_int:mg "int"=none
 n_isinstance:mg "isinstance"=none
 n_len:mg "len"=none
 n_list:mg "list"=none
 n_max:mg "max"=none
 n_min:mg "min"=none
 n_range:mg "range"=none
 n_sorted:mg "sorted"=none
 n_tuple:mg "tuple"=none
 g_LEAST_LIVE:mg "LEAST_LIVE"=some (.int 3 W0_)
 g_MARKS:mg "MARKS"=some (.int 2 W1_)
 c_StowError:mg "StowError"=some (.ref Y0)
 c_NoSize:mg "NoSize"=some (.ref Y8)
 c_Broken:mg "Broken"=some (.ref Y3)
 c_NoPiece:mg "NoPiece"=some (.ref Y2)
 c_NoCell:mg "NoCell"=some (.ref Y6)
 c_NoAsk:mg "NoAsk"=some (.ref Y9)
 c_NoBound:mg "NoBound"=some (.ref Y1)
 c_NoRoom:mg "NoRoom"=some (.ref Y7)
 c_Keeper:mg "Keeper"=some (.ref Y5)
 c_Halves:mg "Halves"=some (.ref Y4)
 s_Broken:XSet K Y3 "cell"
 x_NoSize:XCls K mg "NoSize" Y8
 x_NoPiece:XCls K mg "NoPiece" Y2
 x_NoRoom:XCls K mg "NoRoom" Y7
 cl_Halves:Cls K Y4
 na_Halves_room_cells:NoAttr K Y4 "room_cells"
 f_NoRoom_NoRoom:Fits K Y7 Y7 true
def spMark:Sp:=fun vs H Q _=>∃(n:Int) (v:Bool),vs=[.int n,.bl v]∧n.natAbs<2^220∧Q (.int (n*2+if v then 1 else 0)) H
section
variable {P:Program}{w:World}{base:Heap}{K:PySem.W.Frag}{mg:Str→Option Value}{Y0 Y8 Y3 Y2 Y6 Y9 Y1 Y7 Y5 Y4:Addr}{W0_:Tok}{W1_:Tok}
theorem d_Z34 (S:Src K mg "mark_of" s_Z34)(T:Txt K mg Y0 Y8 Y3 Y2 Y6 Y9 Y1 Y7 Y5 Y4 W0_ W1_) :Defx P w K mg base "mark_of" 1 ["long","live"] (spMark):=by
 refine S.okx sc_Z34 bi_Z34 (fun vs H Q E h=>by revert h;walk_at "len") (fun f cdv A outer s H vs Q E hr h=>?_)
 refine⟨_,PSs.nox (pss_cons (ps_if (pt_truth (pv 1) (fun _=>rfl)) (pss_one (ps_ret (pe_op op_or (pe_op op_shlB (pv 0) pe_int) pe_int))) pss_nil) (pss_one (ps_ret (pe_op op_shlB (pv 0) pe_int)))),?_⟩
 obtain⟨n,v,rfl,hn,q⟩:=h
 walk_at "go"
 refine r_ifb (fun hv=>?_) (fun hv=>?_)
 · walk_at "go"
   rw[two1,bitOr_one]
   subst hv
   exact q
 · walk_at "go"
   rw[two1]
   subst hv
   rw[if_neg Bool.false_ne_true,Int.add_zero] at q
   exact q
theorem d_Z35 (S:Src K mg "long_of" s_Z35)(T:Txt K mg Y0 Y8 Y3 Y2 Y6 Y9 Y1 Y7 Y5 Y4 W0_ W1_) :Defx P w K mg base "long_of" 1 ["number"] (spLong):=by
 refine S.okx sc_Z35 bi_Z35 (fun vs H Q E h=>by revert h;walk_at "len") (fun f cdv A outer s H vs Q E hr h=>?_)
 refine⟨_,PSs.nox (pss_one (ps_ret (pe_op op_shr (pv 0) pe_int))),?_⟩
 obtain⟨n,rfl,q⟩:=h
 walk_at "go"
 rw[two1]
 exact q
theorem d_Z36 (S:Src K mg "live_of" s_Z36)(T:Txt K mg Y0 Y8 Y3 Y2 Y6 Y9 Y1 Y7 Y5 Y4 W0_ W1_) :Defx P w K mg base "live_of" 1 ["number"] (spLive):=by
 refine S.okx sc_Z36 bi_Z36 (fun vs H Q E h=>by revert h;walk_at "len") (fun f cdv A outer s H vs Q E hr h=>?_)
 refine⟨_,PSs.nox (pss_one (ps_ret (pe_cmpR op_eq (pe_op op_and (pv 0) pe_int) pe_int (nomark _)))),?_⟩
 obtain⟨n,rfl,q⟩:=h
 walk_at "go"
 rw[live_eq2]
 exact q
theorem d_Z21 (S:Src K mg "can_begin" s_Z21)(T:Txt K mg Y0 Y8 Y3 Y2 Y6 Y9 Y1 Y7 Y5 Y4 W0_ W1_)(D_Z35:Defx P w K mg base "long_of" 1 ["number"] (spLong))(D_Z36:Defx P w K mg base "live_of" 1 ["number"] (spLive)):Defx P w K mg base "can_begin" 2 ["cells","at"] (spCan K):=by
 refine S.okx sc_Z21 bi_Z21 (fun vs H Q E h=>by revert h;walk_at "len") (fun f cdv A outer s H vs Q E hr h=>?_)
 refine⟨_,PSs.nox (pss_cons (ps_set (i:=2) sc_Z21.nd rfl (Or.inl rfl) (pe_defq D_Z35 hr (by rfl) (pa_cons (pe_ix ix_list (pv 0) (pv 1) (fun _ _=>rfl)) pa_nil))) (pss_cons (ps_if (PW.pt (pw_or (pt_cmpR op_lt (pv 2) pe_int (nomark _)) (pw_or1 (pt_cmpR op_gt (pe_op op_add (pv 1) (pv 2)) (pe_callB call_len_seq (by rfl) T.n_len PySem.boot_len (pa_cons (pv 0) pa_nil)) (nomark _))))) (pss_one (ps_ret pe_bl)) pss_nil) (pss_one (ps_ret (pe_or (pe_cmpR op_ge (pv 2) (pe_glob (v:=.int 3) (by rfl) T.g_LEAST_LIVE ⟨_,rfl⟩) (nomark _)) (pe_one (pe_not (pe_defq D_Z36 hr (by rfl) (pa_cons (pe_ix ix_list (pv 0) (pv 1) (fun _ _=>rfl)) pa_nil))))))))),?_⟩
 obtain⟨a,ns,k,rfl,hS,h0,h1,q⟩:=h
 have q':∀c,canBegin ns k=c→Q (.bl c) H:=fun c e=>e▸q
 walk_at "go"
 refine r_ifd (fun hc=>?_) (fun hc=>?_)
 · walk_at "go"
   exact q' false (by unfold canBegin;rw[if_pos (Or.inl hc)])
 · walk_at "go"
   refine r_ifd (fun hd=>?_) (fun hd=>?_)
   · walk_at "go"
     exact q' false (by unfold canBegin;rw[if_pos (Or.inr hd)])
   · walk_at "go"
     have ec:canBegin ns k=(decide (3≤ns.getD k.toNat 0/2)||!decide (ns.getD k.toNat 0%2=1)):=by
       unfold canBegin
       rw[if_neg (by omega)]
     refine r_ifb (fun he=>?_) (fun he=>?_)
     · walk_at "go"
       exact q' true (by rw[ec,he,Bool.true_or])
     · walk_at "go"
       exact q' _ (by rw[ec,he,Bool.false_or])
theorem d_Z9 (S:Src K mg "bad_of_piece" s_Z9)(T:Txt K mg Y0 Y8 Y3 Y2 Y6 Y9 Y1 Y7 Y5 Y4 W0_ W1_)(D_Z35:Defx P w K mg base "long_of" 1 ["number"] (spLong))(D_Z21:Defx P w K mg base "can_begin" 2 ["cells","at"] (spCan K)):Defx P w K mg base "bad_of_piece" 3 ["cells","at"] (spBad K):=by
 refine S.okx sc_Z9 bi_Z9 (fun vs H Q E h=>by revert h;walk_at "len") (fun f cdv A outer s H vs Q E hr h=>?_)
 refine⟨_,PSs.nox (pss_cons (ps_if (pt_not (pt_val (pe_defq D_Z21 hr (by rfl) (pa_cons (pv 0) (pa_cons (pv 1) pa_nil))))) (pss_one (ps_ret (pv 1))) pss_nil) (pss_cons (ps_set (i:=2) sc_Z9.nd rfl (Or.inl rfl) (pe_op op_sub (pe_op op_add (pv 1) (pe_defq D_Z35 hr (by rfl) (pa_cons (pe_ix ix_list (pv 0) (pv 1) (fun _ _=>rfl)) pa_nil))) pe_int)) (pss_cons (ps_if (pt_cmpR op_ne (pe_ix ix_list (pv 0) (pv 2) (fun _ _=>rfl)) (pe_ix ix_list (pv 0) (pv 1) (fun _ _=>rfl)) (nomark _)) (pss_one (ps_ret (pv 2))) pss_nil) (pss_one (ps_ret pe_non))))),?_⟩
 obtain⟨a,ns,k,rfl,hS,h0,h1,q⟩:=h
 have q':∀c,badOf ns k=c→Q (optV c) H:=fun c e=>e▸q
 walk_at "go"
 refine r_ifb (fun hc=>?_) (fun hc=>?_)
 · obtain⟨b1,b2,_⟩:=(canBegin_iff ns k).mp hc
   walk_at "go"
   refine r_ifd (fun hd=>?_) (fun hd=>?_)
   · walk_at "go"
     exact q' none (bad_well hc hd)
   · walk_at "go"
     exact q' (some _) (bad_last hc hd)
 · walk_at "go"
   exact q' (some k) (bad_no hc)
theorem d_Broken {P:Program}{w:World}{base:Heap}{K:PySem.W.Frag}{mg:Str→Option Value}{Y3 Y0:Addr}{fI:Addr}{fd:FuncData}(F:Fun K "__init__" "Broken.__init__" s_Broken_init fI fd)(XI:XIni K mg "Broken" Y3 Y0 fI)(Z:XSet K Y3 "cell"):DefI P w K mg base "Broken" Y3 Y0 1 ["self","cell"] (spInit Y3 "cell"):=by
 refine⟨fI,fd,XI,fun_okx F sc_Broken_init (fun vs H Q E h=>?_) (fun cdv A outer s H vs Q E hr h=>?_),F.binds bi_Broken_init⟩
 · obtain⟨y,v,rfl,_⟩:=h
   rfl
 · obtain⟨y,v,rfl,hy,q⟩:=h
   exact⟨_,PSs.nox (pss_one (ps_fldX (pv 0) (pv 1))),_,rfl,_,rfl,y,_,rfl,hy,Z,fun dx hd=>q dx hd⟩
def LkW (H:Hp)(a p:Addr)(ns:List Int)(m:Nat)(σ:L2.St)(H':Hp):Prop :=
 ∃(ds:List Pc) (us:List V) (k:Int) (x y:Option V),σ=[some (.ref a),some (.ref p),some (.int k),x,y]∧m=(ns.length-k).toNat∧0≤k∧k≤ns.length∧(ds.length:Int)≤k∧WPre ns ds k∧Same H H'∧H' p=some (.lst us)∧PcsAt H' us ds
theorem d_Z43 (S:Src K mg "looked" s_Z43)(T:Txt K mg Y0 Y8 Y3 Y2 Y6 Y9 Y1 Y7 Y5 Y4 W0_ W1_)(D_Z35:Defx P w K mg base "long_of" 1 ["number"] (spLong))(D_Z36:Defx P w K mg base "live_of" 1 ["number"] (spLive))(D_Z9:Defx P w K mg base "bad_of_piece" 3 ["cells","at"] (spBad K))(D_Broken:DefI P w K mg base "Broken" Y3 Y0 1 ["self","cell"] (spInit Y3 "cell")):Defx P w K mg base "looked" 4 ["cells"] (spLooked K Y3):=by
 refine S.okx sc_Z43 bi_Z43 (fun vs H Q E h=>by revert h;walk_at "len") (fun f cdv A outer s H vs Q E hr h=>?_)
 refine⟨_,(pss_cons (ps_set (i:=1) sc_Z43.nd rfl (Or.inl rfl) (pe_lst pa_nil)) (pss_cons (ps_set (i:=2) sc_Z43.nd rfl (Or.inl rfl) pe_int) (pss_cons (ps_while PassesOwn.leaving (pt_cmpR op_lt (pv 2) (pe_callB call_len_seq (by rfl) T.n_len PySem.boot_len (pa_cons (pv 0) pa_nil)) (nomark _)) (pss_cons (ps_set (i:=3) sc_Z43.nd rfl (Or.inl rfl) (pe_defq D_Z9 hr (by rfl) (pa_cons (pv 0) (pa_cons (pv 2) pa_nil)))) (pss_cons (ps_if (pt_cmpR op_notN (pv 3) pe_non (nomark _)) (pss_one (ps_raiseD D_Broken hr rfl (pa_cons (pv 3) pa_nil))) pss_nil) (pss_cons (ps_set (i:=4) sc_Z43.nd rfl (Or.inl rfl) (pe_defq D_Z35 hr (by rfl) (pa_cons (pe_ix ix_list (pv 0) (pv 2) (fun _ _=>rfl)) pa_nil))) (pss_cons (ps_expr (pe_bm PySem.F.plainAttrs_list PySem.F.slot_list_append PySem.F.type_list_append mt_append (pv 1) (pa_cons (pe_tup (pa_cons (pv 2) (pa_cons (pv 4) (pa_cons (pe_defq D_Z36 hr (by rfl) (pa_cons (pe_ix ix_list (pv 0) (pv 2) (fun _ _=>rfl)) pa_nil)) pa_nil)))) pa_nil))) (pss_one (ps_set (i:=2) sc_Z43.nd rfl (Or.inl rfl) (pe_op op_add (pv 2) (pv 4))))))))) (pss_one (ps_ret (pv 1)))))),?_⟩
 obtain⟨a,ns,rfl,hS,hz,qe,q⟩:=h
 walk_at "go"
 intro p hp
 walk_at "go"
 refine⟨LkW H a p ns,⟨_,[],[],0,none,none,rfl,rfl,by omega,by omega,by decide,WPre.nil ns,Same.new hp,upd_same,PcsAt.nil⟩,?_⟩
 rintro m σ H' ⟨ds,us,k,x,y,rfl,rfl,h0,hkl,hdl,w,s1,hp',pa⟩
 have hul:=pa.1
 have hS':SqL K H' a (ns.map V.int):=s1.seq hS
 walk_at "go"
 refine r_ifd (fun hlt=>?_) (fun hlt=>?_)
 · refine⟨fun σ' H''=>∃m',m'<(ns.length-k).toNat∧LkW H a p ns m' σ' H'',fun σ' H'' hw=>hw,?_⟩
   walk_at "go"
   cases hb:badOf ns k with
   | some b =>
     walk_at "go"
     refine r_made (fun dx hd=>?_)
     exact qe b (by rw[w.bad hlt hb]) dx _ (s1.put (s1.free hd)) upd_same
   | none =>
     obtain⟨b1,b2,b3⟩:=bad_pos hb
     walk_at "go"
     intro t ht
     have hpt:p≠t:=ne_of_none hp' ht
     walk_at "go"
     obtain⟨g1,g2⟩:=PcsAt.push (z:=pcAt ns k) pa hp' ht
     dsimp only [pcAt] at g1 g2
     refine⟨_,?_,ds++[pcAt ns k],us++[.ref t],k+ns.getD k.toNat 0/2,_,_,rfl,rfl,by omega,by omega,?_,w.step hlt hb,(s1.put (s1.free ht)).put hp,g1,g2⟩
     · omega
     · rw[List.length_append,List.length_singleton]
       omega
 · walk_at "go"
   exact q (by rw[w.fin hlt]) p us H' hp s1 hp' (by rw[w.fin hlt];exact pa)
def freshI (n:Int):List Int:=laidI (List.replicate n.toNat 0) 0 n false
theorem freshI_len {n:Int}(h:0≤n):((freshI n).length:Int)=n:=by
 unfold freshI
 rw[laidI_len,List.length_replicate]
 omega
theorem rep_flat (n:Nat):(List.replicate n [V.int 0]).flatten=(List.replicate n (0:Int)).map V.int:=by
 induction n with
 | zero=>rfl
 | succ n ih=>rw[List.replicate_succ,List.flatten_cons,ih,List.replicate_succ,List.map_cons];rfl
def spFresh (C:Addr):Sp:=fun vs H Q E=>∃n:Int,vs=[.int n]∧n≤4000∧(n<1→E (.ref C) none H)∧(1≤n→∀(p:Addr) (H':Hp),H p=none→Same H H'→H' p=some (.lst ((freshI n).map V.int))→Q (.ref p) H')
theorem d_Z19 (S:Src K mg "fresh_room" s_Z19)(T:Txt K mg Y0 Y8 Y3 Y2 Y6 Y9 Y1 Y7 Y5 Y4 W0_ W1_)(D_Z34:Defx P w K mg base "mark_of" 1 ["long","live"] (spMark)):Defx P w K mg base "fresh_room" 2 ["count"] (spFresh Y8):=by
 refine S.okx sc_Z19 bi_Z19 (fun vs H Q E h=>by revert h;walk_at "len") (fun f cdv A outer s H vs Q E hr h=>?_)
 refine⟨_,(pss_cons (ps_if (pt_cmpR op_lt (pv 0) pe_int (nomark _)) (pss_one (ps_raise T.x_NoSize hr.hd rfl (pa_cons pe_str pa_nil))) pss_nil) (pss_cons (ps_set (i:=1) sc_Z19.nd rfl (Or.inl rfl) (pe_op op_rep (pe_lst (pa_cons pe_int pa_nil)) (pv 0))) (pss_cons (ps_asg (pe_defq D_Z34 hr (by rfl) (pa_cons (pv 0) (pa_cons pe_bl pa_nil))) (pg_sub (pv 1) pe_int set_list)) (pss_cons (ps_asg (pe_defq D_Z34 hr (by rfl) (pa_cons (pv 0) (pa_cons pe_bl pa_nil))) (pg_sub (pv 1) (pe_op op_sub (pv 0) pe_int) set_list)) (pss_one (ps_ret (pv 1))))))),?_⟩
 obtain⟨n,rfl,h4,qe,q⟩:=h
 walk_at "go"
 refine r_ifd (fun hc=>?_) (fun hc=>?_)
 · walk_at "go"
   exact qe hc
 · have hn:n.natAbs<2^220:=Nat.lt_of_le_of_lt (show n.natAbs≤4000 by omega) (by decide)
   walk_at "go"
   intro l hl
   walk_at "go"
   refine⟨l,n,_,rfl,rfl,upd_same,by omega,by omega,(by show 1*n.toNat≤sizeLine;exact Nat.le_of_lt (small4000 (by omega))),fun p hp=>?_⟩
   rw[rep_flat]
   have np:=(Same.new hl).free hp
   have s1:Same H (upd (upd H l (.lst [.int 0])) p (.lst ((List.replicate n.toNat (0:Int)).map V.int))):=(Same.new hl).put np
   have e1:upd (upd H l (.lst [.int 0])) p (.lst ((List.replicate n.toNat (0:Int)).map V.int)) p=some (.lst ((List.replicate n.toNat (0:Int)).map V.int)):=upd_same
   generalize upd (upd H l (.lst [.int 0])) p (.lst ((List.replicate n.toNat (0:Int)).map V.int))=H1 at s1 e1 ⊢
   have hlr:(List.replicate n.toNat (0:Int)).length=n.toNat:=List.length_replicate
   walk_at "go"
   refine⟨n,false,rfl,hn,?_⟩
   walk_at "go"
   refine⟨n,false,rfl,hn,?_⟩
   walk_at "go"
   refine q (by omega) p _ np ((s1.put np).put np) ?_
   unfold freshI laidI
   rw[show (0:Int)+n-1=n-1 by omega]
   exact upd_same
def spLaid (K:PySem.W.Frag):Sp:=fun vs H Q _=>∃(a:Addr) (cs:List Int) (k l:Int) (v:Bool),vs=[.ref a,.int k,.int l,.bl v]∧SqL K H a (cs.map V.int)∧cs.length≤4000∧0≤k∧1≤l∧k+l≤cs.length ∧
 ∀(p:Addr) (H':Hp),H p=none→Same H H'→H' p=some (.lst ((laidI cs k l v).map V.int))→Q (.ref p) H'
theorem d_Z48 (S:Src K mg "laid" s_Z48)(T:Txt K mg Y0 Y8 Y3 Y2 Y6 Y9 Y1 Y7 Y5 Y4 W0_ W1_)(D_Z34:Defx P w K mg base "mark_of" 1 ["long","live"] (spMark)):Defx P w K mg base "laid" 2 ["cells","at","long","live"] (spLaid K):=by
 refine S.okx sc_Z48 bi_Z48 (fun vs H Q E h=>by revert h;walk_at "len") (fun f cdv A outer s H vs Q E hr h=>?_)
 refine⟨_,PSs.nox (pss_cons (ps_set (i:=4) sc_Z48.nd rfl (Or.inl rfl) (pe_callTy call_list_of (by rfl) T.n_list PyProof.Rows.boot_list (pa_cons (pv 0) pa_nil))) (pss_cons (ps_asg (pe_defq D_Z34 hr (by rfl) (pa_cons (pv 2) (pa_cons (pv 3) pa_nil))) (pg_sub (pv 4) (pv 1) set_list)) (pss_cons (ps_asg (pe_defq D_Z34 hr (by rfl) (pa_cons (pv 2) (pa_cons (pv 3) pa_nil))) (pg_sub (pv 4) (pe_op op_sub (pe_op op_add (pv 1) (pv 2)) pe_int) set_list)) (pss_one (ps_ret (pv 4)))))),?_⟩
 obtain⟨a,cs,k,l,v,rfl,hS,hz,h0,h1,hl,q⟩:=h
 have hn:l.natAbs<2^220:=Nat.lt_of_le_of_lt (show l.natAbs≤4000 by omega) (by decide)
 walk_at "go"
 intro p hp
 walk_at "go"
 refine⟨l,v,rfl,hn,?_⟩
 walk_at "go"
 refine⟨l,v,rfl,hn,?_⟩
 walk_at "go"
 refine q p _ hp (((Same.new hp).put hp).put hp) upd_same
def spPieceAt (K:PySem.W.Frag)(C:Addr):Sp:=fun vs H Q E=>∃(a:Addr) (cs:List Int) (ps:List Pc) (k:Int),vs=[.ref a,.int k]∧SqL K H a (cs.map V.int)∧cs.length≤4000∧walkF cs 0=(ps,none) ∧
 (∀z∈ps,z.a=k→∀(t:Addr) (H':Hp),Same H H'→H' t=some (.tup [.int z.a,.int z.l,.bl z.v])→Q (.ref t) H') ∧
 ((∀z∈ps,z.a≠k)→∀(H':Hp),Same H H'→E (.ref C) none H')
def PaW (f0 f1:Option V)(H1:Hp)(ps:List Pc)(k:Int)(i:Nat)(σ:L2.St)(H':Hp):Prop:=H1=H'∧∃x2:Option V,σ=[f0,f1,x2]∧∀z∈ps.take i,z.a≠k
theorem d_Z27 (S:Src K mg "piece_at" s_Z27)(T:Txt K mg Y0 Y8 Y3 Y2 Y6 Y9 Y1 Y7 Y5 Y4 W0_ W1_)(D_Z43:Defx P w K mg base "looked" 4 ["cells"] (spLooked K Y3)):Defx P w K mg base "piece_at" 5 ["cells","at"] (spPieceAt K Y2):=by
 refine S.okx sc_Z27 bi_Z27 (fun vs H Q E h=>by revert h;walk_at "len") (fun f cdv A outer s H vs Q E hr h=>?_)
 refine⟨_,(pss_cons (ps_for PassesOwn.leaving rfl (pi_list (pe_defx D_Z43 hr (by rfl) (pa_cons (pv 0) pa_nil))) (pg_name (i:=2) sc_Z27.nd rfl (Or.inl rfl)) (pss_one (ps_if (pt_cmpR op_eq (pe_ix ix_tup (pv 2) pe_int (fun _ _=>rfl)) (pv 1) (nomark _)) (pss_one (ps_ret (pv 2))) pss_nil))) (pss_one (ps_raise T.x_NoPiece hr.hd rfl (pa_cons pe_str pa_nil)))),?_⟩
 obtain⟨a,cs,ps,k,rfl,hS,hz,hw,q,qe⟩:=h
 walk_at "go"
 refine⟨a,cs,rfl,hS,hz,(fun c hc=>by rw[hw] at hc;cases hc),fun _ lp us H1 nlp s1 hlp pa=>?_⟩
 have pa:PcsAt H1 us ps:=by rw[hw] at pa;exact pa
 have hul:=pa.1
 refine⟨lp,rfl,⟨_,SqL.of hlp⟩,for_list (K:=K) (a:=lp) (xs:=us) (PaW (some (.ref a)) (some (.int k)) H1 ps k) ⟨rfl,none,rfl,fun z hz=>by cases hz⟩ (fun i σ H2 _ ⟨h,_⟩=>h▸SqL.of hlp) ?_ ?_⟩
 · rintro i y σ H2 hi ⟨rfl,x2,rfl,hq⟩
   have hil:i<us.length:=(List.getElem?_eq_some_iff.mp hi).1
   have hip:i<ps.length:=by omega
   obtain⟨t,et,hT⟩:=pa.2 i ps[i] (by simp [hip])
   have ey:y = .ref t:=Option.some.inj (hi.symm.trans et)
   subst ey
   walk_at "go"
   refine r_ifd (fun hk=>?_) (fun hk=>?_)
   · walk_at "go"
     exact q ps[i] (by simp) hk t _ s1 hT
   · walk_at "go"
     refine⟨rfl,_,rfl,fun z hz=>?_⟩
     rw[List.take_add_one,List.getElem?_eq_getElem hip] at hz
     rcases List.mem_append.mp hz with h | h
     · exact hq z h
     · have:z=ps[i]:=by simpa using h
       rw[this];exact hk
 · rintro σ H2 ⟨rfl,x2,rfl,hq⟩
   rw[List.take_of_length_le (by omega)] at hq
   walk_at "go"
   exact qe hq _ s1
def spOneAt (K:PySem.W.Frag)(C:Addr)(v:Bool):Sp:=fun vs H Q E=>∃(a:Addr) (cs:List Int) (ps:List Pc) (k:Int),vs=[.ref a,.int k]∧SqL K H a (cs.map V.int)∧cs.length≤4000∧walkF cs 0=(ps,none)∧Chain 0 ps cs.length ∧
 (∀z∈ps,z.a=k→z.v=v→∀(t:Addr) (H':Hp),Same H H'→H' t=some (.tup [.int z.a,.int z.l,.bl z.v])→Q (.ref t) H') ∧
 ((∀z∈ps,z.a=k→z.v≠v)→∀(H':Hp),Same H H'→E (.ref C) none H')
theorem d_Z29 (S:Src K mg "live_at" s_Z29)(T:Txt K mg Y0 Y8 Y3 Y2 Y6 Y9 Y1 Y7 Y5 Y4 W0_ W1_)(D_Z27:Defx P w K mg base "piece_at" 5 ["cells","at"] (spPieceAt K Y2)):Defx P w K mg base "live_at" 6 ["cells","at"] (spOneAt K Y2 true):=by
 refine S.okx sc_Z29 bi_Z29 (fun vs H Q E h=>by revert h;walk_at "len") (fun f cdv A outer s H vs Q E hr h=>?_)
 refine⟨_,(pss_cons (ps_set (i:=2) sc_Z29.nd rfl (Or.inl rfl) (pe_defx D_Z27 hr (by rfl) (pa_cons (pv 0) (pa_cons (pv 1) pa_nil)))) (pss_cons (ps_if (pt_not (pt_truth (pe_ix ix_tup (pv 2) pe_int (fun _ _=>rfl)) (fun _=>rfl))) (pss_one (ps_raise T.x_NoPiece hr.hd rfl (pa_cons pe_str pa_nil))) pss_nil) (pss_one (ps_ret (pv 2))))),?_⟩
 obtain⟨a,cs,ps,k,rfl,hS,hz,hw,hc,q,qe⟩:=h
 walk_at "go"
 refine⟨a,cs,ps,k,rfl,hS,hz,hw,fun z hm hk t H1 s1 ht=>?_,fun hn H1 s1=>qe (fun z hz hk=>absurd hk (hn z hz)) _ s1⟩
 walk_at "go"
 refine r_ifb (fun hv=>?_) (fun hv=>?_)
 · walk_at "go"
   exact q z hm hk hv t _ s1 ht
 · walk_at "go"
   refine qe (fun y hy hk2=>?_) _ s1
   rw[chain_same hc hy hm (by omega),hv]
   exact fun z=>nomatch z
/-! bit_length -/
def bl (n:Int):Int:=((Builtin.Int.intBits n:Nat):Int)
section
variable {X:Cx}
def rBitlen:V→List V→Hp→VK→Prop:=fun x xs H Q=>∃i,x = .int i∧xs=[]∧Q (.int (bl i)) H
theorem mt_bitlen:MtM X "int.bit_length" rBitlen:=by
 intro pins s σ H x xs v us Q I rx rs h
 obtain⟨i,rfl,rfl,q⟩:=h
 obtain⟨t,rfl⟩:=rx
 cases rs
 exact PyProof.Rows.call_int_bit_length ⟨.int (bl i),H,I.tok _,⟨_,rfl⟩,q⟩
end
theorem bl_least {n:Int}{k:Nat}(h2:2≤n)(h3:n<2^220)(hk:Least k n):bl (n-1)=(k:Int)∧(k:Int)≤1000:=by
 have e0:(n-1).natAbs=(n-1).toNat:=by omega
 have h1:=least_bits (c:=(n-1).toNat) (by omega)
 have e1:(((n-1).toNat:Nat):Int)+1=n:=by omega
 rw[e1] at h1
 have e2:Builtin.Int.intBits (n-1)=(n-1).toNat.log2+1:=by
   unfold Builtin.Int.intBits
   rw[if_neg (by simp;omega),e0]
 have e3:=h1.uniq hk
 unfold bl
 rw[e2,e3]
 refine⟨rfl,?_⟩
 rcases Nat.lt_or_ge 220 k with g | g
 · have:=hk.2 220 g
   omega
 · omega
def spMk (C:Addr):Sp:=fun vs H Q _=>∃(x dx:Addr) (n:Int),vs=[.ref x,.int n]∧H x=some (.ins C dx [])∧1≤n∧n≤4000 ∧
 ∀(a:Addr) (H':Hp),H a=none→KeepX x H H'→H' x=some (.ins C dx [("room_cells",.ref a)])→H' a=some (.lst ((freshI n).map V.int))→Q .non H'
def spBegin (K:PySem.W.Frag)(C:Addr):Sp:=fun vs H Q _=>∃(x h dx a:Addr) (cs:List Int),vs=[.ref x,.ref h]∧H x=some (.ins C dx [("room_cells",.ref a)])∧SqL K H h (cs.map V.int) ∧
 ∀(a':Addr) (H':Hp),H a'=none→KeepX x H H'→H' x=some (.ins C dx [("room_cells",.ref a')])→H' a'=some (.lst (cs.map V.int))→Q .non H'
def spLay (K:PySem.W.Frag)(C:Addr):Sp:=fun vs H Q _=>∃(x h dx a:Addr) (cs0 cs:List Int) (ps:List Pc),vs=[.ref x,.ref h]∧H x=some (.ins C dx [("room_cells",.ref a)])∧H a=some (.lst (cs0.map V.int))∧cs.length=cs0.length∧SqL K H h (cs.map V.int)∧cs.length≤4000∧walkF cs 0=(ps,none) ∧
 ∀(a':Addr) (H':Hp),H a'=none→KeepX x H H'→H' x=some (.ins C dx [("room_cells",.ref a')])→H' a'=some (.lst (cs.map V.int))→Q .non H'
def spPiecesK (C:Addr):Sp:=fun vs H Q _=>∃(x dx a:Addr) (cs:List Int) (ps:List Pc),vs=[.ref x]∧H x=some (.ins C dx [("room_cells",.ref a)])∧H a=some (.lst (cs.map V.int))∧cs.length≤4000∧walkF cs 0=(ps,none) ∧
 ∀(p:Addr) (us:List V) (H':Hp),H p=none→Same H H'→H' p=some (.lst us)→PcsAt H' us ps→Q (.ref p) H'
def spCellsK (C:Addr):Sp:=fun vs H Q _=>∃(x dx a:Addr) (cs:List Int),vs=[.ref x]∧H x=some (.ins C dx [("room_cells",.ref a)])∧H a=some (.lst (cs.map V.int)) ∧
 ∀(p:Addr) (H':Hp),H p=none→Same H H'→H' p=some (.lst (cs.map V.int))→Q (.ref p) H'
def spMany (C:Addr):Sp:=fun vs H Q _=>∃(x dx a:Addr) (cs:List Int) (ps:List Pc) (z:Pc),vs=[.ref x,.int (z.a+1)]∧H x=some (.ins C dx [("room_cells",.ref a)])∧H a=some (.lst (cs.map V.int))∧cs.length≤4000∧walkF cs 0=(ps,none)∧Chain 0 ps cs.length∧z∈ps∧z.v=true ∧
 ∀(H':Hp),Same H H'→Q (.int (z.l-2)) H'
theorem d_Z30 {f₀:Addr}{fd₀:FuncData}(F:Fun K "__init__" "Keeper.__init__" s_Keeper_init f₀ fd₀)(M:ClsM K Y5 "__init__" f₀)(T:Txt K mg Y0 Y8 Y3 Y2 Y6 Y9 Y1 Y7 Y5 Y4 W0_ W1_)(D_Z19:Defx P w K mg base "fresh_room" 2 ["count"] (spFresh Y8)):Basex P w K mg base "Keeper" "__init__" 3 ["self","size"] (spMk Y4):=by
 refine⟨⟨Y5,f₀,fd₀,fun_okx F sc_Keeper_init (fun vs H Q E h=>by revert h;walk_at "len") (fun cdv A outer s H vs Q E hr h=>?_),M,F.binds bi_Keeper_init,T.c_Keeper⟩⟩
 refine⟨_,PSs.nox (pss_one (ps_fld (pv 0) (pe_defq D_Z19 hr (by rfl) (pa_cons (pv 1) pa_nil)) rfl)),?_⟩
 obtain⟨x,dx,n,rfl,hx,h1,h4,q⟩:=h
 have cl:=T.cl_Halves
 have na:=T.na_Halves_room_cells
 walk_at "go"
 refine⟨n,rfl,h4,fun z=>absurd z (by omega),fun _ p H1 np s1 hp=>?_⟩
 have hx1:=s1 x _ hx
 have hne:p≠x:=fun z=>by rw[z,hx] at np;cases np
 walk_at "go"
 exact q p _ np (KeepX.of s1).put upd_same (look_ne hne hp)
theorem d_Z16 {f₀:Addr}{fd₀:FuncData}(F:Fun K "room_begin" "Keeper.room_begin" s_Z2 f₀ fd₀)(M:Meth K Y4 "room_begin" f₀)(T:Txt K mg Y0 Y8 Y3 Y2 Y6 Y9 Y1 Y7 Y5 Y4 W0_ W1_) :Methx P w K mg base Y4 "room_begin" 1 ["self","cells"] [] (spBegin K Y4):=by
 refine⟨⟨f₀,fd₀,[],fun_okx F sc_Z2 (fun vs H Q E h=>by revert h;walk_at "len") (fun cdv A outer s H vs Q E hr h=>?_),M,F.binds bi_Z2,.nil⟩,T.cl_Halves⟩
 refine⟨_,PSs.nox (pss_one (ps_fld (pv 0) (pe_callTy call_list_of (by rfl) T.n_list PyProof.Rows.boot_list (pa_cons (pv 1) pa_nil)) rfl)),?_⟩
 obtain⟨x,h,dx,a,cs,rfl,hx,hS,q⟩:=h
 have cl:=T.cl_Halves
 have na:=T.na_Halves_room_cells
 walk_at "go"
 intro p np
 have s1:Same H (upd H p (.lst (cs.map V.int))):=Same.new np
 have hx1:=s1 x _ hx
 have hp:upd H p (.lst (cs.map V.int)) p=some (.lst (cs.map V.int)):=upd_same
 have hne:p≠x:=fun z=>by rw[z,hx] at np;cases np
 generalize upd H p (.lst (cs.map V.int))=H1 at s1 hx1 hp ⊢
 walk_at "go"
 exact q p _ np (KeepX.of s1).put upd_same (look_ne hne hp)
theorem d_lay {f₀:Addr}{fd₀:FuncData}(F:Fun K "lay" "Keeper.lay" s_Z13 f₀ fd₀)(M:Meth K Y4 "lay" f₀)(T:Txt K mg Y0 Y8 Y3 Y2 Y6 Y9 Y1 Y7 Y5 Y4 W0_ W1_)(D_Z43:Defx P w K mg base "looked" 4 ["cells"] (spLooked K Y3))(D_Z16:Methx P w K mg base Y4 "room_begin" 1 ["self","cells"] [] (spBegin K Y4)):Methx P w K mg base Y4 "lay" 5 ["self","cells"] [] (spLay K Y4):=by
 refine⟨⟨f₀,fd₀,[],fun_okx F sc_Z13 (fun vs H Q E h=>by revert h;walk_at "len") (fun cdv A outer s H vs Q E hr h=>?_),M,F.binds bi_Z13,.nil⟩,T.cl_Halves⟩
 refine⟨_,PSs.nox (pss_cons (ps_if (pt_cmpR op_ne (pe_callB call_len_seq (by rfl) T.n_len PySem.boot_len (pa_cons (pv 1) pa_nil)) (pe_callB call_len_seq (by rfl) T.n_len PySem.boot_len (pa_cons (pe_fld (pv 0) rfl) pa_nil)) (nomark _)) (pss_one ps_never) pss_nil) (pss_cons (ps_expr (pe_defq D_Z43 hr (by rfl) (pa_cons (pv 1) pa_nil))) (pss_one (ps_expr (pe_methp D_Z16 pass_e0 hr (pv 0) (pa_cons (pv 1) pa_nil)))))),?_⟩
 obtain⟨x,h,dx,a,cs0,cs,ps,rfl,hx,ha,hl,hS,hz,hw,q⟩:=h
 have cl:=T.cl_Halves
 have na:=T.na_Halves_room_cells
 walk_at "go"
 refine⟨h,cs,rfl,hS,hz,(fun c hc=>by rw[hw] at hc;cases hc),fun _ lp us H1 nlp s1 hlp pa=>?_⟩
 have hx1:=s1 x _ hx
 walk_at "go"
 refine⟨x,h,dx,a,cs,rfl,hx1,s1.seq hS,fun a' H2 na2 k2 hx2 ha2=>?_⟩
 walk_at "go"
 exact q a' H2 (s1.free na2) ((KeepX.of s1).trans k2) hx2 ha2
theorem d_Z40 {f₀:Addr}{fd₀:FuncData}(F:Fun K "pieces" "Keeper.pieces" s_Z5 f₀ fd₀)(M:Meth K Y4 "pieces" f₀)(T:Txt K mg Y0 Y8 Y3 Y2 Y6 Y9 Y1 Y7 Y5 Y4 W0_ W1_)(D_Z43:Defx P w K mg base "looked" 4 ["cells"] (spLooked K Y3)):Methx P w K mg base Y4 "pieces" 5 ["self"] [] (spPiecesK Y4):=by
 refine⟨⟨f₀,fd₀,[],fun_okx F sc_Z5 (fun vs H Q E h=>by revert h;walk_at "len") (fun cdv A outer s H vs Q E hr h=>?_),M,F.binds bi_Z5,.nil⟩,T.cl_Halves⟩
 refine⟨_,PSs.nox (pss_one (ps_ret (pe_defq D_Z43 hr (by rfl) (pa_cons (pe_fld (pv 0) rfl) pa_nil)))),?_⟩
 obtain⟨x,dx,a,cs,ps,rfl,hx,ha,hz,hw,q⟩:=h
 have cl:=T.cl_Halves
 have na:=T.na_Halves_room_cells
 walk_at "go"
 refine⟨a,cs,rfl,SqL.of ha,hz,(fun c hc=>by rw[hw] at hc;cases hc),fun _ lp us H1 nlp s1 hlp pa=>?_⟩
 walk_at "go"
 exact q lp us H1 nlp s1 hlp (by rw[hw] at pa;exact pa)
theorem d_Z45 {f₀:Addr}{fd₀:FuncData}(F:Fun K "cells" "Keeper.cells" s_Z7 f₀ fd₀)(M:Meth K Y4 "cells" f₀)(T:Txt K mg Y0 Y8 Y3 Y2 Y6 Y9 Y1 Y7 Y5 Y4 W0_ W1_) :Methx P w K mg base Y4 "cells" 1 ["self"] [] (spCellsK Y4):=by
 refine⟨⟨f₀,fd₀,[],fun_okx F sc_Z7 (fun vs H Q E h=>by revert h;walk_at "len") (fun cdv A outer s H vs Q E hr h=>?_),M,F.binds bi_Z7,.nil⟩,T.cl_Halves⟩
 refine⟨_,PSs.nox (pss_one (ps_ret (pe_callTy call_list_of (by rfl) T.n_list PyProof.Rows.boot_list (pa_cons (pe_fld (pv 0) rfl) pa_nil)))),?_⟩
 obtain⟨x,dx,a,cs,rfl,hx,ha,q⟩:=h
 have cl:=T.cl_Halves
 have na:=T.na_Halves_room_cells
 walk_at "go"
 intro p np
 walk_at "go"
 exact q p _ np (Same.new np) upd_same
theorem d_Z47 {f₀:Addr}{fd₀:FuncData}(F:Fun K "many" "Keeper.many" s_Z11 f₀ fd₀)(M:Meth K Y4 "many" f₀)(T:Txt K mg Y0 Y8 Y3 Y2 Y6 Y9 Y1 Y7 Y5 Y4 W0_ W1_)(D_Z29:Defx P w K mg base "live_at" 6 ["cells","at"] (spOneAt K Y2 true)):Methx P w K mg base Y4 "many" 7 ["self","place"] [] (spMany Y4):=by
 refine⟨⟨f₀,fd₀,[],fun_okx F sc_Z11 (fun vs H Q E h=>by revert h;walk_at "len") (fun cdv A outer s H vs Q E hr h=>?_),M,F.binds bi_Z11,.nil⟩,T.cl_Halves⟩
 refine⟨_,PSs.nox (pss_cons (ps_asg (pe_defq D_Z29 hr (by rfl) (pa_cons (pe_fld (pv 0) rfl) (pa_cons (pe_op op_sub (pv 1) pe_int) pa_nil))) (pg_tup rfl (pgs_cons (pg_name (i:=2) sc_Z11.nd rfl (Or.inl rfl)) (pgs_cons (pg_name (i:=3) sc_Z11.nd rfl (Or.inl rfl)) (pgs_cons (pg_name (i:=4) sc_Z11.nd rfl (Or.inl rfl)) pgs_nil))))) (pss_one (ps_ret (pe_op op_sub (pv 3) (pe_glob (v:=.int 2) (by rfl) T.g_MARKS ⟨_,rfl⟩))))),?_⟩
 obtain⟨x,dx,a,cs,ps,z,rfl,hx,ha,hz,hw,hc,hm,hv,q⟩:=h
 have cl:=T.cl_Halves
 have na:=T.na_Halves_room_cells
 walk_at "go"
 refine⟨a,cs,ps,z.a,by rw[Int.add_sub_cancel],SqL.of ha,hz,hw,hc,fun y hy hk hv' t H1 s1 ht=>?_,fun hn=>absurd hv (hn z hm rfl)⟩
 have ey:=chain_same hc hy hm (by omega)
 subst ey
 walk_at "go"
 exact q _ s1
def spCarry (K:PySem.W.Frag):Sp:=fun vs H Q _=>∃(a:Addr) (cs:List Int) (s g c:Int),vs=[.ref a,.int s,.int g,.int c]∧SqL K H a (cs.map V.int)∧cs.length≤1200∧0≤s∧0≤g∧0≤c∧s+c≤cs.length∧g+c≤cs.length ∧
 ∀(p:Addr) (H':Hp),H p=none→Same H H'→H' p=some (.lst ((carI cs s.toNat g.toNat c.toNat).map V.int))→Q (.ref p) H'
theorem d_Z37 (S:Src K mg "carried" s_Z37)(T:Txt K mg Y0 Y8 Y3 Y2 Y6 Y9 Y1 Y7 Y5 Y4 W0_ W1_) :Defx P w K mg base "carried" 1 ["cells","source","goal","count"] (spCarry K):=by
 refine S.okx sc_Z37 bi_Z37 (fun vs H Q E h=>by revert h;walk_at "len") (fun f cdv A outer s H vs Q E hr h=>?_)
 refine⟨_,PSs.nox (pss_cons (ps_set (i:=4) sc_Z37.nd rfl (Or.inl rfl) (pe_callTy call_list_of (by rfl) T.n_list PyProof.Rows.boot_list (pa_cons (pv 0) pa_nil))) (pss_one (ps_ret (pe_op op_cat (pe_op op_cat (pe_slice sl_list (pv 4) po_none (po_some (pv 2))) (pe_slice sl_list (pv 4) (po_some (pv 1)) (po_some (pe_op op_add (pv 1) (pv 3))))) (pe_slice sl_list (pv 4) (po_some (pe_op op_add (pv 2) (pv 3))) po_none))))),?_⟩
 obtain⟨a,cs,s,g,c,rfl,hS,hz,h0,h1,h2,h3,h4,q⟩:=h
 have n1:=cutI_len cs none (some g)
 have n2:=cutI_len cs (some s) (some (s+c))
 have n3:=cutI_len cs (some (g+c)) none
 walk_at "go"
 intro p0 m0
 have s0:Same H (upd H p0 (.lst (cs.map V.int))):=Same.new m0
 have e0:upd H p0 (.lst (cs.map V.int)) p0=some (.lst (cs.map V.int)):=upd_same
 generalize upd H p0 (.lst (cs.map V.int))=H0 at s0 e0 ⊢
 have hS0:SqL K H0 p0 (cs.map V.int):=SqL.of e0
 clear hS
 walk_at "go"
 intro p1 H1 m1 s1 hh1
 have hS1:=s1.seq hS0
 walk_at "go"
 intro p2 H2 m2 s2 hh2
 have h1':=s2 p1 _ hh1
 have hS2:=s2.seq hS1
 walk_at "go"
 intro p3 H3 m3 s3 hh3
 have hS3:=s3.seq hS2
 walk_at "go"
 intro p4 H4 m4 s4 hh4
 have h3':=s4 p3 _ hh3
 have n4:(cutI cs none (some g)++cutI cs (some s) (some (s+c))).length+(cutI cs (some (g+c)) none).length≤4000:=by rw[List.length_append];omega
 walk_at "go"
 intro p5 H5 m5 s5 h5
 walk_at "go"
 have s14:=(((s0.trans s1).trans s2).trans s3).trans s4
 refine q p5 H5 (s14.free m5) (s14.trans s5) ?_
 rw[h5,cutI_to h1 (by omega),cutI_mid h0 h2 h3,cutI_from (by omega) h4]
 unfold carI
 rw[show (g+c).toNat=g.toNat+c.toNat by omega]
/-! a room of a power of two -/
def isPow (n:Int):Bool:=decide (1≤n)&&decide (Builtin.bitAnd n (n-1)=0)
def spPow:Sp:=fun vs H Q _=>∃n:Int,vs=[.int n]∧Q (.bl (isPow n)) H
theorem d_Z25 (S:Src K mg "is_power" s_Z25)(T:Txt K mg Y0 Y8 Y3 Y2 Y6 Y9 Y1 Y7 Y5 Y4 W0_ W1_) :Defx P w K mg base "is_power" 1 ["number"] (spPow):=by
 refine S.okx sc_Z25 bi_Z25 (fun vs H Q E h=>by revert h;walk_at "len") (fun f cdv A outer s H vs Q E hr h=>?_)
 refine⟨_,PSs.nox (pss_one (ps_ret (pe_and (pe_cmpR op_ge (pv 0) pe_int (nomark _)) (pe_one (pe_cmpR op_eq (pe_op op_and (pv 0) (pe_op op_sub (pv 0) pe_int)) pe_int (nomark _)))))),?_⟩
 obtain⟨n,rfl,q⟩:=h
 unfold isPow at q
 walk_at "go"
 refine r_ifd (fun h1=>?_) (fun h1=>?_)
 · walk_at "go"
   rw[decide_eq_true h1,Bool.true_and] at q
   exact q
 · walk_at "go"
   rw[decide_eq_false h1,Bool.false_and] at q
   exact q
def spMkH (C CN:Addr):Sp:=fun vs H Q E=>∃(x dx:Addr) (n:Int),vs=[.ref x,.int n]∧H x=some (.ins C dx [])∧n≤4000∧(isPow n=false→E (.ref CN) none H) ∧
 (isPow n=true→∀(a:Addr) (H':Hp),H a=none→KeepX x H H'→H' x=some (.ins C dx [("room_cells",.ref a)])→H' a=some (.lst ((freshI n).map V.int))→Q .non H')
theorem d_Halves {f₀:Addr}{fd₀:FuncData}(F:Fun K "__init__" "Halves.__init__" s_Halves_init f₀ fd₀)(M:Mk K Y4 f₀)(T:Txt K mg Y0 Y8 Y3 Y2 Y6 Y9 Y1 Y7 Y5 Y4 W0_ W1_)(D_Z25:Defx P w K mg base "is_power" 1 ["number"] (spPow))(D_Z30:Basex P w K mg base "Keeper" "__init__" 3 ["self","size"] (spMk Y4)):Makex P w K mg base "Halves" Y4 4 ["self","size"] [] (spMkH Y4 Y8):=by
 refine⟨⟨f₀,fd₀,[],fun_okx F sc_Halves_init (fun vs H Q E h=>by revert h;walk_at "len") (fun cdv A outer s H vs Q E hr h=>?_),M,F.binds bi_Halves_init,.nil⟩,T.c_Halves⟩
 refine⟨_,(pss_cons (ps_if (pt_not (pt_val (pe_defq D_Z25 hr (by rfl) (pa_cons (pv 1) pa_nil)))) (pss_one (ps_raise T.x_NoSize hr.hd rfl (pa_cons pe_str pa_nil))) pss_nil) (pss_one (ps_expr (pe_basep D_Z30 pass_e0 hr (by rfl) (pa_cons (pv 0) (pa_cons (pv 1) pa_nil)))))),?_⟩
 obtain⟨x,dx,n,rfl,hx,h4,qe,q⟩:=h
 walk_at "go"
 refine⟨n,rfl,?_⟩
 walk_at "go"
 refine r_ifb (fun hp=>?_) (fun hp=>?_)
 · have h1:1≤n:=by
     unfold isPow at hp
     rw[Bool.and_eq_true,decide_eq_true_eq] at hp
     exact hp.1
   walk_at "go"
   refine⟨x,dx,n,rfl,hx,h1,h4,fun a H1 na k1 hx1 ha1=>?_⟩
   walk_at "go"
   exact q hp a H1 na k1 hx1 ha1
 · walk_at "go"
   exact qe hp
def spCheck:Sp:=fun vs H Q _=>∃c b:Int,vs=[.int c,.int b]∧1≤c∧1≤b∧Q .non H
theorem d_Z22 (S:Src K mg "check_ask" s_Z22)(T:Txt K mg Y0 Y8 Y3 Y2 Y6 Y9 Y1 Y7 Y5 Y4 W0_ W1_) :Defx P w K mg base "check_ask" 1 ["count","bound"] (spCheck):=by
 refine S.okx sc_Z22 bi_Z22 (fun vs H Q E h=>by revert h;walk_at "len") (fun f cdv A outer s H vs Q E hr h=>?_)
 refine⟨_,PSs.nox (pss_one (ps_if (PW.pt (pw_or (pt_cmpR op_lt (pv 0) pe_int (nomark _)) (pw_or1 (pt_cmpR op_lt (pv 1) pe_int (nomark _))))) (pss_one ps_never) pss_nil)),?_⟩
 obtain⟨c,b,rfl,h1,h2,q⟩:=h
 walk_at "go"
 exact q
def spCheckP:Sp:=fun vs H Q _=>∃c:Int,vs=[.int c,.int 1]∧1≤c∧Q .non H
theorem d_Z3 (S:Src K mg "check_plain_ask" s_Z3)(T:Txt K mg Y0 Y8 Y3 Y2 Y6 Y9 Y1 Y7 Y5 Y4 W0_ W1_)(D_Z22:Defx P w K mg base "check_ask" 1 ["count","bound"] (spCheck)):Defx P w K mg base "check_plain_ask" 2 ["count","bound"] (spCheckP):=by
 refine S.okx sc_Z3 bi_Z3 (fun vs H Q E h=>by revert h;walk_at "len") (fun f cdv A outer s H vs Q E hr h=>?_)
 refine⟨_,PSs.nox (pss_cons (ps_expr (pe_defq D_Z22 hr (by rfl) (pa_cons (pv 0) (pa_cons (pv 1) pa_nil)))) (pss_one (ps_if (pt_cmpR op_ne (pv 1) pe_int (nomark _)) (pss_one ps_never) pss_nil))),?_⟩
 obtain⟨c,rfl,h1,q⟩:=h
 walk_at "go"
 refine⟨c,1,rfl,h1,by decide,?_⟩
 walk_at "go"
 exact q
def spBlock:Sp:=fun vs H Q _=>∃(n:Int) (k:Nat),vs=[.int n]∧2≤n∧n<2^220∧Least k n∧Q (.int (2^k)) H
theorem d_Z24 (S:Src K mg "block_for" s_Z24)(T:Txt K mg Y0 Y8 Y3 Y2 Y6 Y9 Y1 Y7 Y5 Y4 W0_ W1_) :Defx P w K mg base "block_for" 1 ["need"] (spBlock):=by
 refine S.okx sc_Z24 bi_Z24 (fun vs H Q E h=>by revert h;walk_at "len") (fun f cdv A outer s H vs Q E hr h=>?_)
 refine⟨_,PSs.nox (pss_one (ps_ret (pe_op op_shlB pe_int (pe_bm0 PySem.F.plainAttrs_int PySem.F.slot_int_bit_length PySem.F.type_int_bit_length mt_bitlen (pe_op op_sub (pv 0) pe_int))))),?_⟩
 obtain⟨n,k,rfl,h2,h3,hk,q⟩:=h
 obtain⟨e,hb⟩:=bl_least (n:=n) (k:=k) h2 h3 hk
 walk_at "go"
 refine⟨rfl,_,rfl,rfl,?_⟩
 rw[e]
 walk_at "go"
 rw[show (1:Int)*2^(k:Int).toNat=2^k by rw[Int.one_mul];rfl]
 exact q
/-! the least free block -/
structure HvS (C x dx a:Addr)(N:Nat)(ps:List Pc)(cs:List Int)(H:Hp):Prop where
 hx:H x=some (.ins C dx [("room_cells",.ref a)])
 ha:H a=some (.lst (cs.map V.int))
 hl:(cs.length:Int)=2^N
 hN:N≤8
 hc:Chain 0 ps (2^N)
 mm:Marks cs ps
 al:∀z∈ps,Al z
theorem HvS.same {C x dx a:Addr}{N:Nat}{ps:List Pc}{cs:List Int}{H H':Hp}(S:HvS C x dx a N ps cs H)(t:Same H H'):HvS C x dx a N ps cs H':=⟨t x _ S.hx,t a _ S.ha,S.hl,S.hN,S.hc,S.mm,S.al⟩
theorem HvS.ch {C x dx a:Addr}{N:Nat}{ps:List Pc}{cs:List Int}{H:Hp}(S:HvS C x dx a N ps cs H):Chain 0 ps cs.length:=by rw[S.hl];exact S.hc
theorem HvS.hz {C x dx a:Addr}{N:Nat}{ps:List Pc}{cs:List Int}{H:Hp}(S:HvS C x dx a N ps cs H):cs.length≤256:=by
 have h1:=S.hl
 have h2:=pow_mono S.hN
 have h3:(2:Int)^8=256:=by decide
 omega
def fitL (b:Int)(ps:List Pc):List (List Int):=(ps.filter fun z=>!z.v&&decide (b≤z.l)).map fun z=>[z.l,z.a]
theorem fitL_take {ps:List Pc}{b:Int}{i:Nat}(h:i<ps.length):fitL b (ps.take (i+1))=fitL b (ps.take i)++(if (!ps[i].v&&decide (b≤ps[i].l))=true then [[ps[i].l,ps[i].a]] else []):=by
 unfold fitL
 rw[List.take_add_one,List.getElem?_eq_getElem h,List.filter_append,List.map_append]
 congr 1
 simp only [Option.toList_some,List.filter_cons,List.filter_nil]
 split <;> rfl
theorem fitL_mem {ps:List Pc}{b:Int}{k:Nat}(h:k<(fitL b ps).length):∃z∈ps,z.v=false∧b≤z.l∧(fitL b ps).getD k []=[z.l,z.a]:=by
 have e:(fitL b ps).getD k []=(fitL b ps)[k]:=by rw[List.getD_eq_getElem?_getD,List.getElem?_eq_getElem h];rfl
 have hm:(fitL b ps)[k]∈fitL b ps:=List.getElem_mem h
 rw[←e] at hm
 unfold fitL at hm
 obtain⟨z,hz,ez⟩:=List.mem_map.mp hm
 obtain⟨h1,h2⟩:=List.mem_filter.mp hz
 obtain⟨h3,h4⟩:=Bool.and_eq_true_iff.mp h2
 exact⟨z,h1,by simpa using h3,of_decide_eq_true h4,by unfold fitL;exact ez.symm⟩
theorem fitL_in {ps:List Pc}{b:Int}{z:Pc}(hz:z∈ps)(hv:z.v=false)(hl:b≤z.l):∃k,k<(fitL b ps).length∧(fitL b ps).getD k []=[z.l,z.a]:=by
 have:[z.l,z.a]∈fitL b ps:=by
   unfold fitL
   exact List.mem_map.mpr ⟨z,List.mem_filter.mpr ⟨hz,by rw[hv,decide_eq_true hl];rfl⟩,rfl⟩
 obtain⟨k,hk⟩:=List.getElem?_of_mem this
 exact⟨k,(List.getElem?_eq_some_iff.mp hk).1,by rw[List.getD_eq_getElem?_getD,hk];rfl⟩
theorem fitL_best {ps:List Pc}{b:Int}{z:Pc}(h:Bst b ps z):0<(fitL b ps).length∧(fitL b ps).getD (minAt (fitL b ps) ((fitL b ps).length-1)) []=[z.l,z.a]:=by
 obtain⟨h1,h2,h3,h4⟩:=h
 obtain⟨k,hk,ek⟩:=fitL_in h1 h2 h3
 have hm:=minAt_le (fitL b ps) ((fitL b ps).length-1)
 obtain⟨y,hy,hyv,hyl,ey⟩:=fitL_mem (ps:=ps) (b:=b) (k:=minAt (fitL b ps) ((fitL b ps).length-1)) (by omega)
 refine⟨by omega,?_⟩
 have hmin:=min_pairs (xs:=fitL b ps) (fun k hk=>let ⟨z,_,_,_,e⟩:=fitL_mem hk;⟨_,_,e⟩) ((fitL b ps).length-1) (by omega) k (by omega)
 rw[ek,ey,lex2] at hmin
 rw[ey]
 rcases h4 y hy hyv hyl with g | ⟨g1,g2⟩
 · rw[if_neg (by omega)] at hmin
   exact absurd g (of_decide_eq_false hmin)
 · rw[if_pos g1] at hmin
   have:=of_decide_eq_false hmin
   rw[g1,show y.a=z.a by omega]
def spLeastF (CN:Addr):Sp:=fun vs H Q E=>∃(p:Addr) (us:List V) (ps:List Pc) (b:Int),vs=[.ref p,.int b]∧H p=some (.lst us)∧PcsAt H us ps∧ps.length≤1200 ∧
 (((∀z∈ps,z.v=false→z.l<b)∧∀(H':Hp),Same H H'→E (.ref CN) none H')∨(∃z,Bst b ps z∧∀(u:Addr) (H':Hp),Same H H'→H' u=some (.tup [.int z.a,.int z.l])→Q (.ref u) H'))
def LfW (H1:Hp)(ps:List Pc)(b:Int)(D:Addr)(i:Nat)(ys:List V)(H2:Hp):Prop:=Same H1 H2∧H1 D=none∧H2 D=some (.lst ys)∧TupsAt H2 ys ((fitL b (ps.take i)).map fun x=>x.map V.int)∧ys.length≤i
theorem d_Z15 (S:Src K mg "least_free" s_Z15)(T:Txt K mg Y0 Y8 Y3 Y2 Y6 Y9 Y1 Y7 Y5 Y4 W0_ W1_) :Defx P w K mg base "least_free" 1 ["pieces","block"] (spLeastF Y7):=by
 refine S.okx sc_Z15 bi_Z15 (fun vs H Q E h=>by revert h;walk_at "len") (fun f cdv A outer s H vs Q E hr h=>?_)
 refine⟨_,(pss_cons (ps_setCompG (i:=2) ["at","long","live"] ["block"] [1] sc_Z15.nd rfl (Or.inl rfl) rfl (pi_list (pv 0)) (fun cl C s₀ H₀ ex=>(pg_tupK (K:=K) (n:=3) rfl rfl (pgs_cons (pg_name (i:=0) (show ((["at","long","live"]:List Str)++(["block"]:List Str)).Nodup by decide +kernel) rfl (Or.inl rfl)) (pgs_cons (pg_name (i:=1) (show ((["at","long","live"]:List Str)++(["block"]:List Str)).Nodup by decide +kernel) rfl (Or.inl rfl)) (pgs_cons (pg_name (i:=2) (show ((["at","long","live"]:List Str)++(["block"]:List Str)).Nodup by decide +kernel) rfl (Or.inl rfl)) pgs_nil))))) (fun cl C s₀ H₀ ex=>(pts_one (PW.pt (pw_and (pt_not (pt_truthK (K:=K) rfl (pv 2) (fun _=>rfl))) (pw_and1 (pt_cmpR op_ge (pv 1) (pv 3) (nomark _))))))) (fun cl C s₀ H₀ ex=>(pe_tup (pa_cons (pv 1) (pa_cons (pv 0) pa_nil)))) (caught_one rfl rfl rfl) (free_one (n:="block") (by decide +kernel) rfl) (fun y h=>relabel_free (by decide +kernel) h)) (pss_cons (ps_if (pt_not (pt_truth (pv 2) (fun _=>rfl))) (pss_one (ps_raise T.x_NoRoom hr.hd rfl (pa_cons pe_str pa_nil))) pss_nil) (pss_cons (ps_asg (pe_callB (call_minT rfl hr.units) (by rfl) T.n_min PyProof.Rows.boot_min (pa_cons (pv 2) pa_nil)) (pg_tup rfl (pgs_cons (pg_name (i:=3) sc_Z15.nd rfl (Or.inl rfl)) (pgs_cons (pg_name (i:=4) sc_Z15.nd rfl (Or.inl rfl)) pgs_nil)))) (pss_one (ps_ret (pe_tup (pa_cons (pv 4) (pa_cons (pv 3) pa_nil)))))))),?_⟩
 obtain⟨p,us,ps,b,rfl,hp,pa,hz,hq⟩:=h
 have hul:=pa.1
 walk_at "go"
 refine⟨p,rfl,⟨_,SqL.of hp⟩,compH_list (K:=K) (a:=p) (xs:=us) (LfW H ps b) (fun D hD=>⟨Same.new hD,hD,upd_same,TupsAt.nil,Nat.le_refl _⟩) (fun D i ys H2 _ h=>SqL.of (h.1 p _ hp)) ?_ ?_⟩
 · rintro D i y ys H2 hD hi ⟨s2,_,hD2,ta,hyl⟩ τ hτ
   have hil:i<us.length:=(List.getElem?_eq_some_iff.mp hi).1
   have hip:i<ps.length:=by omega
   obtain⟨t,et,hT⟩:=pa.2 i ps[i] (by simp [hip])
   have ey:y = .ref t:=Option.some.inj (hi.symm.trans et)
   subst ey
   have hT2:=s2 t _ hT
   have ef:=fitL_take (b:=b) hip
   generalize ps[i]=z at hT2 ef
   match τ,hτ with
   | [τ0,τ1,τ2],_ =>
     walk_at "go"
     refine⟨⟨[_,_,_],rfl,rfl⟩,?_⟩
     walk_at "go"
     refine r_ifb (fun hv=>?_) (fun hv=>?_)
     · walk_at "go"
       rw[if_neg (by rw[hv];simp),List.append_nil] at ef
       exact nx_mk hil ⟨s2,hD,hD2,by rw[ef];exact ta,by omega⟩
     · walk_at "go"
       refine r_ifd (fun hc=>?_) (fun hc=>?_)
       · walk_at "go"
         intro t2 ht2
         rw[if_pos (by rw[hv,decide_eq_true (show b≤z.l by omega)];rfl)] at ef
         refine⟨look_put ht2 hD2,small4000 (by omega),nx_mk hil ⟨(s2.put (s2.free ht2)).put hD,hD,upd_same,?_,by rw[List.length_append,List.length_singleton];omega⟩⟩
         rw[ef,List.map_append]
         exact ta.push hD2 ht2
       · walk_at "go"
         rw[if_neg (by rw[decide_eq_false (show ¬b≤z.l by omega)];simp),List.append_nil] at ef
         exact nx_mk hil ⟨s2,hD,hD2,by rw[ef];exact ta,by omega⟩
 · rintro D ys H2 hD ⟨s2,_,hD2,ta,hyl⟩
   rw[List.take_of_length_le (by omega)] at ta
   rcases hq with ⟨hno,qe⟩ | ⟨z,hb,q⟩
   · have e0:fitL b ps=[]:=by
       cases e:fitL b ps with
       | nil=>rfl
       | cons x r =>
         obtain⟨z,h1,h2,h3,_⟩:=fitL_mem (ps:=ps) (b:=b) (k:=0) (by rw[e];simp)
         have:=hno z h1 h2
         omega
     rw[e0] at ta
     have hys:ys=[]:=List.length_eq_zero_iff.mp ta.1
     subst hys
     walk_at "go"
     refine iteT ?_
     walk_at "go"
     exact qe H2 s2
   · obtain⟨f1,f2⟩:=fitL_best hb
     have hyl2:=ta.1
     rw[List.length_map] at hyl2
     cases ys with
     | nil=>rw[List.length_nil] at hyl2;omega
     | cons y0 yr =>
       walk_at "go"
       refine iteF ?_
       walk_at "go"
       refine⟨D,y0::yr,fitL b ps,rfl,hD2,ta,f1,fun t' et ht'=>?_⟩
       rw[f2] at ht'
       have ht3:H2 t'=some (.tup [.int z.l,.int z.a]):=ht'
       clear ht'
       walk_at "go"
       intro w hw
       walk_at "go"
       exact q w _ (s2.put (s2.free hw)) upd_same
/-! a block is cut down -/
def spCutD (K:PySem.W.Frag):Sp:=fun vs H Q _=>∃(a:Addr) (cs:List Int) (b:Int) (B M:Nat) (ds rs:List Pc),vs=[.ref a,.int b,.int (2^M),.int (2^B)]∧SqL K H a (cs.map V.int)∧cs.length≤1200∧B≤M∧0≤b∧EndBy ds b∧FromOn rs (b+2^M)∧b+2^M≤cs.length∧Marks cs (ds++rs) ∧
 ∀(p:Addr) (cs':List Int) (H':Hp),H p=none→Same H H'→H' p=some (.lst (cs'.map V.int))→cs'.length=cs.length→Marks cs' (ds++(hcP b B M++rs))→(∀j:Nat,(j:Int)<b∨b+2^M≤j→cs'[j]?=cs[j]?)→Q (.ref p) H'
def CdW (a:Addr)(b:Int)(B M:Nat)(ds rs:List Pc)(cs:List Int)(H:Hp)(k:Nat)(σ:L2.St)(H':Hp):Prop :=
 ∃(r:Addr) (cs':List Int),B+k≤M∧σ=[some (.ref a),some (.int b),some (.int (2^(B+k))),some (.int (2^B)),some (.ref r)]∧Same H H'∧H r=none∧H' r=some (.lst (cs'.map V.int))∧cs'.length=cs.length∧Marks cs' (ds++(spl b (B+k) (M-(B+k))++rs))∧∀j:Nat,(j:Int)<b∨b+2^M≤j→cs'[j]?=cs[j]?
theorem d_Z28 (S:Src K mg "cut_down" s_Z28)(T:Txt K mg Y0 Y8 Y3 Y2 Y6 Y9 Y1 Y7 Y5 Y4 W0_ W1_)(D_Z48:Defx P w K mg base "laid" 2 ["cells","at","long","live"] (spLaid K)):Defx P w K mg base "cut_down" 3 ["cells","at","long","block"] (spCutD K):=by
 refine S.okx sc_Z28 bi_Z28 (fun vs H Q E h=>by revert h;walk_at "len") (fun f cdv A outer s H vs Q E hr h=>?_)
 refine⟨_,PSs.nox (pss_cons (ps_set (i:=4) sc_Z28.nd rfl (Or.inl rfl) (pe_callTy call_list_of (by rfl) T.n_list PyProof.Rows.boot_list (pa_cons (pv 0) pa_nil))) (pss_cons (ps_while PassesOwn.never (pt_cmpR op_gt (pv 2) (pv 3) (nomark _)) (pss_cons (ps_set (i:=2) sc_Z28.nd rfl (Or.inl rfl) (pe_op op_fdiv (pv 2) pe_int)) (pss_one (ps_set (i:=4) sc_Z28.nd rfl (Or.inl rfl) (pe_defq D_Z48 hr (by rfl) (pa_cons (pv 4) (pa_cons (pe_op op_add (pv 1) (pv 2)) (pa_cons (pv 2) (pa_cons pe_bl pa_nil))))))))) (pss_one (ps_ret (pe_defq D_Z48 hr (by rfl) (pa_cons (pv 4) (pa_cons (pv 1) (pa_cons (pv 3) (pa_cons pe_bl pa_nil))))))))),?_⟩
 obtain⟨a,cs,b,B,M,ds,rs,rfl,hS,hz,hBM,h0,hd,hr,hl,mk0,q⟩:=h
 walk_at "go"
 intro r hr0
 walk_at "go"
 refine⟨CdW a b B M ds rs cs H,⟨M-B,r,cs,by omega,(by rw[show B+(M-B)=M by omega];rfl),Same.new hr0,hr0,upd_same,rfl,(by rw[show B+(M-B)=M by omega,Nat.sub_self];exact mk0),fun _ _=>rfl⟩,?_⟩
 rintro k σ H' ⟨r,cs',hk,rfl,s1,nr,hr',hl',mk,ho⟩
 have pB:=pw1 B
 walk_at "go"
 refine r_ifd (fun hlt=>?_) (fun hlt=>?_)
 · refine⟨fun σ' H''=>∃k',k'<k∧CdW a b B M ds rs cs H k' σ' H'',fun σ' H'' hw=>hw,?_⟩
   obtain⟨k1,rfl⟩:∃k1,k=k1+1:=⟨k-1,by
     cases k with
     | zero=>rw[Nat.add_zero] at hlt;omega
     | succ k=>rfl⟩
   have p2:=pw2 (B+k1)
   have p1:=pw1 (B+k1)
   have e1:(2:Int)^(B+(k1+1))/2=2^(B+k1):=by rw[show B+(k1+1)=B+k1+1 by omega,p2];omega
   obtain⟨g1,mk3⟩:=spl_lay (L:=B+k1) (e:=M-(B+(k1+1))) h0 hd (by rw[show B+k1+1+(M-(B+(k1+1)))=M by omega];exact hr) (by rw[show B+k1+1+(M-(B+(k1+1)))=M by omega];omega) mk
   walk_at "go"
   rw[e1]
   generalize hg:(2:Int)^(B+k1)=L at p1 g1
   walk_at "go"
   refine⟨r,cs',b+L,L,false,rfl,SqL.of hr',by omega,by omega,p1,g1,fun p H2 np s2 hp=>?_⟩
   walk_at "go"
   subst hg
   refine⟨k1,by omega,p,_,by omega,rfl,s1.trans s2,s1.free np,hp,by rw[laidI_len];exact hl',?_,fun j hj=>?_⟩
   · rw[show M-(B+k1)=M-(B+(k1+1))+1 by omega]
     exact mk3
   · have pm:=pow_mono (show B+k1+1≤M by omega)
     rw[laidI_out (by omega) p1 (by omega)]
     exact ho j hj
 · have e0:k=0:=by
     cases k with
     | zero=>rfl
     | succ k =>
       have:=pow_mono (show B+1≤B+(k+1) by omega)
       have:=pw2 B
       omega
   subst e0
   obtain⟨g1,mk3⟩:=blk_lay (B:=B) (e:=M-B) h0 hd (by rw[show B+(M-B)=M by omega];exact hr) (by rw[show B+(M-B)=M by omega];omega) mk
   walk_at "go"
   refine⟨r,cs',b,2^B,true,rfl,SqL.of hr',by omega,h0,pB,g1,fun p H2 np s2 hp=>?_⟩
   walk_at "go"
   have pm:=pow_mono hBM
   exact q p _ H2 (s1.free np) (s1.trans s2) hp (by rw[laidI_len];exact hl') mk3 (fun j hj=>by rw[laidI_out h0 pB (by omega)];exact ho j hj)
theorem in_iff {ps:List Pc}{z:Pc}:(ps.any fun y=>eqP y z)=decide (z∈ps):=by
 rw[Bool.eq_iff_iff,List.any_eq_true,decide_eq_true_iff]
 constructor
 · rintro⟨y,hy,e⟩
   rw[←eqP_iff.mp e]
   exact hy
 · exact fun h=>⟨z,h,eqP_iff.mpr rfl⟩
theorem q_small {N m q:Nat}{rs:List Pc}(hN:N≤8)(hm:m≤N)(c:Chain (2^m*(q:Int)+2^m) rs (2^N)):m<9∧q<257∧0≤(2:Int)^m*(q:Int)∧(2:Int)^m*(q:Int)+2^m≤256:=by
 have h1:=c.le
 have h2:=pow_mono hN
 have h3:(2:Int)^8=256:=by decide
 have p1:=pw1 m
 have h4:(q:Int)≤2^m*(q:Int):=by
   have:=Int.mul_le_mul_of_nonneg_right p1 (show (0:Int)≤(q:Int) by omega)
   omega
 omega
theorem MgTo.lie {N:Nat}{ps ds rs ds' rs':List Pc}{m q m' q':Nat}(h:MgTo ps ds rs m q ds' rs' m' q'):Lie N ps ds rs m q→Lie N ps ds' rs' m' q':=by
 induction h with
 | stop _=>exact id
 | right hq hb k ih =>
   intro L
   obtain⟨rs1,e,L1⟩:=L.right hq hb
   rw[(List.cons.inj e).2] at ih
   exact ih L1
 | left hq hb k ih =>
   intro L
   obtain⟨ds1,e,L1⟩:=L.left hq hb
   rw[(List.append_inj' e rfl).1] at ih
   exact ih L1
def spGrownT:Sp:=fun vs H Q _=>∃(p:Addr) (us:List V) (ps ds rs ds' rs':List Pc) (N m q m' q':Nat),vs=[.ref p,.int (2^m*(q:Int)),.int (2^m)]∧H p=some (.lst us)∧PcsAt H us ps∧N≤8∧Lie N ps ds rs m q∧MgTo ps ds rs m q ds' rs' m' q' ∧
 ∀(t:Addr) (H':Hp),Same H H'→H' t=some (.tup [.int (2^m'*(q':Int)),.int (2^m')])→Q (.ref t) H'
def GtW (p:Addr)(N:Nat)(ps ds' rs':List Pc)(m' q':Nat)(H:Hp)(k:Nat)(σ:L2.St)(H':Hp):Prop :=
 ∃(ds rs:List Pc) (m q:Nat),k=N-m∧σ=[some (.ref p),some (.int (2^m*(q:Int))),some (.int (2^m))]∧Same H H'∧Lie N ps ds rs m q∧MgTo ps ds rs m q ds' rs' m' q'
theorem d_Z4 (S:Src K mg "grown_together" s_Z4)(T:Txt K mg Y0 Y8 Y3 Y2 Y6 Y9 Y1 Y7 Y5 Y4 W0_ W1_) :Defx P w K mg base "grown_together" 1 ["pieces","at","long"] (spGrownT):=by
 refine S.okx sc_Z4 bi_Z4 (fun vs H Q E h=>by revert h;walk_at "len") (fun f cdv A outer s H vs Q E hr h=>?_)
 refine⟨_,PSs.nox (pss_cons (ps_while PassesOwn.never (pt_cmpR (op_inP hr.units) (pe_tup (pa_cons (pe_op op_xor (pv 1) (pv 2)) (pa_cons (pv 2) (pa_cons pe_bl pa_nil)))) (pv 0) rfl) (pss_cons (ps_set (i:=1) sc_Z4.nd rfl (Or.inl rfl) (pe_callB (call_min2 rfl) (by rfl) T.n_min PyProof.Rows.boot_min (pa_cons (pv 1) (pa_cons (pe_op op_xor (pv 1) (pv 2)) pa_nil)))) (pss_one (ps_set (i:=2) sc_Z4.nd rfl (Or.inl rfl) (pe_op op_mul (pv 2) pe_int))))) (pss_one (ps_ret (pe_tup (pa_cons (pv 1) (pa_cons (pv 2) pa_nil)))))),?_⟩
 obtain⟨p,us,ps,ds,rs,ds',rs',N,m,q,m',q',rfl,hp,pa,hN,L,G,Q1⟩:=h
 walk_at "go"
 refine⟨GtW p N ps ds' rs' m' q' H,⟨_,ds,rs,m,q,rfl,rfl,Same.refl _,L,G⟩,?_⟩
 rintro k σ H1 ⟨ds,rs,m,q,rfl,rfl,s1,L,G⟩
 obtain⟨m9,q9,a0,a1⟩:=q_small hN L.le L.c2
 have p1:=pw1 m
 have p2:=pw2 m
 have ex:=xor_bud m m9 q q9
 walk_at "go"
 rw[ex]
 intro t ht
 have s2:=s1.put (o:=.tup [.int (bud m q),.int (2^m),.bl false]) (s1.free ht)
 have ht2:upd H1 t (.tup [.int (bud m q),.int (2^m),.bl false]) t=some (.tup [.int (bud m q),.int (2^m),.bl false]):=upd_same
 generalize upd H1 t (.tup [.int (bud m q),.int (2^m),.bl false])=H2 at s2 ht2 ⊢
 walk_at "go"
 refine⟨t,p,us,ps,⟨bud m q,2^m,false⟩,rfl,rfl,ht2,s2 p _ hp,pa.same s2,?_⟩
 rw[in_iff]
 by_cases hin:(⟨bud m q,2^m,false⟩:Pc)∈ps
 · rw[decide_eq_true hin]
   walk_at "go"
   refine⟨fun σ' H''=>∃k',k'<N-m∧GtW p N ps ds' rs' m' q' H k' σ' H'',fun σ' H'' hw=>hw,?_⟩
   have emul:(2:Int)^m*2=2^(m+1):=by rw[p2];omega
   cases G with
   | stop hno=>exact absurd hin hno
   | right hq hb G1 =>
     obtain⟨rs1,e,L1⟩:=L.right hq hb
     have er:=(List.cons.inj e).2
     subst er
     have ea:=even_at (m:=m) hq
     have eb:bud m q=2^m*(q:Int)+2^m:=by unfold bud;rw[if_pos hq]
     walk_at "go"
     rw[ex,if_neg (by omega)]
     walk_at "go"
     rw[emul]
     exact⟨_,by have:=L1.le;omega,ds,_,m+1,q/2,rfl,by rw[ea],s2,L1,G1⟩
   | left hq hb G1 =>
     obtain⟨ds1,e,L1⟩:=L.left hq hb
     have er:=(List.append_inj' e rfl).1
     subst er
     have ea:=odd_at (m:=m) hq
     have eb:bud m q=2^m*(q:Int)-2^m:=by unfold bud;rw[if_neg (by omega)]
     walk_at "go"
     rw[ex,if_pos (by omega)]
     walk_at "go"
     rw[emul]
     exact⟨_,by have:=L1.le;omega,_,rs,m+1,q/2,rfl,by rw[ea,←eb],s2,L1,G1⟩
 · rw[decide_eq_false hin]
   walk_at "go"
   cases G with
   | stop hno =>
     intro w hw
     exact Q1 w _ (s2.trans (Same.new hw)) upd_same
   | right hq hb G1=>exact absurd hb hin
   | left hq hb G1=>exact absurd hb hin
theorem lie_start {N m q:Nat}{ds rs:List Pc}{v:Bool}(hm:m≤N)(c:Chain 0 (ds++⟨2^m*(q:Int),2^m,v⟩::rs) (2^N)):Lie N (ds++⟨2^m*(q:Int),2^m,v⟩::rs) ds rs m q:=by
 obtain⟨k,c1,c2⟩:=chain_part c
 obtain⟨ea,_,_,c3⟩:=c2
 have ea:2^m*(q:Int)=k:=ea
 have c3:Chain (k+2^m) rs (2^N):=c3
 have p1:=pw1 m
 refine⟨hm,by rw[ea];exact c1,by rw[ea];exact c3,fun z hz=>?_⟩
 constructor
 · intro h
   rcases List.mem_append.mp h with g | g
   · exact .inl g
   · rcases List.mem_cons.mp g with e | e
     · rw[e] at hz
       have hz:2^m*(q:Int)+2^m≤2^m*(q:Int)∨2^m*(q:Int)+2^m≤2^m*(q:Int):=hz
       omega
     · exact .inr e
 · rintro(g | g)
   · exact List.mem_append_left _ g
   · exact List.mem_append_right _ (List.mem_cons_of_mem _ g)
theorem given_lie {N m q m' q':Nat}{cs:List Int}{ps ds rs ds' rs':List Pc}(hl:(cs.length:Int)=2^N)(mk:Marks cs ps)(al:∀z∈ps,Al z)(hin:∀y,y∈ds∨y∈rs→y∈ps)(L:Lie N ps ds rs m q)(G:MgTo ps ds rs m q ds' rs' m' q') :
   0≤(2:Int)^m'*(q':Int)∧(2:Int)^m'*(q':Int)+2^m'≤cs.length∧Chain 0 (ds'++⟨2^m'*(q':Int),2^m',false⟩::rs') (2^N)∧Marks (laidI cs (2^m'*(q':Int)) (2^m') false) (ds'++⟨2^m'*(q':Int),2^m',false⟩::rs')∧∀z∈ds'++(⟨2^m'*(q':Int),2^m',false⟩::rs':List Pc),Al z:=by
 have L':=G.lie L
 obtain⟨_,_,_,f4⟩:=G.facts
 have p1:=pw1 m'
 have l1:=L'.c1.le
 have l2:=L'.c2.le
 refine⟨by omega,by omega,L'.c1.app ⟨rfl,p1,(fun h=>by cases h),L'.c2⟩,Marks.lay (by omega) p1 (by omega) (L'.c1.endBy (Int.le_refl 0)) L'.c2.fromOn (mk.sub fun p hp=>?_),fun z hz=>?_⟩
 · rcases List.mem_append.mp hp with g | g
   · exact hin p (f4 p (.inl g))
   · exact hin p (f4 p (.inr g))
 · rcases List.mem_append.mp hz with g | g
   · exact al z (hin z (f4 z (.inl g)))
   · rcases List.mem_cons.mp g with e | e
     · rw[e]
       exact⟨m',q',rfl,rfl⟩
     · exact al z (hin z (f4 z (.inr e)))
def spGiveH (C:Addr):Sp:=fun vs H Q _=>∃(x dx a:Addr) (N m q m' q':Nat) (ps ds rs ds' rs':List Pc) (cs:List Int),vs=[.ref x,.int (2^m*(q:Int)+1)]∧HvS C x dx a N ps cs H∧m≤N∧ps=ds++⟨2^m*(q:Int),2^m,true⟩::rs∧MgTo ps ds rs m q ds' rs' m' q' ∧
 ∀(a':Addr) (cs':List Int) (H':Hp),H a'=none→KeepX x H H'→cs'.length=cs.length→(∀j:Nat,(j:Int)<2^m'*(q':Int)∨2^m'*(q':Int)+2^m'≤j→cs'[j]?=cs[j]?)→HvS C x dx a' N (ds'++⟨2^m'*(q':Int),2^m',false⟩::rs') cs' H'→Q .non H'
theorem d_Z49 {f₀:Addr}{fd₀:FuncData}(F:Fun K "give" "Halves.give" s_Z12 f₀ fd₀)(M:Meth K Y4 "give" f₀)(T:Txt K mg Y0 Y8 Y3 Y2 Y6 Y9 Y1 Y7 Y5 Y4 W0_ W1_)(D_Z40:Methx P w K mg base Y4 "pieces" 5 ["self"] [] (spPiecesK Y4))(D_Z47:Methx P w K mg base Y4 "many" 7 ["self","place"] [] (spMany Y4))(D_Z4:Defx P w K mg base "grown_together" 1 ["pieces","at","long"] (spGrownT))(D_Z45:Methx P w K mg base Y4 "cells" 1 ["self"] [] (spCellsK Y4))(D_Z48:Defx P w K mg base "laid" 2 ["cells","at","long","live"] (spLaid K))(D_lay:Methx P w K mg base Y4 "lay" 5 ["self","cells"] [] (spLay K Y4)):Methx P w K mg base Y4 "give" 8 ["self","place"] [] (spGiveH Y4):=by
 refine⟨⟨f₀,fd₀,[],fun_okx F sc_Z12 (fun vs H Q E h=>by revert h;walk_at "len") (fun cdv A outer s H vs Q E hr h=>?_),M,F.binds bi_Z12,.nil⟩,T.cl_Halves⟩
 refine⟨_,PSs.nox (pss_cons (ps_asg (pe_defq D_Z4 hr (by rfl) (pa_cons (pe_methp0 D_Z40 pass_e0 hr (pv 0)) (pa_cons (pe_op op_sub (pv 1) pe_int) (pa_cons (pe_op op_add (pe_methp D_Z47 pass_e0 hr (pv 0) (pa_cons (pv 1) pa_nil)) (pe_glob (v:=.int 2) (by rfl) T.g_MARKS ⟨_,rfl⟩)) pa_nil)))) (pg_tup rfl (pgs_cons (pg_name (i:=2) sc_Z12.nd rfl (Or.inl rfl)) (pgs_cons (pg_name (i:=3) sc_Z12.nd rfl (Or.inl rfl)) pgs_nil)))) (pss_one (ps_expr (pe_methp D_lay pass_e0 hr (pv 0) (pa_cons (pe_defq D_Z48 hr (by rfl) (pa_cons (pe_methp0 D_Z45 pass_e0 hr (pv 0)) (pa_cons (pv 2) (pa_cons (pv 3) (pa_cons pe_bl pa_nil))))) pa_nil))))),?_⟩
 obtain⟨x,dx,a,N,m,q,m',q',ps,ds,rs,ds',rs',cs,rfl,S,hm,eps,G,Q1⟩:=h
 obtain⟨hx,ha,hl,hN,hc,mk,al⟩:=id S
 have cl:=T.cl_Halves
 have na:=T.na_Halves_room_cells
 have hz:=S.hz
 have hw:=walk_of_marks S.ch mk
 have hzm:(⟨2^m*(q:Int),2^m,true⟩:Pc)∈ps:=by rw[eps];exact List.mem_append_right _ List.mem_cons_self
 have L:Lie N ps ds rs m q:=by
   have:=lie_start (v:=true) hm (by rw[←eps];exact hc)
   rw[←eps] at this
   exact this
 obtain⟨g0,g1,g2,g3,g4⟩:=given_lie hl mk al (fun y hy=>by
   rw[eps]
   rcases hy with g | g
   · exact List.mem_append_left _ g
   · exact List.mem_append_right _ (List.mem_cons_of_mem _ g)) L G
 have p1:=pw1 m'
 walk_at "go"
 refine⟨x,dx,a,cs,ps,rfl,hx,ha,by omega,hw,fun lp us H1 nlp s1 hlp pa=>?_⟩
 have S1:=S.same s1
 have hx1:=S1.hx
 have ha1:=S1.ha
 walk_at "go"
 refine⟨x,dx,a,cs,ps,⟨2^m*(q:Int),2^m,true⟩,rfl,hx1,ha1,by omega,hw,S.ch,hzm,rfl,fun H2 s2=>?_⟩
 have hx2:=s2 x _ hx1
 have ha2:=s2 a _ ha1
 walk_at "go"
 refine⟨lp,us,ps,ds,rs,ds',rs',N,m,q,m',q',by rw[show (2:Int)^m*(q:Int)+1-1=2^m*(q:Int) by omega,show (2:Int)^m-2+2=2^m by omega],s2 lp _ hlp,pa.same s2,hN,L,G,fun t H3 s3 ht=>?_⟩
 have hx3:=s3 x _ hx2
 have ha3:=s3 a _ ha2
 generalize ea:(2:Int)^m'*(q':Int)=at0 at *
 generalize el:(2:Int)^m'=lo at *
 walk_at "go"
 refine⟨x,dx,a,cs,rfl,hx3,ha3,fun p H4 np s4 hp=>?_⟩
 have hx4:=s4 x _ hx3
 have ha4:=s4 a _ ha3
 walk_at "go"
 refine⟨p,cs,at0,lo,false,rfl,SqL.of hp,by omega,g0,p1,g1,fun p5 H5 np5 s5 hp5=>?_⟩
 have hl5:(laidI cs at0 lo false).length=cs.length:=laidI_len _ _ _ _
 have hw5:=walk_of_marks (by rw[hl5,hl];exact g2) g3
 walk_at "go"
 refine⟨x,p5,dx,a,cs,_,_,rfl,s5 x _ hx4,s5 a _ ha4,hl5,SqL.of hp5,by omega,hw5,fun a' H6 na6 k6 hx6 ha6=>?_⟩
 walk_at "go"
 have s15:=(((s1.trans s2).trans s3).trans s4).trans s5
 exact Q1 a' _ H6 (s15.free na6) ((KeepX.of s15).trans k6) hl5 (fun j hj=>laidI_out g0 p1 hj) ⟨hx6,ha6,by rw[hl5];exact hl,hN,g2,g3,g4⟩
def Gh (B:Nat)(ps ds rs:List Pc)(b:Int)(M:Nat):Prop:=ps=ds++⟨b,2^M,false⟩::rs∧Bst (2^B) ps ⟨b,2^M,false⟩
def NoH (B:Nat)(ps:List Pc):Prop:=∀z∈ps,z.v=false→z.l<2^B
theorem pow_le_of {i j:Nat}(h:(2:Int)^i≤2^j):i≤j:=by
 rcases Nat.lt_or_ge j i with g | g
 · have:=pow_mono (show j+1≤i from g)
   have:=pw1 j
   have:=pw2 j
   omega
 · exact g
theorem Gh.lie {B N M:Nat}{ps ds rs:List Pc}{b:Int}(g:Gh B ps ds rs b M)(hB:2≤B)(hc:Chain 0 ps (2^N))(al:∀z∈ps,Al z) :
   B≤M∧M≤N∧0≤b∧Chain 0 ds b∧Chain (b+2^M) rs (2^N)∧Chain 0 (ds++(hcP b B M++rs)) (2^N)∧(∀z∈ds++(hcP b B M++rs),Al z)∧(⟨b,2^B,true⟩:Pc)∈ds++(hcP b B M++rs):=by
 obtain⟨e,h1,h2,h3,h4⟩:=g
 have hBM:B≤M:=pow_le_of h3
 rw[e] at hc
 obtain⟨k,c1,c2⟩:=chain_part hc
 obtain⟨ea,_,_,c3⟩:=c2
 have ea:b=k:=ea
 subst ea
 have c3:Chain (b+2^M) rs (2^N):=c3
 have l1:=c1.le
 have l3:=c3.le
 have hMN:M≤N:=pow_le_of (by omega)
 obtain⟨m0,q0,e1,e2⟩:=al _ h1
 have e1:(2:Int)^M=2^m0:=e1
 have e2:b=2^m0*(q0:Int):=e2
 rw[←pow_inj e1] at e2
 obtain⟨r,hr⟩:=al_sub e2 hBM
 refine⟨hBM,hMN,by omega,c1,c3,c1.app ((hcP_chain hB hBM).app c3),fun z hz=>?_,List.mem_append_right _ (List.mem_append_left _ List.mem_cons_self)⟩
 rcases List.mem_append.mp hz with g | g
 · exact al z (by rw[e];exact List.mem_append_left _ g)
 · rcases List.mem_append.mp g with g | g
   · rcases List.mem_cons.mp g with w | w
     · rw[w]
       exact⟨B,r,rfl,hr⟩
     · exact spl_al e2 (show B+(M-B)≤M by omega) z w
   · exact al z (by rw[e];exact List.mem_append_right _ (List.mem_cons_of_mem _ g))
theorem Least.two' {k:Nat}{c:Int}(h:Least k c)(h3:3≤c):2≤k:=by
 rcases Nat.lt_or_ge k 2 with g | g
 · have h1:=h.1
   rcases(show k=0∨k=1 by omega) with e | e
   · rw[e] at h1
     have:(2:Int)^0=1:=by decide
     omega
   · rw[e] at h1
     have:(2:Int)^1=2:=by decide
     omega
 · exact g
def spAskH (C CN:Addr):Sp:=fun vs H Q E=>∃(x dx a:Addr) (N B:Nat) (c:Int) (ps:List Pc) (cs:List Int),vs=[.ref x,.int c,.int 1]∧HvS C x dx a N ps cs H∧1≤c∧c≤4000∧Least B (c+2) ∧
 ((NoH B ps∧∀(H':Hp),Same H H'→E (.ref CN) none H') ∨
 (∃(ds rs:List Pc) (b:Int) (M:Nat),Gh B ps ds rs b M∧∀(a':Addr) (cs':List Int) (H':Hp),H a'=none→KeepX x H H'→cs'.length=cs.length→(∀j:Nat,(j:Int)<b∨b+2^M≤j→cs'[j]?=cs[j]?)→HvS C x dx a' N (ds++(hcP b B M++rs)) cs' H'→Q (.int (b+1)) H'))
theorem d_ask {f₀ T₀:Addr}{fd₀:FuncData}{tk₀:Tok}{tc₀:Value}{td₀:Option Addr}{tn₀:Nat}{ts₀:Array (Option Value)}(F:FunD K "ask" "Halves.ask" s_Z17 (.ref T₀) f₀ fd₀)(LT:K.lookup T₀=some ⟨tc₀,td₀,.seq [.int 1 tk₀].toArray tn₀,ts₀⟩)(M:Meth K Y4 "ask" f₀)(T:Txt K mg Y0 Y8 Y3 Y2 Y6 Y9 Y1 Y7 Y5 Y4 W0_ W1_)(D_Z3:Defx P w K mg base "check_plain_ask" 2 ["count","bound"] (spCheckP))(D_Z24:Defx P w K mg base "block_for" 1 ["need"] (spBlock))(D_Z40:Methx P w K mg base Y4 "pieces" 5 ["self"] [] (spPiecesK Y4))(D_Z15:Defx P w K mg base "least_free" 1 ["pieces","block"] (spLeastF Y7))(D_Z45:Methx P w K mg base Y4 "cells" 1 ["self"] [] (spCellsK Y4))(D_Z28:Defx P w K mg base "cut_down" 3 ["cells","at","long","block"] (spCutD K))(D_lay:Methx P w K mg base Y4 "lay" 5 ["self","cells"] [] (spLay K Y4)):MethD P w K mg base Y4 "ask" 6 ["self","count","bound"] [.int 1] (spAskH Y4 Y7):=by
 refine MethD.made (fd:=fd₀) ?_ M (F.bindsA LT (bi_Z17 T₀ _)) (F.bindsD LT (bd_Z17 T₀ _)) (.cons ⟨tk₀,rfl⟩ .nil) T.cl_Halves
 refine funD_okx F sc_Z17 (fun vs H Q E h=>by revert h;walk_at "len") (fun cdv A outer s H vs Q E hr h=>?_)
 refine⟨_,(pss_cons (ps_expr (pe_defq D_Z3 hr (by rfl) (pa_cons (pv 1) (pa_cons (pv 2) pa_nil)))) (pss_cons (ps_set (i:=3) sc_Z17.nd rfl (Or.inl rfl) (pe_defq D_Z24 hr (by rfl) (pa_cons (pe_op op_add (pv 1) (pe_glob (v:=.int 2) (by rfl) T.g_MARKS ⟨_,rfl⟩)) pa_nil))) (pss_cons (ps_asg (pe_defx D_Z15 hr (by rfl) (pa_cons (pe_methp0 D_Z40 pass_e0 hr (pv 0)) (pa_cons (pv 3) pa_nil))) (pg_tup rfl (pgs_cons (pg_name (i:=4) sc_Z17.nd rfl (Or.inl rfl)) (pgs_cons (pg_name (i:=5) sc_Z17.nd rfl (Or.inl rfl)) pgs_nil)))) (pss_cons (ps_expr (pe_methp D_lay pass_e0 hr (pv 0) (pa_cons (pe_defq D_Z28 hr (by rfl) (pa_cons (pe_methp0 D_Z45 pass_e0 hr (pv 0)) (pa_cons (pv 4) (pa_cons (pv 5) (pa_cons (pv 3) pa_nil))))) pa_nil))) (pss_one (ps_ret (pe_op op_add (pv 4) pe_int))))))),?_⟩
 obtain⟨x,dx,a,N,B,c,ps,cs,rfl,S,hc1,hc2,hB,hq⟩:=h
 obtain⟨hx,ha,hl,hN,hc,mk,al⟩:=id S
 have cl:=T.cl_Halves
 have na:=T.na_Halves_room_cells
 have hz:=S.hz
 have hw:=walk_of_marks S.ch mk
 have hple:=S.ch.le
 have B2:=hB.two' (by omega)
 walk_at "go"
 refine⟨c,rfl,hc1,?_⟩
 walk_at "go"
 refine⟨c+2,B,rfl,by omega,Int.lt_trans (show c+2<2^20 by omega) (by decide),hB,?_⟩
 walk_at "go"
 refine⟨x,dx,a,cs,_,rfl,hx,ha,by omega,hw,fun lp us H1 nlp s1 hlp pa=>?_⟩
 walk_at "go"
 refine⟨lp,us,ps,2^B,rfl,hlp,pa,by omega,?_⟩
 rcases hq with ⟨g,qe⟩ | ⟨ds,rs,b,M,G,q⟩
 · exact .inl ⟨g,fun H2 s2=>qe H2 (s1.trans s2)⟩
 refine .inr ⟨_,G.2,fun u H2 s2 hu=>?_⟩
 obtain⟨hBM,hMN,b0,c1,c3,c4,al4,_⟩:=G.lie B2 hc al
 have hu:H2 u=some (.tup [.int b,.int (2^M)]):=hu
 have s12:=s1.trans s2
 have hx2:=s12 x _ hx
 have ha2:=s12 a _ ha
 have l3:=c3.le
 walk_at "go"
 refine⟨x,dx,a,cs,rfl,hx2,ha2,fun p H3 np s3 hp=>?_⟩
 walk_at "go"
 refine⟨p,cs,b,B,M,ds,rs,rfl,SqL.of hp,by omega,hBM,b0,c1.endBy (Int.le_refl 0),c3.fromOn,by omega,mk.sub (fun y hy=>?_),fun p2 cs' H4 np2 s4 hp2 hl' mk' ho'=>?_⟩
 · rw[G.1]
   rcases List.mem_append.mp hy with g | g
   · exact List.mem_append_left _ g
   · exact List.mem_append_right _ (List.mem_cons_of_mem _ g)
 have s34:=s3.trans s4
 have hw':=walk_of_marks (by rw[hl',hl];exact c4) mk'
 walk_at "go"
 refine⟨x,p2,dx,a,cs,cs',_,rfl,s34 x _ hx2,s34 a _ ha2,hl',SqL.of hp2,by omega,hw',fun a' H5 na5 k5 hx5 ha5=>?_⟩
 walk_at "go"
 have s14:=s12.trans s34
 exact q a' cs' H5 (s14.free na5) ((KeepX.of s14).trans k5) hl' ho' ⟨hx5,ha5,by rw[hl'];exact hl,hN,c4,mk',al4⟩
def spClearH (C:Addr):Sp:=fun vs H Q _=>∃(x dx a:Addr) (N:Nat) (ps:List Pc) (cs:List Int),vs=[.ref x]∧HvS C x dx a N ps cs H ∧
 (∀(a':Addr) (cs':List Int) (H':Hp),H a'=none→KeepX x H H'→cs'.length=cs.length→HvS C x dx a' N [⟨0,2^N,false⟩] cs' H'→Q .non H')
theorem fresh_HvS {N:Nat}:((freshI (2^N)).length:Int)=2^N∧Chain 0 [⟨0,2^N,false⟩] (2^N)∧Marks (freshI (2^N)) [⟨0,2^N,false⟩]∧∀z∈[(⟨0,2^N,false⟩:Pc)],Al z:=by
 have p:=pw1 N
 have hl:=freshI_len (n:=(2:Int)^N) (by omega)
 refine⟨hl,⟨rfl,p,(fun h=>by cases h),by show (0:Int)+2^N=2^N;omega⟩,?_,fun z hz=>?_⟩
 · unfold freshI
   exact Marks.lay (ds:=[]) (rs:=[]) (by omega) p (by rw[List.length_replicate];omega) (fun p hp=>by cases hp) (fun p hp=>by cases hp) (Marks.nil _)
 · rw[List.mem_singleton.mp hz]
   exact⟨N,0,rfl,by simp⟩
theorem d_Z44 {f₀:Addr}{fd₀:FuncData}(F:Fun K "clear" "Keeper.clear" s_Z8 f₀ fd₀)(M:Meth K Y4 "clear" f₀)(T:Txt K mg Y0 Y8 Y3 Y2 Y6 Y9 Y1 Y7 Y5 Y4 W0_ W1_)(D_Z19:Defx P w K mg base "fresh_room" 2 ["count"] (spFresh Y8))(D_Z16:Methx P w K mg base Y4 "room_begin" 1 ["self","cells"] [] (spBegin K Y4)):Methx P w K mg base Y4 "clear" 3 ["self"] [] (spClearH Y4):=by
 refine⟨⟨f₀,fd₀,[],fun_okx F sc_Z8 (fun vs H Q E h=>by revert h;walk_at "len") (fun cdv A outer s H vs Q E hr h=>?_),M,F.binds bi_Z8,.nil⟩,T.cl_Halves⟩
 refine⟨_,PSs.nox (pss_one (ps_expr (pe_methp D_Z16 pass_e0 hr (pv 0) (pa_cons (pe_defq D_Z19 hr (by rfl) (pa_cons (pe_callB call_len_seq (by rfl) T.n_len PySem.boot_len (pa_cons (pe_fld (pv 0) rfl) pa_nil)) pa_nil)) pa_nil)))),?_⟩
 obtain⟨x,dx,a,N,ps,cs,rfl,S,q⟩:=h
 have hx:=S.hx
 have ha:=S.ha
 have hz:=S.hz
 have cl:=T.cl_Halves
 have na:=T.na_Halves_room_cells
 have p:=pw1 N
 have hl:=S.hl
 obtain⟨f1,f2,f3,f4⟩:=fresh_HvS (N:=N)
 walk_at "go"
 rw[hl]
 refine⟨2^N,rfl,by omega,fun z=>absurd z (by omega),fun _ p1 H1 np s1 hp=>?_⟩
 have hx1:=s1 x _ hx
 walk_at "go"
 refine⟨x,p1,dx,a,freshI (2^N),rfl,hx1,SqL.of hp,fun a' H2 na2 k2 hx2 ha2=>?_⟩
 walk_at "go"
 exact q a' _ H2 (s1.free na2) ((KeepX.of s1).trans k2) (by omega) ⟨hx2,ha2,f1,S.hN,f2,f3,f4⟩
theorem moved_cells {N B M m q m3 q3:Nat}{ps ds rs d2 r2 d3 r3:List Pc}{b:Int}{cs cs1 cs2 cs5:List Int}(G:Gh B ps ds rs b M)(hB:2≤B)(hc:Chain 0 ps (2^N))(al:∀z∈ps,Al z)(hm:m≤N)(hl:(cs1.length:Int)=2^N)(e2:ds++(hcP b B M++rs)=d2++⟨2^m*(q:Int),2^m,true⟩::r2)(G2:MgTo (ds++(hcP b B M++rs)) d2 r2 m q d3 r3 m3 q3)
   (hz:(⟨2^m*(q:Int),2^m,true⟩:Pc)∈ps) (ho1:∀j:Nat,(j:Int)<b∨b+2^M≤j→cs1[j]?=cs[j]?) (ec:cs2=carI cs1 (2^m*(q:Int)+1).toNat (b+1).toNat ((2:Int)^m-2).toNat) (ho5:∀j:Nat,(j:Int)<2^m3*(q3:Int)∨2^m3*(q3:Int)+2^m3≤j→cs5[j]?=cs2[j]?) (hmc:(2:Int)^m≤2^B) :
   (∀y∈ps,y.v=true→y≠⟨2^m*(q:Int),2^m,true⟩→∀j:Nat,Inn y j→cs5[j]?=cs[j]?)∧∀j:Nat,(j:Int)<2^m-2→cs5[(b+1).toNat+j]?=cs[(2^m*(q:Int)+1).toNat+j]?:=by
 obtain⟨hBM,hMN,b0,c1,c3,c4,_,tm⟩:=G.lie hB hc al
 have pm:=pow_mono hBM
 have L:Lie N (ds++(hcP b B M++rs)) d2 r2 m q:=by
   have:=lie_start (v:=true) hm (by rw[←e2];exact c4)
   rw[←e2] at this
   exact this
 have L3:=G2.lie L
 have out:∀y∈ps,y.v=true→y.a+y.l≤b∨b+2^M≤y.a:=fun y hy hv=>by
   rw[G.1] at hy
   rcases List.mem_append.mp hy with g | g
   · exact .inl (c1.mem y g).2.2.2
   · rcases List.mem_cons.mp g with e | e
     · rw[e] at hv;cases hv
     · exact .inr (c3.mem y e).1
 have in1:∀y∈ps,y.v=true→y∈ds++(hcP b B M++rs):=fun y hy hv=>by
   rw[G.1] at hy
   rcases List.mem_append.mp hy with g | g
   · exact List.mem_append_left _ g
   · rcases List.mem_cons.mp g with e | e
     · rw[e] at hv;cases hv
     · exact List.mem_append_right _ (List.mem_append_right _ e)
 have off3:∀y∈ds++(hcP b B M++rs),y.v=true→y≠⟨2^m*(q:Int),2^m,true⟩→y.a+y.l≤2^m3*(q3:Int)∨2^m3*(q3:Int)+2^m3≤y.a:=fun y hy hv hne=>by
   rw[e2] at hy
   refine L3.outer (G2.live y hv ?_)
   rcases List.mem_append.mp hy with g | g
   · exact .inl g
   · rcases List.mem_cons.mp g with e | e
     · exact absurd e hne
     · exact .inr e
 have hz4:=hc.mem _ hz
 have z0:0≤2^m*(q:Int):=hz4.1
 have z4:2^m*(q:Int)+2^m≤2^N:=hz4.2.2.2
 have z3:(3:Int)≤2^m:=hz4.2.2.1 rfl
 have hb4:b+2^B≤2^N:=(c4.mem _ tm).2.2.2
 have hzo:=out _ hz rfl
 have hzo:2^m*(q:Int)+2^m≤b∨b+2^M≤2^m*(q:Int):=hzo
 constructor
 · intro y hy hv hne j hj
   have h1:=out y hy hv
   have h2:=off3 y (in1 y hy hv) hv hne
   obtain⟨j1,j2⟩:=hj
   rw[ho5 j (by omega),ec,carI_off (by omega) (by omega) (by omega)]
   exact ho1 j (by omega)
 · intro j hj
   have h2:=off3 _ tm rfl (fun e=>by
     have:=(Pc.mk.inj e).1
     omega)
   have h2:b+2^B≤2^m3*(q3:Int)∨2^m3*(q3:Int)+2^m3≤b:=h2
   rw[ho5 _ (by omega),ec,carI_in (by omega) (by omega) (by omega)]
   exact ho1 _ (by omega)
def spMovedH (C CN:Addr):Sp:=fun vs H Q E=>∃(x dx a:Addr) (N B m q:Nat) (c:Int) (ps:List Pc) (cs:List Int),vs=[.ref x,.int (2^m*(q:Int)+1),.int c,.int 1]∧HvS C x dx a N ps cs H∧1≤c∧c≤4000∧Least B (c+2)∧(⟨2^m*(q:Int),2^m,true⟩:Pc)∈ps∧m≤N∧2^m-2<c ∧
 ((NoH B ps∧∀(H':Hp),Same H H'→E (.ref CN) none H') ∨
 (∃(ds rs:List Pc) (b:Int) (M:Nat) (d2 r2 d3 r3:List Pc) (m3 q3:Nat),Gh B ps ds rs b M∧ds++(hcP b B M++rs)=d2++⟨2^m*(q:Int),2^m,true⟩::r2∧MgTo (ds++(hcP b B M++rs)) d2 r2 m q d3 r3 m3 q3 ∧
   ∀(a':Addr) (cs':List Int) (H':Hp),H a'=none→KeepX x H H'→cs'.length=cs.length→(∀y∈ps,y.v=true→y≠⟨2^m*(q:Int),2^m,true⟩→∀j:Nat,Inn y j→cs'[j]?=cs[j]?)→(∀j:Nat,(j:Int)<2^m-2→cs'[(b+1).toNat+j]?=cs[(2^m*(q:Int)+1).toNat+j]?)→HvS C x dx a' N (d3++⟨2^m3*(q3:Int),2^m3,false⟩::r3) cs' H'→Q (.int (b+1)) H'))
theorem d_Z14 {f₀:Addr}{fd₀:FuncData}(F:Fun K "room_moved" "Keeper.room_moved" s_Z1 f₀ fd₀)(M:Meth K Y4 "room_moved" f₀)(T:Txt K mg Y0 Y8 Y3 Y2 Y6 Y9 Y1 Y7 Y5 Y4 W0_ W1_)(D_ask:MethD P w K mg base Y4 "ask" 6 ["self","count","bound"] [.int 1] (spAskH Y4 Y7))(D_Z37:Defx P w K mg base "carried" 1 ["cells","source","goal","count"] (spCarry K))(D_Z47:Methx P w K mg base Y4 "many" 7 ["self","place"] [] (spMany Y4))(D_Z49:Methx P w K mg base Y4 "give" 8 ["self","place"] [] (spGiveH Y4)):Methx P w K mg base Y4 "room_moved" 9 ["self","place","count","bound"] [] (spMovedH Y4 Y7):=by
 refine⟨⟨f₀,fd₀,[],fun_okx F sc_Z1 (fun vs H Q E h=>by revert h;walk_at "len") (fun cdv A outer s H vs Q E hr h=>?_),M,F.binds bi_Z1,.nil⟩,T.cl_Halves⟩
 refine⟨_,(pss_cons (ps_set (i:=4) sc_Z1.nd rfl (Or.inl rfl) (pe_methp D_ask.all pass_x hr (pv 0) (pa_cons (pv 2) (pa_cons (pv 3) pa_nil)))) (pss_cons (ps_fld (pv 0) (pe_defq D_Z37 hr (by rfl) (pa_cons (pe_fld (pv 0) rfl) (pa_cons (pv 1) (pa_cons (pv 4) (pa_cons (pe_callB (call_min2 rfl) (by rfl) T.n_min PyProof.Rows.boot_min (pa_cons (pe_methp D_Z47 pass_e0 hr (pv 0) (pa_cons (pv 1) pa_nil)) (pa_cons (pv 2) pa_nil))) pa_nil))))) rfl) (pss_cons (ps_expr (pe_methp D_Z49 pass_e0 hr (pv 0) (pa_cons (pv 1) pa_nil))) (pss_one (ps_ret (pv 4)))))),?_⟩
 obtain⟨x,dx,a,N,B,m,q,c,ps,cs,rfl,S,hc1,hc2,hB,hzm,hmN,hmc,hq⟩:=h
 have hx:=S.hx
 have cl:=T.cl_Halves
 have na:=T.na_Halves_room_cells
 have B2:=hB.two' (by omega)
 have p1:=pw1 m
 walk_at "go"
 rcases hq with ⟨g,qe⟩ | ⟨ds,rs,b,M,d2,r2,d3,r3,m3,q3,G,e2,G2,Q1⟩
 · exact⟨x,dx,a,N,B,c,ps,cs,rfl,S,hc1,hc2,hB,.inl ⟨g,qe⟩⟩
 refine⟨x,dx,a,N,B,c,ps,cs,rfl,S,hc1,hc2,hB,.inr ⟨ds,rs,b,M,G,fun a1 cs1 H1 na1 k1 l1 ho1 S1=>?_⟩⟩
 have G':=G
 have S0:=S
 obtain⟨_,_,b0,_,_,c4,_,tm⟩:=G.lie B2 S.hc S.al
 have pm:(⟨2^m*(q:Int),2^m,true⟩:Pc)∈ds++(hcP b B M++rs):=by rw[e2];exact List.mem_append_right _ List.mem_cons_self
 have hp4:=S1.ch.mem _ pm
 have ht4:=S1.ch.mem _ tm
 have hBc:=hB.1
 have hx1:=S1.hx
 have ha1:=S1.ha
 have hz1:=S1.hz
 have hw1:=walk_of_marks S1.ch S1.mm
 have mc:=marks_carry (cs:=cs1) (s:=(2^m*(q:Int)+1).toNat) (c:=((2:Int)^m-2).toNat) S1.ch rfl S1.mm tm rfl
 generalize eps:ds++(hcP b B M++rs)=ps1 at *
 have hp0:0≤2^m*(q:Int):=hp4.1
 have hp3:(3:Int)≤2^m:=hp4.2.2.1 rfl
 have hp5:2^m*(q:Int)+2^m≤cs1.length:=hp4.2.2.2
 have ht5:b+2^B≤cs1.length:=ht4.2.2.2
 generalize ea:(2:Int)^m*(q:Int)=pl at *
 generalize el:(2:Int)^m=lo at *
 walk_at "go"
 refine⟨x,dx,a1,cs1,ps1,⟨pl,lo,true⟩,rfl,hx1,ha1,by omega,hw1,S1.ch,pm,rfl,fun H2 s2=>?_⟩
 have S2:=S1.same s2
 have hx2:=S2.hx
 have ha2:=S2.ha
 have emn:(if c<lo-2 then c else lo-2)=lo-2:=by omega
 walk_at "go"
 first | rw[emn] | skip
 walk_at "go"
 refine⟨a1,cs1,pl+1,b+1,lo-2,rfl,SqL.of ha2,by omega,by omega,by omega,by omega,by omega,by omega,fun p H3 np s3 hp=>?_⟩
 have hx3:=s3 x _ hx2
 have hpx:p≠x:=fun w=>by rw[w,hx2] at np;cases np
 have mc:=mc (by omega) (by show ((lo-2).toNat:Int)≤2^B-2;omega)
 have cl3:(carI cs1 (pl+1).toNat (b+1).toNat (lo-2).toNat).length=cs1.length:=carI_len (by omega) (by omega)
 walk_at "go"
 have S4:HvS Y4 x dx p N ps1 (carI cs1 (pl+1).toNat (b+1).toNat (lo-2).toNat) (upd H3 x (.ins Y4 dx (putF "room_cells" (.ref p) [("room_cells",.ref a1)]))):=⟨upd_same,look_ne hpx hp,by rw[cl3];exact S1.hl,S1.hN,S1.hc,mc,S1.al⟩
 have k4:KeepX x H (upd H3 x (.ins Y4 dx (putF "room_cells" (.ref p) [("room_cells",.ref a1)]))):=(k1.trans (KeepX.of (s2.trans s3))).put
 generalize upd H3 x (.ins Y4 dx (putF "room_cells" (.ref p) [("room_cells",.ref a1)]))=H4 at S4 k4 ⊢
 have hx4:=S4.hx
 have fr4:∀d,H4 d=none→H d=none:=fun d hd=>by
   cases hH:H d with
   | none=>rfl
   | some o =>
     have hdx:d≠x:=fun w=>by rw[w,hx4] at hd;cases hd
     rw[k4 d o hdx hH] at hd
     cases hd
 walk_at "go"
 subst ea
 subst el
 refine⟨x,dx,p,N,m,q,m3,q3,ps1,d2,r2,d3,r3,_,rfl,S4,hmN,e2,G2,fun a5 cs5 H5 na5 k5 l5 ho5 S5=>?_⟩
 walk_at "go"
 have mvd:=moved_cells G' B2 S0.hc S0.al hmN (by rw[l1];exact S0.hl) (eps.trans e2) (by rw[eps];exact G2) hzm ho1 rfl ho5 (by omega)
 refine Q1 a5 cs5 H5 (fr4 a5 na5) (k4.trans k5) (by omega) ?_ ?_ S5
 · exact mvd.1
 · exact mvd.2
def spGrowH (C CN:Addr):Sp:=fun vs H Q E=>∃(x dx a:Addr) (N B m q:Nat) (c:Int) (ps:List Pc) (cs:List Int),vs=[.ref x,.int (2^m*(q:Int)+1),.int c,.int 1]∧HvS C x dx a N ps cs H∧1≤c∧c≤4000∧Least B (c+2)∧(⟨2^m*(q:Int),2^m,true⟩:Pc)∈ps∧m≤N ∧
 (c≤2^m-2→∀(H':Hp),Same H H'→Q (.int (2^m*(q:Int)+1)) H') ∧
 (2^m-2<c→((NoH B ps∧∀(H':Hp),Same H H'→E (.ref CN) none H') ∨
 (∃(ds rs:List Pc) (b:Int) (M:Nat) (d2 r2 d3 r3:List Pc) (m3 q3:Nat),Gh B ps ds rs b M∧ds++(hcP b B M++rs)=d2++⟨2^m*(q:Int),2^m,true⟩::r2∧MgTo (ds++(hcP b B M++rs)) d2 r2 m q d3 r3 m3 q3 ∧
   ∀(a':Addr) (cs':List Int) (H':Hp),H a'=none→KeepX x H H'→cs'.length=cs.length→(∀y∈ps,y.v=true→y≠⟨2^m*(q:Int),2^m,true⟩→∀j:Nat,Inn y j→cs'[j]?=cs[j]?)→(∀j:Nat,(j:Int)<2^m-2→cs'[(b+1).toNat+j]?=cs[(2^m*(q:Int)+1).toNat+j]?)→HvS C x dx a' N (d3++⟨2^m3*(q3:Int),2^m3,false⟩::r3) cs' H'→Q (.int (b+1)) H')))
theorem d_Z46 {f₀ T₀:Addr}{fd₀:FuncData}{tk₀:Tok}{tc₀:Value}{td₀:Option Addr}{tn₀:Nat}{ts₀:Array (Option Value)}(F:FunD K "grow" "Keeper.grow" s_Z10 (.ref T₀) f₀ fd₀)(LT:K.lookup T₀=some ⟨tc₀,td₀,.seq [.int 1 tk₀].toArray tn₀,ts₀⟩)(M:Meth K Y4 "grow" f₀)(T:Txt K mg Y0 Y8 Y3 Y2 Y6 Y9 Y1 Y7 Y5 Y4 W0_ W1_)(D_Z47:Methx P w K mg base Y4 "many" 7 ["self","place"] [] (spMany Y4))(D_Z3:Defx P w K mg base "check_plain_ask" 2 ["count","bound"] (spCheckP))(D_Z14:Methx P w K mg base Y4 "room_moved" 9 ["self","place","count","bound"] [] (spMovedH Y4 Y7)):MethD P w K mg base Y4 "grow" 10 ["self","place","count","bound"] [.int 1] (spGrowH Y4 Y7):=by
 refine MethD.made (fd:=fd₀) ?_ M (F.bindsA LT (bi_Z10 T₀ _)) (F.bindsD LT (bd_Z10 T₀ _)) (.cons ⟨tk₀,rfl⟩ .nil) T.cl_Halves
 refine funD_okx F sc_Z10 (fun vs H Q E h=>by revert h;walk_at "len") (fun cdv A outer s H vs Q E hr h=>?_)
 refine⟨_,(pss_cons (ps_set (i:=4) sc_Z10.nd rfl (Or.inl rfl) (pe_methp D_Z47 pass_e0 hr (pv 0) (pa_cons (pv 1) pa_nil))) (pss_cons (ps_expr (pe_defq D_Z3 hr (by rfl) (pa_cons (pv 2) (pa_cons (pv 3) pa_nil)))) (pss_cons (ps_if (pt_cmpR op_ge (pv 4) (pv 2) (nomark _)) (pss_one (ps_ret (pv 1))) pss_nil) (pss_one (ps_ret (pe_methp D_Z14 pass_x hr (pv 0) (pa_cons (pv 1) (pa_cons (pv 2) (pa_cons (pv 3) pa_nil))))))))),?_⟩
 obtain⟨x,dx,a,N,B,m,q,c,ps,cs,rfl,S,hc1,hc2,hB,hzm,hmN,q1,q2⟩:=h
 have hx:=S.hx
 have ha:=S.ha
 have hz:=S.hz
 have hw:=walk_of_marks S.ch S.mm
 walk_at "go"
 refine⟨x,dx,a,cs,ps,⟨2^m*(q:Int),2^m,true⟩,rfl,hx,ha,by omega,hw,S.ch,hzm,rfl,fun H1 s1=>?_⟩
 have S1:=S.same s1
 have hx1:=S1.hx
 walk_at "go"
 refine⟨c,rfl,hc1,?_⟩
 walk_at "go"
 refine r_ifd (fun h3=>?_) (fun h3=>?_)
 · dsimp only at h3
   walk_at "go"
   exact q1 (by omega) H1 s1
 · dsimp only at h3
   walk_at "go"
   refine⟨x,dx,a,N,B,m,q,c,ps,cs,rfl,S1,hc1,hc2,hB,hzm,hmN,by omega,?_⟩
   rcases q2 (by omega) with ⟨g,qe⟩ | ⟨ds,rs,b,M,d2,r2,d3,r3,m3,q3,G,e2,G2,Q1⟩
   · exact .inl ⟨g,fun H2 s2=>qe H2 (s1.trans s2)⟩
   · exact .inr ⟨ds,rs,b,M,d2,r2,d3,r3,m3,q3,G,e2,G2,fun a' cs' H2 na2 k2 l2 o2 w2 S2=>Q1 a' cs' H2 (s1.free na2) ((KeepX.of s1).trans k2) l2 o2 w2 S2⟩
theorem marks_putk {cs:List Int}{ps:List Pc}{z:Pc}{n x k:Int}(c:Chain 0 ps n)(m:Marks cs ps)(hz:z∈ps)(hv:z.v=true)(k0:0≤k)(k1:k<z.l-2):Marks (cs.set (z.a+1+k).toNat x) ps:=fun p hp=>by
 obtain⟨z0,z1,z3,z4⟩:=c.mem z hz
 obtain⟨p0,p1,p3,p4⟩:=c.mem p hp
 obtain⟨m1,m2⟩:=m p hp
 have far:p.a≠z.a+1+k∧p.a+p.l-1≠z.a+1+k:=by
   by_cases e:p=z
   · subst e;omega
   · constructor
     · intro h
       exact e (chain_meet c hp hz (Int.le_refl _) (by omega) (by omega) (by omega))
     · intro h
       exact e (chain_meet c hp hz (p:=p.a+p.l-1) (by omega) (by omega) (by omega) (by omega))
 exact⟨by rw[List.getElem?_set_ne (by omega)];exact m1,by rw[List.getElem?_set_ne (by omega)];exact m2⟩
def spCellOfH (C:Addr):Sp:=fun vs H Q _=>∃(x dx a:Addr) (N:Nat) (ps:List Pc) (cs:List Int) (z:Pc) (j:Int),vs=[.ref x,.int (z.a+1),.int j]∧HvS C x dx a N ps cs H∧z∈ps∧z.v=true∧0≤j∧j<z.l-2 ∧
 ∀(H':Hp),Same H H'→Q (.int (z.a+1+j)) H'
theorem d_Z6 {f₀:Addr}{fd₀:FuncData}(F:Fun K "room_cell_of" "Keeper.room_cell_of" s_Z0 f₀ fd₀)(M:Meth K Y4 "room_cell_of" f₀)(T:Txt K mg Y0 Y8 Y3 Y2 Y6 Y9 Y1 Y7 Y5 Y4 W0_ W1_)(D_Z47:Methx P w K mg base Y4 "many" 7 ["self","place"] [] (spMany Y4)):Methx P w K mg base Y4 "room_cell_of" 8 ["self","place","k"] [] (spCellOfH Y4):=by
 refine⟨⟨f₀,fd₀,[],fun_okx F sc_Z0 (fun vs H Q E h=>by revert h;walk_at "len") (fun cdv A outer s H vs Q E hr h=>?_),M,F.binds bi_Z0,.nil⟩,T.cl_Halves⟩
 refine⟨_,PSs.nox (pss_cons (ps_set (i:=3) sc_Z0.nd rfl (Or.inl rfl) (pe_methp D_Z47 pass_e0 hr (pv 0) (pa_cons (pv 1) pa_nil))) (pss_cons (ps_if (PW.pt (pw_or (pt_cmpR op_lt (pv 2) pe_int (nomark _)) (pw_or1 (pt_cmpR op_ge (pv 2) (pv 3) (nomark _))))) (pss_one ps_never) pss_nil) (pss_one (ps_ret (pe_op op_add (pv 1) (pv 2)))))),?_⟩
 obtain⟨x,dx,a,N,ps,cs,z,j,rfl,S,hm,hv,k0,k1,q⟩:=h
 have hx:=S.hx
 have hz:=S.hz
 walk_at "go"
 refine⟨x,dx,a,cs,ps,z,rfl,hx,S.ha,by omega,walk_of_marks S.ch S.mm,S.ch,hm,hv,fun H1 s1=>?_⟩
 walk_at "go"
 exact q H1 s1
def spPutH (C:Addr):Sp:=fun vs H Q _=>∃(x dx a:Addr) (N:Nat) (ps:List Pc) (cs:List Int) (z:Pc) (j n:Int),vs=[.ref x,.int (z.a+1),.int j,.int n]∧HvS C x dx a N ps cs H∧z∈ps∧z.v=true∧0≤j∧j<z.l-2 ∧
 ∀(H':Hp),KeepX a H H'→HvS C x dx a N ps (cs.set (z.a+1+j).toNat n) H'→Q .non H'
theorem d_put {f₀:Addr}{fd₀:FuncData}(F:Fun K "put" "Keeper.put" s_Z18 f₀ fd₀)(M:Meth K Y4 "put" f₀)(T:Txt K mg Y0 Y8 Y3 Y2 Y6 Y9 Y1 Y7 Y5 Y4 W0_ W1_)(D_Z6:Methx P w K mg base Y4 "room_cell_of" 8 ["self","place","k"] [] (spCellOfH Y4)):Methx P w K mg base Y4 "put" 9 ["self","place","k","number"] [] (spPutH Y4):=by
 refine⟨⟨f₀,fd₀,[],fun_okx F sc_Z18 (fun vs H Q E h=>by revert h;walk_at "len") (fun cdv A outer s H vs Q E hr h=>?_),M,F.binds bi_Z18,.nil⟩,T.cl_Halves⟩
 refine⟨_,PSs.nox (pss_cons (ps_set (i:=4) sc_Z18.nd rfl (Or.inl rfl) (pe_methp D_Z6 pass_e0 hr (pv 0) (pa_cons (pv 1) (pa_cons (pv 2) pa_nil)))) (pss_one (ps_asg (pv 3) (pg_sub (pe_fld (pv 0) rfl) (pv 4) set_list)))),?_⟩
 obtain⟨x,dx,a,N,ps,cs,z,j,n,rfl,S,hm,hv,k0,k1,q⟩:=h
 have hx:=S.hx
 have cl:=T.cl_Halves
 have na:=T.na_Halves_room_cells
 have hz:=S.hz
 obtain⟨z0,z1,z3,z4⟩:=S.ch.mem z hm
 walk_at "go"
 refine⟨x,dx,a,N,ps,cs,z,j,rfl,S,hm,hv,k0,k1,fun H1 s1=>?_⟩
 have hx1:=s1 x _ hx
 have ha1:=s1 a _ S.ha
 have hxa:x≠a:=fun e=>by rw[e,ha1] at hx1;cases hx1
 have ls:(cs.set (z.a+1+j).toNat n).length=cs.length:=List.length_set
 walk_at "go"
 exact q _ (KeepX.of s1).put ⟨look_ne hxa hx1,upd_same,by rw[ls];exact S.hl,S.hN,S.hc,marks_putk S.hc S.mm hm hv k0 k1,S.al⟩
def spGetH (C:Addr):Sp:=fun vs H Q _=>∃(x dx a:Addr) (N:Nat) (ps:List Pc) (cs:List Int) (z:Pc) (j:Int),vs=[.ref x,.int (z.a+1),.int j]∧HvS C x dx a N ps cs H∧z∈ps∧z.v=true∧0≤j∧j<z.l-2 ∧
 ∀(H':Hp),Same H H'→Q (.int (cs.getD (z.a+1+j).toNat 0)) H'
theorem d_get {f₀:Addr}{fd₀:FuncData}(F:Fun K "get" "Keeper.get" s_Z20 f₀ fd₀)(M:Meth K Y4 "get" f₀)(T:Txt K mg Y0 Y8 Y3 Y2 Y6 Y9 Y1 Y7 Y5 Y4 W0_ W1_)(D_Z6:Methx P w K mg base Y4 "room_cell_of" 8 ["self","place","k"] [] (spCellOfH Y4)):Methx P w K mg base Y4 "get" 9 ["self","place","k"] [] (spGetH Y4):=by
 refine⟨⟨f₀,fd₀,[],fun_okx F sc_Z20 (fun vs H Q E h=>by revert h;walk_at "len") (fun cdv A outer s H vs Q E hr h=>?_),M,F.binds bi_Z20,.nil⟩,T.cl_Halves⟩
 refine⟨_,PSs.nox (pss_one (ps_ret (pe_ix ix_list (pe_fld (pv 0) rfl) (pe_methp D_Z6 pass_e0 hr (pv 0) (pa_cons (pv 1) (pa_cons (pv 2) pa_nil))) (fun _ _=>rfl)))),?_⟩
 obtain⟨x,dx,a,N,ps,cs,z,j,rfl,S,hm,hv,k0,k1,q⟩:=h
 have hx:=S.hx
 have cl:=T.cl_Halves
 have na:=T.na_Halves_room_cells
 have hz:=S.hz
 obtain⟨z0,z1,z3,z4⟩:=S.ch.mem z hm
 walk_at "go"
 refine⟨x,dx,a,N,ps,cs,z,j,rfl,S,hm,hv,k0,k1,fun H1 s1=>?_⟩
 have hx1:=s1 x _ hx
 have ha1:=s1 a _ S.ha
 walk_at "go"
 exact q _ s1
theorem d_Z23 (S:Src K mg "_law_cell_at" s_Z23)(T:Txt K mg Y0 Y8 Y3 Y2 Y6 Y9 Y1 Y7 Y5 Y4 W0_ W1_) :Defx P w K mg base "_law_cell_at" 1 ["_law_script","_law_k"] (spCell K):=by
 refine S.okx sc_Z23 bi_Z23 (fun vs H Q E h=>by revert h;walk_at "len") (fun f cdv A outer s H vs Q E hr h=>?_)
 refine⟨_,PSs.nox (pss_cons (ps_if (pt_cmpR op_lt (pv 1) (pe_callB call_len_seq (by rfl) T.n_len PySem.boot_len (pa_cons (pv 0) pa_nil)) (nomark _)) (pss_one (ps_ret (pe_ix ix_list (pv 0) (pv 1) (fun _ _=>rfl)))) pss_nil) (pss_one (ps_ret pe_int))),?_⟩
 obtain⟨a,ns,k,rfl,hS,h0,q⟩:=h
 walk_at "go"
 refine r_ifd (fun hc=>?_) (fun hc=>?_)
 · walk_at "go"
   exact q
 · walk_at "go"
   have e:ns.getD k.toNat 0=0:=by
     rw[List.getD_eq_getElem?_getD,List.getElem?_eq_none (by omega)]
     rfl
   rw[e] at q
   exact q
theorem d_Z33 (S:Src K mg "_law_whole" s_Z33)(T:Txt K mg Y0 Y8 Y3 Y2 Y6 Y9 Y1 Y7 Y5 Y4 W0_ W1_) :Defx P w K mg base "_law_whole" 1 ["_law_found"] (spWhole):=by
 refine S.okx sc_Z33 bi_Z33 (fun vs H Q E h=>by revert h;walk_at "len") (fun f cdv A outer s H vs Q E hr h=>?_)
 refine⟨_,PSs.nox (pss_one (ps_ret (pe_and (pe_callB call_isi (by rfl) T.n_isinstance PyProof.Rows.boot_isinstance (pa_cons (pv 0) (pa_cons (pe_bltn (v:=.ty "int") (by rfl) T.n_int PyProof.Rows.boot_int rfl) pa_nil))) (pe_one (pe_not (pe_callB call_isi (by rfl) T.n_isinstance PyProof.Rows.boot_isinstance (pa_cons (pv 0) (pa_cons (pe_bltn (v:=.ty "bool") (by rfl) T.n_bool PyProof.Rows.boot_bool rfl) pa_nil)))))))),?_⟩
 obtain⟨n,rfl,q⟩:=h
 walk_at "go"
 exact q
def spWalkC (K:PySem.W.Frag):Sp:=fun vs H Q _=>∃(r:Addr) (cs:List Int) (ps:List Pc),vs=[.ref r]∧H r=some (.lst (cs.map V.int))∧Chain 0 ps cs.length∧Marks cs ps∧cs.length≤1200∧∀(p:Addr) (us:List V) (H':Hp),H p=none→Same H H'→H' p=some (.lst us)→PcsAt H' us ps→Q (.ref p) H'
def WkW (r p:Addr)(n:Int)(ps:List Pc)(H:Hp)(m:Nat)(σ:L2.St)(H':Hp):Prop :=
 ∃(ds rs:List Pc) (us:List V) (k:Int) (x3 x4:Option V),σ=[some (.ref r),some (.ref p),some (.int k),x3,x4]∧m=(n-k).toNat∧ps=ds++rs∧Chain 0 ds k∧Chain k rs n∧Same H H'∧H' p=some (.lst us)∧PcsAt H' us ds
theorem d_Z41 (S:Src K mg "_law_walk" s_Z41)(T:Txt K mg Y0 Y8 Y3 Y2 Y6 Y9 Y1 Y7 Y5 Y4 W0_ W1_)(D_Z33:Defx P w K mg base "_law_whole" 1 ["_law_found"] (spWhole)):Defx P w K mg base "_law_walk" 2 ["_law_cells"] (spWalkC K):=by
 refine S.okx sc_Z41 bi_Z41 (fun vs H Q E h=>by revert h;walk_at "len") (fun f cdv A outer s H vs Q E hr h=>?_)
 refine⟨_,PSs.nox (pss_cons (ps_if (pt_not (pt_val (pe_callB call_isi (by rfl) T.n_isinstance PyProof.Rows.boot_isinstance (pa_cons (pv 0) (pa_cons (pe_bltn (v:=.ty "list") (by rfl) T.n_list PyProof.Rows.boot_list rfl) pa_nil))))) (pss_one (ps_ret pe_non)) pss_nil) (pss_cons (ps_set (i:=1) sc_Z41.nd rfl (Or.inl rfl) (pe_lst pa_nil)) (pss_cons (ps_set (i:=2) sc_Z41.nd rfl (Or.inl rfl) pe_int) (pss_cons (ps_while PassesOwn.never (pt_cmpR op_lt (pv 2) (pe_callB call_len_seq (by rfl) T.n_len PySem.boot_len (pa_cons (pv 0) pa_nil)) (nomark _)) (pss_cons (ps_if (pt_not (pt_val (pe_defq D_Z33 hr (by rfl) (pa_cons (pe_ix ix_list (pv 0) (pv 2) (fun _ _=>rfl)) pa_nil)))) (pss_one (ps_ret pe_non)) pss_nil) (pss_cons (ps_set (i:=3) sc_Z41.nd rfl (Or.inl rfl) (pe_op op_fdiv (pe_ix ix_list (pv 0) (pv 2) (fun _ _=>rfl)) pe_int)) (pss_cons (ps_set (i:=4) sc_Z41.nd rfl (Or.inl rfl) (pe_cmpR op_eq (pe_op op_mod (pe_ix ix_list (pv 0) (pv 2) (fun _ _=>rfl)) pe_int) pe_int (nomark _))) (pss_cons (ps_if (PW.pt (pw_or (pt_cmpR op_lt (pv 3) pe_int (nomark _)) (pw_or (pt_cmpR op_gt (pe_op op_add (pv 2) (pv 3)) (pe_callB call_len_seq (by rfl) T.n_len PySem.boot_len (pa_cons (pv 0) pa_nil)) (nomark _)) (pw_or1 (PW.pt (pw_and (pt_truth (pv 4) (fun _=>rfl)) (pw_and1 (pt_cmpR op_lt (pv 3) pe_int (nomark _))))))))) (pss_one (ps_ret pe_non)) pss_nil) (pss_cons (ps_if (PW.pt (pw_or (pt_not (pt_val (pe_defq D_Z33 hr (by rfl) (pa_cons (pe_ix ix_list (pv 0) (pe_op op_sub (pe_op op_add (pv 2) (pv 3)) pe_int) (fun _ _=>rfl)) pa_nil)))) (pw_or1 (pt_cmpR op_ne (pe_ix ix_list (pv 0) (pe_op op_sub (pe_op op_add (pv 2) (pv 3)) pe_int) (fun _ _=>rfl)) (pe_ix ix_list (pv 0) (pv 2) (fun _ _=>rfl)) (nomark _))))) (pss_one (ps_ret pe_non)) pss_nil) (pss_cons (ps_expr (pe_bm PySem.F.plainAttrs_list PySem.F.slot_list_append PySem.F.type_list_append mt_append (pv 1) (pa_cons (pe_tup (pa_cons (pv 2) (pa_cons (pv 3) (pa_cons (pv 4) pa_nil)))) pa_nil))) (pss_one (ps_set (i:=2) sc_Z41.nd rfl (Or.inl rfl) (pe_op op_add (pv 2) (pv 3))))))))))) (pss_one (ps_ret (pv 1))))))),?_⟩
 obtain⟨r,cs,ps,rfl,hR,hc,mk,hz,q⟩:=h
 walk_at "go"
 intro p hp
 walk_at "go"
 refine⟨WkW r p cs.length ps H,⟨_,[],ps,[],0,none,none,rfl,rfl,rfl,rfl,hc,Same.new hp,upd_same,PcsAt.nil⟩,?_⟩
 rintro m σ H1 ⟨ds,rs,us,k,x3,x4,rfl,rfl,eps,c1,c2,s1,hp1,pu⟩
 have hul:=pu.1
 have hS1:SqL K H1 r (cs.map V.int):=SqL.of (s1 r _ hR)
 have k0:=c1.le
 walk_at "go"
 refine r_ifd (fun hlt=>?_) (fun hlt=>?_)
 · refine⟨fun σ' H''=>∃m',m'<((cs.length:Int)-k).toNat∧WkW r p cs.length ps H m' σ' H'',fun σ' H'' hw=>hw,?_⟩
   cases rs with
   | nil =>
     have:k=cs.length:=c2
     omega
   | cons z r2 =>
     obtain⟨ea,z1,z3,c3⟩:=c2
     have hle:=c3.le
     obtain⟨m1,m2⟩:=mk z (by rw[eps];simp)
     have g1:=getD_of m1
     have g2:=getD_of m2
     rw[ea] at g1 g2
     have e1:cs.getD k.toNat 0=mkOf z.l z.v:=g1
     have e2:cs.getD (k+z.l-1).toNat 0=mkOf z.l z.v:=g2
     have hkl:ds.length≤1200:=by omega
     walk_at "g1"
     walk_at "g1"
     rw[e1,mk_long]
     walk_at "g1"
     rw[e1,mk_live]
     walk_at "go"
     refine r_ifb (fun hv=>?_) (fun hv=>?_)
     all_goals
       try have z3:=z3 hv
       walk_at "go"
       intro t ht
       walk_at "go"
       obtain⟨g1,g2⟩:=PcsAt.push (z:=z) pu hp1 ht
       rw[ea] at g2
       refine⟨_,?_,ds++[z],r2,_,k+z.l,_,_,rfl,rfl,by rw[eps];simp,?_,c3,(s1.put (s1.free ht)).put hp,upd_same,g2⟩
       · omega
       · have:=Chain.snoc (p:=z) (by rw[ea];exact c1) z1 (fun h=>by first | exact z3 h | exact z3)
         rwa [ea] at this
 · have er:rs=[]:=by
     cases rs with
     | nil=>rfl
     | cons z r2 =>
       have:=c2.le
       rw[List.length_cons] at this
       omega
   rw[er,List.append_nil] at eps
   walk_at "go"
   rw[←eps] at pu
   exact q p us H1 hp s1 hp1 pu
theorem least_ex (c:Int)(h:1≤c):∃k,Least k (c+2):=by
 have:=least_bits (c:=(c+1).toNat) (by omega)
 rw[show (((c+1).toNat:Nat):Int)+1=c+2 by omega] at this
 exact⟨_,this⟩
theorem seq_at {K:PySem.W.Frag}{H H':Hp}{a:Addr}{xs:List V}(h:SqL K H a xs)(k:∀o,H a=some o→H' a=some o):SqL K H' a xs:=by
 rcases h with h | h
 · rcases h with h | ⟨o,h⟩
   · exact .inl (.inl (k _ h))
   · exact .inl (.inr ⟨o,k _ h⟩)
 · exact .inr h
theorem valV_mem {kvs:List (Key×V)}(nd:(kvs.map (·.1)).Nodup):∀{kv:Key×V},kv∈kvs→valV kvs kv.1=some kv.2:=by
 induction kvs with
 | nil=>intro kv h;cases h
 | cons p r ih =>
   intro kv h
   rw[List.map_cons] at nd
   obtain⟨n1,n2⟩:=List.nodup_cons.mp nd
   rcases List.mem_cons.mp h with g | g
   · subst g
     exact valV_pos rfl
   · rw[valV_neg (fun e=>n1 (by rw[e];exact List.mem_map.mpr ⟨kv,g,rfl⟩))]
     exact ih n2 g
theorem valV_no {kvs:List (Key×V)}{k:Key}(h:∀kv∈kvs,kv.1≠k):valV kvs k=none:=by
 induction kvs with
 | nil=>rfl
 | cons p r ih =>
   rw[valV_neg (h p List.mem_cons_self)]
   exact ih fun kv hk=>h kv (List.mem_cons_of_mem _ hk)
theorem dropK_is {kvs:List (Key×V)}{k:Key}{kv:Key×V}(h:kv∈dropK kvs k):kv∈kvs∧kv.1≠k:=by
 obtain⟨h1,h2⟩:=List.mem_filter.mp h
 exact⟨h1,by simpa using h2⟩
def EnA (cs:List Int)(H:Hp)(v:V)(z:Pc)(m:Nat):Prop:=∃(t d:Addr) (c:Int) (ks:List (Key×V)),v = .ref t∧H t=some (.tup [.int c,.ref d])∧H d=some (.dK ks)∧1≤c∧c+2≤z.l∧z.l<2*(c+2)∧(ks.map (·.1)).Nodup∧ks.length≤m ∧
 ∀q∈ks,∃(i n:Int),q=(.inl i,.int n)∧0≤i∧i<z.l-2∧cs[(z.a+1+i).toNat]?=some n
structure HhS (cs:List Int)(ps:List Pc)(kd:Addr)(kvs:List (Key×V))(m:Nat)(H:Hp):Prop where
 hd:H kd=some (.dK kvs)
 nd:(kvs.map (·.1)).Nodup
 rw:∀kv∈kvs,∃z,kv.1 = .inl (z.a+1)∧z∈ps∧z.v=true∧EnA cs H kv.2 z m
 ap:∀kv∈kvs,∀kv'∈kvs,∀(t t' d:Addr) (c c':Int),kv.2 = .ref t→H t=some (.tup [.int c,.ref d])→kv'.2 = .ref t'→H t'=some (.tup [.int c',.ref d])→kv=kv'
 nk:∀kv∈kvs,∀(t:Addr) (c:Int),kv.2 = .ref t→H t≠some (.tup [.int c,.ref kd])
 fw:kvs.length≤m
 sj:∀z∈ps,z.v=true→∃kv∈kvs,kv.1 = .inl (z.a+1)
theorem HhS.same {cs:List Int}{ps:List Pc}{kd:Addr}{kvs:List (Key×V)}{m:Nat}{H H':Hp}(h:HhS cs ps kd kvs m H)(s:Same H H'):HhS cs ps kd kvs m H':=by
 have tt:∀kv∈kvs,∀(t:Addr) (us:List V),kv.2 = .ref t→H' t=some (.tup us)→H t=some (.tup us):=fun kv hk t us e h'=>by
   obtain⟨z,_,_,_,t0,d,c,ks,e0,h1,_⟩:=h.rw kv hk
   rw[e] at e0
   cases e0
   have:=s t _ h1
   rw[this] at h'
   rw[h1]
   exact h'
 refine⟨s kd _ h.hd,h.nd,fun kv hk=>?_,fun kv hk kv' hk' t t' d c c' e1 h1 e2 h2=>h.ap kv hk kv' hk' t t' d c c' e1 (tt kv hk t _ e1 h1) e2 (tt kv' hk' t' _ e2 h2),fun kv hk t c e h1=>h.nk kv hk t c e (tt kv hk t _ e h1),h.fw,h.sj⟩
 obtain⟨z,g1,g2,g3,t,d,c,ks,e0,h1,h2,r⟩:=h.rw kv hk
 exact⟨z,g1,g2,g3,t,d,c,ks,e0,s t _ h1,s d _ h2,r⟩
theorem sorted_same {xs ys ns ms:List Int}(h:∀k,k∈ns↔k∈ms)(n1:ns.Nodup)(n2:ms.Nodup)(p1:xs.Perm ns)(p2:ys.Perm ms)(s1:xs.Pairwise (·≤·))(s2:ys.Pairwise (·≤·)):xs=ys:=by
 have hp:xs.Perm ys:=by
   refine List.perm_iff_count.mpr fun a=>?_
   rw[p1.count_eq,p2.count_eq,n1.count,n2.count]
   by_cases g:a∈ns
   · rw[if_pos g,if_pos ((h a).mp g)]
   · rw[if_neg g,if_neg (fun w=>g ((h a).mpr w))]
 exact List.Perm.eq_of_pairwise (fun a b _ _ h1 h2=>by omega) s1 s2 hp
def spNum:Sp:=fun vs H Q _=>∃c:Int,vs=[.int c]∧∀n:Int,Q (.int n) H
theorem d_Z26 (S:Src K mg "_law_number" s_Z26)(T:Txt K mg Y0 Y8 Y3 Y2 Y6 Y9 Y1 Y7 Y5 Y4 W0_ W1_) :Defx P w K mg base "_law_number" 1 ["_law_cell"] (spNum):=by
 refine S.okx sc_Z26 bi_Z26 (fun vs H Q E h=>by revert h;walk_at "len") (fun f cdv A outer s H vs Q E hr h=>?_)
 refine⟨_,PSs.nox (pss_cons (ps_if (pt_cmpR op_eq (pe_op op_mod (pv 0) pe_int) pe_int (nomark _)) (pss_one (ps_ret (pe_op op_mod (pe_op op_fdiv (pv 0) pe_int) pe_int))) pss_nil) (pss_one (ps_ret (pe_op op_sub (pe_op op_mod (pe_op op_mul (pv 0) pe_int) (pe_op op_pow pe_int pe_int)) (pe_op op_pow pe_int pe_int))))),?_⟩
 obtain⟨c,rfl,q⟩:=h
 walk_at "go"
 refine r_ifd (fun h1=>?_) (fun h1=>?_)
 · walk_at "go"
   exact q _
 · walk_at "go"
   exact q _
def lgs (ps:List Pc):List (Key×V):=(ps.filter fun z=>z.v).map fun z=>(.inl (z.a+1),.int z.l)
theorem lgs_take {ps:List Pc}{i:Nat}{z:Pc}(h:ps[i]?=some z):lgs (ps.take (i+1))=lgs (ps.take i)++(if z.v=true then [(.inl (z.a+1),.int z.l)] else []):=by
 unfold lgs
 rw[List.take_add_one,h,List.filter_append,List.map_append]
 congr 1
 simp only [Option.toList_some,List.filter_cons,List.filter_nil]
 split <;> rfl
def PrA (H:Hp)(us:List V)(qs:List (Key×V)):Prop:=us.length=qs.length∧∀(j:Nat) (q:Key×V),qs[j]?=some q→∃t,us[j]?=some (.ref t)∧H t=some (.tup [kV q.1,q.2])
def PrW (H1:Hp)(ps:List Pc)(D:Addr)(i:Nat)(ys:List V)(H2:Hp):Prop:=Same H1 H2∧H2 D=some (.lst ys)∧H1 D=none∧PrA H2 ys (lgs (ps.take i))∧ys.length≤i
theorem PrA.snoc {H H':Hp}{us:List V}{qs:List (Key×V)}{t:Addr}{q:Key×V}(h:PrA H us qs)(k:∀b xs,H b=some (.tup xs)→H' b=some (.tup xs))(ht:H' t=some (.tup [kV q.1,q.2])):PrA H' (us++[.ref t]) (qs++[q]):=by
 refine⟨by rw[List.length_append,List.length_append,h.1];rfl,fun j q' hq=>?_⟩
 rcases Nat.lt_trichotomy j qs.length with g | g | g
 · rw[List.getElem?_append_left g] at hq
   obtain⟨t',h1,h2⟩:=h.2 j q' hq
   exact⟨t',by rw[List.getElem?_append_left (by rw[h.1];exact g)];exact h1,k _ _ h2⟩
 · subst g
   rw[List.getElem?_append_right (Nat.le_refl _),Nat.sub_self] at hq
   have e:q=q':=Option.some.inj hq
   subst e
   exact⟨t,by rw[List.getElem?_append_right (by rw[h.1];exact Nat.le_refl _),h.1,Nat.sub_self];rfl,ht⟩
 · rw[List.getElem?_eq_none (by rw[List.length_append,List.length_singleton];omega)] at hq
   cases hq
def GdW (f0 f1 f2 f3:Option V)(H:Hp)(i:Nat)(σ:L2.St)(H':Hp):Prop:=Same H H'∧∃x4 x5 x6:Option V,σ=[f0,f1,f2,f3,x4,x5,x6,none,none,none,none]
def GhW (f:List (Option V))(H:Hp)(i:Nat)(σ:L2.St)(H':Hp):Prop:=Same H H'∧∃x8 x9 x10:Option V,σ=f++[x8,x9,x10]
def GiW (f:List (Option V))(H:Hp)(i:Nat)(σ:L2.St)(H':Hp):Prop:=Same H H'∧∃x9 x10:Option V,σ=f++[x9,x10]
theorem and_pow:∀m:Nat,m<9→Builtin.bitAnd ((2:Int)^m) (2^m-1)=0:=by decide
theorem q_small2 {N m q:Nat}(hN:N≤8)(hm:m≤N)(h1:2^m*(q:Int)+2^m≤2^N):m<9∧q<257:=by
 have h2:=pow_mono hN
 have h3:(2:Int)^8=256:=by decide
 have p1:=pw1 m
 have h4:(q:Int)≤2^m*(q:Int):=by
   have:=Int.mul_le_mul_of_nonneg_right p1 (show (0:Int)≤(q:Int) by omega)
   omega
 omega
def lvP (ps:List Pc):List Int:=(ps.filter fun z=>z.v).map fun z=>z.a+1
theorem lgs_keys (ps:List Pc):(lgs ps).map (·.1)=(lvP ps).map Sum.inl:=by
 unfold lgs lvP
 rw[List.map_map,List.map_map]
 rfl
theorem lvP_nodup {ps:List Pc}{n:Int}(c:Chain 0 ps n):(lvP ps).Nodup:=by
 have h:=nodup_map_inj (f:=fun a:Int=>a+1) (fun x y e=>by have e:x+1=y+1:=e;omega) (nodup_filter_map (g:=fun z:Pc=>z.v) (chain_nodup c))
 rw[List.map_map] at h
 exact h
theorem keys_ints {kvs:List (Key×V)}(h:∀kv∈kvs,∃n:Int,kv.1 = .inl n):∃ns:List Int,kvs.map (·.1)=ns.map Sum.inl:=by
 induction kvs with
 | nil=>exact⟨[],rfl⟩
 | cons p r ih =>
   obtain⟨n,e⟩:=h p List.mem_cons_self
   obtain⟨ns,e2⟩:=ih fun kv hk=>h kv (List.mem_cons_of_mem _ hk)
   exact⟨n::ns,by rw[List.map_cons,List.map_cons,e,e2]⟩
theorem inl_nodup {ns:List Int}(h:(ns.map (Sum.inl:Int→Key)).Nodup):ns.Nodup:=by
 induction ns with
 | nil=>exact List.nodup_nil
 | cons n r ih =>
   rw[List.map_cons] at h
   obtain⟨h1,h2⟩:=List.nodup_cons.mp h
   exact List.nodup_cons.mpr ⟨fun g=>h1 (List.mem_map.mpr ⟨n,g,rfl⟩),ih h2⟩
def spGood (C:Addr):Sp:=fun vs H Q _=>∃(x dx a kd:Addr) (N m:Nat) (ps:List Pc) (cs:List Int) (kvs:List (Key×V)),vs=[.ref x,.ref kd]∧HvS C x dx a N ps cs H∧NbF ps∧HhS cs ps kd kvs m H∧m≤63 ∧
 ∀(lp:Addr) (us:List V) (H':Hp),Same H H'→H' lp=some (.lst us)→PcsAt H' us ps→Q (.ref lp) H'
theorem d_Z38 (S:Src K mg "_law_good" s_Z38)(T:Txt K mg Y0 Y8 Y3 Y2 Y6 Y9 Y1 Y7 Y5 Y4 W0_ W1_)(D_Z45:Methx P w K mg base Y4 "cells" 1 ["self"] [] (spCellsK Y4))(D_Z41:Defx P w K mg base "_law_walk" 2 ["_law_cells"] (spWalkC K))(D_Z33:Defx P w K mg base "_law_whole" 1 ["_law_found"] (spWhole)):Defx P w K mg base "_law_good" 3 ["_law_keeper","_law_held"] (spGood Y4):=by
 refine S.okx sc_Z38 bi_Z38 (fun vs H Q E h=>by revert h;walk_at "len") (fun f cdv A outer s H vs Q E hr h=>?_)
 refine⟨_,PSs.nox (pss_cons (ps_set (i:=2) sc_Z38.nd rfl (Or.inl rfl) (pe_methp0 D_Z45 pass_e0 hr (pv 0))) (pss_cons (ps_set (i:=3) sc_Z38.nd rfl (Or.inl rfl) (pe_defq D_Z41 hr (by rfl) (pa_cons (pv 2) pa_nil))) (pss_cons (ps_if (pt_cmpR op_isN (pv 3) pe_non (nomark _)) (pss_one (ps_ret pe_non)) pss_nil) (pss_cons (ps_for PassesOwn.never rfl (pi_list (pv 3)) (pg_tup rfl (pgs_cons (pg_name (i:=4) sc_Z38.nd rfl (Or.inl rfl)) (pgs_cons (pg_name (i:=5) sc_Z38.nd rfl (Or.inl rfl)) (pgs_cons (pg_name (i:=6) sc_Z38.nd rfl (Or.inl rfl)) pgs_nil)))) (pss_one (ps_if (PW.pt (pw_or (pt_cmpR op_ne (pe_op op_and (pv 5) (pe_op op_sub (pv 5) pe_int)) pe_int (nomark _)) (pw_or (pt_cmpR op_ne (pe_op op_mod (pv 4) (pv 5)) pe_int (nomark _)) (pw_or1 (PW.pt (pw_and (pt_not (pt_truth (pv 6) (fun _=>rfl))) (pw_and1 (pt_cmpR (op_inP hr.units) (pe_tup (pa_cons (pe_op op_xor (pv 4) (pv 5)) (pa_cons (pv 5) (pa_cons pe_bl pa_nil)))) (pv 3) rfl)))))))) (pss_one (ps_ret pe_non)) pss_nil))) (pss_cons (ps_set (i:=7) sc_Z38.nd rfl (Or.inl rfl) (pe_callTy (call_dictL rfl) (by rfl) T.n_dict PyProof.Rows.boot_dict (pa_cons (pe_compN ["_law_piece"] rfl (pi_list (pv 3)) (fun cl C s₀ H₀ ex=>(pg_name (i:=0) (show ((["_law_piece"]:List Str)++([]:List Str)).Nodup by decide +kernel) rfl (Or.inl rfl))) (fun cl C s₀ H₀ ex=>(pts_one (pt_truthK (K:=K) rfl (pe_ix (ix_tupK (K:=K) rfl) (pv 0) pe_int (fun _ _=>rfl)) (fun _=>rfl)))) (fun cl C s₀ H₀ ex=>(pe_tup (pa_cons (pe_op op_add (pe_ix (ix_tupK (K:=K) rfl) (pv 0) pe_int (fun _ _=>rfl)) pe_int) (pa_cons (pe_ix (ix_tupK (K:=K) rfl) (pv 0) pe_int (fun _ _=>rfl)) pa_nil)))) ) pa_nil))) (pss_cons (ps_if (pt_cmpR (op_neL hr.units) (pe_callB (call_sortedD rfl) (by rfl) T.n_sorted PyProof.Rows.boot_sorted (pa_cons (pv 7) pa_nil)) (pe_callB (call_sortedD rfl) (by rfl) T.n_sorted PyProof.Rows.boot_sorted (pa_cons (pv 1) pa_nil)) (nomark _)) (pss_one (ps_ret pe_non)) pss_nil) (pss_cons (ps_forD PassesOwn.never rfl (pv 1) (pg_name (i:=8) sc_Z38.nd rfl (Or.inl rfl)) (pss_cons (ps_if (pt_not (pt_chain op_le op_lt (pe_op op_add (pe_ix ix_tup (pe_dget (units1 hr.units) (pv 1) (pv 8) (fun _ _=>rfl)) pe_int (fun _ _=>rfl)) pe_int) (pe_dget (units1 hr.units) (pv 7) (pv 8) (fun _ _=>rfl)) (pe_op op_mul pe_int (pe_op op_add (pe_ix ix_tup (pe_dget (units1 hr.units) (pv 1) (pv 8) (fun _ _=>rfl)) pe_int (fun _ _=>rfl)) pe_int)))) (pss_one (ps_ret pe_non)) pss_nil) (pss_one (ps_forI PassesOwn.never rfl (pe_bm0 PySem.F.plainAttrs_dict PySem.F.slot_dict_items PySem.F.type_dict_items mt_items (pe_ix ix_tup (pe_dget (units1 hr.units) (pv 1) (pv 8) (fun _ _=>rfl)) pe_int (fun _ _=>rfl))) (pg_tup rfl (pgs_cons (pg_name (i:=9) sc_Z38.nd rfl (Or.inl rfl)) (pgs_cons (pg_name (i:=10) sc_Z38.nd rfl (Or.inl rfl)) pgs_nil))) (pss_one (ps_if (PW.pt (pw_or (pt_not (pt_val (pe_defq D_Z33 hr (by rfl) (pa_cons (pe_ix ix_list (pv 2) (pe_op op_add (pv 8) (pv 9)) (fun _ _=>rfl)) pa_nil)))) (pw_or1 (pt_cmpR op_ne (pe_ix ix_list (pv 2) (pe_op op_add (pv 8) (pv 9)) (fun _ _=>rfl)) (pv 10) (nomark _))))) (pss_one (ps_ret pe_non)) pss_nil)))))) (pss_one (ps_ret (pv 3)))))))))),?_⟩
 obtain⟨x,dx,a,kd,N,m,ps,cs,kvs,rfl,S,nb,D,hm,q⟩:=h
 have hx:=S.hx
 have hz:=S.hz
 have hple:=S.ch.le
 walk_at "go"
 refine⟨x,dx,a,cs,rfl,hx,S.ha,fun pc H1 npc s1 hpc=>?_⟩
 walk_at "go"
 refine⟨pc,cs,ps,rfl,hpc,S.ch,S.mm,by omega,fun lp us H2 nlp s2 hlp pa=>?_⟩
 have hul:=pa.1
 have s02:=s1.trans s2
 have hpc2:=s2 pc _ hpc
 walk_at "go"
 refine⟨lp,rfl,⟨_,SqL.of hlp⟩,for_list (K:=K) (a:=lp) (xs:=us) (GdW (some (.ref x)) (some (.ref kd)) (some (.ref pc)) (some (.ref lp)) H2) ⟨Same.refl _,none,none,none,rfl⟩ (fun i σ H3 _ ⟨h,_⟩=>SqL.of (h lp _ hlp)) ?_ ?_⟩
 · rintro i y σ H3 hi ⟨s3,x4,x5,x6,rfl⟩
   have hil:i<us.length:=(List.getElem?_eq_some_iff.mp hi).1
   obtain⟨z,hzi⟩:∃z,ps[i]?=some z:=⟨_,List.getElem?_eq_getElem (by omega)⟩
   obtain⟨t,et,hT⟩:=pa.2 i z hzi
   have ey:y = .ref t:=Option.some.inj (hi.symm.trans et)
   subst ey
   have hT3:=s3 t _ hT
   have hzm:=List.mem_of_getElem? hzi
   obtain⟨mz,qz,el,ea⟩:=S.al z hzm
   obtain⟨z0,z1,_,z4⟩:=S.hc.mem z hzm
   have hmN:mz≤N:=pow_le_of (by rw[←el];omega)
   have hN:=S.hN
   obtain⟨m9,q9⟩:=q_small2 (m:=mz) (q:=qz) hN hmN (by rw[←ea,←el];exact z4)
   have e1:Builtin.bitAnd z.l (z.l-1)=0:=by rw[el];exact and_pow mz m9
   have e2:z.a%z.l=0:=by rw[el,ea];exact Int.mul_emod_right _ _
   have e3:Builtin.bitXor z.a z.l=bud mz qz:=by rw[el,ea];exact xor_bud mz m9 qz q9
   have hlp3:=s3 lp _ hlp
   walk_at "go"
   refine r_ifb (fun hv=>?_) (fun hv=>?_)
   · walk_at "go"
     exact⟨s3,_,_,_,rfl⟩
   · walk_at "go"
     rw[e3]
     intro t2 nt2
     have s4:=s3.put (o:=.tup [.int (bud mz qz),.int z.l,.bl false]) (s3.free nt2)
     have ht4:upd H3 t2 (.tup [.int (bud mz qz),.int z.l,.bl false]) t2=some (.tup [.int (bud mz qz),.int z.l,.bl false]):=upd_same
     generalize upd H3 t2 (.tup [.int (bud mz qz),.int z.l,.bl false])=H4 at s4 ht4 ⊢
     walk_at "go"
     refine⟨t2,lp,us,ps,⟨bud mz qz,z.l,false⟩,rfl,rfl,ht4,s4 lp _ hlp,pa.same s4,?_⟩
     have hno:(⟨bud mz qz,z.l,false⟩:Pc) ∉ ps:=by
       rw[el]
       refine nb mz qz ?_
       have:z=⟨2^mz*(qz:Int),2^mz,false⟩:=by
         obtain⟨za,zl,zv⟩:=z
         have el:zl=2^mz:=el
         have ea:za=2^mz*(qz:Int):=ea
         have hv:zv=false:=hv
         rw[el,ea,hv]
       rw[←this]
       exact hzm
     rw[in_iff,decide_eq_false hno]
     walk_at "go"
     exact⟨s4,_,_,_,rfl⟩
 rintro σ H3 ⟨s3,x4,x5,x6,rfl⟩
 have hlp3:=s3 lp _ hlp
 have pa3:=pa.same s3
 have hpc3:=s3 pc _ hpc2
 have s03:=s02.trans s3
 walk_at "go"
 refine⟨lp,rfl,⟨_,SqL.of hlp3⟩,compH_list (K:=K) (a:=lp) (xs:=us) (PrW H3 ps) (fun D hD=>⟨Same.new hD,upd_same,hD,⟨rfl,fun j q h=>by simp [lgs] at h⟩,Nat.le_refl _⟩) (fun D i ys H2 _ h=>SqL.of (h.1 lp _ hlp3)) ?_ ?_⟩
 · rintro D2 i y ys H4 hD hi ⟨s4,hD4,_,pr,hyl⟩ τ hτ
   have hil:i<us.length:=(List.getElem?_eq_some_iff.mp hi).1
   obtain⟨z,hzi⟩:∃z,ps[i]?=some z:=⟨_,List.getElem?_eq_getElem (by omega)⟩
   obtain⟨t,et,hT⟩:=pa3.2 i z hzi
   have ey2:y = .ref t:=Option.some.inj (hi.symm.trans et)
   subst ey2
   have hT4:=s4 t _ hT
   have ef:=lgs_take hzi
   match τ,hτ with
   | [τ0],_ =>
     walk_at "go"
     refine⟨⟨[_],rfl,rfl⟩,?_⟩
     walk_at "go"
     refine r_ifb (fun hv=>?_) (fun hv=>?_)
     · walk_at "go"
       intro t2 nt2
       rw[if_pos hv] at ef
       refine⟨look_put nt2 hD4,small4000 (by omega),nx_mk hil ⟨(s4.put (s4.free nt2)).put hD,upd_same,hD,?_,by rw[List.length_append,List.length_singleton];omega⟩⟩
       rw[ef]
       have hne:t2≠D2:=fun w=>by rw[w,hD4] at nt2;cases nt2
       exact pr.snoc (q:=(.inl (z.a+1),.int z.l)) (fun b xs e=>look_ne (fun w=>by rw[w,hD4] at e;cases e) (look_ne (fun w=>by rw[w,nt2] at e;cases e) e)) (look_ne hne upd_same)
     · walk_at "go"
       rw[if_neg (by rw[hv];exact Bool.false_ne_true),List.append_nil] at ef
       exact nx_mk hil ⟨s4,hD4,hD,by rw[ef];exact pr,by omega⟩
 rintro dl ys H4 hD ⟨s4,hD4,_,pr,hyl⟩
 rw[List.take_of_length_le (by omega)] at pr
 have lnd:=lvP_nodup S.hc
 have hlk:=lgs_keys ps
 have hlive:(ps.filter fun z=>z.v).length=kvs.length:=lives_len S.hc D.nd (fun kv hk=>let ⟨z,e,h3,h4,_⟩:=D.rw kv hk;⟨z,h3,h4,e⟩) D.sj
 have hlgl:(lgs ps).length=kvs.length:=by unfold lgs;rw[List.length_map];exact hlive
 have hlvl:(lvP ps).length=kvs.length:=by unfold lvP;rw[List.length_map];exact hlive
 have hfw:=D.fw
 walk_at "go"
 refine⟨dl,ys,lgs ps,rfl,hD4,pr.1,pr.2,by rw[hlk];exact nodup_map_inj (fun x y e=>Sum.inl.inj e) lnd,Nat.le_of_lt (small4000 (by omega)),fun ld nld=>?_⟩
 have s5:Same H4 (upd H4 ld (.dK (lgs ps))):=Same.new nld
 have hld5:upd H4 ld (.dK (lgs ps)) ld=some (.dK (lgs ps)):=upd_same
 generalize upd H4 ld (.dK (lgs ps))=H5 at s5 hld5 ⊢
 have s05:=s03.trans (s4.trans s5)
 have D5:=D.same s05
 walk_at "go"
 refine⟨ld,lgs ps,lvP ps,rfl,hld5,hlk,by omega,fun d1 ms1 nd1 p1 o1=>?_⟩
 have s6:Same H5 (upd H5 d1 (.lst (ms1.map V.int))):=Same.new nd1
 have hd16:upd H5 d1 (.lst (ms1.map V.int)) d1=some (.lst (ms1.map V.int)):=upd_same
 generalize upd H5 d1 (.lst (ms1.map V.int))=H6 at s6 hd16 ⊢
 have D6:=D5.same s6
 obtain⟨ns2,ek2⟩:=keys_ints (kvs:=kvs) fun kv hk=>let ⟨z,e,_⟩:=D.rw kv hk;⟨_,e⟩
 have hn2l:ns2.length=kvs.length:=by have:=congrArg List.length ek2;rw[List.length_map,List.length_map] at this;omega
 have nd2:=inl_nodup (by rw[←ek2];exact D.nd)
 walk_at "go"
 refine⟨kd,kvs,ns2,rfl,D6.hd,ek2,by omega,fun d2 ms2 nd2' p2 o2=>?_⟩
 have s7:Same H6 (upd H6 d2 (.lst (ms2.map V.int))):=Same.new nd2'
 have hd27:upd H6 d2 (.lst (ms2.map V.int)) d2=some (.lst (ms2.map V.int)):=upd_same
 generalize upd H6 d2 (.lst (ms2.map V.int))=H7 at s7 hd27 ⊢
 have ems:ms1=ms2:=sorted_same (fun k=>by
   constructor
   · intro h
     obtain⟨z,hz,ez⟩:=List.mem_map.mp h
     obtain⟨h1,h2⟩:=List.mem_filter.mp hz
     obtain⟨kv,h3,h4⟩:=D.sj z h1 h2
     have:kv.1∈ns2.map (Sum.inl:Int→Key):=by rw[←ek2];exact List.mem_map.mpr ⟨kv,h3,rfl⟩
     obtain⟨n,h5,h6⟩:=List.mem_map.mp this
     rw[h4] at h6
     have:=Sum.inl.inj h6
     have ez:z.a+1=k:=ez
     rw[←ez,←this]
     exact h5
   · intro h
     have:(Sum.inl k:Key)∈kvs.map (·.1):=by rw[ek2];exact List.mem_map.mpr ⟨k,h,rfl⟩
     obtain⟨kv,h3,h4⟩:=List.mem_map.mp this
     obtain⟨z,e,h5,h6,_⟩:=D.rw kv h3
     rw[e] at h4
     exact List.mem_map.mpr ⟨z,List.mem_filter.mpr ⟨h5,h6⟩,Sum.inl.inj h4⟩) lnd nd2 p1 p2 o1 o2
 walk_at "go"
 refine⟨d1,d2,ms1,ms2,rfl,rfl,SqL.of (s7 d1 _ hd16),SqL.of hd27,?_⟩
 rw[decide_eq_true ems]
 have s57:=s6.trans s7
 have s07:=s05.trans s57
 have D7:=D.same s07
 have hkd7:=D7.hd
 have hld7:=s57 ld _ hld5
 have hpc7:=(s4.trans (s5.trans s57)) pc _ hpc3
 have hlp7:=(s4.trans (s5.trans s57)) lp _ hlp3
 have pa7:=pa3.same (s4.trans (s5.trans s57))
 have hldk:ld≠kd:=fun w=>by rw[w,(D.same (s03.trans s4)).hd] at nld;cases nld
 have hlnd:((lgs ps).map (·.1)).Nodup:=by rw[hlk];exact nodup_map_inj (fun x y e=>Sum.inl.inj e) lnd
 clear pr hD4 hyl hD s4 s5 s6 s7 hd16 hd27 nd1 nd2' nld p1 p2 o1 o2 D5 D6 s05 s57 hld5
 walk_at "go"
 intro NF
 walk_at "go"
 have hpk:pc≠kd:=fun w=>by rw[w,hkd7] at hpc7;cases hpc7
 have hlk2:lp≠kd:=fun w=>by rw[w,hkd7] at hlp7;cases hlp7
 refine⟨kd,kvs,rfl,hkd7,fun o nf=>for_dict nf (GhW [some (.ref x),some (.ref kd),some (.ref pc),some (.ref lp),x4,x5,x6,some (.ref ld)] (upd H7 kd (.frz o (.dK kvs)))) ⟨Same.refl _,_,_,_,rfl⟩ (fun i σ H ⟨h,_⟩=>h kd _ upd_same) ?_ ?_⟩
 · rintro i key v σ H8 hi ⟨s8,x8,x9,x10,rfl⟩
   have hkm:=List.mem_of_getElem? hi
   obtain⟨z,ek,hzm,hzv,t,d,c,ks,ev,ht,hd',hc1,hc2,hc3,knd,kln,hks⟩:=D7.rw _ hkm
   have ek:key = .inl (z.a+1):=ek
   have ev:v = .ref t:=ev
   subst ek ev
   obtain⟨z0,z1,z3,z4⟩:=S.ch.mem z hzm
   have hval:valV kvs (.inl (z.a+1))=some (.ref t):=valV_mem D7.nd hkm
   have hvl:valV (lgs ps) (.inl (z.a+1))=some (.int z.l):=valV_mem hlnd (kv:=(.inl (z.a+1),.int z.l)) (List.mem_map.mpr ⟨z,List.mem_filter.mpr ⟨hzm,hzv⟩,rfl⟩)
   have htk:t≠kd:=fun w=>by rw[w,hkd7] at ht;cases ht
   have hdk:d≠kd:=fun w=>D7.nk _ hkm t c rfl (by rw[←w];exact ht)
   have hfz:=s8 kd _ upd_same
   have ht8:=s8 t _ (look_ne htk ht)
   have hd8:=s8 d _ (look_ne hdk hd')
   have hld8:=s8 ld _ (look_ne hldk hld7)
   have hpc8:=s8 pc _ (look_ne hpk hpc7)
   have dg:∀{H':Hp},H' kd=some (.frz o (.dK kvs))→DGet H' kd (.int (z.a+1)) (some (.ref t)):=fun h=>by
     have:=dget_f (k:=.inl (z.a+1)) h
     rw[hval] at this
     exact this
   dsimp only [kV]
   simp only [List.cons_append,List.nil_append]
   walk_at "go"
   refine⟨kd,.ref t,rfl,dg hfz,?_⟩
   walk_at "go"
   refine⟨ld,.int z.l,rfl,(by have:=DGet.k (k:=.inl (z.a+1)) hld8;rw[hvl] at this;exact this),?_⟩
   walk_at "go"
   refine⟨kd,.ref t,rfl,dg hfz,?_⟩
   walk_at "go"
   intro NF2
   walk_at "go"
   refine⟨kd,.ref t,rfl,dg hfz,?_⟩
   walk_at "go"
   refine⟨d,ks,rfl,rfl,hd8,fun vw nvw=>?_⟩
   have s9:Same H8 (upd H8 vw (.ext fun h=>h.IsItemsView vw d)):=Same.new nvw
   have hvw:upd H8 vw (.ext fun h=>h.IsItemsView vw d) vw=some (.ext fun h=>h.IsItemsView vw d):=upd_same
   generalize upd H8 vw (.ext fun h=>h.IsItemsView vw d)=H9 at s9 hvw ⊢
   have hd9:=s9 d _ hd8
   have hpc9:=s9 pc _ hpc8
   have hpd:pc≠d:=fun w=>by rw[w,hd8] at hpc8;cases hpc8
   refine⟨vw,d,ks,rfl,hvw,hd9,fun o2 nf2=>for_items nf2 (GiW [some (.ref x),some (.ref kd),some (.ref pc),some (.ref lp),x4,x5,x6,some (.ref ld),some (.int (z.a+1))] (upd H9 d (.frz o2 (.dK ks)))) ⟨Same.refl _,_,_,rfl⟩ (fun i σ H ⟨h,_⟩=>h d _ upd_same) ?_ ?_⟩
   · rintro j k2 v2 t2 σ H10 hj ⟨s10,x9',x10',rfl⟩ nt2
     obtain⟨ii,nn,eq,i0,i1,hcs⟩:=hks _ (List.mem_of_getElem? hj)
     have e1:k2 = .inl ii:=congrArg Prod.fst eq
     have e2:v2 = .int nn:=congrArg Prod.snd eq
     subst e1 e2
     have s11:Same H10 (upd H10 t2 (.tup [.int ii,.int nn])):=Same.new nt2
     have ht2:upd H10 t2 (.tup [.int ii,.int nn]) t2=some (.tup [.int ii,.int nn]):=upd_same
     dsimp only [kV]
     generalize upd H10 t2 (.tup [.int ii,.int nn])=H11 at s11 ht2 ⊢
     have hpc11:=s11 pc _ (s10 pc _ (look_ne hpd hpc9))
     have eg:cs.getD (z.a+1+ii).toNat 0=nn:=by rw[List.getD_eq_getElem?_getD,hcs];rfl
     simp only [List.cons_append,List.nil_append]
     walk_at "go"
     exact⟨s10.trans s11,_,_,rfl⟩
   · rintro σ H10 ⟨s10,x9',x10',rfl⟩
     simp only [List.cons_append,List.nil_append]
     walk_at "go"
     have sk:Same H9 (upd H10 d (.dK ks)):=fun b u hb=>by
       by_cases g:b=d
       · rw[g,hd9] at hb
         rw[g,upd_same]
         exact hb
       · exact look_ne g (s10 b u (look_ne g hb))
     exact⟨s8.trans (s9.trans sk),_,_,_,rfl⟩
 · rintro σ H8 ⟨s8,x8,x9,x10,rfl⟩
   simp only [List.cons_append,List.nil_append]
   walk_at "go"
   have sk:Same H7 (upd H8 kd (.dK kvs)):=fun b u hb=>by
     by_cases g:b=kd
     · rw[g,hkd7] at hb
       rw[g,upd_same]
       exact hb
     · exact look_ne g (s8 b u (look_ne g hb))
   exact q lp us _ (s07.trans sk) (sk lp _ hlp7) (pa7.same sk)
def spToldH (C:Addr):Sp:=fun vs H Q _=>∃(x dx a kd:Addr) (N m:Nat) (ps:List Pc) (cs:List Int) (kvs:List (Key×V)) (c0:Int),vs=[.ref x,.ref kd,.int c0]∧HvS C x dx a N ps cs H∧HhS cs ps kd kvs m H∧m≤63∧∀H',Same H H'→Q (.bl true) H'
theorem key_at {kvs:List (Key×V)}{ns ms:List Int}{k:Nat}(ek:kvs.map (·.1)=ns.map Sum.inl)(p:ms.Perm ns)(hk:k<ms.length):∃kv∈kvs,kv.1 = .inl (ms.getD k 0):=by
 have h1:ms.getD k 0∈ns:=p.mem_iff.mp (by rw[List.getD_eq_getElem?_getD,List.getElem?_eq_getElem hk];exact List.getElem_mem hk)
 have h2:(Sum.inl (ms.getD k 0):Key)∈kvs.map (·.1):=by rw[ek];exact List.mem_map.mpr ⟨_,h1,rfl⟩
 obtain⟨kv,h3,h4⟩:=List.mem_map.mp h2
 exact⟨kv,h3,h4⟩
theorem d_Z39 (S:Src K mg "_law_told" s_Z39)(T:Txt K mg Y0 Y8 Y3 Y2 Y6 Y9 Y1 Y7 Y5 Y4 W0_ W1_)(D_Z47:Methx P w K mg base Y4 "many" 7 ["self","place"] [] (spMany Y4))(D_get:Methx P w K mg base Y4 "get" 9 ["self","place","k"] [] (spGetH Y4))(D_Z33:Defx P w K mg base "_law_whole" 1 ["_law_found"] (spWhole)):Defx P w K mg base "_law_told" 10 ["_law_keeper","_law_held","_law_cell"] (spToldH Y4):=by
 refine S.okx sc_Z39 bi_Z39 (fun vs H Q E h=>by revert h;walk_at "len") (fun f cdv A outer s H vs Q E hr h=>?_)
 refine⟨_,PSs.nox (pss_cons (ps_set (i:=3) sc_Z39.nd rfl (Or.inl rfl) (pe_callB (call_sortedD rfl) (by rfl) T.n_sorted PyProof.Rows.boot_sorted (pa_cons (pv 1) pa_nil))) (pss_cons (ps_if (pt_cmpR (op_eqL hr.units) (pv 3) (pe_lst pa_nil) (nomark _)) (pss_one (ps_ret pe_bl)) pss_nil) (pss_cons (ps_set (i:=4) sc_Z39.nd rfl (Or.inl rfl) (pe_ix ix_list (pv 3) (pe_op op_mod (pe_op op_mod (pe_op op_mul (pv 2) pe_int) pe_int) (pe_callB call_len_seq (by rfl) T.n_len PySem.boot_len (pa_cons (pv 3) pa_nil))) (fun _ _=>rfl))) (pss_cons (ps_set (i:=5) sc_Z39.nd rfl (Or.inl rfl) (pe_ix ix_tup (pe_dget (units1 hr.units) (pv 1) (pv 4) (fun _ _=>rfl)) pe_int (fun _ _=>rfl))) (pss_cons (ps_set (i:=6) sc_Z39.nd rfl (Or.inl rfl) (pe_methp D_Z47 pass_e0 hr (pv 0) (pa_cons (pv 4) pa_nil))) (pss_cons (ps_if (PW.pt (pw_or (pt_not (pt_val (pe_defq D_Z33 hr (by rfl) (pa_cons (pv 6) pa_nil)))) (pw_or1 (pt_cmpR op_lt (pv 6) (pe_ix ix_tup (pe_dget (units1 hr.units) (pv 1) (pv 4) (fun _ _=>rfl)) pe_int (fun _ _=>rfl)) (nomark _))))) (pss_one (ps_ret pe_bl)) pss_nil) (pss_cons (ps_if (pt_not (pt_truthD (pv 5) (fun _=>rfl))) (pss_one (ps_ret pe_bl)) pss_nil) (pss_cons (ps_set (i:=7) sc_Z39.nd rfl (Or.inl rfl) (pe_ix ix_list (pe_callB (call_sortedD rfl) (by rfl) T.n_sorted PyProof.Rows.boot_sorted (pa_cons (pv 5) pa_nil)) (pe_op op_mod (pe_op op_mod (pe_op op_mul (pv 2) pe_int) pe_int) (pe_callB call_lenD (by rfl) T.n_len PySem.boot_len (pa_cons (pv 5) pa_nil))) (fun _ _=>rfl))) (pss_cons (ps_set (i:=8) sc_Z39.nd rfl (Or.inl rfl) (pe_methp D_get pass_e0 hr (pv 0) (pa_cons (pv 4) (pa_cons (pv 7) pa_nil)))) (pss_one (ps_ret (pe_and (pe_defq D_Z33 hr (by rfl) (pa_cons (pv 8) pa_nil)) (pe_one (pe_cmpR op_eq (pv 8) (pe_dget (units1 hr.units) (pv 5) (pv 7) (fun _ _=>rfl)) (nomark _))))))))))))))),?_⟩
 obtain⟨x,dx,a,kd,N,m,ps,cs,kvs,c0,rfl,S,D,hm,q⟩:=h
 have hx:=S.hx
 have hz:=S.hz
 have hfw:=D.fw
 obtain⟨ns2,ek2⟩:=keys_ints (kvs:=kvs) fun kv hk=>let ⟨z,e,_⟩:=D.rw kv hk;⟨_,e⟩
 have hn2l:ns2.length=kvs.length:=by have:=congrArg List.length ek2;rw[List.length_map,List.length_map] at this;omega
 walk_at "go"
 refine⟨kd,kvs,ns2,rfl,D.hd,ek2,by omega,fun d1 ms nd1 p1 o1=>?_⟩
 have hml:ms.length=kvs.length:=by rw[p1.length_eq];exact hn2l
 have s1:Same H (upd H d1 (.lst (ms.map V.int))):=Same.new nd1
 have hd1:upd H d1 (.lst (ms.map V.int)) d1=some (.lst (ms.map V.int)):=upd_same
 generalize upd H d1 (.lst (ms.map V.int))=H1 at s1 hd1 ⊢
 walk_at "go"
 intro l0 nl0
 have s2:Same H1 (upd H1 l0 (.lst [])):=Same.new nl0
 have hl0:upd H1 l0 (.lst []) l0=some (.lst (([]:List Int).map V.int)):=upd_same
 generalize upd H1 l0 (.lst [])=H2 at s2 hl0 ⊢
 have hd12:=s2 d1 _ hd1
 have s02:=s1.trans s2
 refine⟨d1,l0,ms,[],rfl,rfl,SqL.of hd12,SqL.of hl0,?_⟩
 have S2:=S.same s02
 have D2:=D.same s02
 have hx2:=S2.hx
 have hkd2:=D2.hd
 walk_at "go"
 refine r_ifd (fun hE=>?_) (fun hE=>?_)
 · walk_at "go"
   exact q H2 s02
 have hpos:0<ms.length:=List.length_pos_iff.mpr hE
 have i0:=Int.emod_nonneg (c0*48271%30011) (show (ms.length:Int)≠0 by omega)
 have i1:=Int.emod_lt_of_pos (c0*48271%30011) (show (0:Int)<(ms.length:Int) by omega)
 obtain⟨kv,hkm,ekv⟩:=key_at ek2 p1 (k:=(c0*48271%30011%(ms.length:Int)).toNat) (by omega)
 obtain⟨z,ek,hzm,hzv,t,d,c,ks,ev,ht,hd',hc1,hc2,hc3,knd,kln,hks⟩:=D2.rw kv hkm
 have ep:ms.getD (c0*48271%30011%(ms.length:Int)).toNat 0=z.a+1:=by rw[ek] at ekv;exact(Sum.inl.inj ekv).symm
 have hval:valV kvs (.inl (z.a+1))=some (.ref t):=by have:=valV_mem D2.nd hkm;rw[ek,ev] at this;exact this
 have dg:∀{H':Hp},H' kd=some (.dK kvs)→DGet H' kd (.int (z.a+1)) (some (.ref t)):=fun h=>by
   have:=DGet.k (k:=.inl (z.a+1)) h
   rw[hval] at this
   exact this
 have hlm:(ms.map V.int).length=ms.length:=List.length_map _
 walk_at "gs"
 rw[ep]
 refine⟨kd,.ref t,rfl,dg hkd2,?_⟩
 walk_at "go"
 refine⟨x,dx,a,cs,ps,z,rfl,hx2,S2.ha,by omega,walk_of_marks S2.ch S2.mm,S2.ch,hzm,hzv,fun H3 s3=>?_⟩
 have S3:=S2.same s3
 have hx3:=S3.hx
 have hkd3:=s3 kd _ hkd2
 have ht3:=s3 t _ ht
 have hd3:=s3 d _ hd'
 walk_at "go"
 refine⟨kd,.ref t,rfl,dg hkd3,?_⟩
 walk_at "go"
 refine⟨d,ks,rfl,hd3,?_⟩
 cases hK:ks.isEmpty with
 | true =>
   walk_at "go"
   exact q H3 (s02.trans s3)
 | false =>
 have hkp:0<ks.length:=by
   cases ks with
   | nil=>cases hK
   | cons _ _=>exact Nat.succ_pos _
 obtain⟨ns3,ek3⟩:=keys_ints (kvs:=ks) fun kv hk=>let ⟨i,n,e,_⟩:=hks kv hk;⟨i,by rw[e]⟩
 have hn3l:ns3.length=ks.length:=by have:=congrArg List.length ek3;rw[List.length_map,List.length_map] at this;omega
 walk_at "go"
 refine⟨d,ks,ns3,rfl,hd3,ek3,by omega,fun d4 ms4 nd4 p4 o4=>?_⟩
 have hml4:ms4.length=ks.length:=by rw[p4.length_eq];exact hn3l
 have s4:Same H3 (upd H3 d4 (.lst (ms4.map V.int))):=Same.new nd4
 have hd4:upd H3 d4 (.lst (ms4.map V.int)) d4=some (.lst (ms4.map V.int)):=upd_same
 generalize upd H3 d4 (.lst (ms4.map V.int))=H4 at s4 hd4 ⊢
 have hdd4:=s4 d _ hd3
 have S4:=S3.same s4
 have hx4:=S4.hx
 walk_at "go"
 refine⟨d,ks,rfl,hdd4,?_⟩
 have j0:=Int.emod_nonneg (c0*40692%31337) (show (ks.length:Int)≠0 by omega)
 have j1:=Int.emod_lt_of_pos (c0*40692%31337) (show (0:Int)<(ks.length:Int) by omega)
 obtain⟨qv,hqm,eqv⟩:=key_at ek3 p4 (k:=(c0*40692%31337%(ks.length:Int)).toNat) (by omega)
 obtain⟨ii,nn,eq,i0',i1',hcs⟩:=hks qv hqm
 have ep2:ms4.getD (c0*40692%31337%(ks.length:Int)).toNat 0=ii:=by rw[eq] at eqv;exact(Sum.inl.inj eqv).symm
 have hval4:valV ks (.inl ii)=some (.int nn):=by have:=valV_mem knd hqm;rw[eq] at this;exact this
 have hlm4:(ms4.map V.int).length=ms4.length:=List.length_map _
 walk_at "go"
 rw[ep2]
 refine⟨x,dx,a,N,ps,cs,z,ii,rfl,S4,hzm,hzv,i0',i1',fun H5 s5=>?_⟩
 have eg:cs.getD (z.a+1+ii).toNat 0=nn:=by rw[List.getD_eq_getElem?_getD,hcs];rfl
 rw[eg]
 have hdd5:=s5 d _ hdd4
 walk_at "go"
 refine⟨d,.int nn,rfl,(by have:=DGet.k (k:=.inl ii) hdd5;rw[hval4] at this;exact this),?_⟩
 walk_at "go"
 rw[decide_eq_true rfl]
 exact q H5 (s02.trans (s3.trans (s4.trans s5)))
theorem bst_ex {b:Int}:∀ps:List Pc,(∀z∈ps,z.v=false→z.l<b)∨∃z,Bst b ps z
 | []=>.inl fun z hz=>by cases hz
 | y::r=>by
   have mo:∀{z:Pc},Bst b r z→¬(y.v=false∧b≤y.l∧(y.l<z.l∨(y.l=z.l∧y.a<z.a)))→Bst b (y::r) z:=fun {z} h hn=>by
     refine⟨List.mem_cons_of_mem _ h.1,h.2.1,h.2.2.1,fun w hw hv hl=>?_⟩
     rcases List.mem_cons.mp hw with e | e
     · rw[e] at hv hl ⊢
       have:¬(y.l<z.l∨(y.l=z.l∧y.a<z.a)):=fun g=>hn ⟨hv,hl,g⟩
       omega
     · exact h.2.2.2 w e hv hl
   rcases bst_ex (b:=b) r with h | ⟨z,h⟩
   · by_cases g:y.v=false∧b≤y.l
     · refine .inr ⟨y,List.mem_cons_self,g.1,g.2,fun w hw hv hl=>?_⟩
       rcases List.mem_cons.mp hw with e | e
       · rw[e];exact .inr ⟨rfl,Int.le_refl _⟩
       · have:=h w e hv
         omega
     · refine .inl fun w hw hv=>?_
       rcases List.mem_cons.mp hw with e | e
       · rw[e] at hv ⊢
         have:¬b≤y.l:=fun g2=>g ⟨hv,g2⟩
         omega
       · exact h w e hv
   · by_cases g:y.v=false∧b≤y.l∧(y.l<z.l∨(y.l=z.l∧y.a<z.a))
     · refine .inr ⟨y,List.mem_cons_self,g.1,g.2.1,fun w hw hv hl=>?_⟩
       rcases List.mem_cons.mp hw with e | e
       · rw[e];exact .inr ⟨rfl,Int.le_refl _⟩
       · have:=h.2.2.2 w e hv hl
         omega
     · exact .inr ⟨z,mo h g⟩
theorem gh_ex {N:Nat}{ps:List Pc}(B:Nat)(hc:Chain 0 ps (2^N))(al:∀z∈ps,Al z):NoH B ps∨∃(ds rs:List Pc) (b:Int) (M:Nat),Gh B ps ds rs b M:=by
 rcases bst_ex (b:=2^B) ps with h | ⟨z,h⟩
 · exact .inl h
 · obtain⟨M,q0,eM,ea0⟩:=al z h.1
   obtain⟨n0,hn0⟩:=List.getElem?_of_mem h.1
   obtain⟨ds,rs,eps,_,_,_⟩:=chain_split hc hn0
   obtain⟨b,lo,v1⟩:=z
   have ev:v1=false:=h.2.1
   have eM:lo=2^M:=eM
   subst ev eM
   exact .inr ⟨ds,rs,b,M,eps,h⟩
def MoF (ps:List Pc)(mo:Int):Prop:=(∀z∈ps,z.v=false→z.l≤mo)∧(mo=0∨∃z∈ps,z.v=false∧z.l=mo)
theorem MoF.no {ps:List Pc}{mo c:Int}{B:Nat}(h:MoF ps mo)(al:∀z∈ps,Al z)(hc:1≤c)(hB:Least B (c+2))(ng:NoH B ps):mo<c+2:=by
 rcases h.2 with e | ⟨z,hz,hv,e⟩
 · omega
 · obtain⟨m,q,el,_⟩:=al z hz
   have:=ng z hz hv
   rw[el] at this
   have:=hB.2 m (pow_lt_of this)
   omega
theorem MoF.yes {ps ds rs:List Pc}{mo c b:Int}{B M:Nat}(h:MoF ps mo)(hB:Least B (c+2))(G:Gh B ps ds rs b M):c+2≤mo:=by
 have h1:=h.1 _ G.2.1 rfl
 have h1:(2:Int)^M≤mo:=h1
 have h2:(2:Int)^B≤2^M:=G.2.2.2.1
 have:=hB.1
 omega
def FrH (x a:Addr)(H:Hp)(a':Addr)(H':Hp):Prop:=(∀b o,H b=some o→b≠x→b≠a→(∀ks,o≠.dK ks)→H' b=some o)∧(a'=a∨H a'=none)
structure HhT (cs:List Int)(ps:List Pc)(kd:Addr)(kvs:List (Key×V))(m:Nat)(H:Hp):Prop where
 hd:H kd=some (.dK kvs)
 nd:(kvs.map (·.1)).Nodup
 rw:∀kv∈kvs,∃z,kv.1 = .inl (z.a+1)∧z∈ps∧z.v=true∧EnA cs H kv.2 z m
 ap:∀kv∈kvs,∀kv'∈kvs,∀(t t' d:Addr) (c c':Int),kv.2 = .ref t→H t=some (.tup [.int c,.ref d])→kv'.2 = .ref t'→H t'=some (.tup [.int c',.ref d])→kv=kv'
 nk:∀kv∈kvs,∀(t:Addr) (c:Int),kv.2 = .ref t→H t≠some (.tup [.int c,.ref kd])
 fw:kvs.length≤m
section
variable {cs cs':List Int}{ps ps':List Pc}{kd:Addr}{kvs:List (Key×V)}{m:Nat}{H H':Hp}
theorem HhS.t (h:HhS cs ps kd kvs m H):HhT cs ps kd kvs m H:=⟨h.hd,h.nd,h.rw,h.ap,h.nk,h.fw⟩
theorem HhT.seal (h:HhT cs ps kd kvs m H)(sj:∀z∈ps,z.v=true→∃kv∈kvs,kv.1 = .inl (z.a+1)):HhS cs ps kd kvs m H:=⟨h.hd,h.nd,h.rw,h.ap,h.nk,h.fw,sj⟩
theorem EnA.mono {v:V}{z:Pc}{n:Nat}(h:EnA cs H v z m)(hn:m≤n):EnA cs H v z n:=let ⟨t,d,c,ks,e,h1,h2,h3,h4,h5,h6,h7,h8⟩:=h;⟨t,d,c,ks,e,h1,h2,h3,h4,h5,h6,Nat.le_trans h7 hn,h8⟩
theorem HhT.up (h:HhT cs ps kd kvs m H):HhT cs ps kd kvs (m+1) H:=⟨h.hd,h.nd,fun kv hk=>let ⟨z,g1,g2,g3,g4⟩:=h.rw kv hk;⟨z,g1,g2,g3,g4.mono (Nat.le_succ m)⟩,h.ap,h.nk,Nat.le_succ_of_le h.fw⟩
theorem HhT.move {gone:Pc→Prop}(h:HhT cs ps kd kvs m H)(kt:∀b us,H b=some (.tup us)→H' b=some (.tup us))(kk:∀b ks,H b=some (.dK ks)→H' b=some (.dK ks))(L:∀y∈ps,y.v=true→¬gone y→y∈ps'∧∀j:Nat,Inn y j→cs'[j]?=cs[j]?)(c0:∀y∈ps,0≤y.a)(ng:∀kv∈kvs,∀z,kv.1 = .inl (z.a+1)→z∈ps→¬gone z):HhT cs' ps' kd kvs m H':=by
 have tt:∀kv∈kvs,∀(t:Addr) (us:List V),kv.2 = .ref t→H' t=some (.tup us)→H t=some (.tup us):=fun kv hk t us e h'=>by
   obtain⟨z,_,_,_,t0,d,c,ks,e0,h1,_⟩:=h.rw kv hk
   rw[e] at e0
   cases e0
   have:=kt t _ h1
   rw[this] at h'
   rw[h1]
   exact h'
 refine⟨kk kd _ h.hd,h.nd,fun kv hk=>?_,fun kv hk kv' hk' t t' d c c' e1 h1 e2 h2=>h.ap kv hk kv' hk' t t' d c c' e1 (tt kv hk t _ e1 h1) e2 (tt kv' hk' t' _ e2 h2),fun kv hk t c e h1=>h.nk kv hk t c e (tt kv hk t _ e h1),h.fw⟩
 obtain⟨z,g1,g2,g3,t,d,c,ks,e0,h1,h2,h3,h4,h5,h6,h7,h8⟩:=h.rw kv hk
 obtain⟨l1,l2⟩:=L z g2 g3 (ng kv hk z g1 g2)
 refine⟨z,g1,l1,g3,t,d,c,ks,e0,kt t _ h1,kk d _ h2,h3,h4,h5,h6,h7,fun q hq=>?_⟩
 obtain⟨i,n,eq,i0,i1,hc⟩:=h8 q hq
 have:=c0 z g2
 exact⟨i,n,eq,i0,i1,by rw[l2 _ ⟨by omega,by omega⟩];exact hc⟩
theorem HhT.add {z:Pc}{t d:Addr}{c:Int}{ks:List (Key×V)}(h:HhT cs ps kd kvs m H)(ht:H t=some (.tup [.int c,.ref d]))(hd:H d=some (.dK ks))(hdk:d≠kd)(hz:z∈ps)(hv:z.v=true)(hc1:1≤c)(hc2:c+2≤z.l)(hc3:z.l<2*(c+2))(knd:(ks.map (·.1)).Nodup)(kln:ks.length≤m+1)
   (hks:∀q∈ks,∃(i n:Int),q=(.inl i,.int n)∧0≤i∧i<z.l-2∧cs[(z.a+1+i).toNat]?=some n) (hno:∀kv∈kvs,kv.1≠.inl (z.a+1)) (hfr:∀kv∈kvs,∀(t':Addr) (c':Int),kv.2 = .ref t'→H t'≠some (.tup [.int c',.ref d])) :
   HhT cs ps kd (kvs++[(.inl (z.a+1),.ref t)]) (m+1) (upd H kd (.dK (kvs++[(.inl (z.a+1),.ref t)]))):=by
 have hkd:=h.hd
 have tne:∀{b:Addr} {us:List V},H b=some (.tup us)→b≠kd:=fun hb e=>by rw[e,hkd] at hb;cases hb
 have kt:∀(b:Addr) (us:List V),b≠kd→upd H kd (.dK (kvs++[(.inl (z.a+1),.ref t)])) b=some (.tup us)→H b=some (.tup us):=fun b us n e=>by rwa [upd_ne n] at e
 have rt:∀kv∈kvs,∀t',kv.2 = .ref t'→t'≠kd:=fun kv hk t' e=>by
   obtain⟨_,_,_,_,t0,_,_,_,e0,h1,_⟩:=h.rw kv hk
   rw[e] at e0
   cases e0
   exact tne h1
 refine⟨upd_same,?_,fun kv hk=>?_,fun kv hk kv' hk' t1 t2 d' c1 c2 e1 h1 e2 h2=>?_,fun kv hk t1 c1 e1 h1=>?_,?_⟩
 · rw[List.map_append]
   exact nd_snoc h.nd (fun g=>by obtain⟨kv,h1,h2⟩:=List.mem_map.mp g;exact hno kv h1 h2)
 · rcases List.mem_append.mp hk with g | g
   · obtain⟨y,g1,g2,g3,t0,d0,c0,ks0,e0,h1,h2,r⟩:=h.rw kv g
     have hd0:d0≠kd:=fun w=>h.nk kv g t0 c0 e0 (by rw[←w];exact h1)
     exact⟨y,g1,g2,g3,EnA.mono (m:=m) ⟨t0,d0,c0,ks0,e0,look_ne (tne h1) h1,look_ne hd0 h2,r⟩ (Nat.le_succ m)⟩
   · rw[List.mem_singleton.mp g]
     exact⟨z,rfl,hz,hv,t,d,c,ks,rfl,look_ne (tne ht) ht,look_ne hdk hd,hc1,hc2,hc3,knd,kln,hks⟩
 · rcases List.mem_append.mp hk with g | g
   · have h1:=kt t1 _ (rt kv g t1 e1) h1
     rcases List.mem_append.mp hk' with g' | g'
     · exact h.ap kv g kv' g' t1 t2 d' c1 c2 e1 h1 e2 (kt t2 _ (rt kv' g' t2 e2) h2)
     · rw[List.mem_singleton.mp g'] at e2
       cases e2
       have h2:=kt t _ (tne ht) h2
       rw[ht] at h2
       cases h2
       exact absurd h1 (hfr kv g t1 c1 e1)
   · rw[List.mem_singleton.mp g] at e1
     cases e1
     have h1:=kt t _ (tne ht) h1
     rw[ht] at h1
     cases h1
     rcases List.mem_append.mp hk' with g' | g'
     · exact absurd (kt t2 _ (rt kv' g' t2 e2) h2) (hfr kv' g' t2 c2 e2)
     · rw[List.mem_singleton.mp g,List.mem_singleton.mp g']
 · rcases List.mem_append.mp hk with g | g
   · exact h.nk kv g t1 c1 e1 (kt t1 _ (rt kv g t1 e1) h1)
   · rw[List.mem_singleton.mp g] at e1
     cases e1
     have h1:=kt t _ (tne ht) h1
     rw[ht] at h1
     cases h1
     exact hdk rfl
 · rw[List.length_append,List.length_singleton]
   have:=h.fw
   omega
end
theorem HhT.same {cs:List Int}{ps:List Pc}{kd:Addr}{kvs:List (Key×V)}{m:Nat}{H H':Hp}{n:Int}(h:HhT cs ps kd kvs m H)(c:Chain 0 ps n)(s:Same H H'):HhT cs ps kd kvs m H':=h.move (gone:=fun _=>False) (fun b us e=>s b _ e) (fun b ks e=>s b _ e) (fun y hy _ _=>⟨hy,fun _ _=>rfl⟩) (fun y hy=>(c.mem y hy).1) (fun _ _ _ _ _ g=>g)
theorem Gh.parts {B N M:Nat}{ps ds rs:List Pc}{b:Int}(G:Gh B ps ds rs b M)(hB:2≤B)(hc:Chain 0 ps (2^N))(al:∀z∈ps,Al z):(∀y∈ps,y.v=true→y∈ds++(hcP b B M++rs)∧(y.a+y.l≤b∨b+2^M≤y.a))∧∀y∈ds++(hcP b B M++rs),y.v=true→y=⟨b,2^B,true⟩∨y∈ps:=by
 obtain⟨_,_,_,c1,c3,_,_,_⟩:=G.lie hB hc al
 constructor
 · intro y hy hv
   rw[G.1] at hy
   rcases List.mem_append.mp hy with g | g
   · exact⟨List.mem_append_left _ g,.inl (c1.mem y g).2.2.2⟩
   · rcases List.mem_cons.mp g with e | e
     · rw[e] at hv;cases hv
     · exact⟨List.mem_append_right _ (List.mem_append_right _ e),.inr (c3.mem y e).1⟩
 · intro y hy hv
   rw[G.1]
   rcases List.mem_append.mp hy with g | g
   · exact .inr (List.mem_append_left _ g)
   · rcases List.mem_append.mp g with g | g
     · rcases List.mem_cons.mp g with w | w
       · exact .inl w
       · obtain⟨i,_,_,h3⟩:=spl_mem w
         rw[h3] at hv;cases hv
     · exact .inr (List.mem_append_right _ (List.mem_cons_of_mem _ g))
theorem Least.lt2 {B:Nat}{c:Int}(h:Least B c)(hc:3≤c):(2:Int)^B<2*c:=by
 have h2:=h.two' hc
 obtain⟨k,rfl⟩:∃k,B=k+1:=⟨B-1,by omega⟩
 have:=h.2 k (Nat.lt_succ_self k)
 have:=pw2 k
 omega
def spAskdH (C:Addr):Sp:=fun vs H Q _=>∃(x dx a kd:Addr) (N m B:Nat) (ps:List Pc) (cs:List Int) (kvs:List (Key×V)) (c mo:Int),vs=[.ref x,.ref kd,.int c,.int mo]∧HvS C x dx a N ps cs H∧NbF ps∧HhS cs ps kd kvs m H∧m≤62∧1≤c∧c≤4000∧Least B (c+2)∧MoF ps mo ∧
 ∀(a':Addr) (ps':List Pc) (cs':List Int) (kvs':List (Key×V)) (H':Hp),FrH x a H a' H'→cs'.length=cs.length→HvS C x dx a' N ps' cs' H'→NbF ps'→HhS cs' ps' kd kvs' (m+1) H'→Q (.bl true) H'
theorem d_Z32 (S:Src K mg "_law_asked" s_Z32)(T:Txt K mg Y0 Y8 Y3 Y2 Y6 Y9 Y1 Y7 Y5 Y4 W0_ W1_)(D_Z45:Methx P w K mg base Y4 "cells" 1 ["self"] [] (spCellsK Y4))(D_ask:MethD P w K mg base Y4 "ask" 6 ["self","count","bound"] [.int 1] (spAskH Y4 Y7))(D_Z33:Defx P w K mg base "_law_whole" 1 ["_law_found"] (spWhole)):Defx P w K mg base "_law_asked" 7 ["_law_keeper","_law_held","_law_count","_law_most"] (spAskdH Y4):=by
 refine S.okx sc_Z32 bi_Z32 (fun vs H Q E h=>by revert h;walk_at "len") (fun f cdv A outer s H vs Q E hr h=>?_)
 refine⟨_,PSs.nox (pss_cons (ps_set (i:=4) sc_Z32.nd rfl (Or.inl rfl) (pe_methp0 D_Z45 pass_e0 hr (pv 0))) (pss_cons (ps_set (i:=5) sc_Z32.nd rfl (Or.inl rfl) pe_str) (pss_cons (ps_set (i:=6) sc_Z32.nd rfl (Or.inl rfl) pe_int) (pss_cons (ps_tryA (i:=6) sc_Z32.nd rfl (Or.inl rfl) (px_methD D_ask.less hr (pv 0) (pa_cons (pv 2) pa_nil)) ⟨rfl,rfl⟩ (ph_cons (by rfl) T.c_NoRoom (fun x=>(pss_one (ps_set (i:=5) sc_Z32.nd rfl (Or.inl rfl) pe_str))) ph_nil)) (pss_cons (ps_if (pt_cmpR op_eq (pv 5) pe_str (nomark _)) (pss_one (ps_ret (pe_and (pe_cmpR op_lt (pv 3) (pe_op op_add (pv 2) pe_int) (nomark _)) (pe_one (pe_cmpR (op_eqL hr.units) (pe_methp0 D_Z45 pass_e0 hr (pv 0)) (pv 4) (nomark _)))))) pss_nil) (pss_cons (ps_if (PW.pt (pw_or (pt_not (pt_val (pe_defq D_Z33 hr (by rfl) (pa_cons (pv 6) pa_nil)))) (pw_or (pt_cmp (pc_din (units1 hr.units) (pv 6) (pv 1))) (pw_or1 (pt_cmpR op_lt (pv 3) (pe_op op_add (pv 2) pe_int) (nomark _)))))) (pss_one (ps_ret pe_bl)) pss_nil) (pss_cons (ps_dput (units1 hr.units) (pv 1) (pv 6) (pe_tup (pa_cons (pv 2) (pa_cons pe_dnewK pa_nil))) rfl) (pss_one (ps_ret pe_bl))))))))),?_⟩
 obtain⟨x,dx,a,kd,N,m,B,ps,cs,kvs,c,mo,rfl,S,nb,D,hm,hc1,hc2,hB,hmo,q⟩:=h
 have hx:=S.hx
 have B2:=hB.two' (by omega)
 have c0':∀y∈ps,0≤y.a:=fun y hy=>(S.hc.mem y hy).1
 walk_at "go"
 refine⟨x,dx,a,cs,rfl,hx,S.ha,fun pb H1 npb s1 hpb=>?_⟩
 have S1:=S.same s1
 have hx1:=S1.hx
 walk_at "go"
 refine⟨x,dx,a,N,B,c,ps,cs,rfl,S1,hc1,hc2,hB,?_⟩
 rcases gh_ex B S.hc S.al with ng | ⟨ds,rs,b,M,G⟩
 · refine .inl ⟨ng,fun H2 s2=>⟨_,rfl,fun y hy=>Or.inl ⟨T.f_NoRoom_NoRoom,?_⟩⟩⟩
   have s3:=s2.put (o:=ExcO y Y7 none) (s2.free hy)
   generalize upd H2 y (ExcO y Y7 none)=H3 at s3 ⊢
   have hlt:=hmo.no S.al hc1 hB ng
   have s03:=s1.trans s3
   have S3:=S.same s03
   have hx3:=S3.hx
   have hpb3:=s3 pb _ hpb
   walk_at "go"
   refine⟨x,dx,a,cs,rfl,hx3,S3.ha,fun pc H4 npc s4 hpc=>?_⟩
   walk_at "go"
   refine⟨pc,pb,cs,cs,rfl,rfl,SqL.of hpc,SqL.of (s4 pb _ hpb3),?_⟩
   rw[decide_eq_true rfl]
   walk_at "go"
   have sA:=s03.trans s4
   exact q a ps cs kvs H4 ⟨fun b o h _ _ _=>sA b o h,.inl rfl⟩ rfl (S.same sA) nb (((D.t.same S.hc sA).up).seal D.sj)
 · refine .inr ⟨ds,rs,b,M,G,fun a' cs' H2 na2 k2 l2 ho2 S2=>?_⟩
   have hge:=hmo.yes hB G
   obtain⟨hBM,hMN,b0,c1,c3,c4,al4,tm⟩:=G.lie B2 S.hc S.al
   obtain⟨pt1,pt2⟩:=G.parts B2 S.hc S.al
   have D1:=D.t.same S.hc s1
   have xne:∀{b':Addr} {o:HO},(∀C dx fs,o≠.ins C dx fs)→H1 b'=some o→b'≠x:=fun hn hb e=>by
     rw[e,hx1] at hb
     exact hn _ _ _ (Option.some.inj hb).symm
   have D2:HhT cs' (ds++(hcP b B M++rs)) kd kvs m H2:=D1.move (gone:=fun _=>False) (fun b' us e=>k2 b' _ (xne (fun _ _ _ w=>by cases w) e) e) (fun b' ks e=>k2 b' _ (xne (fun _ _ _ w=>by cases w) e) e) (fun y hy hv _=>⟨(pt1 y hy hv).1,fun j hj=>ho2 j (by have:=(pt1 y hy hv).2;obtain⟨j1,j2⟩:=hj;omega)⟩) c0' (fun _ _ _ _ _ g=>g)
   have hno:∀kv∈kvs,kv.1≠.inl (b+1):=fun kv hk e=>by
     obtain⟨z,e1,h3,h4,_⟩:=D.rw kv hk
     have:=(pt1 z h3 h4).2
     obtain⟨_,z1,_,_⟩:=S.hc.mem z h3
     rw[e1] at e
     have:=Sum.inl.inj e
     have:=pw1 M
     omega
   have hkd2:=D2.hd
   walk_at "go"
   refine⟨kd,_,rfl,DGet.k (k:=.inl (b+1)) hkd2,?_⟩
   rw[valV_no hno]
   walk_at "go"
   refine iteF ?_
   walk_at "go"
   intro d nd
   have s3:Same H2 (upd H2 d (.dK [])):=Same.new nd
   have hd3:upd H2 d (.dK []) d=some (.dK []):=upd_same
   generalize upd H2 d (.dK [])=H3 at s3 hd3 ⊢
   walk_at "go"
   intro t nt
   have s4:Same H2 (upd H3 t (.tup [.int c,.ref d])):=s3.trans (Same.new nt)
   have ht4:upd H3 t (.tup [.int c,.ref d]) t=some (.tup [.int c,.ref d]):=upd_same
   have hd4:=(Same.new (o:=.tup [.int c,.ref d]) nt) d _ hd3
   generalize upd H3 t (.tup [.int c,.ref d])=H4 at s4 ht4 hd4 ⊢
   have D4:=D2.same c4 s4
   have S4:=S2.same s4
   have hkd4:=D4.hd
   have hdk:d≠kd:=fun w=>by rw[w,hkd2] at nd;cases nd
   have hfw:=D4.fw
   walk_at "go"
   refine⟨kd,_,rfl,DPut.k (k:=.inl (b+1)) hkd4 (small4000 (by omega)),?_⟩
   rw[putK_new _ (valV_no hno)]
   walk_at "go"
   have hB1:=hB.1
   have D5:=D4.add (z:=⟨b,2^B,true⟩) (t:=t) (d:=d) (c:=c) (ks:=[]) ht4 hd4 hdk tm rfl hc1 hB1 (hB.lt2 (by omega)) List.nodup_nil (Nat.zero_le _) (fun q hq=>by cases hq) hno (fun kv hk t' c' e h=>by
     obtain⟨z,_,_,_,t0,d0,c0,ks,e0,h1,h2,_⟩:=D2.rw kv hk
     rw[e] at e0
     cases e0
     have h1':=s4 t' _ h1
     rw[h1'] at h
     cases h
     rw[nd] at h2
     cases h2)
   have hx4:=S4.hx
   have hka':a'≠kd:=fun w=>by have:=S4.ha;rw[w,hkd4] at this;cases this
   have hxk:x≠kd:=fun w=>by rw[w,hkd4] at hx4;cases hx4
   refine q a' _ cs' _ _ ⟨fun b' o h n1 n2 n3=>?_,.inr (s1.free na2)⟩ l2 ⟨look_ne hxk hx4,look_ne hka' S4.ha,S4.hl,S4.hN,S4.hc,S4.mm,S4.al⟩ (nb.ask G.1 S.al hBM c4) (D5.seal fun z hz hv=>?_)
   · exact look_ne (fun w=>n3 _ (by rw[w,D.hd] at h;exact(Option.some.inj h).symm)) (s4 b' o (k2 b' o n1 (s1 b' o h)))
   · rcases pt2 z hz hv with e | e
     · exact⟨_,List.mem_append_right _ (List.mem_singleton.mpr rfl),by rw[e]⟩
     · obtain⟨kv,g1,g2⟩:=D.sj z e hv
       exact⟨kv,List.mem_append_left _ g1,g2⟩
theorem HhT.drop {cs:List Int}{ps:List Pc}{kd:Addr}{kvs:List (Key×V)}{m:Nat}{H:Hp}{k:Key}(h:HhT cs ps kd kvs m H):HhT cs ps kd (dropK kvs k) m (upd H kd (.dK (dropK kvs k))):=by
 have hkd:=h.hd
 have tne:∀{b:Addr} {us:List V},H b=some (.tup us)→b≠kd:=fun hb e=>by rw[e,hkd] at hb;cases hb
 have rt:∀kv∈kvs,∀t',kv.2 = .ref t'→t'≠kd:=fun kv hk t' e=>by
   obtain⟨_,_,_,_,t0,_,_,_,e0,h1,_⟩:=h.rw kv hk
   rw[e] at e0
   cases e0
   exact tne h1
 have kt:∀(b:Addr) (us:List V),b≠kd→upd H kd (.dK (dropK kvs k)) b=some (.tup us)→H b=some (.tup us):=fun b us n e=>by rwa [upd_ne n] at e
 refine⟨upd_same,nd_dropK h.nd,fun kv hk=>?_,fun kv hk kv' hk' t t' d c c' e1 h1 e2 h2=>h.ap kv (dropK_is hk).1 kv' (dropK_is hk').1 t t' d c c' e1 (kt t _ (rt kv (dropK_is hk).1 t e1) h1) e2 (kt t' _ (rt kv' (dropK_is hk').1 t' e2) h2),fun kv hk t c e h1=>h.nk kv (dropK_is hk).1 t c e (kt t _ (rt kv (dropK_is hk).1 t e) h1),Nat.le_trans (dropK_le _ _) h.fw⟩
 obtain⟨y,g1,g2,g3,t0,d0,c0,ks0,e0,h1,h2,r⟩:=h.rw kv (dropK_is hk).1
 have hd0:d0≠kd:=fun w=>h.nk kv (dropK_is hk).1 t0 c0 e0 (by rw[←w];exact h1)
 exact⟨y,g1,g2,g3,t0,d0,c0,ks0,e0,look_ne (tne h1) h1,look_ne hd0 h2,r⟩
theorem live_ends {N m q:Nat}{ps:List Pc}(hc:Chain 0 ps (2^N))(hz:(⟨2^m*(q:Int),2^m,true⟩:Pc)∈ps):m≤N∧∃(ds rs ds' rs':List Pc) (m' q':Nat),ps=ds++⟨2^m*(q:Int),2^m,true⟩::rs∧MgTo ps ds rs m q ds' rs' m' q'∧Lie N ps ds' rs' m' q':=by
 have h:=hc.mem _ hz
 have h1:0≤2^m*(q:Int):=h.1
 have h2:2^m*(q:Int)+2^m≤2^N:=h.2.2.2
 have hm:m≤N:=pow_le_of (by omega)
 refine⟨hm,?_⟩
 obtain⟨n,hn⟩:=List.getElem?_of_mem hz
 obtain⟨ds,rs,e,_⟩:=chain_split hc hn
 have L:Lie N ps ds rs m q:=by
   have:=lie_start (v:=true) hm (by rw[←e];exact hc)
   rw[←e] at this
   exact this
 obtain⟨ds',rs',m',q',G,L'⟩:=MgTo.ex (N-m) (Nat.le_refl _) L
 exact⟨ds,rs,ds',rs',m',q',e,G,L'⟩
theorem given_parts {m q m' q':Nat}{ps ds rs ds' rs':List Pc}(e:ps=ds++⟨2^m*(q:Int),2^m,true⟩::rs)(G:MgTo ps ds rs m q ds' rs' m' q'):(∀y∈ps,y.v=true→y≠⟨2^m*(q:Int),2^m,true⟩→y∈ds'++(⟨2^m'*(q':Int),2^m',false⟩::rs':List Pc)∧(y∈ds'∨y∈rs'))∧∀y∈ds'++(⟨2^m'*(q':Int),2^m',false⟩::rs':List Pc),y.v=true→(y∈ds∨y∈rs):=by
 obtain⟨_,_,_,f4⟩:=G.facts
 constructor
 · intro y hy hv hne
   have h1:y∈ds∨y∈rs:=by
     rw[e] at hy
     rcases List.mem_append.mp hy with g | g
     · exact .inl g
     · rcases List.mem_cons.mp g with w | w
       · exact absurd w hne
       · exact .inr w
   have h2:=G.live y hv h1
   refine⟨?_,h2⟩
   rcases h2 with g | g
   · exact List.mem_append_left _ g
   · exact List.mem_append_right _ (List.mem_cons_of_mem _ g)
 · intro y hy hv
   rcases List.mem_append.mp hy with g | g
   · exact f4 y (.inl g)
   · rcases List.mem_cons.mp g with w | w
     · rw[w] at hv;cases hv
     · exact f4 y (.inr w)
def spGrwnH (C:Addr):Sp:=fun vs H Q _=>∃(x dx a kd:Addr) (N m B mz qz:Nat) (ps:List Pc) (cs:List Int) (kvs:List (Key×V)) (c mo:Int),vs=[.ref x,.ref kd,.int (2^mz*(qz:Int)+1),.int c,.int (2^mz-2),.int mo]∧HvS C x dx a N ps cs H∧NbF ps∧HhS cs ps kd kvs m H∧m≤62∧1≤c∧c≤4000∧Least B (c+2)∧MoF ps mo∧(⟨2^mz*(qz:Int),2^mz,true⟩:Pc)∈ps ∧
 ∀(a':Addr) (ps':List Pc) (cs':List Int) (kvs':List (Key×V)) (H':Hp),FrH x a H a' H'→cs'.length=cs.length→HvS C x dx a' N ps' cs' H'→NbF ps'→HhS cs' ps' kd kvs' (m+1) H'→Q (.bl true) H'
theorem d_Z31 (S:Src K mg "_law_grown" s_Z31)(T:Txt K mg Y0 Y8 Y3 Y2 Y6 Y9 Y1 Y7 Y5 Y4 W0_ W1_)(D_Z45:Methx P w K mg base Y4 "cells" 1 ["self"] [] (spCellsK Y4))(D_Z46:MethD P w K mg base Y4 "grow" 10 ["self","place","count","bound"] [.int 1] (spGrowH Y4 Y7))(D_Z33:Defx P w K mg base "_law_whole" 1 ["_law_found"] (spWhole)):Defx P w K mg base "_law_grown" 11 ["_law_keeper","_law_held","_law_place","_law_count","_law_least","_law_most"] (spGrwnH Y4):=by
 refine S.okx sc_Z31 bi_Z31 (fun vs H Q E h=>by revert h;walk_at "len") (fun f cdv A outer s H vs Q E hr h=>?_)
 refine⟨_,PSs.nox (pss_cons (ps_set (i:=6) sc_Z31.nd rfl (Or.inl rfl) (pe_methp0 D_Z45 pass_e0 hr (pv 0))) (pss_cons (ps_set (i:=7) sc_Z31.nd rfl (Or.inl rfl) pe_str) (pss_cons (ps_set (i:=8) sc_Z31.nd rfl (Or.inl rfl) pe_int) (pss_cons (ps_tryA (i:=8) sc_Z31.nd rfl (Or.inl rfl) (px_methD D_Z46.less hr (pv 0) (pa_cons (pv 2) (pa_cons (pv 3) pa_nil))) ⟨rfl,rfl⟩ (ph_cons (by rfl) T.c_NoRoom (fun x=>(pss_one (ps_set (i:=7) sc_Z31.nd rfl (Or.inl rfl) pe_str))) ph_nil)) (pss_cons (ps_if (pt_cmpR op_eq (pv 7) pe_str (nomark _)) (pss_one (ps_ret (pe_and (pe_cmpR op_gt (pv 3) (pv 4) (nomark _)) (pe_and (pe_cmpR op_lt (pv 5) (pe_op op_add (pv 3) pe_int) (nomark _)) (pe_one (pe_cmpR (op_eqL hr.units) (pe_methp0 D_Z45 pass_e0 hr (pv 0)) (pv 6) (nomark _))))))) pss_nil) (pss_cons (ps_if (pt_not (pt_val (pe_defq D_Z33 hr (by rfl) (pa_cons (pv 8) pa_nil)))) (pss_one (ps_ret pe_bl)) pss_nil) (pss_cons (ps_if (pt_cmpR op_le (pv 3) (pv 4) (nomark _)) (pss_one (ps_ret (pe_cmpR op_eq (pv 8) (pv 2) (nomark _)))) pss_nil) (pss_cons (ps_if (PW.pt (pw_or (pt_cmp (pc_din (units1 hr.units) (pv 8) (pv 1))) (pw_or1 (pt_cmpR op_lt (pv 5) (pe_op op_add (pv 3) pe_int) (nomark _))))) (pss_one (ps_ret pe_bl)) pss_nil) (pss_cons (ps_dput (units1 hr.units) (pv 1) (pv 8) (pe_tup (pa_cons (pv 3) (pa_cons (pe_ix ix_tup (pe_dpop1 (pv 1) (pv 2) ⟨rfl,rfl,rfl,rfl⟩) pe_int (fun _ _=>rfl)) pa_nil))) rfl) (pss_one (ps_ret pe_bl))))))))))),?_⟩
 obtain⟨x,dx,a,kd,N,m,B,mz,qz,ps,cs,kvs,c,mo,rfl,S,nb,D,hm,hc1,hc2,hB,hmo,hzm,q⟩:=h
 have hx:=S.hx
 have B2:=hB.two' (by omega)
 have c0':∀y∈ps,0≤y.a:=fun y hy=>(S.hc.mem y hy).1
 obtain⟨hmN,_⟩:=live_ends S.hc hzm
 walk_at "go"
 refine⟨x,dx,a,cs,rfl,hx,S.ha,fun pb H1 npb s1 hpb=>?_⟩
 have S1:=S.same s1
 have hx1:=S1.hx
 walk_at "go"
 refine⟨x,dx,a,N,B,mz,qz,c,ps,cs,rfl,S1,hc1,hc2,hB,hzm,hmN,fun hst H2 s2=>?_,fun hst=>?_⟩
 · have sA:=s1.trans s2
   walk_at "go"
   rw[decide_eq_true rfl]
   exact q a ps cs kvs H2 ⟨fun b o h _ _ _=>sA b o h,.inl rfl⟩ rfl (S.same sA) nb (((D.t.same S.hc sA).up).seal D.sj)
 rcases gh_ex B S.hc S.al with ng | ⟨ds,rs,b,M,G⟩
 · refine .inl ⟨ng,fun H2 s2=>⟨_,rfl,fun y hy=>Or.inl ⟨T.f_NoRoom_NoRoom,?_⟩⟩⟩
   have s3:=s2.put (o:=ExcO y Y7 none) (s2.free hy)
   generalize upd H2 y (ExcO y Y7 none)=H3 at s3 ⊢
   have hlt:=hmo.no S.al hc1 hB ng
   have s03:=s1.trans s3
   have S3:=S.same s03
   have hx3:=S3.hx
   have hpb3:=s3 pb _ hpb
   walk_at "go"
   refine⟨x,dx,a,cs,rfl,hx3,S3.ha,fun pc H4 npc s4 hpc=>?_⟩
   walk_at "go"
   refine⟨pc,pb,cs,cs,rfl,rfl,SqL.of hpc,SqL.of (s4 pb _ hpb3),?_⟩
   rw[decide_eq_true rfl]
   walk_at "go"
   have sA:=s03.trans s4
   exact q a ps cs kvs H4 ⟨fun b o h _ _ _=>sA b o h,.inl rfl⟩ rfl (S.same sA) nb (((D.t.same S.hc sA).up).seal D.sj)
 obtain⟨hBM,hMN,b0,c1,c3,c4,al4,tm⟩:=G.lie B2 S.hc S.al
 obtain⟨pt1,pt2⟩:=G.parts B2 S.hc S.al
 obtain⟨_,d2,r2,d3,r3,m3,q3,e2,G2,L3⟩:=live_ends c4 (pt1 _ hzm rfl).1
 obtain⟨gp1,gp2⟩:=given_parts e2 G2
 refine .inr ⟨ds,rs,b,M,d2,r2,d3,r3,m3,q3,G,e2,G2,fun a' cs' H2 na2 k2 l2 o2 w2 S2=>?_⟩
 have hge:=hmo.yes hB G
 obtain⟨kv0,hkm,ek⟩:=D.sj _ hzm rfl
 have ek:kv0.1 = .inl (2^mz*(qz:Int)+1):=ek
 obtain⟨z',ek',hz',hv',t0,d0,cc,ks,ev,ht,hd',h3,h4,h5,knd,kln,hks⟩:=D.rw kv0 hkm
 have ezz:z'=⟨2^mz*(qz:Int),2^mz,true⟩:=chain_same S.hc hz' hzm (by rw[ek] at ek';have:=Sum.inl.inj ek';show z'.a=2^mz*(qz:Int);omega)
 subst ezz
 have hval:valV kvs (.inl (2^mz*(qz:Int)+1))=some (.ref t0):=by have:=valV_mem D.nd hkm;rw[ek,ev] at this;exact this
 have xne:∀{b':Addr} {o:HO},(∀C dx fs,o≠.ins C dx fs)→H b'=some o→b'≠x:=fun hn hb e=>by
   rw[e,hx] at hb
   exact hn _ _ _ (Option.some.inj hb).symm
 have kp:∀{b':Addr} {o:HO},(∀C dx fs,o≠.ins C dx fs)→H b'=some o→H2 b'=some o:=fun hn hb=>k2 _ _ (xne hn hb) (s1 _ _ hb)
 have hkd2:=kp (fun _ _ _ w=>by cases w) D.hd
 have ht2:=kp (fun _ _ _ w=>by cases w) ht
 have hd2:=kp (fun _ _ _ w=>by cases w) hd'
 have hd0k:d0≠kd:=fun w=>D.nk kv0 hkm t0 cc ev (by rw[←w];exact ht)
 have ht0k:t0≠kd:=fun w=>by rw[w,D.hd] at ht;cases ht
 have hno:∀kv∈kvs,kv.1≠.inl (b+1):=fun kv hk e=>by
   obtain⟨z,e1,g3,g4,_⟩:=D.rw kv hk
   have:=(pt1 z g3 g4).2
   obtain⟨_,z1,_,_⟩:=S.hc.mem z g3
   rw[e1] at e
   have:=Sum.inl.inj e
   have:=pw1 M
   omega
 have hzo:2^mz*(qz:Int)+2^mz≤b∨b+2^M≤2^mz*(qz:Int):=(pt1 _ hzm rfl).2
 have D3:HhT cs' (d3++⟨2^m3*(q3:Int),2^m3,false⟩::r3) kd (dropK kvs (.inl (2^mz*(qz:Int)+1))) m (upd H2 kd (.dK (dropK kvs (.inl (2^mz*(qz:Int)+1))))):=(D.t.drop (k:=.inl (2^mz*(qz:Int)+1))).move (gone:=fun y=>y=⟨2^mz*(qz:Int),2^mz,true⟩) (fun b' us e=>by
     by_cases g:b'=kd
     · rw[g,upd_same] at e;cases e
     · rw[upd_ne g] at e
       exact look_ne g (kp (fun _ _ _ w=>by cases w) e)) (fun b' ks' e=>by
     by_cases g:b'=kd
     · rw[g,upd_same] at e ⊢;exact e
     · rw[upd_ne g] at e
       exact look_ne g (kp (fun _ _ _ w=>by cases w) e)) (fun y hy hv hg=>⟨(gp1 y (pt1 y hy hv).1 hv hg).1,fun j hj=>o2 y hy hv hg j hj⟩) c0' (fun kv hk z e1 _ e2=>(dropK_is hk).2 (by rw[e1,e2]))
 have p1:=pw1 mz
 walk_at "go"
 refine⟨kd,_,rfl,DGet.k (k:=.inl (b+1)) hkd2,?_⟩
 rw[valV_no hno]
 walk_at "go"
 refine iteF ?_
 walk_at "go"
 refine⟨kd,rfl,.inl ⟨kvs,.inl hkd2⟩,?_⟩
 walk_at "go"
 refine⟨kvs,.inl (2^mz*(qz:Int)+1),.ref t0,hkd2,rfl,hval,?_⟩
 have ht3:upd H2 kd (.dK (dropK kvs (.inl (2^mz*(qz:Int)+1)))) t0=some (.tup [.int cc,.ref d0]):=look_ne ht0k ht2
 have hd3:upd H2 kd (.dK (dropK kvs (.inl (2^mz*(qz:Int)+1)))) d0=some (.dK ks):=look_ne hd0k hd2
 have S3:HvS Y4 x dx a' N (d3++⟨2^m3*(q3:Int),2^m3,false⟩::r3) cs' (upd H2 kd (.dK (dropK kvs (.inl (2^mz*(qz:Int)+1))))):=⟨look_ne (fun w=>by have:=S2.hx;rw[w,hkd2] at this;cases this) S2.hx,look_ne (fun w=>by have:=S2.ha;rw[w,hkd2] at this;cases this) S2.ha,S2.hl,S2.hN,S2.hc,S2.mm,S2.al⟩
 have fr3:∀b' o,H b'=some o→b'≠x→(∀ks,o≠.dK ks)→upd H2 kd (.dK (dropK kvs (.inl (2^mz*(qz:Int)+1)))) b'=some o:=fun b' o h n1 n3=>look_ne (fun w=>n3 _ (by rw[w,D.hd] at h;exact(Option.some.inj h).symm)) (k2 b' o n1 (s1 b' o h))
 generalize upd H2 kd (.dK (dropK kvs (.inl (2^mz*(qz:Int)+1))))=H3 at D3 ht3 hd3 S3 fr3 ⊢
 walk_at "go"
 intro t nt
 have s4:Same H3 (upd H3 t (.tup [.int c,.ref d0])):=Same.new nt
 have ht4:upd H3 t (.tup [.int c,.ref d0]) t=some (.tup [.int c,.ref d0]):=upd_same
 generalize upd H3 t (.tup [.int c,.ref d0])=H4 at s4 ht4 ⊢
 have D4:=D3.same S3.hc s4
 have S4:=S3.same s4
 have hd4:=s4 d0 _ hd3
 have hkd4:=D4.hd
 have hx4:=S4.hx
 have hfw:=D4.fw
 have hno':∀kv∈dropK kvs (.inl (2^mz*(qz:Int)+1)),kv.1≠.inl (b+1):=fun kv hk=>hno kv (dropK_is hk).1
 have tm':=(gp1 _ tm rfl (fun e=>by have:=(Pc.mk.inj e).1;have:=pw1 M;omega)).1
 have hB1:=hB.1
 walk_at "go"
 refine⟨kd,_,rfl,DPut.k (k:=.inl (b+1)) hkd4 (small4000 (by omega)),?_⟩
 rw[putK_new _ (valV_no hno')]
 walk_at "go"
 have D5:=D4.add (z:=⟨b,2^B,true⟩) (t:=t) (d:=d0) (c:=c) (ks:=ks) ht4 hd4 hd0k tm' rfl hc1 hB1 (hB.lt2 (by omega)) knd (by omega) (fun qv hq=>by
   obtain⟨i,n,eq,i0,i1,hc⟩:=hks qv hq
   have i1:i<2^mz-2:=i1
   have hc:cs[(2^mz*(qz:Int)+1+i).toNat]?=some n:=hc
   have z0:0≤2^mz*(qz:Int):=c0' _ hzm
   refine⟨i,n,eq,i0,by show i<2^B-2;omega,?_⟩
   show cs'[(b+1+i).toNat]?=some n
   have:=w2 i.toNat (by omega)
   rw[show (b+1+i).toNat=(b+1).toNat+i.toNat by omega,this,show (2^mz*(qz:Int)+1).toNat+i.toNat=(2^mz*(qz:Int)+1+i).toNat by omega]
   exact hc) hno' (fun kv hk t' c' e h=>by
   obtain⟨hk1,hk2⟩:=dropK_is hk
   obtain⟨z,_,_,_,t1,d1,c1',ks1,e0,g1,g2,_⟩:=D.rw kv hk1
   rw[e] at e0
   cases e0
   have g3:=s4 t' _ (fr3 t' _ g1 (xne (fun _ _ _ w=>by cases w) g1) (fun ks w=>by cases w))
   rw[g3] at h
   cases h
   exact hk2 (by rw[D.ap kv hk1 kv0 hkm t' t0 d0 _ _ e g1 ev ht];exact ek))
 have hxk:x≠kd:=fun w=>by rw[w,hkd4] at hx4;cases hx4
 have hka':a'≠kd:=fun w=>by have:=S4.ha;rw[w,hkd4] at this;cases this
 refine q a' _ cs' _ _ ⟨fun b' o h n1 n2 n3=>?_,.inr (s1.free na2)⟩ l2 ⟨look_ne hxk hx4,look_ne hka' S4.ha,S4.hl,S4.hN,S4.hc,S4.mm,S4.al⟩ ((nb.ask G.1 S.al hBM c4).give (N:=N) G2 (fun y hy=>by
   rw[e2]
   rcases hy with g | g
   · exact List.mem_append_left _ g
   · exact List.mem_append_right _ (List.mem_cons_of_mem _ g))) (D5.seal fun z hz hv=>?_)
 · exact look_ne (fun w=>n3 _ (by rw[w,D.hd] at h;exact(Option.some.inj h).symm)) (s4 b' o (fr3 b' o h n1 n3))
 · have hz2:=gp2 z hz hv
   have hz1:z∈ds++(hcP b B M++rs):=by
     rw[e2]
     rcases hz2 with g | g
     · exact List.mem_append_left _ g
     · exact List.mem_append_right _ (List.mem_cons_of_mem _ g)
   have hne:z.a≠2^mz*(qz:Int):=by
     have c5:=c4
     rw[e2] at c5
     obtain⟨k,cA,⟨ea,_,_,cB⟩⟩:=chain_part c5
     have ea:2^mz*(qz:Int)=k:=ea
     rcases hz2 with g | g
     · have:=cA.mem z g
       omega
     · have:=(cB.mem z g).1
       have:k+2^mz≤z.a:=this
       omega
   rcases pt2 z hz1 hv with e | e
   · exact⟨_,List.mem_append_right _ (List.mem_singleton.mpr rfl),by rw[e]⟩
   · obtain⟨kv,g1,g2⟩:=D.sj z e hv
     refine⟨kv,List.mem_append_left _ (List.mem_filter.mpr ⟨g1,?_⟩),g2⟩
     have:kv.1≠.inl (2^mz*(qz:Int)+1):=fun w=>hne (by rw[g2] at w;have:=Sum.inl.inj w;omega)
     simpa using this
theorem nd_putK' {kvs:List (Key×V)}{k:Key}(v:V)(hn:(kvs.map (·.1)).Nodup):((putK kvs k v).map (·.1)).Nodup:=by
 by_cases h:(kvs.any fun kv=>decide (kv.1=k))=true
 · have e:(putK kvs k v).map (·.1)=kvs.map (·.1):=by
     unfold putK
     rw[if_pos h,List.map_map]
     refine List.map_congr_left fun kv _=>?_
     show (if kv.1=k then (kv.1,v) else kv).1=kv.1
     split <;> rfl
   rw[e]
   exact hn
 · exact nd_putK v hn (valV_no fun kv hk e=>h (List.any_eq_true.mpr ⟨kv,hk,decide_eq_true e⟩))
theorem key_inj {kvs:List (Key×V)}(nd:(kvs.map (·.1)).Nodup){p q:Key×V}(hp:p∈kvs)(hq:q∈kvs)(e:p.1=q.1):p=q:=by
 have h1:=valV_mem nd hp
 rw[e,valV_mem nd hq] at h1
 exact Prod.ext e (Option.some.inj h1).symm
theorem HhS.put {cs:List Int}{ps:List Pc}{kd:Addr}{kvs:List (Key×V)}{m:Nat}{H H':Hp}{a t d:Addr}{kv0:Key×V}{z:Pc}{c k n:Int}{ks:List (Key×V)}{ws:List V}(h:HhS cs ps kd kvs m H)(ch:Chain 0 ps cs.length)(hk0:kv0∈kvs)(ek:kv0.1 = .inl (z.a+1))(hz:z∈ps)(ev:kv0.2 = .ref t)(ht:H t=some (.tup [.int c,.ref d]))(hd:H d=some (.dK ks))(ha:H a=some (.lst ws))
   (k0:0≤k) (k1:k<z.l-2) (fr:∀b o,b≠a→b≠d→H b=some o→H' b=some o) (hd':H' d=some (.dK (putK ks (.inl k) (.int n)))):HhS (cs.set (z.a+1+k).toNat n) ps kd kvs (m+1) H':=by
 have dk:d≠kd:=fun w=>h.nk kv0 hk0 t c ev (by rw[←w];exact ht)
 have tup:∀{b:Addr} {us:List V},H b=some (.tup us)→H' b=some (.tup us):=fun {b us} e=>fr b _ (fun w=>by rw[w,ha] at e;cases e) (fun w=>by rw[w,hd] at e;cases e) e
 have dic:∀{b:Addr} {ks':List (Key×V)},b≠d→H b=some (.dK ks')→H' b=some (.dK ks'):=fun {b ks'} n e=>fr b _ (fun w=>by rw[w,ha] at e;cases e) n e
 have tt:∀kv∈kvs,∀(t:Addr) (us:List V),kv.2 = .ref t→H' t=some (.tup us)→H t=some (.tup us):=fun kv hk t us e h'=>by
   obtain⟨z,_,_,_,t0,d,c,ks,e0,h1,_⟩:=h.rw kv hk
   rw[e] at e0
   cases e0
   have:=tup h1
   rw[this] at h'
   rw[h1]
   exact h'
 refine⟨dic (Ne.symm dk) h.hd,h.nd,fun kv hk=>?_,fun kv hk kv' hk' t t' d c c' e1 h1 e2 h2=>h.ap kv hk kv' hk' t t' d c c' e1 (tt kv hk t _ e1 h1) e2 (tt kv' hk' t' _ e2 h2),fun kv hk t c e h1=>h.nk kv hk t c e (tt kv hk t _ e h1),Nat.le_succ_of_le h.fw,h.sj⟩
 obtain⟨z1,g1,g2,g3,t1,d1,c1,ks1,e1,h1,h2,h3,h4,h5,h6,h7,h8⟩:=h.rw kv hk
 obtain⟨y0,y1,_,y3⟩:=ch.mem z1 g2
 obtain⟨w0,w1,_,w3⟩:=ch.mem z hz
 by_cases e:kv=kv0
 · subst e
   have ez:z1=z:=chain_same ch g2 hz (by rw[ek] at g1;have:=Sum.inl.inj g1;omega)
   subst ez
   rw[ev] at e1
   cases e1
   rw[ht] at h1
   cases h1
   rw[hd] at h2
   cases h2
   refine⟨z1,g1,g2,g3,t,d,c,_,ev,tup ht,hd',h3,h4,h5,nd_putK' _ h6,Nat.le_trans (length_putK _ _ _) (Nat.succ_le_succ h7),fun q hq=>?_⟩
   rcases mem_putK hq with e | ⟨g,hne⟩
   · exact⟨k,n,e,k0,k1,List.getElem?_set_self (by omega)⟩
   · obtain⟨i,n',eq,i0,i1,hc⟩:=h8 q g
     have:i≠k:=fun w=>hne (by rw[eq,w])
     exact⟨i,n',eq,i0,i1,by rw[List.getElem?_set_ne (by omega)];exact hc⟩
 · have hdd:d1≠d:=fun w=>e (h.ap kv hk kv0 hk0 t1 t d c1 c e1 (by rw[←w];exact h1) ev ht)
   have hne:z1≠z:=fun w=>e (key_inj h.nd hk hk0 (by rw[g1,ek,w]))
   refine⟨z1,g1,g2,g3,t1,d1,c1,ks1,e1,tup h1,dic hdd h2,h3,h4,h5,h6,Nat.le_succ_of_le h7,fun q hq=>?_⟩
   obtain⟨i,n',eq,i0,i1,hc⟩:=h8 q hq
   refine⟨i,n',eq,i0,i1,?_⟩
   rw[List.getElem?_set_ne (fun w=>hne (chain_meet ch g2 hz (p:=z1.a+1+i) (by omega) (by omega) (by omega) (by omega)))]
   exact hc
def frl (ps:List Pc):List Int:=(ps.filter fun z=>!z.v).map fun z=>z.l
theorem frl_take {ps:List Pc}{i:Nat}{z:Pc}(h:ps[i]?=some z):frl (ps.take (i+1))=frl (ps.take i)++(if z.v=true then [] else [z.l]):=by
 unfold frl
 rw[List.take_add_one,h,List.filter_append,List.map_append]
 congr 1
 simp only [Option.toList_some,List.filter_cons,List.filter_nil]
 cases z.v <;> rfl
theorem moF_of {ps:List Pc}{mo:Int}(h1:∀i,i<(0::frl ps).length→(0::frl ps).getD i 0≤mo)(h2:∃i,i<(0::frl ps).length∧mo=(0::frl ps).getD i 0):MoF ps mo:=by
 constructor
 · intro z hz hv
   have hm:z.l∈frl ps:=List.mem_map.mpr ⟨z,List.mem_filter.mpr ⟨hz,by rw[hv];rfl⟩,rfl⟩
   obtain⟨i,hi,e⟩:=List.mem_iff_getElem.mp hm
   have:=h1 (i+1) (by rw[List.length_cons];omega)
   rw[List.getD_cons_succ,List.getD_eq_getElem?_getD,List.getElem?_eq_getElem hi,e] at this
   exact this
 · obtain⟨i,hi,e⟩:=h2
   cases i with
   | zero=>exact .inl e
   | succ i =>
     rw[List.length_cons] at hi
     have hi:i<(frl ps).length:=by omega
     rw[List.getD_cons_succ,List.getD_eq_getElem?_getD,List.getElem?_eq_getElem hi] at e
     obtain⟨z,h3,h4⟩:=List.mem_map.mp (List.getElem_mem hi)
     obtain⟨h5,h6⟩:=List.mem_filter.mp h3
     refine .inr ⟨z,h5,by simpa using h6,?_⟩
     rw[e]
     exact h4
def MxW (H1:Hp)(ps:List Pc)(D:Addr)(i:Nat)(ys:List V)(H2:Hp):Prop:=Same H1 H2∧H2 D=some (.lst ys)∧H1 D=none∧ys=(frl (ps.take i)).map V.int∧ys.length≤i
def mny (ps:List Pc)(p:Int):List Int:=(ps.filter fun z=>decide (z.a+1=p)).map fun z=>z.l-2
theorem mny_take {ps:List Pc}{p:Int}{i:Nat}{z:Pc}(h:ps[i]?=some z):mny (ps.take (i+1)) p=mny (ps.take i) p++(if z.a+1=p then [z.l-2] else []):=by
 unfold mny
 rw[List.take_add_one,h,List.filter_append,List.map_append]
 congr 1
 simp only [Option.toList_some,List.filter_cons,List.filter_nil]
 by_cases e:z.a+1=p
 · rw[if_pos e,if_pos (decide_eq_true e)];rfl
 · rw[if_neg e,if_neg (by simpa using e)];rfl
theorem mny_is {ps:List Pc}{z:Pc}{n:Int}(c:Chain 0 ps n)(hz:z∈ps):∃r,mny ps (z.a+1)=(z.l-2)::r:=by
 have hm:z.l-2∈mny ps (z.a+1):=List.mem_map.mpr ⟨z,List.mem_filter.mpr ⟨hz,decide_eq_true rfl⟩,rfl⟩
 cases e:mny ps (z.a+1) with
 | nil=>rw[e] at hm;cases hm
 | cons x r =>
   have hx:x∈mny ps (z.a+1):=by rw[e];exact List.mem_cons_self
   obtain⟨y,h1,h2⟩:=List.mem_map.mp hx
   obtain⟨h3,h4⟩:=List.mem_filter.mp h1
   have:y.a+1=z.a+1:=of_decide_eq_true h4
   have:y=z:=chain_same c h3 hz (by omega)
   rw[this] at h2
   exact⟨r,by rw[←h2]⟩
def MnW (H1:Hp)(ps:List Pc)(p:Int)(D:Addr)(i:Nat)(ys:List V)(H2:Hp):Prop:=Same H1 H2∧H2 D=some (.lst ys)∧H1 D=none∧ys=(mny (ps.take i) p).map V.int∧ys.length≤i
def spStepH (C:Addr):Sp:=fun vs H Q _=>∃(x dx a kd lp:Addr) (N m:Nat) (c0:Int) (ps:List Pc) (cs:List Int) (kvs:List (Key×V)) (us:List V),vs=[.ref x,.ref kd,.ref lp,.int c0,.int (2^N)]∧HvS C x dx a N ps cs H∧NbF ps∧HhS cs ps kd kvs m H∧m≤62∧H lp=some (.lst us)∧PcsAt H us ps ∧
 ∀(a':Addr) (ps':List Pc) (cs':List Int) (kvs':List (Key×V)) (H':Hp),FrH x a H a' H'→HvS C x dx a' N ps' cs' H'→NbF ps'→HhS cs' ps' kd kvs' (m+1) H'→Q (.bl true) H'
theorem FrH.from {x a a':Addr}{H H1 H2:Hp}(h:FrH x a H1 a' H2)(s:Same H H1):FrH x a H a' H2:=⟨fun b o hb n1 n2 n3=>h.1 b o (s b o hb) n1 n2 n3,h.2.elim .inl fun e=>.inr (s.free e)⟩
theorem d_Z42 (S:Src K mg "_law_step" s_Z42)(T:Txt K mg Y0 Y8 Y3 Y2 Y6 Y9 Y1 Y7 Y5 Y4 W0_ W1_)(D_Z32:Defx P w K mg base "_law_asked" 7 ["_law_keeper","_law_held","_law_count","_law_most"] (spAskdH Y4))(D_Z26:Defx P w K mg base "_law_number" 1 ["_law_cell"] (spNum))(D_put:Methx P w K mg base Y4 "put" 9 ["self","place","k","number"] [] (spPutH Y4))(D_Z49:Methx P w K mg base Y4 "give" 8 ["self","place"] [] (spGiveH Y4))(D_Z31:Defx P w K mg base "_law_grown" 11 ["_law_keeper","_law_held","_law_place","_law_count","_law_least","_law_most"] (spGrwnH Y4))(D_Z44:Methx P w K mg base Y4 "clear" 3 ["self"] [] (spClearH Y4)):Defx P w K mg base "_law_step" 12 ["_law_keeper","_law_held","_law_pieces","_law_cell","_law_size"] (spStepH Y4):=by
 refine S.okx sc_Z42 bi_Z42 (fun vs H Q E h=>by revert h;walk_at "len") (fun f cdv A outer s H vs Q E hr h=>?_)
 refine⟨_,PSs.nox (pss_cons (ps_set (i:=5) sc_Z42.nd rfl (Or.inl rfl) (pe_op op_add pe_int (pe_op op_mod (pe_op op_mod (pe_op op_mul (pv 3) pe_int) pe_int) (pe_ix ix_list (pe_lst (pa_cons pe_int (pa_cons pe_int (pa_cons pe_int (pa_cons (pv 4) pa_nil))))) (pe_op op_mod (pe_op op_mod (pe_op op_mul (pv 3) pe_int) pe_int) pe_int) (fun _ _=>rfl))))) (pss_cons (ps_set (i:=6) sc_Z42.nd rfl (Or.inl rfl) (pe_callB (call_maxM rfl) (by rfl) T.n_max PyProof.Rows.boot_max (pa_cons (pe_op op_cat (pe_lst (pa_cons pe_int pa_nil)) (pe_compN ["_law_piece"] rfl (pi_list (pv 2)) (fun cl C s₀ H₀ ex=>(pg_name (i:=0) (show ((["_law_piece"]:List Str)++([]:List Str)).Nodup by decide +kernel) rfl (Or.inl rfl))) (fun cl C s₀ H₀ ex=>(pts_one (pt_not (pt_truthK (K:=K) rfl (pe_ix (ix_tupK (K:=K) rfl) (pv 0) pe_int (fun _ _=>rfl)) (fun _=>rfl))))) (fun cl C s₀ H₀ ex=>(pe_ix (ix_tupK (K:=K) rfl) (pv 0) pe_int (fun _ _=>rfl))) )) pa_nil))) (pss_cons (ps_set (i:=7) sc_Z42.nd rfl (Or.inl rfl) (pe_op op_mod (pv 3) pe_int)) (pss_cons (ps_if (PW.pt (pw_or (pt_cmpR op_lt (pv 7) pe_int (nomark _)) (pw_or1 (pt_not (pt_truthD (pv 1) (fun _=>rfl)))))) (pss_one (ps_ret (pe_defq D_Z32 hr (by rfl) (pa_cons (pv 0) (pa_cons (pv 1) (pa_cons (pv 5) (pa_cons (pv 6) pa_nil))))))) pss_nil) (pss_cons (ps_set (i:=8) sc_Z42.nd rfl (Or.inl rfl) (pe_callB (call_sortedD rfl) (by rfl) T.n_sorted PyProof.Rows.boot_sorted (pa_cons (pv 1) pa_nil))) (pss_cons (ps_set (i:=9) sc_Z42.nd rfl (Or.inr rfl) (pe_ix ix_list (pv 8) (pe_op op_mod (pe_op op_mod (pe_op op_mul (pv 3) pe_int) pe_int) (pe_callB call_len_seq (by rfl) T.n_len PySem.boot_len (pa_cons (pv 8) pa_nil))) (fun _ _=>rfl))) (pss_cons (ps_set (i:=10) sc_Z42.nd rfl (Or.inl rfl) (pe_ix ix_list (pe_compG ["_law_piece"] ["_law_place"] [9] rfl (pi_list (pv 2)) (fun cl C s₀ H₀ ex=>(pg_name (i:=0) (show ((["_law_piece"]:List Str)++(["_law_place"]:List Str)).Nodup by decide +kernel) rfl (Or.inl rfl))) (fun cl C s₀ H₀ ex=>(pts_one (pt_cmpR op_eq (pe_op op_add (pe_ix (ix_tupK (K:=K) rfl) (pv 0) pe_int (fun _ _=>rfl)) pe_int) (pv 1) (nomark _)))) (fun cl C s₀ H₀ ex=>(pe_op op_sub (pe_ix (ix_tupK (K:=K) rfl) (pv 0) pe_int (fun _ _=>rfl)) pe_int)) (caught_one rfl rfl rfl) (free_one (n:="_law_place") (by decide +kernel) rfl) (fun y h=>relabel_free (by decide +kernel) h)) pe_int (fun _ _=>rfl))) (pss_cons (ps_if (pt_cmpR op_lt (pv 7) pe_int (nomark _)) (pss_cons (ps_set (i:=11) sc_Z42.nd rfl (Or.inl rfl) (pe_op op_mod (pe_op op_mod (pe_op op_mul (pv 3) pe_int) pe_int) (pv 10))) (pss_cons (ps_dput (units1 hr.units) (pe_ix ix_tup (pe_dget (units1 hr.units) (pv 1) (pv 9) (fun _ _=>rfl)) pe_int (fun _ _=>rfl)) (pv 11) (pe_defq D_Z26 hr (by rfl) (pa_cons (pe_op op_fdiv (pv 3) pe_int) pa_nil)) rfl) (pss_one (ps_ret (pe_cmpR op_isN (pe_methp D_put pass_e0 hr (pv 0) (pa_cons (pv 9) (pa_cons (pv 11) (pa_cons (pe_dget (units1 hr.units) (pe_ix ix_tup (pe_dget (units1 hr.units) (pv 1) (pv 9) (fun _ _=>rfl)) pe_int (fun _ _=>rfl)) (pv 11) (fun _ _=>rfl)) pa_nil)))) pe_non (nomark _)))))) pss_nil) (pss_cons (ps_if (PW.pt (pw_or (pt_cmpR op_eq (pv 7) pe_int (nomark _)) (pw_or1 (pt_cmpR op_eq (pv 7) pe_int (nomark _))))) (pss_cons (ps_expr (pe_dpop1 (pv 1) (pv 9) ⟨rfl,rfl,rfl,rfl⟩)) (pss_one (ps_ret (pe_cmpR op_isN (pe_methp D_Z49 pass_e0 hr (pv 0) (pa_cons (pv 9) pa_nil)) pe_non (nomark _))))) pss_nil) (pss_cons (ps_if (PW.pt (pw_or (pt_cmpR op_lt (pv 7) pe_int (nomark _)) (pw_or1 (pt_cmpR op_ne (pe_op op_mod (pe_op op_fdiv (pv 3) pe_int) pe_int) pe_int (nomark _))))) (pss_one (ps_ret (pe_defq D_Z31 hr (by rfl) (pa_cons (pv 0) (pa_cons (pv 1) (pa_cons (pv 9) (pa_cons (pv 5) (pa_cons (pv 10) (pa_cons (pv 6) pa_nil))))))))) pss_nil) (pss_cons (ps_expr (pe_bm0 PySem.F.plainAttrs_dict PySem.F.slot_dict_clear PySem.F.type_dict_clear mt_dclear (pv 1))) (pss_one (ps_ret (pe_cmpR op_isN (pe_methp0 D_Z44 pass_e0 hr (pv 0)) pe_non (nomark _))))))))))))))),?_⟩
 obtain⟨x,dx,a,kd,lp,N,m,c0,ps,cs,kvs,us,rfl,S,nb,D,hm,hlp,pa,q⟩:=h
 have hz:=S.hz
 have hx:=S.hx
 have hul:=pa.1
 have hple:=S.ch.le
 have pN:=pw1 N
 have pN2:=pow_mono S.hN
 have e256:(2:Int)^8=256:=by decide
 walk_at "go"
 intro p4 np4
 have v0:=Int.emod_nonneg (c0*16807%31337) (show (4:Int)≠0 by decide)
 have v1:=Int.emod_lt_of_pos (c0*16807%31337) (show (0:Int)<4 by decide)
 generalize es:(2:Int)^N=sz at *
 have hM:1≤([2,6,14,sz]:List Int).getD (c0*16807%31337%4).toNat 0∧([2,6,14,sz]:List Int).getD (c0*16807%31337%4).toNat 0≤256:=by
   rcases(show c0*16807%31337%4=0∨c0*16807%31337%4=1∨c0*16807%31337%4=2∨c0*16807%31337%4=3 by omega) with e | e | e | e <;> rw[e]
   · exact(show (1:Int)≤2∧(2:Int)≤256 by decide)
   · exact(show (1:Int)≤6∧(6:Int)≤256 by decide)
   · exact(show (1:Int)≤14∧(14:Int)≤256 by decide)
   · show 1≤sz∧sz≤256
     omega
 have s4:Same H (upd H p4 (.lst [.int 2,.int 6,.int 14,.int sz])):=Same.new np4
 have hp4:upd H p4 (.lst [.int 2,.int 6,.int 14,.int sz]) p4=some (.lst (([2,6,14,sz]:List Int).map V.int)):=upd_same
 generalize upd H p4 (.lst [.int 2,.int 6,.int 14,.int sz])=H4 at s4 hp4 ⊢
 walk_at "go"
 have w0:=Int.emod_nonneg (c0*48271%65537) (show ([2,6,14,sz]:List Int).getD (c0*16807%31337%4).toNat 0≠0 by omega)
 have w1:=Int.emod_lt_of_pos (c0*48271%65537) (show 0<([2,6,14,sz]:List Int).getD (c0*16807%31337%4).toNat 0 by omega)
 obtain⟨ct,ect,ct1,ct2⟩:∃ct:Int,1+c0*48271%65537%([2,6,14,sz]:List Int).getD (c0*16807%31337%4).toNat 0=ct∧1≤ct∧ct≤4000:=⟨_,rfl,by omega,by omega⟩
 rw[ect]
 clear ect w0 w1 hM v0 v1 hp4
 subst es
 intro p0 np0
 have s5:Same H (upd H4 p0 (.lst [.int 0])):=s4.trans (Same.new np0)
 have hp0:upd H4 p0 (.lst [.int 0]) p0=some (.lst [.int 0]):=upd_same
 generalize upd H4 p0 (.lst [.int 0])=H5 at s5 hp0 ⊢
 walk_at "go"
 have S5:=S.same s5
 have D5:=D.same s5
 have hlp5:=s5 lp _ hlp
 have pa5:=pa.same s5
 refine⟨lp,rfl,⟨_,SqL.of hlp5⟩,compH_list (K:=K) (a:=lp) (xs:=us) (MxW H5 ps) (fun D hD=>⟨Same.new hD,upd_same,hD,rfl,Nat.le_refl _⟩) (fun D i ys H2 _ h=>SqL.of (h.1 lp _ hlp5)) ?_ ?_⟩
 · rintro D2 i y ys H6 hD hi ⟨s6,hD6,_,ey,hyl⟩ τ hτ
   have hil:i<us.length:=(List.getElem?_eq_some_iff.mp hi).1
   obtain⟨z,hzi⟩:∃z,ps[i]?=some z:=⟨_,List.getElem?_eq_getElem (by omega)⟩
   obtain⟨t,et,hT⟩:=pa5.2 i z hzi
   have ey2:y = .ref t:=Option.some.inj (hi.symm.trans et)
   subst ey2
   have hT6:=s6 t _ hT
   have ef:=frl_take hzi
   match τ,hτ with
   | [τ0],_ =>
     walk_at "go"
     refine⟨⟨[_],rfl,rfl⟩,?_⟩
     walk_at "go"
     refine r_ifb (fun hv=>?_) (fun hv=>?_)
     · walk_at "go"
       rw[if_pos hv,List.append_nil] at ef
       exact nx_mk hil ⟨s6,hD6,hD,by rw[ef];exact ey,by omega⟩
     · walk_at "go"
       rw[if_neg (by rw[hv];exact Bool.false_ne_true)] at ef
       refine⟨hD6,small4000 (by omega),nx_mk hil ⟨s6.put hD,upd_same,hD,?_,by rw[List.length_append,List.length_singleton];omega⟩⟩
       rw[ef,List.map_append,ey]
       rfl
 rintro D1 ys H6 hD1 ⟨s6,hD16,_,ey,hyl⟩
 rw[List.take_of_length_le (by omega)] at ey
 subst ey
 have hp06:=s6 p0 _ hp0
 rw[List.length_map] at hyl
 walk_at "go"
 refine r_catG (xs:=[0]) (zs:=frl ps) hp06 hD16 (by rw[List.length_singleton];omega) (fun pm H7 npm s7 hpm=>?_)
 walk_at "go"
 refine⟨pm,0::frl ps,rfl,hpm,Nat.succ_pos _,fun mo h1 h2=>?_⟩
 have hmo:=moF_of h1 h2
 have sX:=s5.trans (s6.trans s7)
 clear h1 h2 hpm npm hp06 hD16 hyl hD1 hlp5 pa5 D5 S5 hp0 np0 np4 s5 s6 s7 s4
 have SX:=S.same sX
 have DX:=D.same sX
 have hlpX:=sX lp _ hlp
 have paX:=pa.same sX
 have hxX:=SX.hx
 have hkdX:=DX.hd
 have hfw:=D.fw
 obtain⟨B,hB⟩:=least_ex ct ct1
 walk_at "go"
 refine r_ifd (fun h6=>?_) (fun h6=>?_)
 · walk_at "go"
   refine⟨x,dx,a,kd,N,m,B,ps,cs,kvs,ct,mo,rfl,SX,nb,DX,hm,ct1,ct2,hB,hmo,fun a' ps' cs' kvs' H' f l S' n' D'=>?_⟩
   walk_at "go"
   exact q a' ps' cs' kvs' H' (f.from sX) S' n' D'
 walk_at "go"
 refine⟨kd,kvs,rfl,hkdX,?_⟩
 cases hK:kvs.isEmpty with
 | true =>
   walk_at "go"
   refine⟨x,dx,a,kd,N,m,B,ps,cs,kvs,ct,mo,rfl,SX,nb,DX,hm,ct1,ct2,hB,hmo,fun a' ps' cs' kvs' H' f l S' n' D'=>?_⟩
   walk_at "go"
   exact q a' ps' cs' kvs' H' (f.from sX) S' n' D'
 | false =>
 have hkp:0<kvs.length:=by
   cases kvs with
   | nil=>cases hK
   | cons _ _=>exact Nat.succ_pos _
 obtain⟨ns2,ek2⟩:=keys_ints (kvs:=kvs) fun kv hk=>let ⟨z,e,_⟩:=D.rw kv hk;⟨_,e⟩
 have hn2l:ns2.length=kvs.length:=by have:=congrArg List.length ek2;rw[List.length_map,List.length_map] at this;omega
 walk_at "go"
 refine⟨kd,kvs,ns2,rfl,hkdX,ek2,by omega,fun d1 ms nd1 p1 o1=>?_⟩
 have hml:ms.length=kvs.length:=by rw[p1.length_eq];exact hn2l
 have s8:Same H7 (upd H7 d1 (.lst (ms.map V.int))):=Same.new nd1
 have hd18:upd H7 d1 (.lst (ms.map V.int)) d1=some (.lst (ms.map V.int)):=upd_same
 generalize upd H7 d1 (.lst (ms.map V.int))=H8 at s8 hd18 ⊢
 have i0:=Int.emod_nonneg (c0*40692%30011) (show (ms.length:Int)≠0 by omega)
 have i1:=Int.emod_lt_of_pos (c0*40692%30011) (show (0:Int)<(ms.length:Int) by omega)
 obtain⟨kv,hkm,ekv⟩:=key_at ek2 p1 (k:=(c0*40692%30011%(ms.length:Int)).toNat) (by omega)
 have sX:=sX.trans s8
 have SX:=S.same sX
 have DX:=D.same sX
 have hlpX:=sX lp _ hlp
 have paX:=pa.same sX
 have hxX:=SX.hx
 have hkdX:=DX.hd
 obtain⟨z,ek,hzm,hzv,t,d,c,ks,ev,ht,hd',hc1,hc2,hc3,knd,kln,hks⟩:=DX.rw kv hkm
 have ep:ms.getD (c0*40692%30011%(ms.length:Int)).toNat 0=z.a+1:=by rw[ek] at ekv;exact(Sum.inl.inj ekv).symm
 have hval:valV kvs (.inl (z.a+1))=some (.ref t):=by have:=valV_mem DX.nd hkm;rw[ek,ev] at this;exact this
 have dg:∀{H':Hp},H' kd=some (.dK kvs)→DGet H' kd (.int (z.a+1)) (some (.ref t)):=fun h=>by
   have:=DGet.k (k:=.inl (z.a+1)) h
   rw[hval] at this
   exact this
 have hlm:(ms.map V.int).length=ms.length:=List.length_map _
 obtain⟨z0,z1,z3,z4⟩:=S.ch.mem z hzm
 have z3:=z3 hzv
 walk_at "gs"
 rw[ep]
 refine⟨lp,rfl,⟨_,SqL.of hlpX⟩,compH_list (K:=K) (a:=lp) (xs:=us) (MnW H8 ps (z.a+1)) (fun D hD=>⟨Same.new hD,upd_same,hD,rfl,Nat.le_refl _⟩) (fun D i ys H2 _ h=>SqL.of (h.1 lp _ hlpX)) ?_ ?_⟩
 · rintro D2 i y ys H9 hD hi ⟨s9,hD9,_,ey,hyl⟩ τ hτ
   have hil:i<us.length:=(List.getElem?_eq_some_iff.mp hi).1
   obtain⟨w,hwi⟩:∃w,ps[i]?=some w:=⟨_,List.getElem?_eq_getElem (by omega)⟩
   obtain⟨t1,et,hT⟩:=paX.2 i w hwi
   have ey2:y = .ref t1:=Option.some.inj (hi.symm.trans et)
   subst ey2
   have hT9:=s9 t1 _ hT
   have ef:=mny_take (p:=z.a+1) hwi
   match τ,hτ with
   | [τ0],_ =>
     walk_at "go"
     refine⟨⟨[_],rfl,rfl⟩,?_⟩
     walk_at "go"
     refine r_ifd (fun hl=>?_) (fun hl=>?_)
     · walk_at "go"
       rw[if_pos hl] at ef
       refine⟨hD9,small4000 (by omega),nx_mk hil ⟨s9.put hD,upd_same,hD,?_,by rw[List.length_append,List.length_singleton];omega⟩⟩
       rw[ey,ef,List.map_append]
       rfl
     · walk_at "go"
       rw[if_neg hl,List.append_nil] at ef
       exact nx_mk hil ⟨s9,hD9,hD,by rw[ey,ef],by omega⟩
 rintro D1 ys H9 hD1 ⟨s9,hD19,_,ey,hyl⟩
 rw[List.take_of_length_le (by omega)] at ey
 obtain⟨mr,emr⟩:=mny_is S.hc hzm
 rw[emr] at ey
 subst ey
 have sX:=sX.trans s9
 have SX:=S.same sX
 have DX:=D.same sX
 have hxX:=SX.hx
 have hkdX:=DX.hd
 have ht9:=s9 t _ ht
 have hd9:=s9 d _ hd'
 clear hlpX paX hd18 s8 hlm i0 i1 ekv ep ht hd'
 obtain⟨mz,qz,el,ea⟩:=S.al z hzm
 have ez:z=⟨2^mz*(qz:Int),2^mz,true⟩:=by
   obtain⟨za,zl,zv⟩:=z
   have el:zl=2^mz:=el
   have ea:za=2^mz*(qz:Int):=ea
   have hzv:zv=true:=hzv
   rw[el,ea,hzv]
 have hzm':(⟨2^mz*(qz:Int),2^mz,true⟩:Pc)∈ps:=ez▸hzm
 have hdk:d≠kd:=fun w=>DX.nk kv hkm t c ev (by rw[←w];exact ht9)
 have hxk:x≠kd:=fun w=>by rw[w,hkdX] at hxX;cases hxX
 have hak:a≠kd:=fun w=>by have:=SX.ha;rw[w,hkdX] at this;cases this
 have hda:d≠a:=fun w=>by rw[w,SX.ha] at hd9;cases hd9
 have hxd:x≠d:=fun w=>by rw[w,hd9] at hxX;cases hxX
 have c0':∀y∈ps,0≤y.a:=fun y hy=>(S.hc.mem y hy).1
 walk_at "go"
 rw[show ((z.l-2)::mr).getD (0:Int).toNat 0=z.l-2 from rfl]
 clear hD19 hyl emr hD1
 refine r_ifd (fun h11=>?_) (fun h11=>?_)
 · have k0:=Int.emod_nonneg (c0*69621%65521) (show z.l-2≠0 by omega)
   have k1:=Int.emod_lt_of_pos (c0*69621%65521) (show 0<z.l-2 by omega)
   walk_at "go"
   generalize c0*69621%65521%(z.l-2)=k at k0 k1 ⊢
   refine⟨_,rfl,fun n=>?_⟩
   walk_at "go"
   refine⟨kd,.ref t,rfl,dg hkdX,?_⟩
   walk_at "go"
   refine⟨d,_,rfl,DPut.k (k:=.inl k) hd9 (small4000 (by omega)),?_⟩
   have hd10:upd H9 d (.dK (putK ks (.inl k) (.int n))) d=some (.dK (putK ks (.inl k) (.int n))):=upd_same
   have k10:KeepX d H9 (upd H9 d (.dK (putK ks (.inl k) (.int n)))):=KeepX.refl.put
   generalize upd H9 d (.dK (putK ks (.inl k) (.int n)))=H10 at hd10 k10 ⊢
   have hkd10:=k10 kd _ (Ne.symm hdk) hkdX
   have ht10:=k10 t _ (fun w=>by rw[w,hd9] at ht9;cases ht9) ht9
   have S10:HvS Y4 x dx a N ps cs H10:=⟨k10 x _ hxd hxX,k10 a _ (Ne.symm hda) SX.ha,SX.hl,SX.hN,SX.hc,SX.mm,SX.al⟩
   have hx10:=S10.hx
   walk_at "go"
   refine⟨kd,.ref t,rfl,dg hkd10,?_⟩
   walk_at "go"
   refine⟨d,.int n,rfl,(by have:=DGet.k (k:=.inl k) hd10;rw[valV_put,if_pos rfl] at this;exact this),?_⟩
   walk_at "go"
   refine⟨x,dx,a,N,ps,cs,z,k,n,rfl,S10,hzm,hzv,k0,k1,fun H11 k11 S11=>?_⟩
   walk_at "go"
   exact q a ps _ kvs H11 ⟨fun b o hb n1 n2 n3=>k11 b o n2 (k10 b o (fun w=>n3 _ (by have:=sX b o hb;rw[w,hd9] at this;exact(Option.some.inj this).symm)) (sX b o hb)),.inl rfl⟩ S11 nb (DX.put SX.ch hkm ek hzm ev ht9 hd9 SX.ha k0 k1 (fun b o n1 n2 hb=>k11 b o n1 (k10 b o n2 hb)) (k11 d _ hda hd10))
 by_cases hg:c0%16=11∨c0%16=12
 · obtain⟨hmN,ds,rs,ds',rs',m',q',eps,G,L'⟩:=live_ends S.hc hzm'
   obtain⟨gp1,gp2⟩:=given_parts eps G
   have D10:=DX.t.drop (k:=.inl (z.a+1))
   have S10:HvS Y4 x dx a N ps cs (upd H9 kd (.dK (dropK kvs (.inl (z.a+1))))):=⟨look_ne hxk hxX,look_ne hak SX.ha,SX.hl,SX.hN,SX.hc,SX.mm,SX.al⟩
   have k10:KeepX kd H9 (upd H9 kd (.dK (dropK kvs (.inl (z.a+1))))):=KeepX.refl.put
   have hin:∀y,y∈ds∨y∈rs→y∈ps:=fun y hy=>by
     rw[eps]
     rcases hy with g | g
     · exact List.mem_append_left _ g
     · exact List.mem_append_right _ (List.mem_cons_of_mem _ g)
   have hne:∀y,y∈ds∨y∈rs→y.a≠2^mz*(qz:Int):=fun y hy=>by
     have c5:=S.hc
     rw[eps] at c5
     obtain⟨k,cA,⟨ea,_,_,cB⟩⟩:=chain_part c5
     have ea:2^mz*(qz:Int)=k:=ea
     have p1:=pw1 mz
     rcases hy with g | g
     · have:=cA.mem y g
       omega
     · have:=(cB.mem y g).1
       have:k+2^mz≤y.a:=this
       omega
   rcases hg with hg | hg
   all_goals
     walk_at "go"
     refine⟨kd,rfl,.inl ⟨kvs,.inl hkdX⟩,?_⟩
     walk_at "go"
     refine⟨kvs,.inl (z.a+1),.ref t,hkdX,rfl,hval,?_⟩
     generalize upd H9 kd (.dK (dropK kvs (.inl (z.a+1))))=H10 at D10 S10 k10 ⊢
     have hx10:=S10.hx
     walk_at "go"
     refine⟨x,dx,a,N,mz,qz,m',q',ps,ds,rs,ds',rs',cs,by rw[ea],S10,hmN,eps,G,fun a' cs' H11 na k11 l11 o11 S11=>?_⟩
     walk_at "go"
     have xne:∀{b':Addr} {o:HO},(∀C dx fs,o≠.ins C dx fs)→H10 b'=some o→b'≠x:=fun hn hb e=>by
       rw[e,hx10] at hb
       exact hn _ _ _ (Option.some.inj hb).symm
     have D11:HhT cs' (ds'++⟨2^m'*(q':Int),2^m',false⟩::rs') kd (dropK kvs (.inl (z.a+1))) m H11:=D10.move (gone:=fun y=>y=z) (fun b' us e=>k11 b' _ (xne (fun _ _ _ w=>by cases w) e) e) (fun b' ks' e=>k11 b' _ (xne (fun _ _ _ w=>by cases w) e) e) (fun y hy hv hg=>by
       obtain⟨w1,w2⟩:=gp1 y hy hv (by rw[←ez];exact hg)
       exact⟨w1,fun j hj=>o11 j (by have:=L'.outer w2;obtain⟨j1,j2⟩:=hj;omega)⟩) c0' (fun kv hk y e1 _ e2=>(dropK_is hk).2 (by rw[e1,e2]))
     refine q a' _ cs' _ H11 ⟨fun b o hb n1 n2 n3=>k11 b o n1 (k10 b o (fun w=>n3 _ (by have:=sX b o hb;rw[w,hkdX] at this;exact(Option.some.inj this).symm)) (sX b o hb)),.inr ?_⟩ S11 (nb.give (N:=N) G hin) (D11.up.seal fun y hy hv=>?_)
     · cases e:H a' with
       | none=>rfl
       | some o =>
         by_cases w:a'=kd
         · rw[w,D10.hd] at na;cases na
         · rw[k10 a' o w (sX a' o e)] at na;cases na
     · have g:=gp2 y hy hv
       obtain⟨kv',g1,g2⟩:=D.sj y (hin y g) hv
       refine⟨kv',List.mem_filter.mpr ⟨g1,?_⟩,g2⟩
       have:kv'.1≠.inl (z.a+1):=fun w=>hne y g (by rw[g2] at w;have:=Sum.inl.inj w;omega)
       simpa using this
 by_cases h15:c0%16<15
 · walk_at "go"
   refine⟨x,dx,a,kd,N,m,B,mz,qz,ps,cs,kvs,ct,mo,by rw[ea,el],SX,nb,DX,hm,ct1,ct2,hB,hmo,hzm',fun a' ps' cs' kvs' H' f l S' n' D'=>?_⟩
   walk_at "go"
   exact q a' ps' cs' kvs' H' (f.from sX) S' n' D'
 by_cases h3:c0/16%3=1
 rotate_left
 · walk_at "go"
   refine⟨x,dx,a,kd,N,m,B,mz,qz,ps,cs,kvs,ct,mo,by rw[ea,el],SX,nb,DX,hm,ct1,ct2,hB,hmo,hzm',fun a' ps' cs' kvs' H' f l S' n' D'=>?_⟩
   walk_at "go"
   exact q a' ps' cs' kvs' H' (f.from sX) S' n' D'
 walk_at "go"
 refine r_dclear hkdX ?_
 have k10:KeepX kd H9 (upd H9 kd (.dK [])):=KeepX.refl.put
 have hkd10:upd H9 kd (.dK []) kd=some (.dK []):=upd_same
 generalize upd H9 kd (.dK [])=H10 at k10 hkd10 ⊢
 have S10:HvS Y4 x dx a N ps cs H10:=⟨k10 x _ hxk hxX,k10 a _ hak SX.ha,SX.hl,SX.hN,SX.hc,SX.mm,SX.al⟩
 have hx10:=S10.hx
 walk_at "go"
 refine⟨x,dx,a,N,ps,cs,rfl,S10,fun a' cs' H11 na k11 l11 S11=>?_⟩
 walk_at "go"
 refine q a' _ cs' [] H11 ⟨fun b o hb n1 n2 n3=>k11 b o n1 (k10 b o (fun w=>n3 _ (by have:=sX b o hb;rw[w,hkdX] at this;exact(Option.some.inj this).symm)) (sX b o hb)),.inr ?_⟩ S11 (NbF.one N) ⟨k11 kd _ (Ne.symm hxk) hkd10,List.nodup_nil,(fun kv hk=>by cases hk),(fun kv hk=>by cases hk),(fun kv hk=>by cases hk),Nat.zero_le _,fun y hy hv=>by rw[List.mem_singleton.mp hy] at hv;cases hv⟩
 cases e:H a' with
 | none=>rfl
 | some o =>
   by_cases w:a'=kd
   · rw[w,hkd10] at na;cases na
   · rw[k10 a' o w (sX a' o e)] at na;cases na
def LwH (C:Addr)(f0:Option V)(x dx kd q1:Addr)(N:Nat)(zs:List Int)(i:Nat)(σ:L2.St)(H':Hp):Prop :=
 ∃(a lp:Addr) (ps:List Pc) (cs:List Int) (us:List V) (kvs:List (Key×V)) (x5:Option V),σ=[f0,some (.int (2^N)),some (.ref x),some (.ref kd),some (.ref lp),x5]∧HvS C x dx a N ps cs H'∧NbF ps∧HhS cs ps kd kvs i H'∧H' lp=some (.lst us)∧PcsAt H' us ps∧H' q1=some (.lst (zs.map V.int))∧q1≠a
theorem isPow_all:∀N:Nat,N≤8→isPow (2^N)=true:=by decide
theorem ok_law {f:Addr}{fd:FuncData}(F:Fun K "law" "law" s_law f fd)(T:Txt K mg Y0 Y8 Y3 Y2 Y6 Y9 Y1 Y7 Y5 Y4 W0_ W1_)(D_Z23:Defx P w K mg base "_law_cell_at" 1 ["_law_script","_law_k"] (spCell K))(D_Halves:Makex P w K mg base "Halves" Y4 4 ["self","size"] [] (spMkH Y4 Y8))(D_Z38:Defx P w K mg base "_law_good" 3 ["_law_keeper","_law_held"] (spGood Y4))(D_Z42:Defx P w K mg base "_law_step" 12 ["_law_keeper","_law_held","_law_pieces","_law_cell","_law_size"] (spStepH Y4))(D_Z39:Defx P w K mg base "_law_told" 10 ["_law_keeper","_law_held","_law_cell"] (spToldH Y4)):FnOk P w K mg base (CXe P w) 13 f fd ["_law_script"] (spLaw K):=by
 refine fun_okx F sc_law (fun vs H Q E h=>by revert h;walk_at "len") (fun cdv A outer s H vs Q E hr h=>?_)
 refine⟨_,PSs.nox (pss_cons (ps_set (i:=1) sc_law.nd rfl (Or.inl rfl) (pe_op op_shlB pe_int (pe_op op_mod (pe_defq D_Z23 hr (by rfl) (pa_cons (pv 0) (pa_cons pe_int pa_nil))) pe_int))) (pss_cons (ps_if (pt_cmpR op_eq (pe_op op_mod (pe_op op_fdiv (pe_defq D_Z23 hr (by rfl) (pa_cons (pv 0) (pa_cons pe_int pa_nil))) pe_int) pe_int) pe_int (nomark _)) (pss_one (ps_set (i:=1) sc_law.nd rfl (Or.inl rfl) pe_int)) pss_nil) (pss_cons (ps_set (i:=2) sc_law.nd rfl (Or.inl rfl) (pe_makep D_Halves pass_e0 hr (by rfl) (pa_cons (pv 1) pa_nil))) (pss_cons (ps_set (i:=3) sc_law.nd rfl (Or.inl rfl) pe_dnewK) (pss_cons (ps_set (i:=4) sc_law.nd rfl (Or.inl rfl) (pe_defq D_Z38 hr (by rfl) (pa_cons (pv 2) (pa_cons (pv 3) pa_nil)))) (pss_cons (ps_if (pt_cmpR op_isN (pv 4) pe_non (nomark _)) (pss_one (ps_ret pe_bl)) pss_nil) (pss_cons (ps_for PassesOwn.never rfl (pi_list (pe_slice sl_list (pv 0) (po_some pe_int) (po_some pe_int))) (pg_name (i:=5) sc_law.nd rfl (Or.inl rfl)) (pss_cons (ps_if (pt_not (pt_val (pe_defq D_Z42 hr (by rfl) (pa_cons (pv 2) (pa_cons (pv 3) (pa_cons (pv 4) (pa_cons (pv 5) (pa_cons (pv 1) pa_nil)))))))) (pss_one (ps_ret pe_bl)) pss_nil) (pss_cons (ps_set (i:=4) sc_law.nd rfl (Or.inl rfl) (pe_defq D_Z38 hr (by rfl) (pa_cons (pv 2) (pa_cons (pv 3) pa_nil)))) (pss_one (ps_if (PW.pt (pw_or (pt_cmpR op_isN (pv 4) pe_non (nomark _)) (pw_or1 (pt_not (pt_val (pe_defq D_Z39 hr (by rfl) (pa_cons (pv 2) (pa_cons (pv 3) (pa_cons (pv 5) pa_nil))))))))) (pss_one (ps_ret pe_bl)) pss_nil))))) (pss_one (ps_ret pe_bl))))))))),?_⟩
 obtain⟨sc,ns,rfl,hS,hlen,kk⟩:=h
 have v0:=Int.emod_nonneg (ns.getD (0:Int).toNat 0) (show (7:Int)≠0 by decide)
 have v1:=Int.emod_lt_of_pos (ns.getD (0:Int).toNat 0) (show (0:Int)<7 by decide)
 walk_at "gs"
 refine r_seqM (M:=fun σ' H'=>∃N:Nat,H'=H∧N≤8∧σ'=[some (.ref sc),some (.int (2^N)),none,none,none,none]) ?_ (fun nx hM=>?_)
 · rintro σ' H' ⟨N,rfl,hN,rfl⟩
   have pN:=pw1 N
   have pN2:=pow_mono hN
   have e256:(2:Int)^8=256:=by decide
   walk_at "go"
   intro x dx nx ndx nex
   have s6:Same H' (upd (upd H' dx (.own x)) x (.ins Y4 dx [])):=(Same.new ndx).put nx
   have hx6:upd (upd H' dx (.own x)) x (.ins Y4 dx []) x=some (.ins Y4 dx []):=upd_same
   have hsx:∀o,H' sc=some o→sc≠x:=fun o h=>ne_of_none h nx
   generalize upd (upd H' dx (.own x)) x (.ins Y4 dx [])=H6 at s6 hx6 ⊢
   refine⟨x,dx,2^N,rfl,hx6,by omega,(fun z=>by rw[isPow_all N hN] at z;cases z),fun _ a H7 na7 k7 hx7 ha7=>⟨rfl,?_⟩⟩
   have hS7:SqL K H7 sc (ns.map V.int):=seq_at hS fun o h=>k7 sc o (hsx o h) (s6 sc o h)
   obtain⟨f1,f2,f3,f4⟩:=fresh_HvS (N:=N)
   have S7:HvS Y4 x dx a N [⟨0,2^N,false⟩] (freshI (2^N)) H7:=⟨hx7,ha7,f1,hN,f2,f3,f4⟩
   walk_at "go"
   intro kd nkd
   have s8:Same H7 (upd H7 kd (.dK [])):=Same.new nkd
   have hkd8:upd H7 kd (.dK []) kd=some (.dK []):=upd_same
   generalize upd H7 kd (.dK [])=H8 at s8 hkd8 ⊢
   have S8:=S7.same s8
   have hx8:=S8.hx
   have hS8:=s8.seq hS7
   have D8:HhS (freshI (2^N)) [⟨0,2^N,false⟩] kd [] 0 H8:=⟨hkd8,List.nodup_nil,(fun kv hk=>by cases hk),(fun kv hk=>by cases hk),(fun kv hk=>by cases hk),Nat.le_refl _,fun y hy hv=>by rw[List.mem_singleton.mp hy] at hv;cases hv⟩
   have nb8:=NbF.one N
   clear f1 f2 f3 f4 S7 hx7 ha7 k7 s6 hx6 hsx ndx nex nx hS s8 na7 hS7 nkd
   generalize [(⟨0,2^N,false⟩:Pc)]=ps8 at S8 D8 nb8
   generalize freshI (2^N)=cs8 at S8 D8
   walk_at "go"
   refine⟨x,dx,a,kd,N,0,ps8,cs8,[],rfl,S8,nb8,D8,by decide,fun lp us H9 s9 hlp pa=>?_⟩
   have S9:=S8.same s9
   have D9:=D8.same s9
   have hS9:=s9.seq hS8
   have hx9:=S9.hx
   walk_at "go"
   intro q1 H12 nq1 s12 hq1
   have hzl:(cutI ns (some 1) (some 64)).length≤63:=cutI_lit ns 1 64
   generalize cutI ns (some 1) (some 64)=zs at hq1 hzl ⊢
   have hqx:q1≠x:=fun e=>by rw[e,hx9] at nq1;cases nq1
   have hqa:q1≠a:=fun e=>by rw[e,S9.ha] at nq1;cases nq1
   refine⟨q1,rfl,⟨_,SqL.of hq1⟩,for_list (K:=K) (a:=q1) (xs:=zs.map V.int) (LwH Y4 (some (.ref sc)) x dx kd q1 N zs) ⟨a,lp,ps8,cs8,us,[],none,rfl,S9.same s12,nb8,D9.same s12,s12 lp _ hlp,pa.same s12,hq1,hqa⟩ (fun i σ H2 _ ⟨_,_,_,_,_,_,_,_,_,_,_,_,_,h,_⟩=>SqL.of h) ?_ ?_⟩
   · rintro i y σ H2 hi ⟨a,lp,ps,cs,us,kvs,x5,rfl,S,nb,D,hlp,pa,hq2,hqa⟩
     have hil:=(List.getElem?_eq_some_iff.mp hi).1
     rw[List.length_map] at hil
     rw[List.getElem?_map] at hi
     obtain⟨c0,hc0,rfl⟩:=Option.map_eq_some_iff.mp hi
     have hx:=S.hx
     walk_at "go"
     refine⟨x,dx,a,kd,lp,N,i,c0,ps,cs,kvs,us,rfl,S,nb,D,by omega,hlp,pa,fun a' ps' cs' kvs' H3 fr S3 nb3 D3=>?_⟩
     have hq3:=fr.1 q1 _ hq2 hqx hqa (fun ks w=>by cases w)
     have hqa':q1≠a':=fun w=>by
       rcases fr.2 with e | e
       · exact hqa (w.trans e)
       · rw[←w,hq2] at e;cases e
     have hx3:=S3.hx
     walk_at "go"
     refine⟨x,dx,a',kd,N,i+1,ps',cs',kvs',rfl,S3,nb3,D3,by omega,fun lp' us' H4 s4 hlp4 pa4=>?_⟩
     have S4:=S3.same s4
     have D4:=D3.same s4
     have hx4:=S4.hx
     walk_at "go"
     refine⟨x,dx,a',kd,N,i+1,ps',cs',kvs',c0,rfl,S4,D4,by omega,fun H5 s5=>?_⟩
     walk_at "go"
     exact⟨a',lp',ps',cs',us',kvs',_,rfl,S4.same s5,nb3,D4.same s5,s5 lp' _ hlp4,pa4.same s5,(s4.trans s5) q1 _ hq3,hqa'⟩
   · rintro σ H2 ⟨a,lp,ps,cs,us,kvs,x5,rfl,S,nb,D,hlp,pa,hq2,hqa⟩
     walk_at "go"
     exact kk _
 · walk_at "go"
   refine r_ifd (fun h1=>?_) (fun h1=>?_)
   · walk_at "go"
     exact hM _ _ ⟨8,rfl,by decide,rfl⟩
   · walk_at "go"
     exact hM _ _ ⟨(ns.getD (0:Int).toNat 0%7).toNat,rfl,by omega,by rw[Int.one_mul];rfl⟩
end
abbrev LkF (K:PySem.W.Frag)(x q:Str)(s:Stmt)(D:Value)(f:Addr)(oc:Value)(od:Option Addr)(kV dc pm:Value)(an:Option Addr)(cd ct:Value)(sl:Array (Option Value)):Prop:=K.lookup f=some ⟨oc,od,.func (PySem.W.fnOf x q (defArgs s) (defBody s) (defScope s) D kV dc pm an cd ct),sl⟩
set_option autoImplicit true in
set_option relaxedAutoImplicit true in
theorem all_mk {l:PySem.W.OpenLaw}{w:World}{K:PySem.W.Frag}{h:Heap}{mg:Str→Option Value}{fa:Addr}(X:K.In h)(G:h.Ns mainGlobals mg)(hfa:mg "law"=some (.ref fa))
   (a_Z22:PySem.W.nsIn K mainGlobals "check_ask"=some (some (.ref f_Z22)))
   (l_Z22:LkF K "check_ask" "check_ask" s_Z22 .none f_Z22 oc_Z22 od_Z22 kV_Z22 dc_Z22 pm_Z22 an_Z22 cd_Z22 ct_Z22 sl_Z22)
   (c_Z22:PySem.W.codeIn K cd_Z22 "check_ask"=true)
   (k_Z22:PySem.W.keepIn K (.ref f_Z22)=true)
   (a_Z3:PySem.W.nsIn K mainGlobals "check_plain_ask"=some (some (.ref f_Z3)))
   (l_Z3:LkF K "check_plain_ask" "check_plain_ask" s_Z3 .none f_Z3 oc_Z3 od_Z3 kV_Z3 dc_Z3 pm_Z3 an_Z3 cd_Z3 ct_Z3 sl_Z3)
   (c_Z3:PySem.W.codeIn K cd_Z3 "check_plain_ask"=true)
   (k_Z3:PySem.W.keepIn K (.ref f_Z3)=true)
   (a_Z34:PySem.W.nsIn K mainGlobals "mark_of"=some (some (.ref f_Z34)))
   (l_Z34:LkF K "mark_of" "mark_of" s_Z34 .none f_Z34 oc_Z34 od_Z34 kV_Z34 dc_Z34 pm_Z34 an_Z34 cd_Z34 ct_Z34 sl_Z34)
   (c_Z34:PySem.W.codeIn K cd_Z34 "mark_of"=true)
   (k_Z34:PySem.W.keepIn K (.ref f_Z34)=true)
   (a_Z35:PySem.W.nsIn K mainGlobals "long_of"=some (some (.ref f_Z35)))
   (l_Z35:LkF K "long_of" "long_of" s_Z35 .none f_Z35 oc_Z35 od_Z35 kV_Z35 dc_Z35 pm_Z35 an_Z35 cd_Z35 ct_Z35 sl_Z35)
   (c_Z35:PySem.W.codeIn K cd_Z35 "long_of"=true)
   (k_Z35:PySem.W.keepIn K (.ref f_Z35)=true)
   (a_Z36:PySem.W.nsIn K mainGlobals "live_of"=some (some (.ref f_Z36)))
   (l_Z36:LkF K "live_of" "live_of" s_Z36 .none f_Z36 oc_Z36 od_Z36 kV_Z36 dc_Z36 pm_Z36 an_Z36 cd_Z36 ct_Z36 sl_Z36)
   (c_Z36:PySem.W.codeIn K cd_Z36 "live_of"=true)
   (k_Z36:PySem.W.keepIn K (.ref f_Z36)=true)
   (a_Z21:PySem.W.nsIn K mainGlobals "can_begin"=some (some (.ref f_Z21)))
   (l_Z21:LkF K "can_begin" "can_begin" s_Z21 .none f_Z21 oc_Z21 od_Z21 kV_Z21 dc_Z21 pm_Z21 an_Z21 cd_Z21 ct_Z21 sl_Z21)
   (c_Z21:PySem.W.codeIn K cd_Z21 "can_begin"=true)
   (k_Z21:PySem.W.keepIn K (.ref f_Z21)=true)
   (a_Z9:PySem.W.nsIn K mainGlobals "bad_of_piece"=some (some (.ref f_Z9)))
   (l_Z9:LkF K "bad_of_piece" "bad_of_piece" s_Z9 .none f_Z9 oc_Z9 od_Z9 kV_Z9 dc_Z9 pm_Z9 an_Z9 cd_Z9 ct_Z9 sl_Z9)
   (c_Z9:PySem.W.codeIn K cd_Z9 "bad_of_piece"=true)
   (k_Z9:PySem.W.keepIn K (.ref f_Z9)=true)
   (a_Z43:PySem.W.nsIn K mainGlobals "looked"=some (some (.ref f_Z43)))
   (l_Z43:LkF K "looked" "looked" s_Z43 .none f_Z43 oc_Z43 od_Z43 kV_Z43 dc_Z43 pm_Z43 an_Z43 cd_Z43 ct_Z43 sl_Z43)
   (c_Z43:PySem.W.codeIn K cd_Z43 "looked"=true)
   (k_Z43:PySem.W.keepIn K (.ref f_Z43)=true)
   (a_Z19:PySem.W.nsIn K mainGlobals "fresh_room"=some (some (.ref f_Z19)))
   (l_Z19:LkF K "fresh_room" "fresh_room" s_Z19 .none f_Z19 oc_Z19 od_Z19 kV_Z19 dc_Z19 pm_Z19 an_Z19 cd_Z19 ct_Z19 sl_Z19)
   (c_Z19:PySem.W.codeIn K cd_Z19 "fresh_room"=true)
   (k_Z19:PySem.W.keepIn K (.ref f_Z19)=true)
   (a_Z48:PySem.W.nsIn K mainGlobals "laid"=some (some (.ref f_Z48)))
   (l_Z48:LkF K "laid" "laid" s_Z48 .none f_Z48 oc_Z48 od_Z48 kV_Z48 dc_Z48 pm_Z48 an_Z48 cd_Z48 ct_Z48 sl_Z48)
   (c_Z48:PySem.W.codeIn K cd_Z48 "laid"=true)
   (k_Z48:PySem.W.keepIn K (.ref f_Z48)=true)
   (a_Z27:PySem.W.nsIn K mainGlobals "piece_at"=some (some (.ref f_Z27)))
   (l_Z27:LkF K "piece_at" "piece_at" s_Z27 .none f_Z27 oc_Z27 od_Z27 kV_Z27 dc_Z27 pm_Z27 an_Z27 cd_Z27 ct_Z27 sl_Z27)
   (c_Z27:PySem.W.codeIn K cd_Z27 "piece_at"=true)
   (k_Z27:PySem.W.keepIn K (.ref f_Z27)=true)
   (a_Z29:PySem.W.nsIn K mainGlobals "live_at"=some (some (.ref f_Z29)))
   (l_Z29:LkF K "live_at" "live_at" s_Z29 .none f_Z29 oc_Z29 od_Z29 kV_Z29 dc_Z29 pm_Z29 an_Z29 cd_Z29 ct_Z29 sl_Z29)
   (c_Z29:PySem.W.codeIn K cd_Z29 "live_at"=true)
   (k_Z29:PySem.W.keepIn K (.ref f_Z29)=true)
   (a_Z37:PySem.W.nsIn K mainGlobals "carried"=some (some (.ref f_Z37)))
   (l_Z37:LkF K "carried" "carried" s_Z37 .none f_Z37 oc_Z37 od_Z37 kV_Z37 dc_Z37 pm_Z37 an_Z37 cd_Z37 ct_Z37 sl_Z37)
   (c_Z37:PySem.W.codeIn K cd_Z37 "carried"=true)
   (k_Z37:PySem.W.keepIn K (.ref f_Z37)=true)
   (a_Z25:PySem.W.nsIn K mainGlobals "is_power"=some (some (.ref f_Z25)))
   (l_Z25:LkF K "is_power" "is_power" s_Z25 .none f_Z25 oc_Z25 od_Z25 kV_Z25 dc_Z25 pm_Z25 an_Z25 cd_Z25 ct_Z25 sl_Z25)
   (c_Z25:PySem.W.codeIn K cd_Z25 "is_power"=true)
   (k_Z25:PySem.W.keepIn K (.ref f_Z25)=true)
   (a_Z24:PySem.W.nsIn K mainGlobals "block_for"=some (some (.ref f_Z24)))
   (l_Z24:LkF K "block_for" "block_for" s_Z24 .none f_Z24 oc_Z24 od_Z24 kV_Z24 dc_Z24 pm_Z24 an_Z24 cd_Z24 ct_Z24 sl_Z24)
   (c_Z24:PySem.W.codeIn K cd_Z24 "block_for"=true)
   (k_Z24:PySem.W.keepIn K (.ref f_Z24)=true)
   (a_Z15:PySem.W.nsIn K mainGlobals "least_free"=some (some (.ref f_Z15)))
   (l_Z15:LkF K "least_free" "least_free" s_Z15 .none f_Z15 oc_Z15 od_Z15 kV_Z15 dc_Z15 pm_Z15 an_Z15 cd_Z15 ct_Z15 sl_Z15)
   (c_Z15:PySem.W.codeIn K cd_Z15 "least_free"=true)
   (k_Z15:PySem.W.keepIn K (.ref f_Z15)=true)
   (a_Z28:PySem.W.nsIn K mainGlobals "cut_down"=some (some (.ref f_Z28)))
   (l_Z28:LkF K "cut_down" "cut_down" s_Z28 .none f_Z28 oc_Z28 od_Z28 kV_Z28 dc_Z28 pm_Z28 an_Z28 cd_Z28 ct_Z28 sl_Z28)
   (c_Z28:PySem.W.codeIn K cd_Z28 "cut_down"=true)
   (k_Z28:PySem.W.keepIn K (.ref f_Z28)=true)
   (a_Z4:PySem.W.nsIn K mainGlobals "grown_together"=some (some (.ref f_Z4)))
   (l_Z4:LkF K "grown_together" "grown_together" s_Z4 .none f_Z4 oc_Z4 od_Z4 kV_Z4 dc_Z4 pm_Z4 an_Z4 cd_Z4 ct_Z4 sl_Z4)
   (c_Z4:PySem.W.codeIn K cd_Z4 "grown_together"=true)
   (k_Z4:PySem.W.keepIn K (.ref f_Z4)=true)
   (a_Z23:PySem.W.nsIn K mainGlobals "_law_cell_at"=some (some (.ref f_Z23)))
   (l_Z23:LkF K "_law_cell_at" "_law_cell_at" s_Z23 .none f_Z23 oc_Z23 od_Z23 kV_Z23 dc_Z23 pm_Z23 an_Z23 cd_Z23 ct_Z23 sl_Z23)
   (c_Z23:PySem.W.codeIn K cd_Z23 "_law_cell_at"=true)
   (k_Z23:PySem.W.keepIn K (.ref f_Z23)=true)
   (a_Z33:PySem.W.nsIn K mainGlobals "_law_whole"=some (some (.ref f_Z33)))
   (l_Z33:LkF K "_law_whole" "_law_whole" s_Z33 .none f_Z33 oc_Z33 od_Z33 kV_Z33 dc_Z33 pm_Z33 an_Z33 cd_Z33 ct_Z33 sl_Z33)
   (c_Z33:PySem.W.codeIn K cd_Z33 "_law_whole"=true)
   (k_Z33:PySem.W.keepIn K (.ref f_Z33)=true)
   (a_Z41:PySem.W.nsIn K mainGlobals "_law_walk"=some (some (.ref f_Z41)))
   (l_Z41:LkF K "_law_walk" "_law_walk" s_Z41 .none f_Z41 oc_Z41 od_Z41 kV_Z41 dc_Z41 pm_Z41 an_Z41 cd_Z41 ct_Z41 sl_Z41)
   (c_Z41:PySem.W.codeIn K cd_Z41 "_law_walk"=true)
   (k_Z41:PySem.W.keepIn K (.ref f_Z41)=true)
   (a_Z26:PySem.W.nsIn K mainGlobals "_law_number"=some (some (.ref f_Z26)))
   (l_Z26:LkF K "_law_number" "_law_number" s_Z26 .none f_Z26 oc_Z26 od_Z26 kV_Z26 dc_Z26 pm_Z26 an_Z26 cd_Z26 ct_Z26 sl_Z26)
   (c_Z26:PySem.W.codeIn K cd_Z26 "_law_number"=true)
   (k_Z26:PySem.W.keepIn K (.ref f_Z26)=true)
   (a_Z38:PySem.W.nsIn K mainGlobals "_law_good"=some (some (.ref f_Z38)))
   (l_Z38:LkF K "_law_good" "_law_good" s_Z38 .none f_Z38 oc_Z38 od_Z38 kV_Z38 dc_Z38 pm_Z38 an_Z38 cd_Z38 ct_Z38 sl_Z38)
   (c_Z38:PySem.W.codeIn K cd_Z38 "_law_good"=true)
   (k_Z38:PySem.W.keepIn K (.ref f_Z38)=true)
   (a_Z39:PySem.W.nsIn K mainGlobals "_law_told"=some (some (.ref f_Z39)))
   (l_Z39:LkF K "_law_told" "_law_told" s_Z39 .none f_Z39 oc_Z39 od_Z39 kV_Z39 dc_Z39 pm_Z39 an_Z39 cd_Z39 ct_Z39 sl_Z39)
   (c_Z39:PySem.W.codeIn K cd_Z39 "_law_told"=true)
   (k_Z39:PySem.W.keepIn K (.ref f_Z39)=true)
   (a_Z32:PySem.W.nsIn K mainGlobals "_law_asked"=some (some (.ref f_Z32)))
   (l_Z32:LkF K "_law_asked" "_law_asked" s_Z32 .none f_Z32 oc_Z32 od_Z32 kV_Z32 dc_Z32 pm_Z32 an_Z32 cd_Z32 ct_Z32 sl_Z32)
   (c_Z32:PySem.W.codeIn K cd_Z32 "_law_asked"=true)
   (k_Z32:PySem.W.keepIn K (.ref f_Z32)=true)
   (a_Z31:PySem.W.nsIn K mainGlobals "_law_grown"=some (some (.ref f_Z31)))
   (l_Z31:LkF K "_law_grown" "_law_grown" s_Z31 .none f_Z31 oc_Z31 od_Z31 kV_Z31 dc_Z31 pm_Z31 an_Z31 cd_Z31 ct_Z31 sl_Z31)
   (c_Z31:PySem.W.codeIn K cd_Z31 "_law_grown"=true)
   (k_Z31:PySem.W.keepIn K (.ref f_Z31)=true)
   (a_Z42:PySem.W.nsIn K mainGlobals "_law_step"=some (some (.ref f_Z42)))
   (l_Z42:LkF K "_law_step" "_law_step" s_Z42 .none f_Z42 oc_Z42 od_Z42 kV_Z42 dc_Z42 pm_Z42 an_Z42 cd_Z42 ct_Z42 sl_Z42)
   (c_Z42:PySem.W.codeIn K cd_Z42 "_law_step"=true)
   (k_Z42:PySem.W.keepIn K (.ref f_Z42)=true)
   (a_law:PySem.W.nsIn K mainGlobals "law"=some (some (.ref f_law)))
   (l_law:LkF K "law" "law" s_law .none f_law oc_law od_law kV_law dc_law pm_law an_law cd_law ct_law sl_law)
   (c_law:PySem.W.codeIn K cd_law "law"=true)
   (k_law:PySem.W.keepIn K (.ref f_law)=true)
   {W0_:Tok}
   {W1_:Tok}
   {Y0 Y8 Y3 Y2 Y6 Y9 Y1 Y7 Y5 Y4:Addr}
   (z_bool:PySem.W.nsIn K mainGlobals "bool"=some none)
   (z_dict:PySem.W.nsIn K mainGlobals "dict"=some none)
   (z_int:PySem.W.nsIn K mainGlobals "int"=some none)
   (z_isinstance:PySem.W.nsIn K mainGlobals "isinstance"=some none)
   (z_len:PySem.W.nsIn K mainGlobals "len"=some none)
   (z_list:PySem.W.nsIn K mainGlobals "list"=some none)
   (z_max:PySem.W.nsIn K mainGlobals "max"=some none)
   (z_min:PySem.W.nsIn K mainGlobals "min"=some none)
   (z_range:PySem.W.nsIn K mainGlobals "range"=some none)
   (z_sorted:PySem.W.nsIn K mainGlobals "sorted"=some none)
   (z_tuple:PySem.W.nsIn K mainGlobals "tuple"=some none)
   (g_LEAST_LIVE:PySem.W.nsIn K mainGlobals "LEAST_LIVE"=some (some (.int 3 W0_)))
   (g_MARKS:PySem.W.nsIn K mainGlobals "MARKS"=some (some (.int 2 W1_)))
   (cc_StowError:PySem.W.nsIn K mainGlobals "StowError"=some (some (.ref Y0)))
   (cc_NoSize:PySem.W.nsIn K mainGlobals "NoSize"=some (some (.ref Y8)))
   (cc_Broken:PySem.W.nsIn K mainGlobals "Broken"=some (some (.ref Y3)))
   (cc_NoPiece:PySem.W.nsIn K mainGlobals "NoPiece"=some (some (.ref Y2)))
   (cc_NoCell:PySem.W.nsIn K mainGlobals "NoCell"=some (some (.ref Y6)))
   (cc_NoAsk:PySem.W.nsIn K mainGlobals "NoAsk"=some (some (.ref Y9)))
   (cc_NoBound:PySem.W.nsIn K mainGlobals "NoBound"=some (some (.ref Y1)))
   (cc_NoRoom:PySem.W.nsIn K mainGlobals "NoRoom"=some (some (.ref Y7)))
   (cc_Keeper:PySem.W.nsIn K mainGlobals "Keeper"=some (some (.ref Y5)))
   (cc_Halves:PySem.W.nsIn K mainGlobals "Halves"=some (some (.ref Y4)))
   (s1_Broken:PySem.W.findIn K (.ref Y3) "__setattr__"=some (some (.builtin "object.__setattr__")))
   {cd_Broken:ClassData}
   (s2_Broken:PySem.W.clsIn K Y3=some cd_Broken)
   (s5_Broken:excTail cd_Broken.mro=true)
   (s6_Broken:cd_Broken.hasDict=true)
   (s3_Broken:PySem.W.mroIn K Y3 (.type "object")=some true)
   (s4_Broken:PySem.W.findIn K (.ref Y3) "cell"=some none)
   (xx_NoSize:PySem.W.excIn K Y8 [.type "ValueError",.type "Exception",.type "BaseException",.type "object"] "ValueError.__new__"=true)
   (xx_NoPiece:PySem.W.excIn K Y2 [.type "ValueError",.type "Exception",.type "BaseException",.type "object"] "ValueError.__new__"=true)
   (xx_NoRoom:PySem.W.excIn K Y7 [.type "ValueError",.type "Exception",.type "BaseException",.type "object"] "ValueError.__new__"=true)
   (pg_Halves:PySem.W.plainGet K Y4 Str.empty=true)
   (hd_Halves:PySem.W.hasDictIn K Y4=true)
   (po_Halves:PySem.W.plainOver K Y4=true)
   (sa_Halves:PySem.W.findIn K (.ref Y4) "__setattr__"=some (some (.builtin "object.__setattr__")))
   (na_Halves_room_cells:PySem.W.findIn K (.ref Y4) "room_cells"=some none)
   (lc_NoRoom:K.lookup Y7=some (excClassObj nm_NoRoom qn_NoRoom Y7 N_NoRoom bs_NoRoom bm_NoRoom hd_NoRoom sn_NoRoom sub_NoRoom ab_NoRoom col_NoRoom dd_NoRoom k0_NoRoom k1_NoRoom k2_NoRoom k3_NoRoom k5_NoRoom ni_NoRoom))
   (fb_NoRoom:(Value.ref Y7::bm_NoRoom).contains (.type "BaseException")=true)
   (fm_NoRoom_NoRoom:(Value.ref Y7::bm_NoRoom).contains (.ref Y7)=true)
   (lc_Broken:K.lookup Y3=some (excClassObj nm_Broken qn_Broken Y3 N_Broken bs_Broken bm_Broken hd_Broken sn_Broken sub_Broken ab_Broken col_Broken dd_Broken k0_Broken k1_Broken k2_Broken k3_Broken k5_Broken ni_Broken))
   (xx_StowError:PySem.W.excIn K Y0 [.type "ValueError",.type "Exception",.type "BaseException",.type "object"] "ValueError.__new__"=true)
   (kp_Broken:PySem.W.keepIn K (.ref Y3)=true)
   (e2_:PySem.W.findIn K (.ref Y3) "__init__"=some (some (.ref f_Broken_init)))
   (l_Broken_init:LkF K "__init__" "Broken.__init__" s_Broken_init .none f_Broken_init oc_Broken_init od_Broken_init kV_Broken_init dc_Broken_init pm_Broken_init an_Broken_init cd_Broken_init ct_Broken_init sl_Broken_init)
   (c_Broken_init:PySem.W.codeIn K cd_Broken_init "Broken.__init__"=true)
   (k_Broken_init:PySem.W.keepIn K (.ref f_Broken_init)=true)
   (eb_Broken:bm_Broken = .ref Y0::[.type "ValueError",.type "Exception",.type "BaseException",.type "object"])
   (en_Broken:ni_Broken="ValueError.__new__")
   (eo_Broken:oc_Broken_init = .type "function")
   (e1_:PySem.W.findCls K (.ref Y5) (.type "type") "__init__"=some (.val (.ref f_Keeper_init)))
   (l_Keeper_init:LkF K "__init__" "Keeper.__init__" s_Keeper_init .none f_Keeper_init oc_Keeper_init od_Keeper_init kV_Keeper_init dc_Keeper_init pm_Keeper_init an_Keeper_init cd_Keeper_init ct_Keeper_init sl_Keeper_init)
   (c_Keeper_init:PySem.W.codeIn K cd_Keeper_init "Keeper.__init__"=true)
   (k_Keeper_init:PySem.W.keepIn K (.ref f_Keeper_init)=true)
   (bs_Keeper:PySem.W.specialIn K (.ref Y5) "__getattribute__"=some (some (.builtin "type.__getattribute__")))
   (br_Keeper:PySem.W.readsIn K Y5 (.type "type")=true)
   (a_Z2:PySem.W.findIn K (.ref Y4) "room_begin"=some (some (.ref f_Z2)))
   (l_Z2:LkF K "room_begin" "Keeper.room_begin" s_Z2 .none f_Z2 oc_Z2 od_Z2 kV_Z2 dc_Z2 pm_Z2 an_Z2 cd_Z2 ct_Z2 sl_Z2)
   (c_Z2:PySem.W.codeIn K cd_Z2 "Keeper.room_begin"=true)
   (k_Z2:PySem.W.keepIn K (.ref f_Z2)=true)
   (if_Z2:PySem.W.isFn K (.ref f_Z2)=true)
   (a_Z13:PySem.W.findIn K (.ref Y4) "lay"=some (some (.ref f_Z13)))
   (l_Z13:LkF K "lay" "Keeper.lay" s_Z13 .none f_Z13 oc_Z13 od_Z13 kV_Z13 dc_Z13 pm_Z13 an_Z13 cd_Z13 ct_Z13 sl_Z13)
   (c_Z13:PySem.W.codeIn K cd_Z13 "Keeper.lay"=true)
   (k_Z13:PySem.W.keepIn K (.ref f_Z13)=true)
   (if_Z13:PySem.W.isFn K (.ref f_Z13)=true)
   (a_Z5:PySem.W.findIn K (.ref Y4) "pieces"=some (some (.ref f_Z5)))
   (l_Z5:LkF K "pieces" "Keeper.pieces" s_Z5 .none f_Z5 oc_Z5 od_Z5 kV_Z5 dc_Z5 pm_Z5 an_Z5 cd_Z5 ct_Z5 sl_Z5)
   (c_Z5:PySem.W.codeIn K cd_Z5 "Keeper.pieces"=true)
   (k_Z5:PySem.W.keepIn K (.ref f_Z5)=true)
   (if_Z5:PySem.W.isFn K (.ref f_Z5)=true)
   (a_Z7:PySem.W.findIn K (.ref Y4) "cells"=some (some (.ref f_Z7)))
   (l_Z7:LkF K "cells" "Keeper.cells" s_Z7 .none f_Z7 oc_Z7 od_Z7 kV_Z7 dc_Z7 pm_Z7 an_Z7 cd_Z7 ct_Z7 sl_Z7)
   (c_Z7:PySem.W.codeIn K cd_Z7 "Keeper.cells"=true)
   (k_Z7:PySem.W.keepIn K (.ref f_Z7)=true)
   (if_Z7:PySem.W.isFn K (.ref f_Z7)=true)
   (a_Z11:PySem.W.findIn K (.ref Y4) "many"=some (some (.ref f_Z11)))
   (l_Z11:LkF K "many" "Keeper.many" s_Z11 .none f_Z11 oc_Z11 od_Z11 kV_Z11 dc_Z11 pm_Z11 an_Z11 cd_Z11 ct_Z11 sl_Z11)
   (c_Z11:PySem.W.codeIn K cd_Z11 "Keeper.many"=true)
   (k_Z11:PySem.W.keepIn K (.ref f_Z11)=true)
   (if_Z11:PySem.W.isFn K (.ref f_Z11)=true)
   (e0_:PySem.W.findIn K (.ref Y4) "__init__"=some (some (.ref f_Halves_init)))
   (l_Halves_init:LkF K "__init__" "Halves.__init__" s_Halves_init .none f_Halves_init oc_Halves_init od_Halves_init kV_Halves_init dc_Halves_init pm_Halves_init an_Halves_init cd_Halves_init ct_Halves_init sl_Halves_init)
   (c_Halves_init:PySem.W.codeIn K cd_Halves_init "Halves.__init__"=true)
   (k_Halves_init:PySem.W.keepIn K (.ref f_Halves_init)=true)
   (if_Halves_init:PySem.W.isFn K (.ref f_Halves_init)=true)
   (mk_Halves:PySem.W.makesIn K Y4=true)
   (kp_Halves:PySem.W.keepIn K (.ref Y4)=true)
   (a_Z12:PySem.W.findIn K (.ref Y4) "give"=some (some (.ref f_Z12)))
   (l_Z12:LkF K "give" "Halves.give" s_Z12 .none f_Z12 oc_Z12 od_Z12 kV_Z12 dc_Z12 pm_Z12 an_Z12 cd_Z12 ct_Z12 sl_Z12)
   (c_Z12:PySem.W.codeIn K cd_Z12 "Halves.give"=true)
   (k_Z12:PySem.W.keepIn K (.ref f_Z12)=true)
   (if_Z12:PySem.W.isFn K (.ref f_Z12)=true)
   {dt_Z17:Addr} {dk_Z17:Tok} {dtc_Z17:Value} {dtd_Z17:Option Addr} {dtn_Z17:Nat} {dts_Z17:Array (Option Value)}
   (a_Z17:PySem.W.findIn K (.ref Y4) "ask"=some (some (.ref f_Z17)))
   (l_Z17:LkF K "ask" "Halves.ask" s_Z17 (.ref dt_Z17) f_Z17 oc_Z17 od_Z17 kV_Z17 dc_Z17 pm_Z17 an_Z17 cd_Z17 ct_Z17 sl_Z17)
   (ld_Z17:K.lookup dt_Z17=some ⟨dtc_Z17,dtd_Z17,.seq [.int 1 dk_Z17].toArray dtn_Z17,dts_Z17⟩)
   (c_Z17:PySem.W.codeIn K cd_Z17 "Halves.ask"=true)
   (k_Z17:PySem.W.keepIn K (.ref f_Z17)=true)
   (if_Z17:PySem.W.isFn K (.ref f_Z17)=true)
   (a_Z8:PySem.W.findIn K (.ref Y4) "clear"=some (some (.ref f_Z8)))
   (l_Z8:LkF K "clear" "Keeper.clear" s_Z8 .none f_Z8 oc_Z8 od_Z8 kV_Z8 dc_Z8 pm_Z8 an_Z8 cd_Z8 ct_Z8 sl_Z8)
   (c_Z8:PySem.W.codeIn K cd_Z8 "Keeper.clear"=true)
   (k_Z8:PySem.W.keepIn K (.ref f_Z8)=true)
   (if_Z8:PySem.W.isFn K (.ref f_Z8)=true)
   (a_Z1:PySem.W.findIn K (.ref Y4) "room_moved"=some (some (.ref f_Z1)))
   (l_Z1:LkF K "room_moved" "Keeper.room_moved" s_Z1 .none f_Z1 oc_Z1 od_Z1 kV_Z1 dc_Z1 pm_Z1 an_Z1 cd_Z1 ct_Z1 sl_Z1)
   (c_Z1:PySem.W.codeIn K cd_Z1 "Keeper.room_moved"=true)
   (k_Z1:PySem.W.keepIn K (.ref f_Z1)=true)
   (if_Z1:PySem.W.isFn K (.ref f_Z1)=true)
   {dt_Z10:Addr} {dk_Z10:Tok} {dtc_Z10:Value} {dtd_Z10:Option Addr} {dtn_Z10:Nat} {dts_Z10:Array (Option Value)}
   (a_Z10:PySem.W.findIn K (.ref Y4) "grow"=some (some (.ref f_Z10)))
   (l_Z10:LkF K "grow" "Keeper.grow" s_Z10 (.ref dt_Z10) f_Z10 oc_Z10 od_Z10 kV_Z10 dc_Z10 pm_Z10 an_Z10 cd_Z10 ct_Z10 sl_Z10)
   (ld_Z10:K.lookup dt_Z10=some ⟨dtc_Z10,dtd_Z10,.seq [.int 1 dk_Z10].toArray dtn_Z10,dts_Z10⟩)
   (c_Z10:PySem.W.codeIn K cd_Z10 "Keeper.grow"=true)
   (k_Z10:PySem.W.keepIn K (.ref f_Z10)=true)
   (if_Z10:PySem.W.isFn K (.ref f_Z10)=true)
   (a_Z0:PySem.W.findIn K (.ref Y4) "room_cell_of"=some (some (.ref f_Z0)))
   (l_Z0:LkF K "room_cell_of" "Keeper.room_cell_of" s_Z0 .none f_Z0 oc_Z0 od_Z0 kV_Z0 dc_Z0 pm_Z0 an_Z0 cd_Z0 ct_Z0 sl_Z0)
   (c_Z0:PySem.W.codeIn K cd_Z0 "Keeper.room_cell_of"=true)
   (k_Z0:PySem.W.keepIn K (.ref f_Z0)=true)
   (if_Z0:PySem.W.isFn K (.ref f_Z0)=true)
   (a_Z18:PySem.W.findIn K (.ref Y4) "put"=some (some (.ref f_Z18)))
   (l_Z18:LkF K "put" "Keeper.put" s_Z18 .none f_Z18 oc_Z18 od_Z18 kV_Z18 dc_Z18 pm_Z18 an_Z18 cd_Z18 ct_Z18 sl_Z18)
   (c_Z18:PySem.W.codeIn K cd_Z18 "Keeper.put"=true)
   (k_Z18:PySem.W.keepIn K (.ref f_Z18)=true)
   (if_Z18:PySem.W.isFn K (.ref f_Z18)=true)
   (a_Z20:PySem.W.findIn K (.ref Y4) "get"=some (some (.ref f_Z20)))
   (l_Z20:LkF K "get" "Keeper.get" s_Z20 .none f_Z20 oc_Z20 od_Z20 kV_Z20 dc_Z20 pm_Z20 an_Z20 cd_Z20 ct_Z20 sl_Z20)
   (c_Z20:PySem.W.codeIn K cd_Z20 "Keeper.get"=true)
   (k_Z20:PySem.W.keepIn K (.ref f_Z20)=true)
   (if_Z20:PySem.W.isFn K (.ref f_Z20)=true) :
   ∃fd:FuncData,(∀(s:Shared) (v:Value),BindsTo s fd ⟨[v],[]⟩ [("_law_script",v)])∧∀base:Heap,K.In base→base.Ns mainGlobals mg→FnOk l.prog w K mg base (CXe l.prog w) 13 fa fd ["_law_script"] (spLaw K):=by
 have e:=hfa.symm.trans (PySem.W.mg_of X G a_law)
 cases e
 have T:Txt K mg Y0 Y8 Y3 Y2 Y6 Y9 Y1 Y7 Y5 Y4 W0_ W1_:=⟨PySem.W.mg_none_of X G z_bool,PySem.W.mg_none_of X G z_dict,PySem.W.mg_none_of X G z_int,PySem.W.mg_none_of X G z_isinstance,PySem.W.mg_none_of X G z_len,PySem.W.mg_none_of X G z_list,PySem.W.mg_none_of X G z_max,PySem.W.mg_none_of X G z_min,PySem.W.mg_none_of X G z_range,PySem.W.mg_none_of X G z_sorted,PySem.W.mg_none_of X G z_tuple,PySem.W.mg_of X G g_LEAST_LIVE,PySem.W.mg_of X G g_MARKS,PySem.W.mg_of X G cc_StowError,PySem.W.mg_of X G cc_NoSize,PySem.W.mg_of X G cc_Broken,PySem.W.mg_of X G cc_NoPiece,PySem.W.mg_of X G cc_NoCell,PySem.W.mg_of X G cc_NoAsk,PySem.W.mg_of X G cc_NoBound,PySem.W.mg_of X G cc_NoRoom,PySem.W.mg_of X G cc_Keeper,PySem.W.mg_of X G cc_Halves,⟨s1_Broken,⟨_,s2_Broken,s5_Broken,s6_Broken⟩,s3_Broken,s4_Broken⟩,⟨PySem.W.mg_of X G cc_NoSize,_,_,_,_,xx_NoSize,PySem.F.excBase_ValueError,PySem.F.excBase_ValueError.hasBase⟩,⟨PySem.W.mg_of X G cc_NoPiece,_,_,_,_,xx_NoPiece,PySem.F.excBase_ValueError,PySem.F.excBase_ValueError.hasBase⟩,⟨PySem.W.mg_of X G cc_NoRoom,_,_,_,_,xx_NoRoom,PySem.F.excBase_ValueError,PySem.F.excBase_ValueError.hasBase⟩,⟨pg_Halves,hd_Halves,po_Halves,sa_Halves⟩,na_Halves_room_cells,⟨_,_,⟨_,_,_,_,_,_,_,_,_,_,_,_,_,_,_,_,lc_NoRoom⟩,⟨_,_,_,_,_,_,_,_,_,_,_,_,_,_,_,_,lc_NoRoom⟩,fb_NoRoom,fm_NoRoom_NoRoom⟩⟩
 have S_Z22:=src_mk (st:=s_Z22) X G a_Z22 l_Z22 c_Z22 k_Z22
 have S_Z3:=src_mk (st:=s_Z3) X G a_Z3 l_Z3 c_Z3 k_Z3
 have S_Z34:=src_mk (st:=s_Z34) X G a_Z34 l_Z34 c_Z34 k_Z34
 have S_Z35:=src_mk (st:=s_Z35) X G a_Z35 l_Z35 c_Z35 k_Z35
 have S_Z36:=src_mk (st:=s_Z36) X G a_Z36 l_Z36 c_Z36 k_Z36
 have S_Z21:=src_mk (st:=s_Z21) X G a_Z21 l_Z21 c_Z21 k_Z21
 have S_Z9:=src_mk (st:=s_Z9) X G a_Z9 l_Z9 c_Z9 k_Z9
 have S_Z43:=src_mk (st:=s_Z43) X G a_Z43 l_Z43 c_Z43 k_Z43
 have S_Z19:=src_mk (st:=s_Z19) X G a_Z19 l_Z19 c_Z19 k_Z19
 have S_Z48:=src_mk (st:=s_Z48) X G a_Z48 l_Z48 c_Z48 k_Z48
 have S_Z27:=src_mk (st:=s_Z27) X G a_Z27 l_Z27 c_Z27 k_Z27
 have S_Z29:=src_mk (st:=s_Z29) X G a_Z29 l_Z29 c_Z29 k_Z29
 have S_Z37:=src_mk (st:=s_Z37) X G a_Z37 l_Z37 c_Z37 k_Z37
 have S_Z25:=src_mk (st:=s_Z25) X G a_Z25 l_Z25 c_Z25 k_Z25
 have S_Z24:=src_mk (st:=s_Z24) X G a_Z24 l_Z24 c_Z24 k_Z24
 have S_Z15:=src_mk (st:=s_Z15) X G a_Z15 l_Z15 c_Z15 k_Z15
 have S_Z28:=src_mk (st:=s_Z28) X G a_Z28 l_Z28 c_Z28 k_Z28
 have S_Z4:=src_mk (st:=s_Z4) X G a_Z4 l_Z4 c_Z4 k_Z4
 have S_Z23:=src_mk (st:=s_Z23) X G a_Z23 l_Z23 c_Z23 k_Z23
 have S_Z33:=src_mk (st:=s_Z33) X G a_Z33 l_Z33 c_Z33 k_Z33
 have S_Z41:=src_mk (st:=s_Z41) X G a_Z41 l_Z41 c_Z41 k_Z41
 have S_Z26:=src_mk (st:=s_Z26) X G a_Z26 l_Z26 c_Z26 k_Z26
 have S_Z38:=src_mk (st:=s_Z38) X G a_Z38 l_Z38 c_Z38 k_Z38
 have S_Z39:=src_mk (st:=s_Z39) X G a_Z39 l_Z39 c_Z39 k_Z39
 have S_Z32:=src_mk (st:=s_Z32) X G a_Z32 l_Z32 c_Z32 k_Z32
 have S_Z31:=src_mk (st:=s_Z31) X G a_Z31 l_Z31 c_Z31 k_Z31
 have S_Z42:=src_mk (st:=s_Z42) X G a_Z42 l_Z42 c_Z42 k_Z42
 subst eb_Broken en_Broken eo_Broken
 have XI_Broken:XIni K mg "Broken" Y3 Y0 f_Broken_init:=⟨PySem.W.mg_of X G cc_Broken,⟨_,_,_,_,_,_,_,_,_,_,_,_,_,_,_,lc_Broken⟩,xx_StowError,e2_,kp_Broken,⟨_,_,_,_,l_Broken_init,rfl⟩⟩
 refine⟨PySem.W.fnOf "law" "law" (defArgs s_law) (defBody s_law) (defScope s_law) .none kV_law dc_law pm_law an_law cd_law ct_law,fun s v=>.of_eq rfl,fun base _ _=>?_⟩
 have D_Z34:=d_Z34 (P:=l.prog) (w:=w) (base:=base) S_Z34 T 
 have D_Z35:=d_Z35 (P:=l.prog) (w:=w) (base:=base) S_Z35 T 
 have D_Z36:=d_Z36 (P:=l.prog) (w:=w) (base:=base) S_Z36 T 
 have D_Z21:=d_Z21 (P:=l.prog) (w:=w) (base:=base) S_Z21 T D_Z35 D_Z36
 have D_Z9:=d_Z9 (P:=l.prog) (w:=w) (base:=base) S_Z9 T D_Z35 D_Z21
 have D_Broken:=d_Broken (P:=l.prog) (w:=w) (base:=base) (fun_mk l_Broken_init c_Broken_init k_Broken_init) XI_Broken T.s_Broken
 have D_Z43:=d_Z43 (P:=l.prog) (w:=w) (base:=base) S_Z43 T D_Z35 D_Z36 D_Z9 D_Broken
 have D_Z19:=d_Z19 (P:=l.prog) (w:=w) (base:=base) S_Z19 T D_Z34
 have D_Z48:=d_Z48 (P:=l.prog) (w:=w) (base:=base) S_Z48 T D_Z34
 have D_Z27:=d_Z27 (P:=l.prog) (w:=w) (base:=base) S_Z27 T D_Z43
 have D_Z29:=d_Z29 (P:=l.prog) (w:=w) (base:=base) S_Z29 T D_Z27
 have D_Z30:=d_Z30 (P:=l.prog) (w:=w) (base:=base) (fun_mk l_Keeper_init c_Keeper_init k_Keeper_init) ⟨bs_Keeper,br_Keeper,e1_,k_Keeper_init⟩ T D_Z19
 have D_Z16:=d_Z16 (P:=l.prog) (w:=w) (base:=base) (fun_mk l_Z2 c_Z2 k_Z2) ⟨a_Z2,if_Z2,k_Z2⟩ T 
 have D_lay:=d_lay (P:=l.prog) (w:=w) (base:=base) (fun_mk l_Z13 c_Z13 k_Z13) ⟨a_Z13,if_Z13,k_Z13⟩ T D_Z43 D_Z16
 have D_Z40:=d_Z40 (P:=l.prog) (w:=w) (base:=base) (fun_mk l_Z5 c_Z5 k_Z5) ⟨a_Z5,if_Z5,k_Z5⟩ T D_Z43
 have D_Z45:=d_Z45 (P:=l.prog) (w:=w) (base:=base) (fun_mk l_Z7 c_Z7 k_Z7) ⟨a_Z7,if_Z7,k_Z7⟩ T 
 have D_Z47:=d_Z47 (P:=l.prog) (w:=w) (base:=base) (fun_mk l_Z11 c_Z11 k_Z11) ⟨a_Z11,if_Z11,k_Z11⟩ T D_Z29
 have D_Z37:=d_Z37 (P:=l.prog) (w:=w) (base:=base) S_Z37 T 
 have D_Z25:=d_Z25 (P:=l.prog) (w:=w) (base:=base) S_Z25 T 
 have D_Halves:=d_Halves (P:=l.prog) (w:=w) (base:=base) (fun_mk l_Halves_init c_Halves_init k_Halves_init) ⟨mk_Halves,e0_,if_Halves_init,kp_Halves⟩ T D_Z25 D_Z30
 have D_Z22:=d_Z22 (P:=l.prog) (w:=w) (base:=base) S_Z22 T 
 have D_Z3:=d_Z3 (P:=l.prog) (w:=w) (base:=base) S_Z3 T D_Z22
 have D_Z24:=d_Z24 (P:=l.prog) (w:=w) (base:=base) S_Z24 T 
 have D_Z15:=d_Z15 (P:=l.prog) (w:=w) (base:=base) S_Z15 T 
 have D_Z28:=d_Z28 (P:=l.prog) (w:=w) (base:=base) S_Z28 T D_Z48
 have D_Z4:=d_Z4 (P:=l.prog) (w:=w) (base:=base) S_Z4 T 
 have D_Z49:=d_Z49 (P:=l.prog) (w:=w) (base:=base) (fun_mk l_Z12 c_Z12 k_Z12) ⟨a_Z12,if_Z12,k_Z12⟩ T D_Z40 D_Z47 D_Z4 D_Z45 D_Z48 D_lay
 have D_ask:=d_ask (P:=l.prog) (w:=w) (base:=base) (funD_mk l_Z17 c_Z17 k_Z17) ld_Z17 ⟨a_Z17,if_Z17,k_Z17⟩ T D_Z3 D_Z24 D_Z40 D_Z15 D_Z45 D_Z28 D_lay
 have D_Z44:=d_Z44 (P:=l.prog) (w:=w) (base:=base) (fun_mk l_Z8 c_Z8 k_Z8) ⟨a_Z8,if_Z8,k_Z8⟩ T D_Z19 D_Z16
 have D_Z14:=d_Z14 (P:=l.prog) (w:=w) (base:=base) (fun_mk l_Z1 c_Z1 k_Z1) ⟨a_Z1,if_Z1,k_Z1⟩ T D_ask D_Z37 D_Z47 D_Z49
 have D_Z46:=d_Z46 (P:=l.prog) (w:=w) (base:=base) (funD_mk l_Z10 c_Z10 k_Z10) ld_Z10 ⟨a_Z10,if_Z10,k_Z10⟩ T D_Z47 D_Z3 D_Z14
 have D_Z6:=d_Z6 (P:=l.prog) (w:=w) (base:=base) (fun_mk l_Z0 c_Z0 k_Z0) ⟨a_Z0,if_Z0,k_Z0⟩ T D_Z47
 have D_put:=d_put (P:=l.prog) (w:=w) (base:=base) (fun_mk l_Z18 c_Z18 k_Z18) ⟨a_Z18,if_Z18,k_Z18⟩ T D_Z6
 have D_get:=d_get (P:=l.prog) (w:=w) (base:=base) (fun_mk l_Z20 c_Z20 k_Z20) ⟨a_Z20,if_Z20,k_Z20⟩ T D_Z6
 have D_Z23:=d_Z23 (P:=l.prog) (w:=w) (base:=base) S_Z23 T 
 have D_Z33:=d_Z33 (P:=l.prog) (w:=w) (base:=base) S_Z33 T 
 have D_Z41:=d_Z41 (P:=l.prog) (w:=w) (base:=base) S_Z41 T D_Z33
 have D_Z26:=d_Z26 (P:=l.prog) (w:=w) (base:=base) S_Z26 T 
 have D_Z38:=d_Z38 (P:=l.prog) (w:=w) (base:=base) S_Z38 T D_Z45 D_Z41 D_Z33
 have D_Z39:=d_Z39 (P:=l.prog) (w:=w) (base:=base) S_Z39 T D_Z47 D_get D_Z33
 have D_Z32:=d_Z32 (P:=l.prog) (w:=w) (base:=base) S_Z32 T D_Z45 D_ask D_Z33
 have D_Z31:=d_Z31 (P:=l.prog) (w:=w) (base:=base) S_Z31 T D_Z45 D_Z46 D_Z33
 have D_Z42:=d_Z42 (P:=l.prog) (w:=w) (base:=base) S_Z42 T D_Z32 D_Z26 D_put D_Z49 D_Z31 D_Z44
 exact ok_law (fun_mk l_law c_law k_law) T D_Z23 D_Halves D_Z38 D_Z42 D_Z39
theorem walk {l:PySem.W.OpenLaw}{q:Program}{loose:List Str}{XP:(Str→Option Value)→Heap→Prop}{YP:World→Heap→Prop}{d:DefRec}{K:Params→PySem.W.Frag}(hn:l.most=some 63)(hdf:d.params.defaults=[])
   (hY:∀(w:World) (h:Heap),YP w h→(K w.params).In h)
   (F:∀(w:World) (mg:Str→Option Value) (fa:Addr) (h:Heap),(K w.params).In h→h.Ns mainGlobals mg→mg d.name=some (.ref fa) →
     ∃fd:FuncData,(∀(s:Shared) (u:Value),BindsTo s fd ⟨[u],[]⟩ [("_law_script",u)])∧∀base:Heap,(K w.params).In base→base.Ns mainGlobals mg→FnOk l.prog w (K w.params) mg base (CXe l.prog w) 13 fa fd ["_law_script"] (spLaw (K w.params))) :
   PySem.W.WalkO q loose XP YP l.row.toRowW d [] (fun f vs=>PySem.call f vs) :=
 L2.walk_of (n:=63) (k:=13) (x:="_law_script") (CX:=fun w=>(CXe l.prog w)) (sp:=fun w=>spLaw (K w.params)) hn (by decide) hdf ⟨rfl,by decide,by decide⟩ hY F (fun _ _ a ns hl _ hS=>⟨a,ns,rfl,hS,hl,fun _=>rfl⟩) (fun _ _ _ _ _ ⟨_,_,_,_,_,_,_,_,_,_,_,_,_,_,_,z⟩=>z)
end Stow
open PySem PySem.W PyProof.Rows
set_option maxRecDepth 100000 in
set_option maxHeartbeats 0 in
theorem PySem.Challenge.cw_stow_k32_whole_halves_holds : PySem.Challenge.rw_stow_k32_whole_halves.Holds := by
 w_on;o_law
 refine holds_open (XP:=fun _ _=>True) (YP:=InK Stow.heap0) Stow.left0 ?y (InK.keeps (K:=Stow.heap0)) (fun _ _=>trivial) (fun _ _ _ h _=>h) rfl rfl rfl (fun _ e=>recFacts_of e) rfl
   (by assumption) (by decide +kernel) ⟨rfl,rfl,rfl,rfl,rfl,by decide +kernel⟩ ?hw ?hc
 case y=>exact InK.of Stow.at0_eq
 case hw=>w_witness2
 k_fill
 refine Stow.walk (l:=PySem.Challenge.rw_stow_k32_whole_halves) rfl rfl (fun w h Y=>Y) ?F
 case F =>
   intro w mg fa h KX G hmg
   apply Stow.all_mk KX G hmg
   (case a_Z22=>k_is)
   (case l_Z22=>unfold Stow.LkF;k_is)
   (case c_Z22=>k_is)
   (case k_Z22=>k_is)
   (case a_Z3=>k_is)
   (case l_Z3=>unfold Stow.LkF;k_is)
   (case c_Z3=>k_is)
   (case k_Z3=>k_is)
   (case a_Z34=>k_is)
   (case l_Z34=>unfold Stow.LkF;k_is)
   (case c_Z34=>k_is)
   (case k_Z34=>k_is)
   (case a_Z35=>k_is)
   (case l_Z35=>unfold Stow.LkF;k_is)
   (case c_Z35=>k_is)
   (case k_Z35=>k_is)
   (case a_Z36=>k_is)
   (case l_Z36=>unfold Stow.LkF;k_is)
   (case c_Z36=>k_is)
   (case k_Z36=>k_is)
   (case a_Z21=>k_is)
   (case l_Z21=>unfold Stow.LkF;k_is)
   (case c_Z21=>k_is)
   (case k_Z21=>k_is)
   (case a_Z9=>k_is)
   (case l_Z9=>unfold Stow.LkF;k_is)
   (case c_Z9=>k_is)
   (case k_Z9=>k_is)
   (case a_Z43=>k_is)
   (case l_Z43=>unfold Stow.LkF;k_is)
   (case c_Z43=>k_is)
   (case k_Z43=>k_is)
   (case a_Z19=>k_is)
   (case l_Z19=>unfold Stow.LkF;k_is)
   (case c_Z19=>k_is)
   (case k_Z19=>k_is)
   (case a_Z48=>k_is)
   (case l_Z48=>unfold Stow.LkF;k_is)
   (case c_Z48=>k_is)
   (case k_Z48=>k_is)
   (case a_Z27=>k_is)
   (case l_Z27=>unfold Stow.LkF;k_is)
   (case c_Z27=>k_is)
   (case k_Z27=>k_is)
   (case a_Z29=>k_is)
   (case l_Z29=>unfold Stow.LkF;k_is)
   (case c_Z29=>k_is)
   (case k_Z29=>k_is)
   (case a_Z37=>k_is)
   (case l_Z37=>unfold Stow.LkF;k_is)
   (case c_Z37=>k_is)
   (case k_Z37=>k_is)
   (case a_Z25=>k_is)
   (case l_Z25=>unfold Stow.LkF;k_is)
   (case c_Z25=>k_is)
   (case k_Z25=>k_is)
   (case a_Z24=>k_is)
   (case l_Z24=>unfold Stow.LkF;k_is)
   (case c_Z24=>k_is)
   (case k_Z24=>k_is)
   (case a_Z15=>k_is)
   (case l_Z15=>unfold Stow.LkF;k_is)
   (case c_Z15=>k_is)
   (case k_Z15=>k_is)
   (case a_Z28=>k_is)
   (case l_Z28=>unfold Stow.LkF;k_is)
   (case c_Z28=>k_is)
   (case k_Z28=>k_is)
   (case a_Z4=>k_is)
   (case l_Z4=>unfold Stow.LkF;k_is)
   (case c_Z4=>k_is)
   (case k_Z4=>k_is)
   (case a_Z23=>k_is)
   (case l_Z23=>unfold Stow.LkF;k_is)
   (case c_Z23=>k_is)
   (case k_Z23=>k_is)
   (case a_Z33=>k_is)
   (case l_Z33=>unfold Stow.LkF;k_is)
   (case c_Z33=>k_is)
   (case k_Z33=>k_is)
   (case a_Z41=>k_is)
   (case l_Z41=>unfold Stow.LkF;k_is)
   (case c_Z41=>k_is)
   (case k_Z41=>k_is)
   (case a_Z26=>k_is)
   (case l_Z26=>unfold Stow.LkF;k_is)
   (case c_Z26=>k_is)
   (case k_Z26=>k_is)
   (case a_Z38=>k_is)
   (case l_Z38=>unfold Stow.LkF;k_is)
   (case c_Z38=>k_is)
   (case k_Z38=>k_is)
   (case a_Z39=>k_is)
   (case l_Z39=>unfold Stow.LkF;k_is)
   (case c_Z39=>k_is)
   (case k_Z39=>k_is)
   (case a_Z32=>k_is)
   (case l_Z32=>unfold Stow.LkF;k_is)
   (case c_Z32=>k_is)
   (case k_Z32=>k_is)
   (case a_Z31=>k_is)
   (case l_Z31=>unfold Stow.LkF;k_is)
   (case c_Z31=>k_is)
   (case k_Z31=>k_is)
   (case a_Z42=>k_is)
   (case l_Z42=>unfold Stow.LkF;k_is)
   (case c_Z42=>k_is)
   (case k_Z42=>k_is)
   (case a_law=>k_is)
   (case l_law=>unfold Stow.LkF;k_is)
   (case c_law=>k_is)
   (case k_law=>k_is)
   (case z_bool=>k_is)
   (case z_dict=>k_is)
   (case z_int=>k_is)
   (case z_isinstance=>k_is)
   (case z_len=>k_is)
   (case z_list=>k_is)
   (case z_max=>k_is)
   (case z_min=>k_is)
   (case z_range=>k_is)
   (case z_sorted=>k_is)
   (case z_tuple=>k_is)
   (case g_LEAST_LIVE=>k_is)
   (case g_MARKS=>k_is)
   (case cc_StowError=>k_is)
   (case cc_NoSize=>k_is)
   (case cc_Broken=>k_is)
   (case cc_NoPiece=>k_is)
   (case cc_NoCell=>k_is)
   (case cc_NoAsk=>k_is)
   (case cc_NoBound=>k_is)
   (case cc_NoRoom=>k_is)
   (case cc_Keeper=>k_is)
   (case cc_Halves=>k_is)
   (case s1_Broken=>k_is)
   (case s2_Broken=>k_is)
   (case s5_Broken=>decide +kernel)
   (case s6_Broken=>rfl)
   (case s3_Broken=>k_is)
   (case s4_Broken=>k_is)
   (case xx_NoSize=>k_exc)
   (case xx_NoPiece=>k_exc)
   (case xx_NoRoom=>k_exc)
   (case pg_Halves=>k_is)
   (case hd_Halves=>k_is)
   (case po_Halves=>k_is)
   (case sa_Halves=>k_is)
   (case na_Halves_room_cells=>k_is)
   (case lc_NoRoom=>k_is)
   (case fb_NoRoom=>decide +kernel)
   (case fm_NoRoom_NoRoom=>decide +kernel)
   (case lc_Broken=>k_is)
   (case xx_StowError=>k_exc)
   (case kp_Broken=>k_is)
   (case e2_=>k_is)
   (case l_Broken_init=>unfold Stow.LkF;k_is)
   (case c_Broken_init=>k_is)
   (case k_Broken_init=>k_is)
   (case eb_Broken=>rfl)
   (case en_Broken=>rfl)
   (case eo_Broken=>rfl)
   (case e1_=>k_is)
   (case l_Keeper_init=>unfold Stow.LkF;k_is)
   (case c_Keeper_init=>k_is)
   (case k_Keeper_init=>k_is)
   (case bs_Keeper=>k_is)
   (case br_Keeper=>k_is)
   (case a_Z2=>k_is)
   (case l_Z2=>unfold Stow.LkF;k_is)
   (case c_Z2=>k_is)
   (case k_Z2=>k_is)
   (case if_Z2=>k_is)
   (case a_Z13=>k_is)
   (case l_Z13=>unfold Stow.LkF;k_is)
   (case c_Z13=>k_is)
   (case k_Z13=>k_is)
   (case if_Z13=>k_is)
   (case a_Z5=>k_is)
   (case l_Z5=>unfold Stow.LkF;k_is)
   (case c_Z5=>k_is)
   (case k_Z5=>k_is)
   (case if_Z5=>k_is)
   (case a_Z7=>k_is)
   (case l_Z7=>unfold Stow.LkF;k_is)
   (case c_Z7=>k_is)
   (case k_Z7=>k_is)
   (case if_Z7=>k_is)
   (case a_Z11=>k_is)
   (case l_Z11=>unfold Stow.LkF;k_is)
   (case c_Z11=>k_is)
   (case k_Z11=>k_is)
   (case if_Z11=>k_is)
   (case e0_=>k_is)
   (case l_Halves_init=>unfold Stow.LkF;k_is)
   (case c_Halves_init=>k_is)
   (case k_Halves_init=>k_is)
   (case if_Halves_init=>k_is)
   (case mk_Halves=>k_is)
   (case kp_Halves=>k_is)
   (case a_Z12=>k_is)
   (case l_Z12=>unfold Stow.LkF;k_is)
   (case c_Z12=>k_is)
   (case k_Z12=>k_is)
   (case if_Z12=>k_is)
   (case a_Z17=>k_is)
   (case l_Z17=>unfold Stow.LkF;k_is)
   (case ld_Z17=>k_is)
   (case c_Z17=>k_is)
   (case k_Z17=>k_is)
   (case if_Z17=>k_is)
   (case a_Z8=>k_is)
   (case l_Z8=>unfold Stow.LkF;k_is)
   (case c_Z8=>k_is)
   (case k_Z8=>k_is)
   (case if_Z8=>k_is)
   (case a_Z1=>k_is)
   (case l_Z1=>unfold Stow.LkF;k_is)
   (case c_Z1=>k_is)
   (case k_Z1=>k_is)
   (case if_Z1=>k_is)
   (case a_Z10=>k_is)
   (case l_Z10=>unfold Stow.LkF;k_is)
   (case ld_Z10=>k_is)
   (case c_Z10=>k_is)
   (case k_Z10=>k_is)
   (case if_Z10=>k_is)
   (case a_Z0=>k_is)
   (case l_Z0=>unfold Stow.LkF;k_is)
   (case c_Z0=>k_is)
   (case k_Z0=>k_is)
   (case if_Z0=>k_is)
   (case a_Z18=>k_is)
   (case l_Z18=>unfold Stow.LkF;k_is)
   (case c_Z18=>k_is)
   (case k_Z18=>k_is)
   (case if_Z18=>k_is)
   (case a_Z20=>k_is)
   (case l_Z20=>unfold Stow.LkF;k_is)
   (case c_Z20=>k_is)
   (case k_Z20=>k_is)
   (case if_Z20=>k_is)
