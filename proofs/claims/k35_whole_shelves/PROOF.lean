import PyProof.Rows.All
import Wide.All
import OpenK.AllK
import Wide.FinOn
import Lean
import PyProof.EqAt
import PyProof.EqKinds
import PyProof.TupleCall
import PyProof.NeKinds
import PyProof.StationsW
import PyProof.RulesAs
import PyProof.ExcClass3
import PyProof.ExcInit
import PyProof.ExcArgsOwn
import PyProof.IsiH_set
import PyProof.NsDelKeeps
import PyProof.CompFree
import PySem.Challenge.RW_stow_k35_whole_shelves
set_option Elab.async false
set_option linter.all false
set_option maxRecDepth 100000
set_option maxHeartbeats 4000000
namespace L2
open PySem PySem.Spec PyProof.Rows
def Xak (s:Stmt)(j:Nat):Stmt:=match s with
 | .ClassDef _ _ _ body _ _ _ _ _ _ _=>body.getD j (.Pass ⟨0,0,0,0⟩)
 | _=>.Pass ⟨0,0,0,0⟩
def Xbh (s:Stmt):Arguments:=match s with
 | .FunctionDef _ a _ _ _ _ _ _ _ _=>a
 | _=>{ posonlyargs:=[],args:=[],vararg:=none,kwonlyargs:=[],kw_defaults:=[],kwarg:=none,defaults:=[] }
def Xay (s:Stmt):List Stmt:=match s with
 | .FunctionDef _ _ b _ _ _ _ _ _ _=>b
 | _=>[]
def Xad (s:Stmt):Scope:=match s with
 | .FunctionDef _ _ _ _ _ _ sc _ _ _=>sc
 | _=>{ kind:=.function,names:=[],isGenerator:=false,isCoroutine:=false }
end L2
namespace Stow
open PySem L2 PyProof.Rows
def top (i:Nat):Stmt:=PySem.Challenge.pw_stow_k35_whole_shelves.main.body.getD i (.Pass ⟨0,0,0,0⟩)
def en (P:Params)(s:Str)(t:Tok)(v:Value):DictEntry:=⟨PyData.keyHash P s,.str s t,v⟩
def fo (nm qn:Str)(st:Stmt)(dV kV dc pm:Value)(an:Option Addr)(cd ct:Value)(od:Option Addr):Obj:=⟨.type "function",od,.func (PySem.W.fnOf nm qn (Xbh st) (Xay st) (Xad st) dV kV dc pm an cd ct),#[]⟩
def fq (nm qn:Str)(st:Stmt):Obj:=⟨.none,none,.func { name:=nm,qualname:=qn,params:=Xbh st,body:=.stmts (Xay st),scope:=Xad st,globals:=0,closure:=[],defaults:=.none,kwdefaults:=.none },#[]⟩
def tu (l:List Value):Obj:=⟨(.type "tuple"),none,.seq l.toArray 0,#[]⟩
def fl (l:List Value):Obj:=⟨.none,none,.fields l.toArray,#[]⟩
def co (l:List Value):Obj:=⟨(.type "code"),none,.fields l.toArray,#[]⟩
abbrev vI (n:Int):Value:=.int n 0
abbrev vR (n:Addr):Value:=.ref n
abbrev cp (a b:Str)(t:Tok)(l:List Value):Obj:=co ((.str a t)::(.str b (t+1))::(.str "/claim/cut.py" (t+2))::l)
def ho0:Obj:=⟨(.type "tuple"),none,.seq #[] 0,#[]⟩
def ho1:Obj:=⟨.none,none,.fields #[],#[]⟩
def ho2:Obj:=cp "<module>" "<module>" 182 (vI 1::vI 0::vI 0::vI 0::vI 0::vR 11::(.bool false)::vI 181::vR 12::.none::.none::.none::.none::vI 185::vI 1::(.str "/claim/cut.py" 186)::[])
def ho3:Obj:=⟨(.type "frame"),none,.plain,((some (.ref 13))::(some (.ref 3))::(some (.ref 3))::none::(some (.str "__main__" 164))::none::(some (.ref 0))::[]).toArray⟩
def ho4 (P:Params):Obj:=⟨(.type "dict"),none,.dict (en P "__name__" 165 (.str "stow.errors" 187)::en P "__doc__" 166 .none::en P "__package__" 167 .none::en P "__loader__" 168 (.builtin "__main__.__loader__#opaque")::en P "__spec__" 169 .none::en P "__annotations__" 170 (.ref 6)::en P "__builtins__" 171 (.ref 4)::en P "__file__" 173 (.str "/claim/cut.py" 172)::en P "__cached__" 174 .none::en P "StowError" 206 (.ref 24)::en P "NoSize" 222 (.ref 37)::en P "Broken" 247 (.ref 56)::en P "NoPiece" 263 (.ref 68)::en P "NoCell" 279 (.ref 80)::en P "NoAsk" 295 (.ref 92)::en P "NoBound" 311 (.ref 104)::en P "NoRoom" 327 (.ref 116)::[]).toArray 17,#[]⟩
def ho5:Obj:=fl (vI 2::vI 0::vR 20::vI 4::vI 0::vR 33::vI 6::vI 0::vR 45::vI 10::vI 0::vR 64::vI 12::vI 0::vR 76::vI 14::vI 0::vR 88::vI 16::vI 0::vR 100::vI 18::vI 0::vR 112::[])
def ho6:Obj:=tu ((.type "ValueError")::[])
def ho7:Obj:=⟨(.type "builtin_function_or_method"),none,.fields ((.builtin "type.__prepare__")::(.type "type")::[]).toArray,#[]⟩
def ho8 (P:Params):Obj:=⟨(.type "dict"),none,.dict (en P "__module__" 196 (.str "stow.errors" 187)::en P "__qualname__" 198 (.str "StowError" 197)::en P "__firstlineno__" 200 (.int 2 199)::en P "__static_attributes__" 201 (.ref 22)::[]).toArray 4,#[]⟩
def ho11:Obj:=cp "StowError" "StowError" 191 (vI 2::vI 0::vI 0::vI 0::vI 0::vR 18::(.bool false)::vI 181::vR 19::.none::.none::.none::.none::vI 194::vI 2::(.str "/claim/cut.py" 195)::[])
def ho12:Obj:=⟨(.type "frame"),none,.plain,((some (.ref 20))::(some (.ref 3))::(some (.ref 17))::none::(some (.str "stow.errors" 187))::none::(some (.ref 0))::[]).toArray⟩
def ho14 (P:Params):Obj:=⟨(.type "dict"),none,.dict (en P "__module__" 196 (.str "stow.errors" 187)::en P "__firstlineno__" 200 (.int 2 199)::en P "__static_attributes__" 201 (.ref 22)::en P "__weakref__" 203 (.ref 25)::en P "__doc__" 204 .none::[]).toArray 3,#[]⟩
def ho15:Obj:=⟨(.type "type"),none,.cls ⟨"StowError",[(.type "ValueError")],[(.ref 24),(.type "ValueError"),(.type "Exception"),(.type "BaseException"),(.type "object")],23,"StowError",true,[],[(.ref 37),(.ref 56),(.ref 68),(.ref 80),(.ref 92),(.ref 104),(.ref 116)],false,none,false⟩,((some (.ref 15))::none::(some (.str "StowError" 189))::(some (.str "StowError" 197))::(some (.builtin "ValueError.__new__"))::(some (.bool true))::[]).toArray⟩
def ho16:Obj:=⟨(.type "getset_descriptor"),none,.fields ((.str "__weakref__" 202)::(.ref 24)::(.builtin "ExceptionGroup.__weakref__")::.none::[]).toArray,#[]⟩
def ho17:Obj:=⟨(.type "super"),none,.fields ((.ref 24)::(.ref 24)::(.ref 24)::[]).toArray,#[]⟩
def ho18:Obj:=⟨(.type "builtin_function_or_method"),none,.fields ((.builtin "object.__init_subclass__")::(.ref 24)::[]).toArray,#[]⟩
def ho19:Obj:=tu (vR 24::[])
def ho21 (P:Params):Obj:=⟨(.type "dict"),none,.dict (en P "__module__" 214 (.str "stow.errors" 187)::en P "__qualname__" 216 (.str "NoSize" 215)::en P "__firstlineno__" 218 (.int 4 217)::en P "__static_attributes__" 219 (.ref 35)::[]).toArray 4,#[]⟩
def ho24:Obj:=cp "NoSize" "NoSize" 209 (vI 4::vI 0::vI 0::vI 0::vI 0::vR 31::(.bool false)::vI 181::vR 32::.none::.none::.none::.none::vI 212::vI 4::(.str "/claim/cut.py" 213)::[])
def ho25:Obj:=⟨(.type "frame"),none,.plain,((some (.ref 33))::(some (.ref 3))::(some (.ref 30))::none::(some (.str "stow.errors" 187))::none::(some (.ref 0))::[]).toArray⟩
def ho27 (P:Params):Obj:=⟨(.type "dict"),none,.dict (en P "__module__" 214 (.str "stow.errors" 187)::en P "__firstlineno__" 218 (.int 4 217)::en P "__static_attributes__" 219 (.ref 35)::en P "__doc__" 220 .none::[]).toArray 2,#[]⟩
def ho28:Obj:=⟨(.type "type"),none,.cls ⟨"NoSize",[(.ref 24)],[(.ref 37),(.ref 24),(.type "ValueError"),(.type "Exception"),(.type "BaseException"),(.type "object")],36,"NoSize",true,[],[],false,none,false⟩,((some (.ref 28))::none::(some (.str "NoSize" 207))::(some (.str "NoSize" 215))::(some (.builtin "ValueError.__new__"))::(some (.bool true))::[]).toArray⟩
def ho29:Obj:=⟨(.type "super"),none,.fields ((.ref 37)::(.ref 37)::(.ref 37)::[]).toArray,#[]⟩
def ho30:Obj:=⟨(.type "builtin_function_or_method"),none,.fields ((.builtin "object.__init_subclass__")::(.ref 37)::[]).toArray,#[]⟩
def ho33 (P:Params):Obj:=⟨(.type "dict"),none,.dict (en P "__module__" 230 (.str "stow.errors" 187)::en P "__qualname__" 232 (.str "Broken" 231)::en P "__firstlineno__" 234 (.int 6 233)::en P "__init__" 242 (.ref 53)::en P "__static_attributes__" 244 (.ref 54)::[]).toArray 5,#[]⟩
def ho35:Obj:=fl (vI 8::vI 4::vR 52::[])
def ho36:Obj:=cp "Broken" "Broken" 225 (vI 6::vI 0::vI 0::vI 0::vI 0::vR 43::(.bool false)::vI 181::vR 44::.none::.none::.none::.none::vI 228::vI 6::(.str "/claim/cut.py" 229)::[])
def ho37:Obj:=⟨(.type "frame"),none,.plain,((some (.ref 45))::(some (.ref 3))::(some (.ref 42))::none::(some (.str "stow.errors" 187))::none::(some (.ref 0))::[]).toArray⟩
def ho40:Obj:=tu ((.str "self" 238)::(.str "cell" 239)::[])
def ho42:Obj:=fq "__init__" "Broken.__init__" (Xak (top 3) 0)
def ho43:Obj:=cp "__init__" "Broken.__init__" 235 (vI 8::vI 2::vI 0::vI 0::vI 3::vR 47::(.bool true)::vI 181::vR 48::.none::vR 49::vR 50::vR 51::vI 240::vI 8::(.str "/claim/cut.py" 241)::[])
def ho44:Obj:=fo "__init__" "Broken.__init__" (Xak (top 3) 0) .none .none .none (.str "stow.errors" 187) none (.ref 52) .none none
def ho45:Obj:=tu ((.str "cell" 243)::[])
def ho46 (P:Params):Obj:=⟨(.type "dict"),none,.dict (en P "__module__" 230 (.str "stow.errors" 187)::en P "__firstlineno__" 234 (.int 6 233)::en P "__init__" 242 (.ref 53)::en P "__static_attributes__" 244 (.ref 54)::en P "__doc__" 245 .none::[]).toArray 2,#[]⟩
def ho47:Obj:=⟨(.type "type"),none,.cls ⟨"Broken",[(.ref 24)],[(.ref 56),(.ref 24),(.type "ValueError"),(.type "Exception"),(.type "BaseException"),(.type "object")],55,"Broken",true,[],[],false,none,false⟩,((some (.ref 40))::none::(some (.str "Broken" 223))::(some (.str "Broken" 231))::(some (.builtin "ValueError.__new__"))::(some (.bool true))::[]).toArray⟩
def ho48:Obj:=⟨(.type "super"),none,.fields ((.ref 56)::(.ref 56)::(.ref 56)::[]).toArray,#[]⟩
def ho49:Obj:=⟨(.type "builtin_function_or_method"),none,.fields ((.builtin "object.__init_subclass__")::(.ref 56)::[]).toArray,#[]⟩
def ho52 (P:Params):Obj:=⟨(.type "dict"),none,.dict (en P "__module__" 255 (.str "stow.errors" 187)::en P "__qualname__" 257 (.str "NoPiece" 256)::en P "__firstlineno__" 259 (.int 10 258)::en P "__static_attributes__" 260 (.ref 66)::[]).toArray 4,#[]⟩
def ho55:Obj:=cp "NoPiece" "NoPiece" 250 (vI 10::vI 0::vI 0::vI 0::vI 0::vR 62::(.bool false)::vI 181::vR 63::.none::.none::.none::.none::vI 253::vI 10::(.str "/claim/cut.py" 254)::[])
def ho56:Obj:=⟨(.type "frame"),none,.plain,((some (.ref 64))::(some (.ref 3))::(some (.ref 61))::none::(some (.str "stow.errors" 187))::none::(some (.ref 0))::[]).toArray⟩
def ho58 (P:Params):Obj:=⟨(.type "dict"),none,.dict (en P "__module__" 255 (.str "stow.errors" 187)::en P "__firstlineno__" 259 (.int 10 258)::en P "__static_attributes__" 260 (.ref 66)::en P "__doc__" 261 .none::[]).toArray 2,#[]⟩
def ho59:Obj:=⟨(.type "type"),none,.cls ⟨"NoPiece",[(.ref 24)],[(.ref 68),(.ref 24),(.type "ValueError"),(.type "Exception"),(.type "BaseException"),(.type "object")],67,"NoPiece",true,[],[],false,none,false⟩,((some (.ref 59))::none::(some (.str "NoPiece" 248))::(some (.str "NoPiece" 256))::(some (.builtin "ValueError.__new__"))::(some (.bool true))::[]).toArray⟩
def ho60:Obj:=⟨(.type "super"),none,.fields ((.ref 68)::(.ref 68)::(.ref 68)::[]).toArray,#[]⟩
def ho61:Obj:=⟨(.type "builtin_function_or_method"),none,.fields ((.builtin "object.__init_subclass__")::(.ref 68)::[]).toArray,#[]⟩
def ho64 (P:Params):Obj:=⟨(.type "dict"),none,.dict (en P "__module__" 271 (.str "stow.errors" 187)::en P "__qualname__" 273 (.str "NoCell" 272)::en P "__firstlineno__" 275 (.int 12 274)::en P "__static_attributes__" 276 (.ref 78)::[]).toArray 4,#[]⟩
def ho67:Obj:=cp "NoCell" "NoCell" 266 (vI 12::vI 0::vI 0::vI 0::vI 0::vR 74::(.bool false)::vI 181::vR 75::.none::.none::.none::.none::vI 269::vI 12::(.str "/claim/cut.py" 270)::[])
def ho68:Obj:=⟨(.type "frame"),none,.plain,((some (.ref 76))::(some (.ref 3))::(some (.ref 73))::none::(some (.str "stow.errors" 187))::none::(some (.ref 0))::[]).toArray⟩
def ho70 (P:Params):Obj:=⟨(.type "dict"),none,.dict (en P "__module__" 271 (.str "stow.errors" 187)::en P "__firstlineno__" 275 (.int 12 274)::en P "__static_attributes__" 276 (.ref 78)::en P "__doc__" 277 .none::[]).toArray 2,#[]⟩
def ho71:Obj:=⟨(.type "type"),none,.cls ⟨"NoCell",[(.ref 24)],[(.ref 80),(.ref 24),(.type "ValueError"),(.type "Exception"),(.type "BaseException"),(.type "object")],79,"NoCell",true,[],[],false,none,false⟩,((some (.ref 71))::none::(some (.str "NoCell" 264))::(some (.str "NoCell" 272))::(some (.builtin "ValueError.__new__"))::(some (.bool true))::[]).toArray⟩
def ho72:Obj:=⟨(.type "super"),none,.fields ((.ref 80)::(.ref 80)::(.ref 80)::[]).toArray,#[]⟩
def ho73:Obj:=⟨(.type "builtin_function_or_method"),none,.fields ((.builtin "object.__init_subclass__")::(.ref 80)::[]).toArray,#[]⟩
def ho76 (P:Params):Obj:=⟨(.type "dict"),none,.dict (en P "__module__" 287 (.str "stow.errors" 187)::en P "__qualname__" 289 (.str "NoAsk" 288)::en P "__firstlineno__" 291 (.int 14 290)::en P "__static_attributes__" 292 (.ref 90)::[]).toArray 4,#[]⟩
def ho79:Obj:=cp "NoAsk" "NoAsk" 282 (vI 14::vI 0::vI 0::vI 0::vI 0::vR 86::(.bool false)::vI 181::vR 87::.none::.none::.none::.none::vI 285::vI 14::(.str "/claim/cut.py" 286)::[])
def ho80:Obj:=⟨(.type "frame"),none,.plain,((some (.ref 88))::(some (.ref 3))::(some (.ref 85))::none::(some (.str "stow.errors" 187))::none::(some (.ref 0))::[]).toArray⟩
def ho82 (P:Params):Obj:=⟨(.type "dict"),none,.dict (en P "__module__" 287 (.str "stow.errors" 187)::en P "__firstlineno__" 291 (.int 14 290)::en P "__static_attributes__" 292 (.ref 90)::en P "__doc__" 293 .none::[]).toArray 2,#[]⟩
def ho83:Obj:=⟨(.type "type"),none,.cls ⟨"NoAsk",[(.ref 24)],[(.ref 92),(.ref 24),(.type "ValueError"),(.type "Exception"),(.type "BaseException"),(.type "object")],91,"NoAsk",true,[],[],false,none,false⟩,((some (.ref 83))::none::(some (.str "NoAsk" 280))::(some (.str "NoAsk" 288))::(some (.builtin "ValueError.__new__"))::(some (.bool true))::[]).toArray⟩
def ho84:Obj:=⟨(.type "super"),none,.fields ((.ref 92)::(.ref 92)::(.ref 92)::[]).toArray,#[]⟩
def ho85:Obj:=⟨(.type "builtin_function_or_method"),none,.fields ((.builtin "object.__init_subclass__")::(.ref 92)::[]).toArray,#[]⟩
def ho88 (P:Params):Obj:=⟨(.type "dict"),none,.dict (en P "__module__" 303 (.str "stow.errors" 187)::en P "__qualname__" 305 (.str "NoBound" 304)::en P "__firstlineno__" 307 (.int 16 306)::en P "__static_attributes__" 308 (.ref 102)::[]).toArray 4,#[]⟩
def ho91:Obj:=cp "NoBound" "NoBound" 298 (vI 16::vI 0::vI 0::vI 0::vI 0::vR 98::(.bool false)::vI 181::vR 99::.none::.none::.none::.none::vI 301::vI 16::(.str "/claim/cut.py" 302)::[])
def ho92:Obj:=⟨(.type "frame"),none,.plain,((some (.ref 100))::(some (.ref 3))::(some (.ref 97))::none::(some (.str "stow.errors" 187))::none::(some (.ref 0))::[]).toArray⟩
def ho94 (P:Params):Obj:=⟨(.type "dict"),none,.dict (en P "__module__" 303 (.str "stow.errors" 187)::en P "__firstlineno__" 307 (.int 16 306)::en P "__static_attributes__" 308 (.ref 102)::en P "__doc__" 309 .none::[]).toArray 2,#[]⟩
def ho95:Obj:=⟨(.type "type"),none,.cls ⟨"NoBound",[(.ref 24)],[(.ref 104),(.ref 24),(.type "ValueError"),(.type "Exception"),(.type "BaseException"),(.type "object")],103,"NoBound",true,[],[],false,none,false⟩,((some (.ref 95))::none::(some (.str "NoBound" 296))::(some (.str "NoBound" 304))::(some (.builtin "ValueError.__new__"))::(some (.bool true))::[]).toArray⟩
def ho96:Obj:=⟨(.type "super"),none,.fields ((.ref 104)::(.ref 104)::(.ref 104)::[]).toArray,#[]⟩
def ho97:Obj:=⟨(.type "builtin_function_or_method"),none,.fields ((.builtin "object.__init_subclass__")::(.ref 104)::[]).toArray,#[]⟩
def Xur (P:Params):Obj:=⟨(.type "dict"),none,.dict (en P "__module__" 319 (.str "stow.errors" 187)::en P "__qualname__" 321 (.str "NoRoom" 320)::en P "__firstlineno__" 323 (.int 18 322)::en P "__static_attributes__" 324 (.ref 114)::[]).toArray 4,#[]⟩
def XCk:Obj:=cp "NoRoom" "NoRoom" 314 (vI 18::vI 0::vI 0::vI 0::vI 0::vR 110::(.bool false)::vI 181::vR 111::.none::.none::.none::.none::vI 317::vI 18::(.str "/claim/cut.py" 318)::[])
def XAd:Obj:=⟨(.type "frame"),none,.plain,((some (.ref 112))::(some (.ref 3))::(some (.ref 109))::none::(some (.str "stow.errors" 187))::none::(some (.ref 0))::[]).toArray⟩
def Xtm (P:Params):Obj:=⟨(.type "dict"),none,.dict (en P "__module__" 319 (.str "stow.errors" 187)::en P "__firstlineno__" 323 (.int 18 322)::en P "__static_attributes__" 324 (.ref 114)::en P "__doc__" 325 .none::[]).toArray 2,#[]⟩
def Xvl:Obj:=⟨(.type "type"),none,.cls ⟨"NoRoom",[(.ref 24)],[(.ref 116),(.ref 24),(.type "ValueError"),(.type "Exception"),(.type "BaseException"),(.type "object")],115,"NoRoom",true,[],[],false,none,false⟩,((some (.ref 107))::none::(some (.str "NoRoom" 312))::(some (.str "NoRoom" 320))::(some (.builtin "ValueError.__new__"))::(some (.bool true))::[]).toArray⟩
def Xzz:Obj:=⟨(.type "super"),none,.fields ((.ref 116)::(.ref 116)::(.ref 116)::[]).toArray,#[]⟩
def Xzt:Obj:=⟨(.type "builtin_function_or_method"),none,.fields ((.builtin "object.__init_subclass__")::(.ref 116)::[]).toArray,#[]⟩
def XMx (P:Params):Obj:=⟨(.type "dict"),none,.dict (en P "__name__" 165 (.str "law_stow_k35_whole_shelves" 724)::en P "__doc__" 166 .none::en P "__package__" 167 .none::en P "__loader__" 168 (.builtin "__main__.__loader__#opaque")::en P "__spec__" 169 .none::en P "__annotations__" 170 (.ref 6)::en P "__builtins__" 171 (.ref 4)::en P "__file__" 173 (.str "/claim/cut.py" 172)::en P "__cached__" 174 .none::en P "StowError" 206 (.ref 24)::en P "NoSize" 222 (.ref 37)::en P "Broken" 247 (.ref 56)::en P "NoPiece" 263 (.ref 68)::en P "NoCell" 279 (.ref 80)::en P "NoAsk" 295 (.ref 92)::en P "NoBound" 311 (.ref 104)::en P "NoRoom" 327 (.ref 116)::en P "MARKS" 331 (.int 2 330)::en P "check_ask" 339 (.ref 125)::en P "check_plain_ask" 347 (.ref 132)::en P "mark_of" 357 (.ref 139)::en P "long_of" 364 (.ref 146)::en P "live_of" 371 (.ref 153)::en P "LEAST_LIVE" 375 (.int 3 374)::en P "can_begin" 384 (.ref 160)::en P "bad_of_piece" 393 (.ref 167)::en P "looked" 404 (.ref 174)::en P "fresh_room" 412 (.ref 181)::en P "laid" 425 (.ref 188)::en P "piece_at" 434 (.ref 195)::en P "live_at" 443 (.ref 202)::en P "carried" 454 (.ref 209)::en P "Keeper" 607 (.ref 319)::en P "all_whole" 617 (.ref 330)::en P "begin_of" 625 (.ref 337)::en P "whole_ones" 631 (.ref 342)::en P "free_slots" 637 (.ref 347)::en P "cut_for" 650 (.ref 354)::en P "with_slot" 660 (.ref 361)::en P "has_live" 666 (.ref 366)::en P "Shelves" 723 (.ref 405)::en P "_law_cell_at" 733 (.ref 414)::[]).toArray 42,#[]⟩
def XMd:Obj:=fl (vI 2::vI 0::vR 20::vI 4::vI 0::vR 33::vI 6::vI 0::vR 45::vI 10::vI 0::vR 64::vI 12::vI 0::vR 76::vI 14::vI 0::vR 88::vI 16::vI 0::vR 100::vI 18::vI 0::vR 112::vI 22::vI 0::vR 124::vI 25::vI 0::vR 131::vI 30::vI 0::vR 138::vI 34::vI 0::vR 145::vI 36::vI 0::vR 152::vI 40::vI 0::vR 159::vI 45::vI 0::vR 166::vI 52::vI 0::vR 173::vI 63::vI 0::vR 180::vI 71::vI 0::vR 187::vI 76::vI 0::vR 194::vI 81::vI 0::vR 201::vI 86::vI 0::vR 208::vI 90::vI 0::vR 215::vI 151::vI 0::vR 329::vI 155::vI 0::vR 336::vI 157::vI 0::vR 341::vI 159::vI 0::vR 346::vI 162::vI 0::vR 353::vI 168::vI 0::vR 360::vI 175::vI 0::vR 365::vI 177::vI 0::vR 372::vI 203::vI 0::vR 413::[])
def XFy:Obj:=tu ((.str "count" 335)::(.str "bound" 336)::[])
def XGe:Obj:=fq "check_ask" "check_ask" (top 11)
def XAm:Obj:=cp "check_ask" "check_ask" 332 (vI 22::vI 2::vI 0::vI 0::vI 3::vR 119::(.bool true)::vI 181::vR 120::.none::vR 121::vR 122::vR 123::vI 337::vI 22::(.str "/claim/cut.py" 338)::[])
def XAj:Obj:=fo "check_ask" "check_ask" (top 11) .none .none .none (.str "stow.asks" 328) none (.ref 124) .none none
def XEv:Obj:=tu ((.str "count" 343)::(.str "bound" 344)::[])
def XEk:Obj:=fq "check_plain_ask" "check_plain_ask" (top 12)
def Xzn:Obj:=cp "check_plain_ask" "check_plain_ask" 340 (vI 25::vI 2::vI 0::vI 0::vI 3::vR 126::(.bool true)::vI 181::vR 127::.none::vR 128::vR 129::vR 130::vI 345::vI 25::(.str "/claim/cut.py" 346)::[])
def Xzp:Obj:=fo "check_plain_ask" "check_plain_ask" (top 12) .none .none .none (.str "stow.asks" 328) none (.ref 131) .none none
def XEx:Obj:=tu ((.str "long" 353)::(.str "live" 354)::[])
def XDw:Obj:=fq "mark_of" "mark_of" (top 14)
def XBc:Obj:=cp "mark_of" "mark_of" 350 (vI 30::vI 2::vI 0::vI 0::vI 3::vR 133::(.bool true)::vI 181::vR 134::.none::vR 135::vR 136::vR 137::vI 355::vI 30::(.str "/claim/cut.py" 356)::[])
def Xzr:Obj:=fo "mark_of" "mark_of" (top 14) .none .none .none (.str "stow.marks" 348) none (.ref 138) .none none
def XFd:Obj:=tu ((.str "number" 361)::[])
def XDm:Obj:=fq "long_of" "long_of" (top 15)
def XCj:Obj:=cp "long_of" "long_of" 358 (vI 34::vI 1::vI 0::vI 0::vI 3::vR 140::(.bool true)::vI 181::vR 141::.none::vR 142::vR 143::vR 144::vI 362::vI 34::(.str "/claim/cut.py" 363)::[])
def XAv:Obj:=fo "long_of" "long_of" (top 15) .none .none .none (.str "stow.marks" 348) none (.ref 145) .none none
def XDv:Obj:=tu ((.str "number" 368)::[])
def XFj:Obj:=fq "live_of" "live_of" (top 16)
def XCm:Obj:=cp "live_of" "live_of" 365 (vI 36::vI 1::vI 0::vI 0::vI 3::vR 147::(.bool true)::vI 181::vR 148::.none::vR 149::vR 150::vR 151::vI 369::vI 36::(.str "/claim/cut.py" 370)::[])
def Xxl:Obj:=fo "live_of" "live_of" (top 16) .none .none .none (.str "stow.marks" 348) none (.ref 152) .none none
def XKq:Obj:=tu ((.str "cells" 379)::(.str "at" 380)::(.str "long" 381)::[])
def XJp:Obj:=fq "can_begin" "can_begin" (top 19)
def Xxn:Obj:=cp "can_begin" "can_begin" 376 (vI 40::vI 2::vI 0::vI 0::vI 3::vR 154::(.bool true)::vI 181::vR 155::.none::vR 156::vR 157::vR 158::vI 382::vI 40::(.str "/claim/cut.py" 383)::[])
def XCe:Obj:=fo "can_begin" "can_begin" (top 19) .none .none .none (.str "stow.looks" 372) none (.ref 159) .none none
def XLa:Obj:=tu ((.str "cells" 388)::(.str "at" 389)::(.str "last" 390)::[])
def XFs:Obj:=fq "bad_of_piece" "bad_of_piece" (top 20)
def XAe:Obj:=cp "bad_of_piece" "bad_of_piece" 385 (vI 45::vI 2::vI 0::vI 0::vI 3::vR 161::(.bool true)::vI 181::vR 162::.none::vR 163::vR 164::vR 165::vI 391::vI 45::(.str "/claim/cut.py" 392)::[])
def XBu:Obj:=fo "bad_of_piece" "bad_of_piece" (top 20) .none .none .none (.str "stow.looks" 372) none (.ref 166) .none none
def XFa:Obj:=tu ((.str "cells" 397)::(.str "pieces" 398)::(.str "at" 399)::(.str "bad" 400)::(.str "long" 401)::[])
def XHv:Obj:=fq "looked" "looked" (top 21)
def XAy:Obj:=cp "looked" "looked" 394 (vI 52::vI 1::vI 0::vI 0::vI 3::vR 168::(.bool true)::vI 181::vR 169::.none::vR 170::vR 171::vR 172::vI 402::vI 52::(.str "/claim/cut.py" 403)::[])
def XBb:Obj:=fo "looked" "looked" (top 21) .none .none .none (.str "stow.looks" 372) none (.ref 173) .none none
def XFe:Obj:=tu ((.str "count" 408)::(.str "cells" 409)::[])
def XCz:Obj:=fq "fresh_room" "fresh_room" (top 22)
def XAz:Obj:=cp "fresh_room" "fresh_room" 405 (vI 63::vI 1::vI 0::vI 0::vI 3::vR 175::(.bool true)::vI 181::vR 176::.none::vR 177::vR 178::vR 179::vI 410::vI 63::(.str "/claim/cut.py" 411)::[])
def Xyl:Obj:=fo "fresh_room" "fresh_room" (top 22) .none .none .none (.str "stow.looks" 372) none (.ref 180) .none none
def XLc:Obj:=tu ((.str "cells" 418)::(.str "at" 419)::(.str "long" 420)::(.str "live" 421)::(.str "row" 422)::[])
def XDs:Obj:=fq "laid" "laid" (top 24)
def Xya:Obj:=cp "laid" "laid" 415 (vI 71::vI 4::vI 0::vI 0::vI 3::vR 182::(.bool true)::vI 181::vR 183::.none::vR 184::vR 185::vR 186::vI 423::vI 71::(.str "/claim/cut.py" 424)::[])
def XCl:Obj:=fo "laid" "laid" (top 24) .none .none .none (.str "stow.pieces" 413) none (.ref 187) .none none
def XKd:Obj:=tu ((.str "cells" 429)::(.str "at" 430)::(.str "piece" 431)::[])
def XGl:Obj:=fq "piece_at" "piece_at" (top 25)
def XBg:Obj:=cp "piece_at" "piece_at" 426 (vI 76::vI 2::vI 0::vI 0::vI 3::vR 189::(.bool true)::vI 181::vR 190::.none::vR 191::vR 192::vR 193::vI 432::vI 76::(.str "/claim/cut.py" 433)::[])
def XBx:Obj:=fo "piece_at" "piece_at" (top 25) .none .none .none (.str "stow.pieces" 413) none (.ref 194) .none none
def XJf:Obj:=tu ((.str "cells" 438)::(.str "at" 439)::(.str "piece" 440)::[])
def XKk:Obj:=fq "live_at" "live_at" (top 26)
def Xzo:Obj:=cp "live_at" "live_at" 435 (vI 81::vI 2::vI 0::vI 0::vI 3::vR 196::(.bool true)::vI 181::vR 197::.none::vR 198::vR 199::vR 200::vI 441::vI 81::(.str "/claim/cut.py" 442)::[])
def XBp:Obj:=fo "live_at" "live_at" (top 26) .none .none .none (.str "stow.pieces" 413) none (.ref 201) .none none
def XHr:Obj:=tu ((.str "cells" 447)::(.str "source" 448)::(.str "goal" 449)::(.str "count" 450)::(.str "row" 451)::[])
def XKu:Obj:=fq "carried" "carried" (top 27)
def XAo:Obj:=cp "carried" "carried" 444 (vI 86::vI 4::vI 0::vI 0::vI 3::vR 203::(.bool true)::vI 181::vR 204::.none::vR 205::vR 206::vR 207::vI 452::vI 86::(.str "/claim/cut.py" 453)::[])
def XAp:Obj:=fo "carried" "carried" (top 27) .none .none .none (.str "stow.pieces" 413) none (.ref 208) .none none
def XBd (P:Params):Obj:=⟨(.type "dict"),none,.dict (en P "__module__" 464 (.str "stow.keepers" 455)::en P "__qualname__" 466 (.str "Keeper" 465)::en P "__firstlineno__" 468 (.int 90 467)::en P "__init__" 476 (.ref 223)::en P "cells" 483 (.ref 230)::en P "pieces" 490 (.ref 237)::en P "lay" 498 (.ref 244)::en P "clear" 505 (.ref 251)::en P "many" 516 (.ref 258)::en P "get" 525 (.ref 265)::en P "put" 536 (.ref 272)::en P "ask" 546 (.ref 280)::en P "give" 557 (.ref 287)::en P "grow" 569 (.ref 295)::en P "room_begin" 577 (.ref 302)::en P "room_cell_of" 587 (.ref 309)::en P "room_moved" 598 (.ref 316)::en P "__static_attributes__" 600 (.ref 317)::[]).toArray 18,#[]⟩
def XHy:Obj:=fl (vI 92::vI 4::vR 222::vI 95::vI 4::vR 229::vI 98::vI 4::vR 236::vI 101::vI 4::vR 243::vI 107::vI 4::vR 250::vI 110::vI 4::vR 257::vI 114::vI 4::vR 264::vI 117::vI 4::vR 271::vI 121::vI 4::vR 279::vI 125::vI 4::vR 286::vI 129::vI 4::vR 294::vI 136::vI 4::vR 301::vI 139::vI 4::vR 308::vI 145::vI 4::vR 315::[])
def XIs:Obj:=cp "Keeper" "Keeper" 459 (vI 90::vI 0::vI 0::vI 0::vI 0::vR 213::(.bool false)::vI 181::vR 214::.none::.none::.none::.none::vI 462::vI 90::(.str "/claim/cut.py" 463)::[])
def XJt:Obj:=⟨(.type "frame"),none,.plain,((some (.ref 215))::(some (.ref 3))::(some (.ref 212))::none::(some (.str "stow.keepers" 455))::none::(some (.ref 0))::[]).toArray⟩
def XIg:Obj:=tu ((.str "self" 472)::(.str "size" 473)::[])
def XJn:Obj:=fq "__init__" "Keeper.__init__" (Xak (top 29) 0)
def Xzb:Obj:=cp "__init__" "Keeper.__init__" 469 (vI 92::vI 2::vI 0::vI 0::vI 3::vR 217::(.bool true)::vI 181::vR 218::.none::vR 219::vR 220::vR 221::vI 474::vI 92::(.str "/claim/cut.py" 475)::[])
def XBq:Obj:=fo "__init__" "Keeper.__init__" (Xak (top 29) 0) .none .none .none (.str "stow.keepers" 455) none (.ref 222) .none none
def XDq:Obj:=tu ((.str "self" 480)::[])
def XIp:Obj:=fq "cells" "Keeper.cells" (Xak (top 29) 1)
def XBe:Obj:=cp "cells" "Keeper.cells" 477 (vI 95::vI 1::vI 0::vI 0::vI 3::vR 224::(.bool true)::vI 181::vR 225::.none::vR 226::vR 227::vR 228::vI 481::vI 95::(.str "/claim/cut.py" 482)::[])
def Xzq:Obj:=fo "cells" "Keeper.cells" (Xak (top 29) 1) .none .none .none (.str "stow.keepers" 455) none (.ref 229) .none none
def XCv:Obj:=tu ((.str "self" 487)::[])
def XCy:Obj:=fq "pieces" "Keeper.pieces" (Xak (top 29) 2)
def Xzk:Obj:=cp "pieces" "Keeper.pieces" 484 (vI 98::vI 1::vI 0::vI 0::vI 3::vR 231::(.bool true)::vI 181::vR 232::.none::vR 233::vR 234::vR 235::vI 488::vI 98::(.str "/claim/cut.py" 489)::[])
def Xxv:Obj:=fo "pieces" "Keeper.pieces" (Xak (top 29) 2) .none .none .none (.str "stow.keepers" 455) none (.ref 236) .none none
def XGk:Obj:=tu ((.str "self" 494)::(.str "cells" 495)::[])
def XEp:Obj:=fq "lay" "Keeper.lay" (Xak (top 29) 3)
def Xxc:Obj:=cp "lay" "Keeper.lay" 491 (vI 101::vI 2::vI 0::vI 0::vI 3::vR 238::(.bool true)::vI 181::vR 239::.none::vR 240::vR 241::vR 242::vI 496::vI 101::(.str "/claim/cut.py" 497)::[])
def Xze:Obj:=fo "lay" "Keeper.lay" (Xak (top 29) 3) .none .none .none (.str "stow.keepers" 455) none (.ref 243) .none none
def XKp:Obj:=tu ((.str "self" 502)::[])
def XHa:Obj:=fq "clear" "Keeper.clear" (Xak (top 29) 4)
def XEf:Obj:=cp "clear" "Keeper.clear" 499 (vI 107::vI 1::vI 0::vI 0::vI 3::vR 245::(.bool true)::vI 181::vR 246::.none::vR 247::vR 248::vR 249::vI 503::vI 107::(.str "/claim/cut.py" 504)::[])
def XDt:Obj:=fo "clear" "Keeper.clear" (Xak (top 29) 4) .none .none .none (.str "stow.keepers" 455) none (.ref 250) .none none
def XFm:Obj:=tu ((.str "self" 509)::(.str "place" 510)::(.str "at" 511)::(.str "long" 512)::(.str "live" 513)::[])
def XIk:Obj:=fq "many" "Keeper.many" (Xak (top 29) 5)
def XBm:Obj:=cp "many" "Keeper.many" 506 (vI 110::vI 2::vI 0::vI 0::vI 3::vR 252::(.bool true)::vI 181::vR 253::.none::vR 254::vR 255::vR 256::vI 514::vI 110::(.str "/claim/cut.py" 515)::[])
def Xxt:Obj:=fo "many" "Keeper.many" (Xak (top 29) 5) .none .none .none (.str "stow.keepers" 455) none (.ref 257) .none none
def XHk:Obj:=tu ((.str "self" 520)::(.str "place" 521)::(.str "k" 522)::[])
def XGm:Obj:=fq "get" "Keeper.get" (Xak (top 29) 6)
def Xyh:Obj:=cp "get" "Keeper.get" 517 (vI 114::vI 3::vI 0::vI 0::vI 3::vR 259::(.bool true)::vI 181::vR 260::.none::vR 261::vR 262::vR 263::vI 523::vI 114::(.str "/claim/cut.py" 524)::[])
def Xxo:Obj:=fo "get" "Keeper.get" (Xak (top 29) 6) .none .none .none (.str "stow.keepers" 455) none (.ref 264) .none none
def XCq:Obj:=tu ((.str "self" 529)::(.str "place" 530)::(.str "k" 531)::(.str "number" 532)::(.str "cell" 533)::[])
def XDf:Obj:=fq "put" "Keeper.put" (Xak (top 29) 7)
def Xza:Obj:=cp "put" "Keeper.put" 526 (vI 117::vI 4::vI 0::vI 0::vI 3::vR 266::(.bool true)::vI 181::vR 267::.none::vR 268::vR 269::vR 270::vI 534::vI 117::(.str "/claim/cut.py" 535)::[])
def Xyf:Obj:=fo "put" "Keeper.put" (Xak (top 29) 7) .none .none .none (.str "stow.keepers" 455) none (.ref 271) .none none
def XIz:Obj:=tu ((.int 1 537)::[])
def XFn:Obj:=tu ((.str "self" 541)::(.str "count" 542)::(.str "bound" 543)::[])
def XJj:Obj:=fq "ask" "Keeper.ask" (Xak (top 29) 8)
def XGd:Obj:=cp "ask" "Keeper.ask" 538 (vI 121::vI 3::vI 0::vI 0::vI 3::vR 274::(.bool true)::vI 181::vR 275::.none::vR 276::vR 277::vR 278::vI 544::vI 121::(.str "/claim/cut.py" 545)::[])
def XJa:Obj:=fo "ask" "Keeper.ask" (Xak (top 29) 8) (.ref 273) .none .none (.str "stow.keepers" 455) none (.ref 279) .none none
def XEt:Obj:=tu ((.str "self" 550)::(.str "place" 551)::(.str "at" 552)::(.str "long" 553)::(.str "live" 554)::[])
def XLf:Obj:=fq "give" "Keeper.give" (Xak (top 29) 9)
def XFx:Obj:=cp "give" "Keeper.give" 547 (vI 125::vI 2::vI 0::vI 0::vI 3::vR 281::(.bool true)::vI 181::vR 282::.none::vR 283::vR 284::vR 285::vI 555::vI 125::(.str "/claim/cut.py" 556)::[])
def XHf:Obj:=fo "give" "Keeper.give" (Xak (top 29) 9) .none .none .none (.str "stow.keepers" 455) none (.ref 286) .none none
def Xyb:Obj:=tu ((.int 1 558)::[])
def XEg:Obj:=tu ((.str "self" 562)::(.str "place" 563)::(.str "count" 564)::(.str "bound" 565)::(.str "had" 566)::[])
def XKm:Obj:=fq "grow" "Keeper.grow" (Xak (top 29) 10)
def XAu:Obj:=cp "grow" "Keeper.grow" 559 (vI 129::vI 4::vI 0::vI 0::vI 3::vR 289::(.bool true)::vI 181::vR 290::.none::vR 291::vR 292::vR 293::vI 567::vI 129::(.str "/claim/cut.py" 568)::[])
def XAt:Obj:=fo "grow" "Keeper.grow" (Xak (top 29) 10) (.ref 288) .none .none (.str "stow.keepers" 455) none (.ref 294) .none none
def XIw:Obj:=tu ((.str "self" 573)::(.str "cells" 574)::[])
def XDh:Obj:=fq "room_begin" "Keeper.room_begin" (Xak (top 29) 11)
def Xzw:Obj:=cp "room_begin" "Keeper.room_begin" 570 (vI 136::vI 2::vI 0::vI 0::vI 3::vR 296::(.bool true)::vI 181::vR 297::.none::vR 298::vR 299::vR 300::vI 575::vI 136::(.str "/claim/cut.py" 576)::[])
def XBr:Obj:=fo "room_begin" "Keeper.room_begin" (Xak (top 29) 11) .none .none .none (.str "stow.keepers" 455) none (.ref 301) .none none
def XGr:Obj:=tu ((.str "self" 581)::(.str "place" 582)::(.str "k" 583)::(.str "many" 584)::[])
def XFk:Obj:=fq "room_cell_of" "Keeper.room_cell_of" (Xak (top 29) 12)
def XBw:Obj:=cp "room_cell_of" "Keeper.room_cell_of" 578 (vI 139::vI 3::vI 0::vI 0::vI 3::vR 303::(.bool true)::vI 181::vR 304::.none::vR 305::vR 306::vR 307::vI 585::vI 139::(.str "/claim/cut.py" 586)::[])
def XBt:Obj:=fo "room_cell_of" "Keeper.room_cell_of" (Xak (top 29) 12) .none .none .none (.str "stow.keepers" 455) none (.ref 308) .none none
def XDg:Obj:=tu ((.str "self" 591)::(.str "place" 592)::(.str "count" 593)::(.str "bound" 594)::(.str "goal" 595)::[])
def XGg:Obj:=fq "room_moved" "Keeper.room_moved" (Xak (top 29) 13)
def XCp:Obj:=cp "room_moved" "Keeper.room_moved" 588 (vI 145::vI 4::vI 0::vI 0::vI 3::vR 310::(.bool true)::vI 181::vR 311::.none::vR 312::vR 313::vR 314::vI 596::vI 145::(.str "/claim/cut.py" 597)::[])
def XBl:Obj:=fo "room_moved" "Keeper.room_moved" (Xak (top 29) 13) .none .none .none (.str "stow.keepers" 455) none (.ref 315) .none none
def XHc:Obj:=tu ((.str "room_cells" 599)::[])
def Xys (P:Params):Obj:=⟨(.type "dict"),none,.dict (en P "__module__" 464 (.str "stow.keepers" 455)::en P "__firstlineno__" 468 (.int 90 467)::en P "__init__" 476 (.ref 223)::en P "cells" 483 (.ref 230)::en P "pieces" 490 (.ref 237)::en P "lay" 498 (.ref 244)::en P "clear" 505 (.ref 251)::en P "many" 516 (.ref 258)::en P "get" 525 (.ref 265)::en P "put" 536 (.ref 272)::en P "ask" 546 (.ref 280)::en P "give" 557 (.ref 287)::en P "grow" 569 (.ref 295)::en P "room_begin" 577 (.ref 302)::en P "room_cell_of" 587 (.ref 309)::en P "room_moved" 598 (.ref 316)::en P "__static_attributes__" 600 (.ref 317)::en P "__dict__" 602 (.ref 320)::en P "__weakref__" 604 (.ref 321)::en P "__doc__" 605 .none::[]).toArray 4,#[]⟩
def XBa:Obj:=⟨(.type "type"),none,.cls ⟨"Keeper",[(.type "object")],[(.ref 319),(.type "object")],318,"Keeper",true,[],[(.ref 405)],false,none,false⟩,(none::none::(some (.str "Keeper" 457))::(some (.str "Keeper" 465))::(some (.builtin "object.__new__"))::(some (.bool true))::[]).toArray⟩
def XFl:Obj:=⟨(.type "getset_descriptor"),none,.fields ((.str "__dict__" 601)::(.ref 319)::(.builtin "function.__dict__")::(.builtin "function.__dict__#set")::[]).toArray,#[]⟩
def XHb:Obj:=⟨(.type "getset_descriptor"),none,.fields ((.str "__weakref__" 603)::(.ref 319)::(.builtin "ExceptionGroup.__weakref__")::.none::[]).toArray,#[]⟩
def XCs:Obj:=⟨(.type "super"),none,.fields ((.ref 319)::(.ref 319)::(.ref 319)::[]).toArray,#[]⟩
def XJs:Obj:=⟨(.type "builtin_function_or_method"),none,.fields ((.builtin "object.__init_subclass__")::(.ref 319)::[]).toArray,#[]⟩
def XGs:Obj:=tu ((.str "size" 613)::(.str "shelf" 614)::[])
def XIx:Obj:=fq "all_whole" "all_whole" (top 31)
def Xxi:Obj:=cp "all_whole" "all_whole" 610 (vI 151::vI 2::vI 0::vI 0::vI 3::vR 324::(.bool true)::vI 181::vR 325::.none::vR 326::vR 327::vR 328::vI 615::vI 151::(.str "/claim/cut.py" 616)::[])
def Xzm:Obj:=fo "all_whole" "all_whole" (top 31) .none .none .none (.str "stow.shelves" 608) none (.ref 329) .none none
def XKb:Obj:=tu ((.str "at" 621)::(.str "shelf" 622)::[])
def XLg:Obj:=fq "begin_of" "begin_of" (top 32)
def Xzh:Obj:=cp "begin_of" "begin_of" 618 (vI 155::vI 2::vI 0::vI 0::vI 3::vR 331::(.bool true)::vI 181::vR 332::.none::vR 333::vR 334::vR 335::vI 623::vI 155::(.str "/claim/cut.py" 624)::[])
def Xzj:Obj:=fo "begin_of" "begin_of" (top 32) .none .none .none (.str "stow.shelves" 608) none (.ref 336) .none none
def XKl:Obj:=fq "whole_ones" "whole_ones" (top 33)
def Xyi:Obj:=cp "whole_ones" "whole_ones" 626 (vI 157::vI 2::vI 0::vI 0::vI 3::vR 338::(.bool true)::vI 181::vR 339::.none::.none::.none::vR 340::vI 629::vI 157::(.str "/claim/cut.py" 630)::[])
def Xxe:Obj:=fo "whole_ones" "whole_ones" (top 33) .none .none .none (.str "stow.shelves" 608) none (.ref 341) .none none
def XKi:Obj:=fq "free_slots" "free_slots" (top 34)
def Xye:Obj:=cp "free_slots" "free_slots" 632 (vI 159::vI 3::vI 0::vI 0::vI 3::vR 343::(.bool true)::vI 181::vR 344::.none::.none::.none::vR 345::vI 635::vI 159::(.str "/claim/cut.py" 636)::[])
def XAc:Obj:=fo "free_slots" "free_slots" (top 34) .none .none .none (.str "stow.shelves" 608) none (.ref 346) .none none
def XIf:Obj:=tu ((.str "cells" 641)::(.str "begin" 642)::(.str "shelf" 643)::(.str "size" 644)::(.str "row" 645)::(.str "end" 646)::(.str "at" 647)::[])
def XJk:Obj:=fq "cut_for" "cut_for" (top 35)
def Xzy:Obj:=cp "cut_for" "cut_for" 638 (vI 162::vI 4::vI 0::vI 0::vI 3::vR 348::(.bool true)::vI 181::vR 349::.none::vR 350::vR 351::vR 352::vI 648::vI 162::(.str "/claim/cut.py" 649)::[])
def Xxj:Obj:=fo "cut_for" "cut_for" (top 35) .none .none .none (.str "stow.shelves" 608) none (.ref 353) .none none
def XHt:Obj:=tu ((.str "cells" 654)::(.str "shelf" 655)::(.str "size" 656)::(.str "begins" 657)::[])
def XFf:Obj:=fq "with_slot" "with_slot" (top 36)
def Xxk:Obj:=cp "with_slot" "with_slot" 651 (vI 168::vI 3::vI 0::vI 0::vI 3::vR 355::(.bool true)::vI 181::vR 356::.none::vR 357::vR 358::vR 359::vI 658::vI 168::(.str "/claim/cut.py" 659)::[])
def XBs:Obj:=fo "with_slot" "with_slot" (top 36) .none .none .none (.str "stow.shelves" 608) none (.ref 360) .none none
def XEw:Obj:=fq "has_live" "has_live" (top 37)
def Xxs:Obj:=cp "has_live" "has_live" 661 (vI 175::vI 3::vI 0::vI 0::vI 3::vR 362::(.bool true)::vI 181::vR 363::.none::.none::.none::vR 364::vI 664::vI 175::(.str "/claim/cut.py" 665)::[])
def Xyx:Obj:=fo "has_live" "has_live" (top 37) .none .none .none (.str "stow.shelves" 608) none (.ref 365) .none none
def XEs:Obj:=tu (vR 319::[])
def XBv (P:Params):Obj:=⟨(.type "dict"),none,.dict (en P "__module__" 674 (.str "stow.shelves" 608)::en P "__qualname__" 676 (.str "Shelves" 675)::en P "__firstlineno__" 678 (.int 177 677)::en P "__init__" 688 (.ref 380)::en P "clear" 695 (.ref 387)::en P "ask" 708 (.ref 395)::en P "give" 718 (.ref 402)::en P "__static_attributes__" 720 (.ref 403)::[]).toArray 8,#[]⟩
def XHl:Obj:=fl (vI 179::vI 4::vR 379::vI 185::vI 4::vR 386::vI 188::vI 4::vR 394::vI 196::vI 4::vR 401::[])
def XEb:Obj:=cp "Shelves" "Shelves" 669 (vI 177::vI 0::vI 0::vI 0::vI 0::vR 370::(.bool false)::vI 181::vR 371::.none::.none::.none::.none::vI 672::vI 177::(.str "/claim/cut.py" 673)::[])
def XLe:Obj:=⟨(.type "frame"),none,.plain,((some (.ref 372))::(some (.ref 3))::(some (.ref 369))::none::(some (.str "stow.shelves" 608))::none::(some (.ref 0))::[]).toArray⟩
def XKf:Obj:=tu ((.str "self" 682)::(.str "size" 683)::(.str "shelf" 684)::(.str "cells" 685)::[])
def XHo:Obj:=fq "__init__" "Shelves.__init__" (Xak (top 38) 0)
def Xyw:Obj:=cp "__init__" "Shelves.__init__" 679 (vI 179::vI 3::vI 0::vI 0::vI 3::vR 374::(.bool true)::vI 181::vR 375::.none::vR 376::vR 377::vR 378::vI 686::vI 179::(.str "/claim/cut.py" 687)::[])
def XBo:Obj:=fo "__init__" "Shelves.__init__" (Xak (top 38) 0) .none .none .none (.str "stow.shelves" 608) none (.ref 379) .none none
def XFz:Obj:=tu ((.str "self" 692)::[])
def XGh:Obj:=fq "clear" "Shelves.clear" (Xak (top 38) 1)
def XAa:Obj:=cp "clear" "Shelves.clear" 689 (vI 185::vI 1::vI 0::vI 0::vI 3::vR 381::(.bool true)::vI 181::vR 382::.none::vR 383::vR 384::vR 385::vI 693::vI 185::(.str "/claim/cut.py" 694)::[])
def XCc:Obj:=fo "clear" "Shelves.clear" (Xak (top 38) 1) .none .none .none (.str "stow.shelves" 608) none (.ref 386) .none none
def Xxw:Obj:=tu ((.int 1 696)::[])
def XEo:Obj:=tu ((.str "self" 700)::(.str "count" 701)::(.str "bound" 702)::(.str "size" 703)::(.str "cells" 704)::(.str "at" 705)::[])
def XFt:Obj:=fq "ask" "Shelves.ask" (Xak (top 38) 2)
def XCn:Obj:=cp "ask" "Shelves.ask" 697 (vI 188::vI 3::vI 0::vI 0::vI 3::vR 389::(.bool true)::vI 181::vR 390::.none::vR 391::vR 392::vR 393::vI 706::vI 188::(.str "/claim/cut.py" 707)::[])
def Xxp:Obj:=fo "ask" "Shelves.ask" (Xak (top 38) 2) (.ref 388) .none .none (.str "stow.shelves" 608) none (.ref 394) .none none
def XLh:Obj:=tu ((.str "self" 712)::(.str "place" 713)::(.str "cells" 714)::(.str "begin" 715)::[])
def XHq:Obj:=fq "give" "Shelves.give" (Xak (top 38) 3)
def XCg:Obj:=cp "give" "Shelves.give" 709 (vI 196::vI 2::vI 0::vI 0::vI 3::vR 396::(.bool true)::vI 181::vR 397::.none::vR 398::vR 399::vR 400::vI 716::vI 196::(.str "/claim/cut.py" 717)::[])
def Xxx:Obj:=fo "give" "Shelves.give" (Xak (top 38) 3) .none .none .none (.str "stow.shelves" 608) none (.ref 401) .none none
def XEe:Obj:=tu ((.str "shelf" 719)::[])
def Xzu (P:Params):Obj:=⟨(.type "dict"),none,.dict (en P "__module__" 674 (.str "stow.shelves" 608)::en P "__firstlineno__" 678 (.int 177 677)::en P "__init__" 688 (.ref 380)::en P "clear" 695 (.ref 387)::en P "ask" 708 (.ref 395)::en P "give" 718 (.ref 402)::en P "__static_attributes__" 720 (.ref 403)::en P "__doc__" 721 .none::[]).toArray 2,#[]⟩
def XAi:Obj:=⟨(.type "type"),none,.cls ⟨"Shelves",[(.ref 319)],[(.ref 405),(.ref 319),(.type "object")],404,"Shelves",true,[],[],false,none,false⟩,((some (.ref 367))::none::(some (.str "Shelves" 667))::(some (.str "Shelves" 675))::(some (.builtin "object.__new__"))::(some (.bool true))::[]).toArray⟩
def XJd:Obj:=⟨(.type "super"),none,.fields ((.ref 405)::(.ref 405)::(.ref 405)::[]).toArray,#[]⟩
def XJx:Obj:=⟨(.type "builtin_function_or_method"),none,.fields ((.builtin "object.__init_subclass__")::(.ref 405)::[]).toArray,#[]⟩
def XDr:Obj:=tu ((.str "_law_script" 729)::(.str "_law_k" 730)::[])
def XDa:Obj:=fq "_law_cell_at" "_law_cell_at" (top 40)
def Xxz:Obj:=cp "_law_cell_at" "_law_cell_at" 726 (vI 203::vI 2::vI 0::vI 0::vI 3::vR 408::(.bool true)::vI 181::vR 409::.none::vR 410::vR 411::vR 412::vI 731::vI 203::(.str "/claim/cut.py" 732)::[])
def Xyu:Obj:=fo "_law_cell_at" "_law_cell_at" (top 40) .none .none .none (.str "law_stow_k35_whole_shelves" 724) none (.ref 413) .none none
def XEn (P:Params):Obj:=⟨(.type "dict"),none,.dict (en P "__name__" 165 (.str "law_stow_k35_whole_shelves" 724)::en P "__doc__" 166 .none::en P "__package__" 167 .none::en P "__loader__" 168 (.builtin "__main__.__loader__#opaque")::en P "__spec__" 169 .none::en P "__annotations__" 170 (.ref 6)::en P "__builtins__" 171 (.ref 4)::en P "__file__" 173 (.str "/claim/cut.py" 172)::en P "__cached__" 174 .none::en P "StowError" 206 (.ref 24)::en P "NoSize" 222 (.ref 37)::en P "Broken" 247 (.ref 56)::en P "NoPiece" 263 (.ref 68)::en P "NoCell" 279 (.ref 80)::en P "NoAsk" 295 (.ref 92)::en P "NoBound" 311 (.ref 104)::en P "NoRoom" 327 (.ref 116)::en P "MARKS" 331 (.int 2 330)::en P "check_ask" 339 (.ref 125)::en P "check_plain_ask" 347 (.ref 132)::en P "mark_of" 357 (.ref 139)::en P "long_of" 364 (.ref 146)::en P "live_of" 371 (.ref 153)::en P "LEAST_LIVE" 375 (.int 3 374)::en P "can_begin" 384 (.ref 160)::en P "bad_of_piece" 393 (.ref 167)::en P "looked" 404 (.ref 174)::en P "fresh_room" 412 (.ref 181)::en P "laid" 425 (.ref 188)::en P "piece_at" 434 (.ref 195)::en P "live_at" 443 (.ref 202)::en P "carried" 454 (.ref 209)::en P "Keeper" 607 (.ref 319)::en P "all_whole" 617 (.ref 330)::en P "begin_of" 625 (.ref 337)::en P "whole_ones" 631 (.ref 342)::en P "free_slots" 637 (.ref 347)::en P "cut_for" 650 (.ref 354)::en P "with_slot" 660 (.ref 361)::en P "has_live" 666 (.ref 366)::en P "Shelves" 723 (.ref 405)::en P "_law_cell_at" 733 (.ref 414)::en P "_law_whole" 740 (.ref 421)::en P "_law_walk" 751 (.ref 428)::en P "_law_number" 758 (.ref 435)::en P "_law_shelf_good" 764 (.ref 440)::en P "_law_good" 770 (.ref 445)::en P "_law_told" 785 (.ref 452)::en P "_law_can" 791 (.ref 457)::en P "_law_asked" 804 (.ref 464)::en P "_law_grown" 818 (.ref 471)::en P "_law_step" 835 (.ref 478)::en P "law" 847 (.ref 485)::[]).toArray 53,#[]⟩
def XNw:Obj:=fl (vI 2::vI 0::vR 20::vI 4::vI 0::vR 33::vI 6::vI 0::vR 45::vI 10::vI 0::vR 64::vI 12::vI 0::vR 76::vI 14::vI 0::vR 88::vI 16::vI 0::vR 100::vI 18::vI 0::vR 112::vI 22::vI 0::vR 124::vI 25::vI 0::vR 131::vI 30::vI 0::vR 138::vI 34::vI 0::vR 145::vI 36::vI 0::vR 152::vI 40::vI 0::vR 159::vI 45::vI 0::vR 166::vI 52::vI 0::vR 173::vI 63::vI 0::vR 180::vI 71::vI 0::vR 187::vI 76::vI 0::vR 194::vI 81::vI 0::vR 201::vI 86::vI 0::vR 208::vI 90::vI 0::vR 215::vI 151::vI 0::vR 329::vI 155::vI 0::vR 336::vI 157::vI 0::vR 341::vI 159::vI 0::vR 346::vI 162::vI 0::vR 353::vI 168::vI 0::vR 360::vI 175::vI 0::vR 365::vI 177::vI 0::vR 372::vI 203::vI 0::vR 413::vI 207::vI 0::vR 420::vI 209::vI 0::vR 427::vI 226::vI 0::vR 434::vI 230::vI 0::vR 439::vI 242::vI 0::vR 444::vI 260::vI 0::vR 451::vI 274::vI 0::vR 456::vI 282::vI 0::vR 463::vI 296::vI 0::vR 470::vI 314::vI 0::vR 477::vI 333::vI 0::vR 484::[])
def XMq:Obj:=tu ((.str "_law_found" 737)::[])
def XLs:Obj:=fq "_law_whole" "_law_whole" (top 41)
def XEq:Obj:=cp "_law_whole" "_law_whole" 734 (vI 207::vI 1::vI 0::vI 0::vI 3::vR 415::(.bool true)::vI 181::vR 416::.none::vR 417::vR 418::vR 419::vI 738::vI 207::(.str "/claim/cut.py" 739)::[])
def XHj:Obj:=fo "_law_whole" "_law_whole" (top 41) .none .none .none (.str "law_stow_k35_whole_shelves" 724) none (.ref 420) .none none
def XOu:Obj:=tu ((.str "_law_cells" 744)::(.str "_law_told_here" 745)::(.str "_law_at" 746)::(.str "_law_long" 747)::(.str "_law_live" 748)::[])
def XMf:Obj:=fq "_law_walk" "_law_walk" (top 42)
def XEy:Obj:=cp "_law_walk" "_law_walk" 741 (vI 209::vI 1::vI 0::vI 0::vI 3::vR 422::(.bool true)::vI 181::vR 423::.none::vR 424::vR 425::vR 426::vI 749::vI 209::(.str "/claim/cut.py" 750)::[])
def XDd:Obj:=fo "_law_walk" "_law_walk" (top 42) .none .none .none (.str "law_stow_k35_whole_shelves" 724) none (.ref 427) .none none
def XNs:Obj:=tu ((.str "_law_cell" 755)::[])
def XNl:Obj:=fq "_law_number" "_law_number" (top 43)
def XCu:Obj:=cp "_law_number" "_law_number" 752 (vI 226::vI 1::vI 0::vI 0::vI 3::vR 429::(.bool true)::vI 181::vR 430::.none::vR 431::vR 432::vR 433::vI 756::vI 226::(.str "/claim/cut.py" 757)::[])
def XGf:Obj:=fo "_law_number" "_law_number" (top 43) .none .none .none (.str "law_stow_k35_whole_shelves" 724) none (.ref 434) .none none
def XLq:Obj:=fq "_law_shelf_good" "_law_shelf_good" (top 44)
def XKz:Obj:=cp "_law_shelf_good" "_law_shelf_good" 759 (vI 230::vI 3::vI 0::vI 0::vI 3::vR 436::(.bool true)::vI 181::vR 437::.none::.none::.none::vR 438::vI 762::vI 230::(.str "/claim/cut.py" 763)::[])
def XJg:Obj:=fo "_law_shelf_good" "_law_shelf_good" (top 44) .none .none .none (.str "law_stow_k35_whole_shelves" 724) none (.ref 439) .none none
def XLl:Obj:=fq "_law_good" "_law_good" (top 45)
def XKe:Obj:=cp "_law_good" "_law_good" 765 (vI 242::vI 3::vI 0::vI 0::vI 3::vR 441::(.bool true)::vI 181::vR 442::.none::.none::.none::vR 443::vI 768::vI 242::(.str "/claim/cut.py" 769)::[])
def XGy:Obj:=fo "_law_good" "_law_good" (top 45) .none .none .none (.str "law_stow_k35_whole_shelves" 724) none (.ref 444) .none none
def XLj:Obj:=tu ((.str "_law_keeper" 774)::(.str "_law_held" 775)::(.str "_law_cell" 776)::(.str "_law_places" 777)::(.str "_law_place" 778)::(.str "_law_known" 779)::(.str "_law_many" 780)::(.str "_law_k" 781)::(.str "_law_found" 782)::[])
def XLp:Obj:=fq "_law_told" "_law_told" (top 46)
def XKy:Obj:=cp "_law_told" "_law_told" 771 (vI 260::vI 3::vI 0::vI 0::vI 3::vR 446::(.bool true)::vI 181::vR 447::.none::vR 448::vR 449::vR 450::vI 783::vI 260::(.str "/claim/cut.py" 784)::[])
def XJy:Obj:=fo "_law_told" "_law_told" (top 46) .none .none .none (.str "law_stow_k35_whole_shelves" 724) none (.ref 451) .none none
def XOl:Obj:=fq "_law_can" "_law_can" (top 47)
def XKh:Obj:=cp "_law_can" "_law_can" 786 (vI 274::vI 3::vI 0::vI 0::vI 3::vR 453::(.bool true)::vI 181::vR 454::.none::.none::.none::vR 455::vI 789::vI 274::(.str "/claim/cut.py" 790)::[])
def XKw:Obj:=fo "_law_can" "_law_can" (top 47) .none .none .none (.str "law_stow_k35_whole_shelves" 724) none (.ref 456) .none none
def XNj:Obj:=tu ((.str "_law_keeper" 795)::(.str "_law_held" 796)::(.str "_law_count" 797)::(.str "_law_can_here" 798)::(.str "_law_before" 799)::(.str "_law_word" 800)::(.str "_law_place" 801)::[])
def XLr:Obj:=fq "_law_asked" "_law_asked" (top 48)
def XGb:Obj:=cp "_law_asked" "_law_asked" 792 (vI 282::vI 4::vI 0::vI 0::vI 3::vR 458::(.bool true)::vI 181::vR 459::.none::vR 460::vR 461::vR 462::vI 802::vI 282::(.str "/claim/cut.py" 803)::[])
def XIl:Obj:=fo "_law_asked" "_law_asked" (top 48) .none .none .none (.str "law_stow_k35_whole_shelves" 724) none (.ref 463) .none none
def XMs:Obj:=tu ((.str "_law_keeper" 808)::(.str "_law_held" 809)::(.str "_law_place" 810)::(.str "_law_count" 811)::(.str "_law_can_here" 812)::(.str "_law_before" 813)::(.str "_law_word" 814)::(.str "_law_goal" 815)::[])
def XOr:Obj:=fq "_law_grown" "_law_grown" (top 49)
def XGq:Obj:=cp "_law_grown" "_law_grown" 805 (vI 296::vI 5::vI 0::vI 0::vI 3::vR 465::(.bool true)::vI 181::vR 466::.none::vR 467::vR 468::vR 469::vI 816::vI 296::(.str "/claim/cut.py" 817)::[])
def XHp:Obj:=fo "_law_grown" "_law_grown" (top 49) .none .none .none (.str "law_stow_k35_whole_shelves" 724) none (.ref 470) .none none
def XOj:Obj:=tu ((.str "_law_keeper" 822)::(.str "_law_held" 823)::(.str "_law_pieces" 824)::(.str "_law_cell" 825)::(.str "_law_shelf" 826)::(.str "_law_count" 827)::(.str "_law_can_here" 828)::(.str "_law_way" 829)::(.str "_law_places" 830)::(.str "_law_place" 831)::(.str "_law_k" 832)::[])
def XOp:Obj:=fq "_law_step" "_law_step" (top 50)
def XKr:Obj:=cp "_law_step" "_law_step" 819 (vI 314::vI 5::vI 0::vI 0::vI 3::vR 472::(.bool true)::vI 181::vR 473::.none::vR 474::vR 475::vR 476::vI 833::vI 314::(.str "/claim/cut.py" 834)::[])
def XJv:Obj:=fo "_law_step" "_law_step" (top 50) .none .none .none (.str "law_stow_k35_whole_shelves" 724) none (.ref 477) .none none
def XNv:Obj:=tu ((.str "_law_script" 839)::(.str "_law_shelf" 840)::(.str "_law_keeper" 841)::(.str "_law_held" 842)::(.str "_law_pieces" 843)::(.str "_law_cell" 844)::[])
def XLx:Obj:=fq "law" "law" (top 51)
def XGv:Obj:=cp "law" "law" 836 (vI 333::vI 1::vI 0::vI 0::vI 3::vR 479::(.bool true)::vI 181::vR 480::.none::vR 481::vR 482::vR 483::vI 845::vI 333::(.str "/claim/cut.py" 846)::[])
def XDn:Obj:=fo "law" "law" (top 51) .none .none .none (.str "law_stow_k35_whole_shelves" 724) none (.ref 484) .none none
noncomputable def XCx:Params→Heap:=fun P=>⟨Array.mk (PySem.W.boot_o_0 P::PySem.W.boot_o_1 P::PySem.W.boot_o_2 P::PySem.W.boot_o_3 P::PySem.W.boot_o_4 P::PySem.W.boot_o_5 P::PySem.W.boot_o_6 P::PySem.W.boot_o_7 P::PySem.W.boot_o_8 P::PySem.W.boot_o_9 P::PySem.W.boot_o_10 P::ho0::ho1::ho2::ho3::[]),⟨[],[],[],0,[],[],false,#[],[],0,false,false,false,0,[2000,10,10],false,0,true,[],[],0,false⟩⟩
def Xyo:List Stmt:=PySem.W.behindTheImports PySem.Challenge.pw_stow_k35_whole_shelves
def sts0:List Stmt:=(Xyo.drop 0).take 9
def sts1:List Stmt:=(Xyo.drop 9).take 32
def sts2:List Stmt:=(Xyo.drop 41).take 11
def all0:List Stmt:=sts0++(sts1++(sts2++[]))
def env0:Env:={ scope:=(PySem.Challenge.pw_stow_k35_whole_shelves).main.scope,locals:=mainNs,globals:=mainNs,cells:=[],code:=(.ref 13),frame:=some 14 }
def Xhp:Code:=.body all0 env0
theorem pre0 (w:World)(os:OsState):PySem.W.topGo treeTable PySem.Challenge.pw_stow_k35_whole_shelves w 11 (some (.ref 6)) 12 ⟨PySem.W.boot_heap w.params,Array.mk [],PySem.W.boot_drawn,PySem.W.boot_toks,os⟩ (PySem.W.topStub PySem.Challenge.pw_stow_k35_whole_shelves)=some (⟨XCx w.params,#[],⟨0,0,0,0⟩,187,os⟩,⟨denote treeTable (.body all0 env0),Xhp,⟨0,0,0,0⟩,[PySem.W.topFrame ⟨0,0,0,0⟩]⟩):=by kernel_rfl
noncomputable def XKo:Params→PySem.W.BT:=fun P=>(.node (PySem.W.boot_o_0 P) (.node (PySem.W.boot_o_1 P) (.node (PySem.W.boot_o_3 P) (.node (PySem.W.boot_o_7 P) .nil .nil) (.node ho0 .nil .nil)) (.node (PySem.W.boot_o_5 P) (.node (PySem.W.boot_o_9 P) .nil .nil) (.node ho2 .nil .nil))) (.node (PySem.W.boot_o_2 P) (.node (PySem.W.boot_o_4 P) (.node (PySem.W.boot_o_8 P) .nil .nil) (.node ho1 .nil .nil)) (.node (PySem.W.boot_o_6 P) (.node (PySem.W.boot_o_10 P) .nil .nil) (.node ho3 .nil .nil))))
theorem blk0 (w:World)(os:OsState):PySem.W.segRun treeTable PySem.Challenge.pw_stow_k35_whole_shelves w 11 (some (.ref 6)) 1 1 ⟨XCx w.params,#[],⟨0,0,0,0⟩,187,os⟩ (PySem.W.blockOf all0 env0 Xhp ⟨0,0,0,0⟩ [PySem.W.topFrame ⟨0,0,0,0⟩])=some (.next,(PySem.W.SharedT.mk (XKo w.params) 15 ⟨[],[],[],0,[],[],false,#[],[],0,false,false,false,0,[2000,10,10],false,0,true,[],[],0,false⟩ #[] ⟨0,0,0,0⟩ 187 os).abs,Xhp,⟨0,0,0,0⟩):=by kernel_rfl
noncomputable def Xwh:Params→PySem.W.BT:=fun P=>(.node (PySem.W.boot_o_0 P) (.node (PySem.W.boot_o_1 P) (.node (ho4 P) (.node (PySem.W.boot_o_7 P) (.node ho6 (.node ho0 (.node ho1 .nil .nil) (.node ho19 .nil .nil)) (.node ho0 (.node (ho70 P) .nil .nil) (.node ho1 .nil .nil))) (.node (ho14 P) (.node ho30 (.node ho19 .nil .nil) (.node (ho94 P) .nil .nil)) (.node (ho46 P) (.node ho1 .nil .nil) .nil))) (.node ho0 (.node ho1 (.node ho0 (.node (ho58 P) .nil .nil) (.node ho1 .nil .nil)) (.node ho42 (.node ho19 .nil .nil) (.node (Xtm P) .nil .nil))) (.node ho18 (.node ho0 (.node ho1 .nil .nil) (.node ho19 .nil .nil)) (.node ho19 (.node (ho82 P) .nil .nil) .nil)))) (.node (PySem.W.boot_o_5 P) (.node (PySem.W.boot_o_9 P) (.node (ho8 P) (.node ho24 (.node ho56 .nil .nil) (.node (ho88 P) .nil .nil)) (.node ho40 (.node ho72 .nil .nil) (.node XAd .nil .nil))) (.node ho16 (.node ho7 (.node (ho64 P) .nil .nil) (.node ho96 .nil .nil)) (.node ho48 (.node ho80 .nil .nil) .nil))) (.node ho2 (.node ho12 (.node ho28 (.node ho60 .nil .nil) (.node ho92 .nil .nil)) (.node ho44 (.node (ho76 P) .nil .nil) (.node Xzz .nil .nil))) (.node ho7 (.node ho36 (.node ho68 .nil .nil) (.node (Xur P) .nil .nil)) (.node (ho52 P) (.node ho84 .nil .nil) .nil))))) (.node (PySem.W.boot_o_2 P) (.node (PySem.W.boot_o_4 P) (.node (PySem.W.boot_o_8 P) (.node ho7 (.node ho1 (.node ho55 .nil .nil) (.node ho7 .nil .nil)) (.node ho1 (.node ho71 .nil .nil) (.node XCk .nil .nil))) (.node ho15 (.node ho19 (.node ho7 .nil .nil) (.node ho95 .nil .nil)) (.node ho47 (.node ho79 .nil .nil) .nil))) (.node ho5 (.node ho11 (.node (ho27 P) (.node ho59 .nil .nil) (.node ho91 .nil .nil)) (.node ho43 (.node ho7 .nil .nil) (.node Xvl .nil .nil))) (.node ho19 (.node ho35 (.node ho67 .nil .nil) (.node ho7 .nil .nil)) (.node ho7 (.node ho83 .nil .nil) .nil)))) (.node (PySem.W.boot_o_6 P) (.node (PySem.W.boot_o_10 P) (.node ho0 (.node ho25 (.node ho0 .nil .nil) (.node ho0 .nil .nil)) (.node ho0 (.node ho73 .nil .nil) (.node ho0 .nil .nil))) (.node ho17 (.node (ho33 P) (.node ho0 .nil .nil) (.node ho97 .nil .nil)) (.node ho49 (.node ho0 .nil .nil) .nil))) (.node ho3 (.node ho0 (.node ho29 (.node ho61 .nil .nil) (.node ho0 .nil .nil)) (.node ho45 (.node ho0 .nil .nil) (.node Xzt .nil .nil))) (.node (ho21 P) (.node ho37 (.node ho0 .nil .nil) (.node ho0 .nil .nil)) (.node ho0 (.node ho85 .nil .nil) .nil))))))
theorem grp0 (w:World)(os:OsState):PySem.W.segRunT treeTable PySem.Challenge.pw_stow_k35_whole_shelves w 11 (some (.ref 6)) 1 1719 (PySem.W.SharedT.mk (XKo w.params) 15 ⟨[],[],[],0,[],[],false,#[],[],0,false,false,false,0,[2000,10,10],false,0,true,[],[],0,false⟩ #[] ⟨0,0,0,0⟩ 187 os) (PySem.W.piecesOf sts0 env0 Xhp ⟨0,0,0,0⟩ [PySem.W.topFrame ⟨0,0,0,0⟩])=some (.next,(PySem.W.SharedT.mk (Xwh w.params) 119 ⟨[],[],[],0,[],[],false,#[],[],0,false,false,false,0,[2000,10,10],false,0,true,[],[],0,false⟩ #[] ⟨0,0,0,0⟩ 328 os),Xhp,⟨18,0,19,8⟩):=by kernel_rfl
noncomputable def Xpg:Params→PySem.W.BT:=fun P=>(.node (PySem.W.boot_o_0 P) (.node (PySem.W.boot_o_1 P) (.node (XMx P) (.node (PySem.W.boot_o_7 P) (.node ho6 (.node ho0 (.node ho1 (.node ho1 (.node ho0 .nil .nil) (.node XFz .nil .nil)) (.node XKd (.node XBa .nil .nil) .nil)) (.node ho19 (.node Xxn (.node XHf .nil .nil) .nil) (.node XBq (.node ho0 .nil .nil) .nil))) (.node ho0 (.node (ho70 P) (.node ho0 (.node Xza .nil .nil) (.node ho0 .nil .nil)) (.node XKu (.node XLg .nil .nil) .nil)) (.node ho1 (.node ho0 (.node ho0 .nil .nil) .nil) (.node ho1 (.node XEs .nil .nil) .nil)))) (.node (ho14 P) (.node ho30 (.node ho19 (.node XEx (.node XGm .nil .nil) (.node XEo .nil .nil)) (.node ho0 (.node ho0 .nil .nil) .nil)) (.node (ho94 P) (.node XBu (.node XAt .nil .nil) .nil) (.node ho0 (.node XFf .nil .nil) .nil))) (.node (ho46 P) (.node ho1 (.node XFj (.node XGd .nil .nil) (.node XJx .nil .nil)) (.node XIs (.node ho0 .nil .nil) .nil)) (.node ho0 (.node ho1 (.node ho1 .nil .nil) .nil) (.node XKp (.node ho1 .nil .nil) .nil))))) (.node ho0 (.node ho1 (.node ho0 (.node (ho58 P) (.node Xzn (.node ho0 .nil .nil) (.node XCc .nil .nil)) (.node XBx (.node XJs .nil .nil) .nil)) (.node ho1 (.node XLa (.node XEg .nil .nil) .nil) (.node ho0 (.node ho0 .nil .nil) .nil))) (.node ho42 (.node ho19 (.node ho0 (.node ho1 .nil .nil) (.node XEe .nil .nil)) (.node ho7 (.node ho1 .nil .nil) .nil)) (.node (Xtm P) (.node XCz (.node XFk .nil .nil) .nil) (.node Xxc (.node XHl .nil .nil) .nil)))) (.node ho18 (.node ho0 (.node ho1 (.node Xzr (.node ho1 .nil .nil) (.node Xxp .nil .nil)) (.node ho0 (.node ho0 .nil .nil) .nil)) (.node ho19 (.node ho0 (.node ho0 .nil .nil) .nil) (.node XCy (.node ho1 .nil .nil) .nil))) (.node ho19 (.node (ho82 P) (.node ho1 (.node XEt .nil .nil) (.node ho0 .nil .nil)) (.node XIg (.node XAc .nil .nil) .nil)) (.node XGe (.node Xya (.node XCp .nil .nil) .nil) (.node XDt (.node Xyw .nil .nil) .nil)))))) (.node (PySem.W.boot_o_5 P) (.node (PySem.W.boot_o_9 P) (.node (ho8 P) (.node ho24 (.node ho56 (.node ho0 (.node XBm .nil .nil) (.node XGh .nil .nil)) (.node XGl (.node XHb .nil .nil) .nil)) (.node (ho88 P) (.node ho0 (.node ho0 .nil .nil) .nil) (.node ho1 (.node Xzy .nil .nil) .nil))) (.node ho40 (.node ho72 (.node XCj (.node XIz .nil .nil) (.node XCg .nil .nil)) (.node XAp (.node Xzj .nil .nil) .nil)) (.node XAd (.node XFe (.node XGr .nil .nil) .nil) (.node ho0 (.node (XBv P) .nil .nil) .nil)))) (.node ho16 (.node ho7 (.node (ho64 P) (.node XDw (.node Xxo .nil .nil) (.node XFt .nil .nil)) (.node Xzo (.node Xxi .nil .nil) .nil)) (.node ho96 (.node ho1 (.node ho1 .nil .nil) .nil) (.node XCv (.node XBs .nil .nil) .nil))) (.node ho48 (.node ho80 (.node Xxl (.node ho0 .nil .nil) (.node ho1 .nil .nil)) (.node ho0 (.node XKi .nil .nil) .nil)) (.node XFy (.node ho0 (.node ho0 .nil .nil) .nil) (.node XHa (.node ho0 .nil .nil) .nil))))) (.node ho2 (.node ho12 (.node ho28 (.node ho60 (.node ho0 (.node XHk .nil .nil) (.node ho0 .nil .nil)) (.node ho1 (.node ho1 .nil .nil) .nil)) (.node ho92 (.node XFs (.node XKm .nil .nil) .nil) (.node XBe (.node XHt .nil .nil) .nil))) (.node ho44 (.node (ho76 P) (.node XDv (.node ho0 .nil .nil) (.node XAi .nil .nil)) (.node ho0 (.node Xyi .nil .nil) .nil)) (.node Xzz (.node Xyl (.node XBt .nil .nil) .nil) (.node ho0 (.node XLe .nil .nil) .nil)))) (.node ho7 (.node ho36 (.node ho68 (.node ho1 (.node ho0 .nil .nil) (.node ho1 .nil .nil)) (.node XHr (.node XKb .nil .nil) .nil)) (.node (Xur P) (.node XAy (.node Xzw .nil .nil) .nil) (.node Xxv (.node Xxs .nil .nil) .nil))) (.node (ho52 P) (.node ho84 (.node ho0 (.node XLf .nil .nil) (.node Xxz .nil .nil)) (.node XJn (.node ho1 .nil .nil) .nil)) (.node XAj (.node ho0 (.node XHc .nil .nil) .nil) (.node ho1 (.node ho0 .nil .nil) .nil))))))) (.node (PySem.W.boot_o_2 P) (.node (PySem.W.boot_o_4 P) (.node (PySem.W.boot_o_8 P) (.node ho7 (.node ho1 (.node ho55 (.node XEv (.node XIk .nil .nil) (.node ho0 .nil .nil)) (.node ho0 (.node XFl .nil .nil) .nil)) (.node ho7 (.node XCe (.node Xyb .nil .nil) .nil) (.node ho0 (.node XJk .nil .nil) .nil))) (.node ho1 (.node ho71 (.node XDm (.node Xyf .nil .nil) (.node XHq .nil .nil)) (.node XAo (.node Xzh .nil .nil) .nil)) (.node XCk (.node ho1 (.node ho1 .nil .nil) .nil) (.node XGk (.node ho7 .nil .nil) .nil)))) (.node ho15 (.node ho19 (.node ho7 (.node ho0 (.node Xyh .nil .nil) (.node ho0 .nil .nil)) (.node XKk (.node XIx .nil .nil) .nil)) (.node ho95 (.node ho0 (.node ho0 .nil .nil) .nil) (.node ho1 (.node Xxk .nil .nil) .nil))) (.node ho47 (.node ho79 (.node XCm (.node XJa .nil .nil) (.node ho0 .nil .nil)) (.node XJt (.node ho1 .nil .nil) .nil)) (.node ho1 (.node XLc (.node XDg .nil .nil) .nil) (.node ho0 (.node XKf .nil .nil) .nil))))) (.node XMd (.node ho11 (.node (ho27 P) (.node ho59 (.node Xzp (.node ho1 .nil .nil) (.node Xxw .nil .nil)) (.node ho0 (.node ho0 .nil .nil) .nil)) (.node ho91 (.node ho0 (.node ho0 .nil .nil) .nil) (.node XIp (.node ho1 .nil .nil) .nil))) (.node ho43 (.node ho7 (.node ho1 (.node XFn .nil .nil) (.node (Xzu P) .nil .nil)) (.node (XBd P) (.node XKl .nil .nil) .nil)) (.node Xvl (.node XAz (.node XBw .nil .nil) .nil) (.node Xze (.node XEb .nil .nil) .nil)))) (.node ho19 (.node ho35 (.node ho67 (.node ho0 (.node XCq .nil .nil) (.node ho0 .nil .nil)) (.node ho1 (.node ho1 .nil .nil) .nil)) (.node ho7 (.node XHv (.node XDh .nil .nil) .nil) (.node Xzk (.node XEw .nil .nil) .nil))) (.node ho7 (.node ho83 (.node XKq (.node ho0 .nil .nil) (.node XDa .nil .nil)) (.node ho0 (.node ho0 .nil .nil) .nil)) (.node XAm (.node XCl (.node XBl .nil .nil) .nil) (.node ho0 (.node XBo .nil .nil) .nil)))))) (.node (PySem.W.boot_o_6 P) (.node (PySem.W.boot_o_10 P) (.node ho0 (.node ho25 (.node ho0 (.node XEk (.node Xxt .nil .nil) (.node XAa .nil .nil)) (.node XBg (.node XCs .nil .nil) .nil)) (.node ho0 (.node ho1 (.node ho1 .nil .nil) .nil) (.node XDq (.node Xxj .nil .nil) .nil))) (.node ho0 (.node ho73 (.node XAv (.node ho0 .nil .nil) (.node Xxx .nil .nil)) (.node ho0 (.node ho0 .nil .nil) .nil)) (.node ho0 (.node ho0 (.node ho0 .nil .nil) .nil) (.node XEp (.node ho0 .nil .nil) .nil)))) (.node ho17 (.node (ho33 P) (.node ho0 (.node XBc (.node ho0 .nil .nil) (.node XCn .nil .nil)) (.node XBp (.node Xzm .nil .nil) .nil)) (.node ho97 (.node XFa (.node XIw .nil .nil) .nil) (.node ho0 (.node ho0 .nil .nil) .nil))) (.node ho49 (.node ho0 (.node ho0 (.node ho1 .nil .nil) (.node XDr .nil .nil)) (.node ho1 (.node Xye .nil .nil) .nil)) (.node ho0 (.node XDs (.node XGg .nil .nil) .nil) (.node XEf (.node XHo .nil .nil) .nil))))) (.node ho3 (.node ho0 (.node ho29 (.node ho61 (.node ho1 (.node ho0 .nil .nil) (.node ho1 .nil .nil)) (.node XJf (.node XGs .nil .nil) .nil)) (.node ho0 (.node XAe (.node XAu .nil .nil) .nil) (.node Xzq (.node ho0 .nil .nil) .nil))) (.node ho45 (.node ho0 (.node ho0 (.node XJj .nil .nil) (.node XJd .nil .nil)) (.node XHy (.node Xxe .nil .nil) .nil)) (.node Xzt (.node ho0 (.node ho0 .nil .nil) .nil) (.node ho1 (.node ho0 .nil .nil) .nil)))) (.node (ho21 P) (.node ho37 (.node ho0 (.node XFd (.node XDf .nil .nil) (.node XLh .nil .nil)) (.node ho0 (.node ho0 .nil .nil) .nil)) (.node ho0 (.node XBb (.node XBr .nil .nil) .nil) (.node ho0 (.node Xyx .nil .nil) .nil))) (.node ho0 (.node ho85 (.node XJp (.node XFx .nil .nil) (.node Xyu .nil .nil)) (.node Xzb (.node XIf .nil .nil) .nil)) (.node ho0 (.node ho1 (.node (Xys P) .nil .nil) .nil) (.node XFm (.node ho1 .nil .nil) .nil))))))))
theorem grp1 (w:World)(os:OsState):PySem.W.segRunT treeTable PySem.Challenge.pw_stow_k35_whole_shelves w 11 (some (.ref 6)) 1 1726 (PySem.W.SharedT.mk (Xwh w.params) 119 ⟨[],[],[],0,[],[],false,#[],[],0,false,false,false,0,[2000,10,10],false,0,true,[],[],0,false⟩ #[] ⟨0,0,0,0⟩ 328 os) (PySem.W.piecesOf sts1 env0 Xhp ⟨18,0,19,8⟩ [PySem.W.topFrame ⟨0,0,0,0⟩])=some (.next,(PySem.W.SharedT.mk (Xpg w.params) 415 ⟨[],[],[],0,[],[],false,#[],[],0,false,false,false,0,[2000,10,10],false,0,true,[],[],0,false⟩ #[] ⟨0,0,0,0⟩ 734 os),Xhp,⟨203,0,206,12⟩):=by kernel_rfl
noncomputable def Xgt:Params→PySem.W.BT:=fun P=>(.node (PySem.W.boot_o_0 P) (.node (PySem.W.boot_o_1 P) (.node (XEn P) (.node (PySem.W.boot_o_7 P) (.node ho6 (.node ho0 (.node ho1 (.node ho1 (.node ho0 .nil .nil) (.node XFz .nil .nil)) (.node XKd (.node XBa .nil .nil) (.node ho1 .nil .nil))) (.node ho19 (.node Xxn (.node XHf .nil .nil) (.node ho0 .nil .nil)) (.node XBq (.node ho0 .nil .nil) (.node ho0 .nil .nil)))) (.node ho0 (.node (ho70 P) (.node ho0 (.node Xza .nil .nil) (.node ho0 .nil .nil)) (.node XKu (.node XLg .nil .nil) (.node XGb .nil .nil))) (.node ho1 (.node ho0 (.node ho0 .nil .nil) (.node XNs .nil .nil)) (.node ho1 (.node XEs .nil .nil) .nil)))) (.node (ho14 P) (.node ho30 (.node ho19 (.node XEx (.node XGm .nil .nil) (.node XEo .nil .nil)) (.node ho0 (.node ho0 .nil .nil) (.node XOl .nil .nil))) (.node (ho94 P) (.node XBu (.node XAt .nil .nil) (.node ho1 .nil .nil)) (.node ho0 (.node XFf .nil .nil) .nil))) (.node (ho46 P) (.node ho1 (.node XFj (.node XGd .nil .nil) (.node XJx .nil .nil)) (.node XIs (.node ho0 .nil .nil) (.node XHp .nil .nil))) (.node ho0 (.node ho1 (.node ho1 .nil .nil) (.node XKz .nil .nil)) (.node XKp (.node ho1 .nil .nil) .nil))))) (.node ho0 (.node ho1 (.node ho0 (.node (ho58 P) (.node Xzn (.node ho0 .nil .nil) (.node XCc .nil .nil)) (.node XBx (.node XJs .nil .nil) (.node XKy .nil .nil))) (.node ho1 (.node XLa (.node XEg .nil .nil) (.node XLs .nil .nil)) (.node ho0 (.node ho0 .nil .nil) (.node XLx .nil .nil)))) (.node ho42 (.node ho19 (.node ho0 (.node ho1 .nil .nil) (.node XEe .nil .nil)) (.node ho7 (.node ho1 .nil .nil) (.node XMs .nil .nil))) (.node (Xtm P) (.node XCz (.node XFk .nil .nil) (.node XGf .nil .nil)) (.node Xxc (.node XHl .nil .nil) .nil)))) (.node ho18 (.node ho0 (.node ho1 (.node Xzr (.node ho1 .nil .nil) (.node Xxp .nil .nil)) (.node ho0 (.node ho0 .nil .nil) (.node ho1 .nil .nil))) (.node ho19 (.node ho0 (.node ho0 .nil .nil) (.node XEy .nil .nil)) (.node XCy (.node ho1 .nil .nil) .nil))) (.node ho19 (.node (ho82 P) (.node ho1 (.node XEt .nil .nil) (.node ho0 .nil .nil)) (.node XIg (.node XAc .nil .nil) (.node ho0 .nil .nil))) (.node XGe (.node Xya (.node XCp .nil .nil) (.node XLl .nil .nil)) (.node XDt (.node Xyw .nil .nil) .nil)))))) (.node (PySem.W.boot_o_5 P) (.node (PySem.W.boot_o_9 P) (.node (ho8 P) (.node ho24 (.node ho56 (.node ho0 (.node XBm .nil .nil) (.node XGh .nil .nil)) (.node XGl (.node XHb .nil .nil) (.node ho0 .nil .nil))) (.node (ho88 P) (.node ho0 (.node ho0 .nil .nil) (.node XMq .nil .nil)) (.node ho1 (.node Xzy .nil .nil) (.node XNv .nil .nil)))) (.node ho40 (.node ho72 (.node XCj (.node XIz .nil .nil) (.node XCg .nil .nil)) (.node XAp (.node Xzj .nil .nil) (.node ho0 .nil .nil))) (.node XAd (.node XFe (.node XGr .nil .nil) (.node XNl .nil .nil)) (.node ho0 (.node (XBv P) .nil .nil) .nil)))) (.node ho16 (.node ho7 (.node (ho64 P) (.node XDw (.node Xxo .nil .nil) (.node XFt .nil .nil)) (.node Xzo (.node Xxi .nil .nil) (.node XKw .nil .nil))) (.node ho96 (.node ho1 (.node ho1 .nil .nil) (.node ho0 .nil .nil)) (.node XCv (.node XBs .nil .nil) .nil))) (.node ho48 (.node ho80 (.node Xxl (.node ho0 .nil .nil) (.node ho1 .nil .nil)) (.node ho0 (.node XKi .nil .nil) (.node ho1 .nil .nil))) (.node XFy (.node ho0 (.node ho0 .nil .nil) (.node ho0 .nil .nil)) (.node XHa (.node ho0 .nil .nil) .nil))))) (.node ho2 (.node ho12 (.node ho28 (.node ho60 (.node ho0 (.node XHk .nil .nil) (.node ho0 .nil .nil)) (.node ho1 (.node ho1 .nil .nil) (.node ho0 .nil .nil))) (.node ho92 (.node XFs (.node XKm .nil .nil) (.node XHj .nil .nil)) (.node XBe (.node XHt .nil .nil) (.node XDn .nil .nil)))) (.node ho44 (.node (ho76 P) (.node XDv (.node ho0 .nil .nil) (.node XAi .nil .nil)) (.node ho0 (.node Xyi .nil .nil) (.node XOr .nil .nil))) (.node Xzz (.node Xyl (.node XBt .nil .nil) (.node ho1 .nil .nil)) (.node ho0 (.node XLe .nil .nil) .nil)))) (.node ho7 (.node ho36 (.node ho68 (.node ho1 (.node ho0 .nil .nil) (.node ho1 .nil .nil)) (.node XHr (.node XKb .nil .nil) (.node ho0 .nil .nil))) (.node (Xur P) (.node XAy (.node Xzw .nil .nil) (.node ho0 .nil .nil)) (.node Xxv (.node Xxs .nil .nil) .nil))) (.node (ho52 P) (.node ho84 (.node ho0 (.node XLf .nil .nil) (.node Xxz .nil .nil)) (.node XJn (.node ho1 .nil .nil) (.node XKr .nil .nil))) (.node XAj (.node ho0 (.node XHc .nil .nil) (.node XGy .nil .nil)) (.node ho1 (.node ho0 .nil .nil) .nil))))))) (.node (PySem.W.boot_o_2 P) (.node (PySem.W.boot_o_4 P) (.node (PySem.W.boot_o_8 P) (.node ho7 (.node ho1 (.node ho55 (.node XEv (.node XIk .nil .nil) (.node ho0 .nil .nil)) (.node ho0 (.node XFl .nil .nil) (.node XLj .nil .nil))) (.node ho7 (.node XCe (.node Xyb .nil .nil) (.node ho1 .nil .nil)) (.node ho0 (.node XJk .nil .nil) (.node ho1 .nil .nil)))) (.node ho1 (.node ho71 (.node XDm (.node Xyf .nil .nil) (.node XHq .nil .nil)) (.node XAo (.node Xzh .nil .nil) (.node XIl .nil .nil))) (.node XCk (.node ho1 (.node ho1 .nil .nil) (.node ho0 .nil .nil)) (.node XGk (.node ho7 .nil .nil) .nil)))) (.node ho15 (.node ho19 (.node ho7 (.node ho0 (.node Xyh .nil .nil) (.node ho0 .nil .nil)) (.node XKk (.node XIx .nil .nil) (.node XKh .nil .nil))) (.node ho95 (.node ho0 (.node ho0 .nil .nil) (.node XOu .nil .nil)) (.node ho1 (.node Xxk .nil .nil) .nil))) (.node ho47 (.node ho79 (.node XCm (.node XJa .nil .nil) (.node ho0 .nil .nil)) (.node XJt (.node ho1 .nil .nil) (.node ho0 .nil .nil))) (.node ho1 (.node XLc (.node XDg .nil .nil) (.node XJg .nil .nil)) (.node ho0 (.node XKf .nil .nil) .nil))))) (.node XNw (.node ho11 (.node (ho27 P) (.node ho59 (.node Xzp (.node ho1 .nil .nil) (.node Xxw .nil .nil)) (.node ho0 (.node ho0 .nil .nil) (.node XJy .nil .nil))) (.node ho91 (.node ho0 (.node ho0 .nil .nil) (.node XEq .nil .nil)) (.node XIp (.node ho1 .nil .nil) (.node XGv .nil .nil)))) (.node ho43 (.node ho7 (.node ho1 (.node XFn .nil .nil) (.node (Xzu P) .nil .nil)) (.node (XBd P) (.node XKl .nil .nil) (.node ho0 .nil .nil))) (.node Xvl (.node XAz (.node XBw .nil .nil) (.node ho0 .nil .nil)) (.node Xze (.node XEb .nil .nil) .nil)))) (.node ho19 (.node ho35 (.node ho67 (.node ho0 (.node XCq .nil .nil) (.node ho0 .nil .nil)) (.node ho1 (.node ho1 .nil .nil) (.node XNj .nil .nil))) (.node ho7 (.node XHv (.node XDh .nil .nil) (.node XDd .nil .nil)) (.node Xzk (.node XEw .nil .nil) .nil))) (.node ho7 (.node ho83 (.node XKq (.node ho0 .nil .nil) (.node XDa .nil .nil)) (.node ho0 (.node ho0 .nil .nil) (.node XOp .nil .nil))) (.node XAm (.node XCl (.node XBl .nil .nil) (.node XKe .nil .nil)) (.node ho0 (.node XBo .nil .nil) .nil)))))) (.node (PySem.W.boot_o_6 P) (.node (PySem.W.boot_o_10 P) (.node ho0 (.node ho25 (.node ho0 (.node XEk (.node Xxt .nil .nil) (.node XAa .nil .nil)) (.node XBg (.node XCs .nil .nil) (.node XLp .nil .nil))) (.node ho0 (.node ho1 (.node ho1 .nil .nil) (.node ho0 .nil .nil)) (.node XDq (.node Xxj .nil .nil) (.node ho0 .nil .nil)))) (.node ho0 (.node ho73 (.node XAv (.node ho0 .nil .nil) (.node Xxx .nil .nil)) (.node ho0 (.node ho0 .nil .nil) (.node ho1 .nil .nil))) (.node ho0 (.node ho0 (.node ho0 .nil .nil) (.node XCu .nil .nil)) (.node XEp (.node ho0 .nil .nil) .nil)))) (.node ho17 (.node (ho33 P) (.node ho0 (.node XBc (.node ho0 .nil .nil) (.node XCn .nil .nil)) (.node XBp (.node Xzm .nil .nil) (.node ho0 .nil .nil))) (.node ho97 (.node XFa (.node XIw .nil .nil) (.node XMf .nil .nil)) (.node ho0 (.node ho0 .nil .nil) .nil))) (.node ho49 (.node ho0 (.node ho0 (.node ho1 .nil .nil) (.node XDr .nil .nil)) (.node ho1 (.node Xye .nil .nil) (.node XOj .nil .nil))) (.node ho0 (.node XDs (.node XGg .nil .nil) (.node ho1 .nil .nil)) (.node XEf (.node XHo .nil .nil) .nil))))) (.node ho3 (.node ho0 (.node ho29 (.node ho61 (.node ho1 (.node ho0 .nil .nil) (.node ho1 .nil .nil)) (.node XJf (.node XGs .nil .nil) (.node ho1 .nil .nil))) (.node ho0 (.node XAe (.node XAu .nil .nil) (.node ho0 .nil .nil)) (.node Xzq (.node ho0 .nil .nil) .nil))) (.node ho45 (.node ho0 (.node ho0 (.node XJj .nil .nil) (.node XJd .nil .nil)) (.node XHy (.node Xxe .nil .nil) (.node XGq .nil .nil))) (.node Xzt (.node ho0 (.node ho0 .nil .nil) (.node XLq .nil .nil)) (.node ho1 (.node ho0 .nil .nil) .nil)))) (.node (ho21 P) (.node ho37 (.node ho0 (.node XFd (.node XDf .nil .nil) (.node XLh .nil .nil)) (.node ho0 (.node ho0 .nil .nil) (.node XLr .nil .nil))) (.node ho0 (.node XBb (.node XBr .nil .nil) (.node ho1 .nil .nil)) (.node ho0 (.node Xyx .nil .nil) .nil))) (.node ho0 (.node ho85 (.node XJp (.node XFx .nil .nil) (.node Xyu .nil .nil)) (.node Xzb (.node XIf .nil .nil) (.node XJv .nil .nil))) (.node ho0 (.node ho1 (.node (Xys P) .nil .nil) (.node ho0 .nil .nil)) (.node XFm (.node ho1 .nil .nil) .nil))))))))
theorem grp2 (w:World)(os:OsState):PySem.W.segRunT treeTable PySem.Challenge.pw_stow_k35_whole_shelves w 11 (some (.ref 6)) 1 351 (PySem.W.SharedT.mk (Xpg w.params) 415 ⟨[],[],[],0,[],[],false,#[],[],0,false,false,false,0,[2000,10,10],false,0,true,[],[],0,false⟩ #[] ⟨0,0,0,0⟩ 734 os) (PySem.W.piecesOf sts2 env0 Xhp ⟨203,0,206,12⟩ [PySem.W.topFrame ⟨0,0,0,0⟩])=some (.next,(PySem.W.SharedT.mk (Xgt w.params) 486 ⟨[],[],[],0,[],[],false,#[],[],0,false,false,false,0,[2000,10,10],false,0,true,[],[],0,false⟩ #[] ⟨0,0,0,0⟩ 848 os),Xhp,⟨333,0,348,15⟩):=by kernel_rfl
theorem fin0 (w:World)(os:OsState):PySem.W.topRun treeTable PySem.Challenge.pw_stow_k35_whole_shelves w 11 (some (.ref 6)) 2 ⟨PySem.W.absHeap (Xgt w.params) 486 ⟨[],[],[],0,[],[],false,#[],[],0,false,false,false,0,[2000,10,10],false,0,true,[],[],0,false⟩,#[],⟨0,0,0,0⟩,848,os⟩ (PySem.W.restOf [] env0 Xhp ⟨333,0,348,15⟩ [PySem.W.topFrame ⟨0,0,0,0⟩])=some ⟨PySem.W.absHeap (Xgt w.params) 486 ⟨[],[],[],0,[],[],false,#[],[],0,false,false,false,0,[2000,10,10],false,0,true,[],[],0,false⟩,#[],⟨0,0,0,0⟩,848,os⟩:=by kernel_rfl
theorem run0 (w:World)(os:OsState):PySem.W.topRun treeTable PySem.Challenge.pw_stow_k35_whole_shelves w 11 (some (.ref 6)) (12+(1+(1719+(1726+(351+2))))) ⟨PySem.W.boot_heap w.params,Array.mk [],PySem.W.boot_drawn,PySem.W.boot_toks,os⟩ (PySem.W.topStub PySem.Challenge.pw_stow_k35_whole_shelves)=some ⟨PySem.W.absHeap (Xgt w.params) 486 ⟨[],[],[],0,[],[],false,#[],[],0,false,false,false,0,[2000,10,10],false,0,true,[],[],0,false⟩,#[],⟨0,0,0,0⟩,848,os⟩:=PySem.W.go_top (pre0 w os) (PySem.W.piece_block (blk0 w os) (PySem.W.piece_app (PySem.W.segRun_of (grp0 w os)) (PySem.W.piece_app (PySem.W.segRun_of (grp1 w os)) (PySem.W.piece_app (PySem.W.segRun_of (grp2 w os)) (fin0 w os)))))
theorem XMp (w:World):(PySem.W.fencedOpening treeTable PySem.Challenge.pw_stow_k35_whole_shelves w 4511).map (fun s=>(s.heap,s.gens,s.drawn,s.toks))=some (PySem.W.boot_heap w.params,Array.mk [],PySem.W.boot_drawn,PySem.W.boot_toks):=PySem.W.boot_open (by kernel_rfl) rfl (fun s=>by kernel_rfl) w
noncomputable def heap0:Params→PySem.W.Frag:=fun P =>
 (nat_lit 2,PySem.W.boot_o_2 P) ::
 (nat_lit 3,XEn P) ::
 (nat_lit 17,ho8 P) ::
 (nat_lit 23,ho14 P) ::
 (nat_lit 24,ho15) ::
 (nat_lit 30,ho21 P) ::
 (nat_lit 36,ho27 P) ::
 (nat_lit 37,ho28) ::
 (nat_lit 42,ho33 P) ::
 (nat_lit 52,ho43) ::
 (nat_lit 53,ho44) ::
 (nat_lit 55,ho46 P) ::
 (nat_lit 56,ho47) ::
 (nat_lit 61,ho52 P) ::
 (nat_lit 67,ho58 P) ::
 (nat_lit 68,ho59) ::
 (nat_lit 73,ho64 P) ::
 (nat_lit 79,ho70 P) ::
 (nat_lit 80,ho71) ::
 (nat_lit 85,ho76 P) ::
 (nat_lit 91,ho82 P) ::
 (nat_lit 92,ho83) ::
 (nat_lit 97,ho88 P) ::
 (nat_lit 103,ho94 P) ::
 (nat_lit 104,ho95) ::
 (nat_lit 109,Xur P) ::
 (nat_lit 115,Xtm P) ::
 (nat_lit 116,Xvl) ::
 (nat_lit 124,XAm) ::
 (nat_lit 125,XAj) ::
 (nat_lit 131,Xzn) ::
 (nat_lit 132,Xzp) ::
 (nat_lit 138,XBc) ::
 (nat_lit 139,Xzr) ::
 (nat_lit 145,XCj) ::
 (nat_lit 146,XAv) ::
 (nat_lit 152,XCm) ::
 (nat_lit 153,Xxl) ::
 (nat_lit 159,Xxn) ::
 (nat_lit 160,XCe) ::
 (nat_lit 166,XAe) ::
 (nat_lit 167,XBu) ::
 (nat_lit 173,XAy) ::
 (nat_lit 174,XBb) ::
 (nat_lit 180,XAz) ::
 (nat_lit 181,Xyl) ::
 (nat_lit 187,Xya) ::
 (nat_lit 188,XCl) ::
 (nat_lit 194,XBg) ::
 (nat_lit 195,XBx) ::
 (nat_lit 201,Xzo) ::
 (nat_lit 202,XBp) ::
 (nat_lit 208,XAo) ::
 (nat_lit 209,XAp) ::
 (nat_lit 212,XBd P) ::
 (nat_lit 222,Xzb) ::
 (nat_lit 223,XBq) ::
 (nat_lit 229,XBe) ::
 (nat_lit 230,Xzq) ::
 (nat_lit 236,Xzk) ::
 (nat_lit 237,Xxv) ::
 (nat_lit 243,Xxc) ::
 (nat_lit 244,Xze) ::
 (nat_lit 257,XBm) ::
 (nat_lit 258,Xxt) ::
 (nat_lit 264,Xyh) ::
 (nat_lit 265,Xxo) ::
 (nat_lit 271,Xza) ::
 (nat_lit 272,Xyf) ::
 (nat_lit 288,Xyb) ::
 (nat_lit 294,XAu) ::
 (nat_lit 295,XAt) ::
 (nat_lit 301,Xzw) ::
 (nat_lit 302,XBr) ::
 (nat_lit 308,XBw) ::
 (nat_lit 309,XBt) ::
 (nat_lit 315,XCp) ::
 (nat_lit 316,XBl) ::
 (nat_lit 318,Xys P) ::
 (nat_lit 319,XBa) ::
 (nat_lit 329,Xxi) ::
 (nat_lit 330,Xzm) ::
 (nat_lit 336,Xzh) ::
 (nat_lit 337,Xzj) ::
 (nat_lit 341,Xyi) ::
 (nat_lit 342,Xxe) ::
 (nat_lit 346,Xye) ::
 (nat_lit 347,XAc) ::
 (nat_lit 353,Xzy) ::
 (nat_lit 354,Xxj) ::
 (nat_lit 360,Xxk) ::
 (nat_lit 361,XBs) ::
 (nat_lit 365,Xxs) ::
 (nat_lit 366,Xyx) ::
 (nat_lit 369,XBv P) ::
 (nat_lit 379,Xyw) ::
 (nat_lit 380,XBo) ::
 (nat_lit 386,XAa) ::
 (nat_lit 387,XCc) ::
 (nat_lit 388,Xxw) ::
 (nat_lit 394,XCn) ::
 (nat_lit 395,Xxp) ::
 (nat_lit 401,XCg) ::
 (nat_lit 402,Xxx) ::
 (nat_lit 404,Xzu P) ::
 (nat_lit 405,XAi) ::
 (nat_lit 413,Xxz) ::
 (nat_lit 414,Xyu) ::
 (nat_lit 420,XEq) ::
 (nat_lit 421,XHj) ::
 (nat_lit 427,XEy) ::
 (nat_lit 428,XDd) ::
 (nat_lit 434,XCu) ::
 (nat_lit 435,XGf) ::
 (nat_lit 439,XKz) ::
 (nat_lit 440,XJg) ::
 (nat_lit 444,XKe) ::
 (nat_lit 445,XGy) ::
 (nat_lit 451,XKy) ::
 (nat_lit 452,XJy) ::
 (nat_lit 456,XKh) ::
 (nat_lit 457,XKw) ::
 (nat_lit 463,XGb) ::
 (nat_lit 464,XIl) ::
 (nat_lit 470,XGq) ::
 (nat_lit 471,XHp) ::
 (nat_lit 477,XKr) ::
 (nat_lit 478,XJv) ::
 (nat_lit 484,XGv) ::
 (nat_lit 485,XDn) ::
 []
def at0:List Addr:=2::3::17::23::24::30::36::37::42::52::53::55::56::61::67::68::73::79::80::85::91::92::97::103::104::109::115::116::124::125::131::132::138::139::145::146::152::153::159::160::166::167::173::174::180::181::187::188::194::195::201::202::208::209::212::222::223::229::230::236::237::243::244::257::258::264::265::271::272::288::294::295::301::302::308::309::315::316::318::319::329::330::336::337::341::342::346::347::353::354::360::361::365::366::369::379::380::386::387::388::394::395::401::402::404::405::413::414::420::421::427::428::434::435::439::440::444::445::451::452::456::457::463::464::470::471::477::478::484::485::[]
def XDz:List Str:="StowError"::"NoSize"::"Broken"::"NoPiece"::"NoCell"::"NoAsk"::"NoBound"::"NoRoom"::"MARKS"::"check_ask"::"check_plain_ask"::"mark_of"::"long_of"::"live_of"::"LEAST_LIVE"::"can_begin"::"bad_of_piece"::"looked"::"fresh_room"::"laid"::"piece_at"::"live_at"::"carried"::"Keeper"::"all_whole"::"begin_of"::"whole_ones"::"free_slots"::"cut_for"::"with_slot"::"has_live"::"Shelves"::"_law_cell_at"::"_law_whole"::"_law_walk"::"_law_number"::"_law_shelf_good"::"_law_good"::"_law_told"::"_law_can"::"_law_asked"::"_law_grown"::"_law_step"::[]
theorem at0_eq (P:Params):at0=(heap0 P).map (·.1):=by kernel_rfl
abbrev XOy (s:Shared):Bool:=PySem.W.recOk (PySem.W.RowW.records (PySem.W.OpenRow.toRowW (PySem.Challenge.rw_stow_k35_whole_shelves).row)) s
theorem left0:PySem.W.LeftO PySem.Challenge.pw_stow_k35_whole_shelves (PySem.W.view PySem.Challenge.pw_stow_k35_whole_shelves [51]) XDz XOy (fun s=>at0.map s.heap.get?) (fun w=>(heap0 w.params).map fun p=>some p.2) 4511 :=
 PySem.W.LeftO.of_pieces (H₁:=fun P=>PySem.W.absHeap (Xgt P) 486 ⟨[],[],[],0,[],[],false,#[],[],0,false,false,false,0,[2000,10,10],false,0,true,[],[],0,false⟩) (gs₁:=#[]) (d₁:=⟨0,0,0,0⟩) (k₁:=848) (m₀:=11) (ann:=(some (.ref 6))) XMp (fun w=>by kernel_rfl) run0 rfl (fun w=>funext fun os=>by kernel_rfl)
end Stow
set_option Elab.async false
set_option linter.all false
set_option maxRecDepth 100000
namespace L2
open PySem PySem.Spec PyProof.Rows
abbrev Key:=Sum Int Str
def Xlc:Key→Value→Bool
 | .inl k,v=>Value.isInt k v
 | .inr x,v=>Value.isStrOf x v
def keyH (w:World):Key→Int
 | .inl k=>hashInt k
 | .inr x=>hashStr w x
theorem Xbl:∀{k:Key} {v:Value},Xlc k v=true→(∃i t,k=Sum.inl i∧v=Value.int i t)∨(∃x t,k=Sum.inr x∧v=Value.str x t)
 | .inl i,v,h=>by
   obtain⟨t,e⟩:=Value.isInt_shape (k:=i) (v:=v) h
   exact .inl ⟨i,t,rfl,e⟩
 | .inr x,v,h=>by
   obtain⟨t,e⟩:=Value.isStrOf_shape (x:=x) (v:=v) h
   exact .inr ⟨x,t,rfl,e⟩
theorem Xom (i:Int)(t:Tok):Xlc (.inl i) (.int i t)=true:=by simp [Xlc,Value.isInt]
theorem Xqt (x:Str)(t:Tok):Xlc (.inr x) (.str x t)=true:=by simp [Xlc,Value.isStrOf]
theorem XJz (a b:Int):decide ((Sum.inl a:Key)=Sum.inl b)=(a==b):=by
 by_cases e:a=b
 · subst e;simp
 · have h:¬(Sum.inl a:Key)=Sum.inl b:=fun q=>e (Sum.inl.inj q)
   rw[decide_eq_false h]
   exact(beq_eq_false_iff_ne.mpr e).symm
theorem XId (a b:Str):decide ((Sum.inr a:Key)=Sum.inr b)=decide (a=b):=by
 by_cases e:a=b
 · subst e;simp
 · have h:¬(Sum.inr a:Key)=Sum.inr b:=fun q=>e (Sum.inr.inj q)
   rw[decide_eq_false h,decide_eq_false e]
theorem XJb (a:Int)(b:Str):decide ((Sum.inl a:Key)=Sum.inr b)=false:=decide_eq_false (fun q=>nomatch q)
theorem XLi (a:Str)(b:Int):decide ((Sum.inr a:Key)=Sum.inl b)=false:=decide_eq_false (fun q=>nomatch q)
def Xas (prog:Program)(w:World):PySem.KeyKind prog w Key where
 is:=Xlc
 hash:=keyH w
 inj:=fun v a b ha hb=>by
   rcases Xbl ha with ⟨i,t,rfl,rfl⟩ | ⟨x,t,rfl,rfl⟩
   · rcases Xbl hb with ⟨j,u,rfl,e⟩ | ⟨y,u,rfl,e⟩
     · injection e with e1 _;rw[e1]
     · exact nomatch e
   · rcases Xbl hb with ⟨j,u,rfl,e⟩ | ⟨y,u,rfl,e⟩
     · exact nomatch e
     · injection e with e1 _;rw[e1]
 byValue:=fun k v h=>by
   rcases Xbl h with ⟨i,t,rfl,rfl⟩ | ⟨x,t,rfl,rfl⟩ <;> rfl
 pyHash:=fun hv h=>by
   rcases Xbl hv with ⟨i,t,rfl,rfl⟩ | ⟨x,t,rfl,rfl⟩
   · exact wpAny_pyHash_int h
   · exact wpAny_pyHash_str h
 eqBool:=fun hu hv h=>by
   rcases Xbl hu with ⟨i,t,rfl,rfl⟩ | ⟨x,t,rfl,rfl⟩
   · rcases Xbl hv with ⟨j,u,rfl,rfl⟩ | ⟨y,u,rfl,rfl⟩
     · rw[XJz] at h;exact wpAny_eqBool_int h
     · rw[XJb] at h;exact SeqAt.EqAt.int_str i t y u _ _ _ _ h
   · rcases Xbl hv with ⟨j,u,rfl,rfl⟩ | ⟨y,u,rfl,rfl⟩
     · rw[XLi] at h;exact SeqAt.EqAt.str_int x t j u _ _ _ _ h
     · rw[XId] at h;exact wpAny_eqBool_str h
 «strs»:=fun k x t v h=>by
   rcases Xbl h with ⟨i,u,rfl,e⟩ | ⟨y,u,rfl,e⟩
   · exact nomatch e
   · injection e with e1 _
     subst e1
     cases v <;> rfl
theorem Xle (prog:Program)(w:World)(i:Int)(t:Tok):(Xas prog w).is (.inl i) (.int i t)=true:=Xom i t
theorem Xlg (prog:Program)(w:World)(x:Str)(t:Tok):(Xas prog w).is (.inr x) (.str x t)=true:=Xqt x t
end L2
namespace L2
open PySem PySem.Spec PyProof.Rows
inductive V where
 | non | bl (b:Bool) | int (i:Int) | str (x:Str) | byt (b:Array UInt8) | flt (b:UInt64) | ref (a:Addr) | ty (n:String)
 deriving DecidableEq
def RelV:V→Value→Prop
 | .non,u=>u=Value.none
 | .bl b,u=>u=Value.bool b
 | .int i,u=>∃t,u=Value.int i t
 | .str x,u=>∃t,u=Value.str x t
 | .byt b,u=>∃t,u=Value.bytes b t
 | .flt b,u=>∃t,u=Value.float b t
 | .ref a,u=>u=Value.ref a
 | .ty n,u=>u=Value.type n
abbrev Vals:List V→List Value→Prop:=Paired RelV
theorem Vals.length {xs:List V}{us:List Value}(r:Vals xs us):xs.length=us.length:=Paired.length r
theorem Vals.get:∀{xs:List V} {us:List Value} {i:Nat} {x:V},Vals xs us→xs[i]?=some x→∃u,us[i]?=some u∧RelV x u
 | _,_,_,_,.nil,e=>by simp at e
 | _,_,0,_,.cons r _,e=>by simp at e;subst e;exact⟨_,rfl,r⟩
 | _,_,i+1,x,.cons _ t,e=>by
   obtain⟨u,h1,h2⟩:=Vals.get (i:=i) (x:=x) t (by simpa using e)
   exact⟨u,by simpa using h1,h2⟩
theorem Vals.set {x:V}{u:Value}(r:RelV x u):∀{xs:List V} {us:List Value} (i:Nat),Vals xs us→Vals (xs.set i x) (us.set i u)
 | _,_,_,.nil=>.nil
 | _,_,0,.cons _ t=>.cons r t
 | _,_,i+1,.cons q t=>.cons q (Vals.set r i t)
theorem Vals.append:∀{xs ys:List V} {us ws:List Value},Vals xs us→Vals ys ws→Vals (xs++ys) (us++ws)
 | _,_,_,_,.nil,s=>s
 | _,_,_,_,.cons r t,s=>.cons r (Vals.append t s)
theorem Vals.take:∀{xs:List V} {us:List Value} (n:Nat),Vals xs us→Vals (xs.take n) (us.take n)
 | _,_,0,_=>.nil
 | _,_,_+1,.nil=>.nil
 | _,_,n+1,.cons r t=>.cons r (Vals.take n t)
theorem Vals.drop:∀{xs:List V} {us:List Value} (n:Nat),Vals xs us→Vals (xs.drop n) (us.drop n)
 | _,_,0,r=>r
 | _,_,_+1,.nil=>.nil
 | _,_,n+1,.cons _ t=>Vals.drop n t
theorem Vals.none_of:∀{xs:List V} {us:List Value} {i:Nat},Vals xs us→xs[i]?=none→us[i]?=none:=fun {xs us i} r e=>by
 have h1:=r.length
 have h2:xs.length≤i:=List.getElem?_eq_none_iff.mp e
 exact List.getElem?_eq_none_iff.mpr (by omega)
def RelO:Option V→Option Value→Prop
 | some v,some u=>RelV v u
 | none,none=>True
 | _,_=>False
def KV {κ:Type}:List (κ×V)→List (κ×Value)→Prop:=Paired fun (p:κ×V) (q:κ×Value)=>p.1=q.1∧RelV p.2 q.2
def kV:Key→V
 | .inl i=>.int i
 | .inr x=>.str x
inductive HO where
 /-- a list -/
 | lst (xs:List V)
 /-- a tuple (never changes) -/
 | tup (xs:List V)
 /-- a dict whose keys are ints and texts;one whose keys are tuples of ints and texts (the empty one is both) -/
 | dK (kvs:List (Key×V)) | dT (kvs:List (List Key×V))
 /-- a set of ints: its members,its size -/
 | set (S:Int→Bool) (n:Nat)
 /-- an instance of the class at C,its dict at dx,its attributes -/
 | ins (C dx:Addr) (fs:List (Str×V))
 /-- the dict of the instance at x -/
 | own (x:Addr)
 /-- the dict of an exception -/
 | xd (fs:List (Str×V))
 /-- a bound method,f of x -/
 | met (f x:Addr)
 /-- a range object lo,lo+1,.. below hi -/
 | rng (lo hi:Int)
 /-- a thing that is known to the object (the script;a dict while a loop walks it): read,never written while it is so -/
 | frz (o:Obj) (u:HO)
 /-- a code object's table -/
 | tbl (ps:Array Value)
 /-- any other thing,by what is true of its one object (a def of one's own: SetO a S n:=HO.ext fun h=>..) -/
 | ext (φ:Heap→Prop)
abbrev Hp:=Addr→Option HO
def upd (H:Hp)(a:Addr)(o:HO):Hp:=fun b=>if b=a then some o else H b
theorem upd_same {H:Hp}{a:Addr}{o:HO}:upd H a o a=some o:=by unfold upd;rw[if_pos rfl]
theorem Xah {H:Hp}{a b:Addr}{o:HO}(h:b≠a):upd H a o b=H b:=by unfold upd;rw[if_neg h]
theorem XOc {H:Hp}{a b:Addr}{o u:HO}(h:H a=some o)(h':H b=some u)(d:o≠u):a≠b:=by
 intro e;subst e;rw[h] at h';exact d (Option.some.inj h')
theorem Xap {H:Hp}{a b:Addr}{o:HO}(h:H a=some o)(h':H b=none):a≠b:=by
 intro e;subst e;rw[h] at h';cases h'
section
variable (P:Program)(w:World)
def Xbq (H:Hp)(h:Heap)(a:Addr):HO→Prop
 | .lst xs=>xs.length≤sizeLine∧∃(its:List Value) (n:Nat),Vals xs its∧h.get? a=some { cls:=.type "list",data:=.seq its.toArray n }
 | .tup xs=>xs.length≤sizeLine∧∃its:List Value,Vals xs its∧IsTup h a its.toArray
 | .dK kvs=>kvs.length≤sizeLine∧(a==sysModules)=false∧∃vs,KV kvs vs∧h.DictOf (Xas P w) a vs
 | .dT kvs=>kvs.length≤sizeLine∧(a==sysModules)=false∧∃xs:List (List Key×Addr×Value),
     Paired (fun (p:List Key×V) (q:List Key×Addr×Value)=>p.1=q.1∧H q.2.1=some (.tup (p.1.map kV))∧RelV p.2 q.2.2) kvs xs ∧
     ∃o es ep,h.get? a=some o∧o.ExactDict∧o.data = .dict es ep∧es.toList=xs.map (entryOfKey (tupleKind (Xas P w)))∧(xs.map (·.1)).Nodup
 | .set S n=>h.SetOf (intKind P w) a S n
 | .ins C dx fs=>H dx=some (.own a)∧fs.length≤1000∧dx≠a∧h.get? a=some (PySem.W.instObj C dx) ∧
     ∃mA,h.Ns1 dx mA∧(∀f,RelO (fs.lookup f) (mA f))∧PySem.Within mA (fs.map (·.1))
 | .own _=>∃o,h.get? a=some o
 | .xd fs=>∃mA,h.Ns1 a mA∧∀f,RelO (fs.lookup f) (mA f)
 | .rng lo hi=>∃t u v,h.get? a=some { cls:=.type "range",data:=.fields #[.int lo t,.int hi u,.int 1 v] }
 | .frz o u=>h.get? a=some o∧Xbq H h a u
 | .tbl ps=>h.get? a=some { cls:=.none,data:=.fields ps }
 | .met f x=>h.get? a=some (PySem.W.methodObj (.ref f) (.ref x))
 | .ext φ=>φ h∧(∃o,h.get? a=some o)∧∀h1 h2:Heap,φ h1→(∀o,h1.get? a=some o→h2.get? a=some o)→φ h2
def HOk (H:Hp)(h:Heap):Prop:=∀a o,H a=some o→Xbq P w H h a o
end
section
variable {P:Program}{w:World}{H H':Hp}{h h':Heap}{a:Addr}{o:HO}
theorem Xbq.lt (x:Xbq P w H h a o):a<h.objs.size:=by
 cases o with
 | lst xs=>obtain⟨_,_,_,_,e⟩:=x;exact Heap.lt_size e
 | tup xs=>obtain⟨_,_,_,p⟩:=x;exact p.lt
 | dK kvs=>obtain⟨_,_,_,_,o,_,_,e,_⟩:=x;exact Heap.lt_size e
 | dT kvs=>obtain⟨_,_,_,_,o,_,_,e,_⟩:=x;exact Heap.lt_size e
 | set S n=>obtain⟨o,_,_,_,e,_⟩:=x;exact Heap.lt_size e
 | ins C dx fs=>obtain⟨_,_,_,e,_⟩:=x;exact Heap.lt_size e
 | own y=>obtain⟨_,e⟩:=x;exact Heap.lt_size e
 | xd fs=>obtain⟨_,⟨_,_,_,e,_⟩,_⟩:=x;exact Heap.lt_size e
 | rng lo hi=>obtain⟨_,_,_,e⟩:=x;exact Heap.lt_size e
 | frz ob u=>obtain⟨e,_⟩:=x;exact Heap.lt_size e
 | tbl ps=>exact Heap.lt_size (show h.get? a=some _ from x)
 | met f y=>exact Heap.lt_size (show h.get? a=some _ from x)
 | ext φ=>obtain⟨_,⟨_,e⟩,_⟩:=x;exact Heap.lt_size e
theorem Paired.mapP {α β:Type}{F G:α→β→Prop}:∀{l₁:List α} {l₂:List β},Paired F l₁ l₂→(∀a b,F a b→G a b)→Paired G l₁ l₂
 | _,_,.nil,_=>.nil
 | _,_,.cons r t,f=>.cons (f _ _ r) (Paired.mapP t f)
theorem Xbq.stay (x:Xbq P w H h a o)(k:∀b u,(b=a∨H b=some (.own a))→h.get? b=some u→h'.get? b=some u)
   (ho:∀b,H b=some (.own a)→H' b=some (.own a)) (ht:∀b xs,H b=some (.tup xs)→H' b=some (.tup xs)):Xbq P w H' h' a o:=by
 induction o with
 | lst xs=>obtain⟨z,its,n,r,e⟩:=x;exact⟨z,its,n,r,k _ _ (.inl rfl) e⟩
 | tup xs=>obtain⟨z,its,r,ob,e,c⟩:=x;exact⟨z,its,r,ob,k _ _ (.inl rfl) e,c⟩
 | dK kvs=>obtain⟨z,y,vs,r,ob,es,ep,e,c⟩:=x;exact⟨z,y,vs,r,ob,es,ep,k _ _ (.inl rfl) e,c⟩
 | dT kvs =>
   obtain⟨z,y,xs,r,ob,es,ep,e,c⟩:=x
   exact⟨z,y,xs,Paired.mapP r fun p q z=>⟨z.1,ht _ _ z.2.1,z.2.2⟩,ob,es,ep,k _ _ (.inl rfl) e,c⟩
 | set S n=>obtain⟨ob,es,ep,t,e,c⟩:=x;exact⟨ob,es,ep,t,k _ _ (.inl rfl) e,c⟩
 | ins C dx fs =>
   obtain⟨d,z,ne,e,mA,⟨od,es,ep,e2,c⟩,r⟩:=x
   exact⟨ho _ d,z,ne,k _ _ (.inl rfl) e,mA,⟨od,es,ep,k _ _ (.inr d) e2,c⟩,r⟩
 | own y=>obtain⟨ob,e⟩:=x;exact⟨ob,k _ _ (.inl rfl) e⟩
 | xd fs=>obtain⟨mA,⟨od,es,ep,e,c⟩,r⟩:=x;exact⟨mA,⟨od,es,ep,k _ _ (.inl rfl) e,c⟩,r⟩
 | rng lo hi=>obtain⟨t,u,v,e⟩:=x;exact⟨t,u,v,k _ _ (.inl rfl) e⟩
 | frz ob u ih=>obtain⟨e,q⟩:=x;exact⟨k _ _ (.inl rfl) e,ih q⟩
 | tbl ps =>
   have e:h.get? a=some { cls:=.none,data:=.fields ps }:=x
   show h'.get? a=some { cls:=.none,data:=.fields ps }
   exact k a _ (.inl rfl) e
 | met f y =>
   have e:h.get? a=some (PySem.W.methodObj (.ref f) (.ref y)):=x
   show h'.get? a=some (PySem.W.methodObj (.ref f) (.ref y))
   exact k a _ (.inl rfl) e
 | ext φ=>obtain⟨p,⟨o,e⟩,st⟩:=x;exact⟨st _ _ p fun o q=>k _ _ (.inl rfl) q,⟨o,k _ _ (.inl rfl) e⟩,st⟩
theorem HOk.lt (x:HOk P w H h)(e:H a=some o):a<h.objs.size:=(x a o e).lt
theorem HOk.fresh (x:HOk P w H h)(e:h.objs.size≤a):H a=none:=by
 cases q:H a with
 | none=>rfl
 | some u=>exact absurd (Nat.lt_of_lt_of_le (x.lt q) e) (Nat.lt_irrefl _)
theorem HOk.kept (x:HOk P w H h)(k:∀b u,h.get? b=some u→h'.get? b=some u):HOk P w H h':=fun a o e =>
 (x a o e).stay (fun b u _ q=>k b u q) (fun _ q=>q) fun _ _ q=>q
theorem HOk.laid (x:HOk P w H h)(k:∀b u,h.get? b=some u→h'.get? b=some u)(hp:h.objs.size≤a)(new:Xbq P w (upd H a o) h' a o):HOk P w (upd H a o) h':=fun b u e=>by
 have hn:=x.fresh hp
 by_cases hb:b=a
 · subst hb;rw[upd_same] at e;cases e;exact new
 · rw[Xah hb] at e
   exact(x b u e).stay (fun c v _ q=>k c v q) (fun c q=>by rw[Xah (Xap q hn)];exact q) fun c xs q=>by rw[Xah (Xap q hn)];exact q
end
def Rd (H:Hp)(a:Addr)(u:HO):Prop:=H a=some u∨∃o,H a=some (.frz o u)
theorem Rd.of {H:Hp}{a:Addr}{u:HO}(h:H a=some u):Rd H a u:=.inl h
theorem Rd.ok {P:Program}{w:World}{H:Hp}{h:Heap}{a:Addr}{u:HO}(r:Rd H a u)(x:HOk P w H h):Xbq P w H h a u:=by
 rcases r with r | ⟨o,r⟩
 · exact x a u r
 · obtain⟨_,q⟩:=x a _ r
   exact q
def Mut:Option HO→Prop
 | some (.lst _)=>True
 | some (.dK _)=>True
 | some (.dT _)=>True
 | some (.set _ _)=>True
 | some (.ins _ _ _)=>True
 | some (.ext _)=>True
 | _=>False
section
variable {P:Program}{w:World}{H:Hp}{h h':Heap}{x e:Addr}{o':HO}
theorem HOk.write (ok:HOk P w H h)(mu:Mut (H x))(he:e=x∨H e=some (.own x))(k:∀b u,b≠e→h.get? b=some u→h'.get? b=some u)(heo:∃u,h'.get? e=some u)
   (new:Xbq P w (upd H x o') h' x o'):HOk P w (upd H x o') h':=fun b u q=>by
 have nown:∀c y,H c=some (.own y)→c≠x:=fun c y r z=>by subst z;rw[r] at mu;exact mu
 have ntup:∀c xs,H c=some (.tup xs)→c≠x:=fun c xs r z=>by subst z;rw[r] at mu;exact mu
 by_cases hb:b=x
 · subst hb;rw[upd_same] at q;cases q;exact new
 · rw[Xah hb] at q
   by_cases hbe:b=e
   · have q':H b=some (.own x):=by
       rcases he with z | z
       · exact absurd (hbe.trans z) hb
       · rw[hbe];exact z
     rw[q] at q';cases q'
     obtain⟨v,hv⟩:=heo
     exact⟨v,by rw[hbe];exact hv⟩
   · refine(ok b u q).stay (fun c v hc r=>k c v ?_ r) (fun c r=>by rw[Xah (nown c b r)];exact r) fun c xs r=>by rw[Xah (ntup c xs r)];exact r
     rcases hc with rfl | hc
     · exact hbe
     · rintro rfl
       rcases he with z | z
       · exact nown c b hc z
       · rw[hc] at z;cases z;exact hb rfl
end
structure Un (fs ex:List Addr)(H H':Hp)(h h':Heap):Prop where
 keep:∀b o,h.get? b=some o→H b=none→b ∉ fs→b ∉ ex→h'.get? b=some o
 slot:∀b o,h.get? b=some o→H b=none→b∈fs→b ∉ ex→∃sl,h'.get? b=some { o with slots:=sl }
 free:∀b o,h.get? b=some o→H b=none→b ∉ ex→H' b=none
 there:∀b o,h.get? b=some o→b ∉ ex→∃o',h'.get? b=some o'
 tups:∀b xs,H b=some (.tup xs)→H' b=some (.tup xs)
 frzs:∀b o u,H b=some (.frz o u)→H' b=some (.frz o u)
 tbls:∀b ps,H b=some (.tbl ps)→∃more,H' b=some (.tbl (ps++more))
section
variable {fs fs' ex ex':List Addr}{H H1 H2:Hp}{h h1 h2 h':Heap}{a x e:Addr}{o:HO}
theorem Un.any (u:Un fs ex H H1 h h1){b:Addr}{ob:Obj}(q:h.get? b=some ob)(n:H b=none)(hx:b ∉ ex):∃sl,h1.get? b=some { ob with slots:=sl }:=by
 by_cases hb:b∈fs
 · exact u.slot b ob q n hb hx
 · exact⟨ob.slots,u.keep b ob q n hb hx⟩
theorem Un.trans (a:Un fs ex H H1 h h1)(b:Un fs ex H1 H2 h1 h2):Un fs ex H H2 h h2 where
 keep:=fun c ob q n hc hx=>b.keep c ob (a.keep c ob q n hc hx) (a.free c ob q n hx) hc hx
 slot:=fun c ob q n hc hx=>by
   obtain⟨sl,e1⟩:=a.slot c ob q n hc hx
   obtain⟨sl',e2⟩:=b.slot c _ e1 (a.free c ob q n hx) hc hx
   exact⟨sl',e2⟩
 free:=fun c ob q n hx=>by
   obtain⟨o',e1⟩:=a.there c ob q hx
   exact b.free c o' e1 (a.free c ob q n hx) hx
 there:=fun c ob q hx=>by
   obtain⟨o',e1⟩:=a.there c ob q hx
   exact b.there c o' e1 hx
 tups:=fun c xs q=>b.tups c xs (a.tups c xs q)
 frzs:=fun c ob xs q=>b.frzs c ob xs (a.frzs c ob xs q)
 tbls:=fun c ps q=>by
   obtain⟨m1,e1⟩:=a.tbls c ps q
   obtain⟨m2,e2⟩:=b.tbls c _ e1
   exact⟨m1++m2,by rw[e2,Array.append_assoc]⟩
theorem Un.kept (k:∀b u,h.get? b=some u→h'.get? b=some u):Un fs ex H H h h' :=
 ⟨fun b ob q _ _ _=>k b ob q,fun b ob q _ _ _=>⟨ob.slots,k b ob q⟩,fun _ _ _ n _=>n,fun b ob q _=>⟨ob,k b ob q⟩,fun _ _ q=>q,fun _ _ _ q=>q,fun _ ps q=>⟨#[],by rw[q];simp⟩⟩
theorem Un.refl:Un fs ex H H h h:=Un.kept fun _ _ q=>q
theorem Un.laid (k:∀b u,h.get? b=some u→h'.get? b=some u)(hp:h.objs.size≤a)(hn:H a=none):Un fs ex H (upd H a o) h h' where
 keep:=fun b u q _ _ _=>k b u q
 slot:=fun b u q _ _ _=>⟨u.slots,k b u q⟩
 free:=fun b u q n _=>by rw[Xah (Nat.ne_of_lt (Nat.lt_of_lt_of_le (Heap.lt_size q) hp))];exact n
 there:=fun b u q _=>⟨u,k b u q⟩
 tups:=fun b xs q=>by rw[Xah (Xap q hn)];exact q
 frzs:=fun b u xs q=>by rw[Xah (Xap q hn)];exact q
 tbls:=fun b ps q=>⟨#[],by rw[Xah (Xap q hn),q];simp⟩
theorem Un.write (mu:Mut (H x))(he:e=x∨H e=some (.own x))(k:∀b u,b≠e→h.get? b=some u→h'.get? b=some u)(heo:∃u,h'.get? e=some u):Un fs ex H (upd H x o) h h':=by
 have hx:∀b,H b=none→b≠x:=fun b n z=>by subst z;rw[n] at mu;exact mu
 have hb:∀b,H b=none→b≠e:=fun b n z=>by
   subst z
   rcases he with r | r
   · exact hx b n r
   · rw[n] at r;cases r
 have hm:∀b u,H b=some u→¬Mut (some u)→b≠x:=fun b u q nm z=>by subst z;rw[q] at mu;exact nm mu
 refine⟨fun b u q n _ _=>k b u (hb b n) q,fun b u q n _ _=>⟨u.slots,k b u (hb b n) q⟩,fun b u q n _=>by rw[Xah (hx b n)];exact n,fun b u q _=>?_,
   fun b xs q=>by rw[Xah (hm b _ q fun z=>z)];exact q,fun b u xs q=>by rw[Xah (hm b _ q fun z=>z)];exact q,fun b ps q=>⟨#[],by rw[Xah (hm b _ q fun z=>z),q];simp⟩⟩
 by_cases hbe:b=e
 · subst hbe;exact heo
 · exact⟨u,k b u hbe q⟩
theorem Un.mono (u:Un fs ex H H1 h h1)(hs:∀b∈fs,b∈fs')(hx:∀b∈ex,b∈ex'):Un fs' ex' H H1 h h1 :=
 ⟨fun b ob q n hb he=>u.keep b ob q n (fun z=>hb (hs b z)) fun z=>he (hx b z),fun _ _ q n _ he=>u.any q n fun z=>he (hx _ z),fun b ob q n he=>u.free b ob q n fun z=>he (hx b z),fun b ob q he=>u.there b ob q fun z=>he (hx b z),u.tups,u.frzs,u.tbls⟩
end
def trk (h:Heap)(H:Hp):List Addr:=(List.range h.objs.size).filter fun a=>(H a).isSome
def hidT (h:Heap)(H:Hp):Heap:=PySem.W.hideAll h (trk h H)
theorem Xoy (h:Heap)(H:Hp):(hidT h H).objs.size=h.objs.size:=PySem.W.hideAll_size _ _
theorem Xvc {h:Heap}{H:Hp}{b:Addr}{o:Obj}(e:h.get? b=some o)(n:H b=none):(hidT h H).get? b=some o :=
 PySem.W.hideAll_get _ e fun hm=>by
   have q:(H b).isSome=true:=(List.mem_filter.mp hm).2
   rw[n] at q;simp at q
theorem Xyg {h:Heap}{H:Hp}{b:Addr}{o:Obj}(e:(hidT h H).get? b=some o):h.get? b=some o∧H b=none:=by
 have e':h.get? b=some o:=PySem.W.of_hideAll (trk h H) e
 refine⟨e',?_⟩
 cases q:H b with
 | none=>rfl
 | some x =>
   have hm:b∈trk h H:=List.mem_filter.mpr ⟨List.mem_range.mpr (Heap.lt_size e'),by simp [q]⟩
   have z:(hidT h H).get? b=none:=PySem.W.hideAll_none (trk h H) hm
   rw[z] at e;cases e
def XBi (g h:Heap)(L:Addr):List (Addr×Obj):=(List.range h.objs.size).filterMap fun a=>if a=L∨(g.get? a).isSome=true then none else (h.get? a).map fun o=>(a,o)
def rest (g h:Heap)(L d:Addr):List (Addr×Obj):=(XBi g h L).filter fun p=>decide (p.1≠d)
end L2
namespace L2
open PySem PySem.Spec PyProof.Rows
structure Mod (K:PySem.W.Frag)(mg:Str→Option Value)(base:Heap):Prop where
 kin:K.In base
 glob:base.Ns mainGlobals mg
 blt:∃mb,base.Ns builtinsNs mb∧∀x:Str,x≠"__name__"→mb x=bootBuiltins x
 nolimit:base.NoLimit
structure Cx where
 prog:Program
 w:World
 K:PySem.W.Frag
 mg:Str→Option Value
 base:Heap
 A:Around
 N:List Str
 s₀:Shared
 H₀:Hp
 env:Env
 outer:List Env
 stack:List Env
 ex:List Addr
 fn:Str→Bool
 calm:Bool
 pn:List (Addr×Obj)
 xe:Value→Shared→Prop
def frs (l:List Env):List Addr:=l.filterMap (·.frame)
abbrev Cx.fs (X:Cx):List Addr:=frs X.outer
def Vis (sc:Scope)(x:Str):Prop:=sc.names.lookup x=some .local∨sc.names.lookup x=some .cell∨sc.names.lookup x=some .free
def Loc (sc:Scope)(x:Str):Prop:=sc.names.lookup x=some .local∨sc.names.lookup x=some .cell
def Look (env:Env)(h:Heap)(m:Str→Option Value)(x:Str)(u:Value):Prop :=
 (env.kindOf x=some .local∧m x=some u)∨((env.kindOf x=some .cell∨env.kindOf x=some .free)∧∃c,env.cells.lookup x=some c∧h.IsCell c (some u))
structure Cx.Ok (X:Cx):Prop where
 mod:Mod X.K X.mg X.base
 kind:X.env.scope.kind = .function
 glob:X.env.globals=mainGlobals
 blt:X.env.builtins=builtinsNs
 above:X.s₀.heap.objs.size≤X.env.locals
 inj:∀x y c,X.env.cells.lookup x=some c→X.env.cells.lookup y=some c→x=y
 has:∀x,(X.env.kindOf x=some .cell∨X.env.kindOf x=some .free)→∃c,X.env.cells.lookup x=some c
 cab:∀x c,X.fn x=true→X.env.cells.lookup x=some c→X.s₀.heap.objs.size≤c
 hd:X.calm=true→X.A.handled=none
 frames:X.A.frames=some X.stack
 stk:X.stack=X.outer∨(X.stack=X.env::X.outer∧X.env.frame=some X.env.locals)
 exf:∀b∈X.ex,b≠X.env.locals∧∀x c,X.env.cells.lookup x=some c→c≠b
 bs:∀b o,X.base.get? b=some o→X.s₀.heap.get? b=some o∧X.H₀ b=none
 bsz:X.base.objs.size≤X.s₀.heap.objs.size
 noex:∀b o,X.base.get? b=some o→b ∉ X.ex
 exfs:∀b∈X.ex,b ∉ X.fs
 funs:X.s₀.heap.FunFrames X.base X.outer
 frf:∀b∈X.fs,X.H₀ b=none
structure Inv (X:Cx)(pins:List (Addr×Obj))(σ:List (Option V))(H:Hp)(s:Shared):Prop where
 ok:X.Ok
 os:s.os=X.s₀.os
 bare:AllBare s.gens
 base:Un X.fs X.ex X.H₀ H X.s₀.heap s.heap
 loc:∃m,s.heap.Ns X.env.locals m∧∀(i:Nat) (x:Str) (v:V),X.N[i]?=some x→σ[i]?=some (some v)→Vis X.env.scope x→∃u,RelV v u∧Look X.env s.heap m x u
 cell:∀x c,X.env.cells.lookup x=some c→∃v,s.heap.IsCell c v
 free:H X.env.locals=none
 freeC:∀x c,X.env.cells.lookup x=some c→H c=none
 pin:∀p∈X.pn++pins,s.heap.get? p.1=some p.2∧H p.1=none∧p.1≠X.env.locals∧p.1 ∉ X.fs∧∀v,p.2.data≠.cell v
 hok:HOk X.prog X.w H s.heap
 len:σ.length=X.N.length
section
variable {X:Cx}{pins:List (Addr×Obj)}{σ:List (Option V)}{H H':Hp}{s:Shared}{h':Heap}
theorem Cx.Ok.nofr (ok:X.Ok){b:Addr}{o:Obj}(e:X.base.get? b=some o):b ∉ X.fs:=fun hb=>by
 have:=(ok.funs.mem hb).1
 rw[e] at this;cases this
theorem Inv.bs (I:Inv X pins σ H s):∀b o,X.base.get? b=some o→s.heap.get? b=some o∧H b=none:=fun b o e =>
 ⟨I.base.keep b o (I.ok.bs b o e).1 (I.ok.bs b o e).2 (I.ok.nofr e) (I.ok.noex b o e),I.base.free b o (I.ok.bs b o e).1 (I.ok.bs b o e).2 (I.ok.noex b o e)⟩
theorem Inv.bk (I:Inv X pins σ H s):∀b o,X.base.get? b=some o→s.heap.get? b=some o:=fun b o e=>(I.bs b o e).1
theorem Inv.mod (I:Inv X pins σ H s):Mod X.K X.mg X.base:=I.ok.mod
theorem Inv.kIn (I:Inv X pins σ H s):X.K.In s.heap:=I.ok.mod.kin.keeps I.bk
theorem Inv.nolimit (I:Inv X pins σ H s):s.heap.NoLimit:=I.ok.mod.nolimit.keeps I.bk
theorem Inv.fr (I:Inv X pins σ H s):∃m,Fr X.base X.env.locals s.heap m :=
 let ⟨m,hn,_⟩:=I.loc
 ⟨m,hn,I.bk,Nat.le_trans I.ok.bsz I.ok.above⟩
theorem Inv.lt (I:Inv X pins σ H s):X.env.locals<s.heap.objs.size:=let ⟨_,hn,_⟩:=I.loc;hn.lt
theorem Inv.sz (I:Inv X pins σ H s):X.s₀.heap.objs.size≤s.heap.objs.size:=Nat.le_trans I.ok.above (Nat.le_of_lt I.lt)
theorem Inv.nofs (I:Inv X pins σ H s){a:Addr}(h:s.heap.objs.size≤a):a ∉ X.fs:=fun hb=>by
 obtain⟨_,o,ho,_⟩:=I.ok.funs.mem hb
 exact absurd (Nat.lt_of_lt_of_le (Heap.lt_size ho) (Nat.le_trans I.sz h)) (Nat.lt_irrefl _)
theorem Inv.cne (I:Inv X pins σ H s):∀x c,X.env.cells.lookup x=some c→c≠X.env.locals:=fun x c e z=>by
 obtain⟨v,o,ho,hd⟩:=I.cell x c e
 obtain⟨m,⟨o',es,ep,ho',hd',_⟩,_⟩:=I.loc
 rw[z,ho'] at ho;cases ho;rw[hd'] at hd;cases hd
theorem Inv.funs (I:Inv X pins σ H s):s.heap.FunFrames X.base X.outer:=by
 have all:∀(l:List Env),(∀b∈frs l,b∈X.fs)→X.s₀.heap.FunFrames X.base l→s.heap.FunFrames X.base l:=by
   intro l
   induction l with
   | nil=>intro _ _;trivial
   | cons env r ih =>
     intro hs hl
     obtain⟨hk,⟨L,o,hf,hn,ho,hd⟩,hr⟩:=hl
     have hL:L∈X.fs:=hs L (by unfold frs;rw[List.filterMap_cons,hf];exact List.mem_cons_self)
     obtain⟨sl,e⟩:=I.base.slot L o ho (I.ok.frf L hL) hL fun z=>I.ok.exfs L z hL
     exact⟨hk,⟨L,_,hf,hn,e,hd⟩,ih (fun b hb=>hs b (by unfold frs;rw[List.filterMap_cons,hf];exact List.mem_cons_of_mem _ hb)) hr⟩
 exact all X.outer (fun _ hb=>hb) I.ok.funs
theorem Inv.stack (I:Inv X pins σ H s):s.heap.FunFrames X.base X.stack:=by
 rcases I.ok.stk with e | ⟨e,hf⟩
 · rw[e];exact I.funs
 · rw[e]
   obtain⟨m,hn,_⟩:=I.loc
   refine .cons (by rw[I.ok.kind];decide) hf hn ?_ I.funs
   exact Heap.get?_none_of_le (Nat.le_trans I.ok.bsz I.ok.above)
theorem Inv.stkSub (I:Inv X pins σ H s):∀b∈frs X.stack,b∈X.env.locals::X.fs:=fun b hb=>by
 rcases I.ok.stk with e | ⟨e,hf⟩
 · rw[e] at hb;exact List.mem_cons_of_mem _ hb
 · rw[e] at hb
   unfold frs at hb
   rw[List.filterMap_cons,hf] at hb
   exact hb
theorem Inv.stkFree (I:Inv X pins σ H s):∀b∈frs X.stack,H b=none:=fun b hb=>by
 rcases List.mem_cons.mp (I.stkSub b hb) with e | hb
 · rw[e];exact I.free
 · obtain⟨_,o,ho,_⟩:=I.ok.funs.mem hb
   exact I.base.free b o ho (I.ok.frf b hb) fun z=>I.ok.exfs b z hb
theorem Inv.step {g':Array GenState}{t':Nat}{d':Drawn}{ch:List Addr}(I:Inv X pins σ H s)
   (hch:∀b∈ch,(b∈X.ex∨X.s₀.heap.objs.size≤b)∧b≠X.env.locals∧(∀x c,X.env.cells.lookup x=some c→c≠b)∧∀p∈X.pn++pins,p.1≠b)
   (keep:∀b o,b≠X.env.locals→b ∉ X.fs→b ∉ ch→s.heap.get? b=some o→H b=none→h'.get? b=some o)
   (slot:∀b o,b≠X.env.locals→b∈X.fs→b ∉ ch→s.heap.get? b=some o→H b=none→∃sl,h'.get? b=some { o with slots:=sl }) (free:∀b o,b ∉ ch→s.heap.get? b=some o→H b=none→H' b=none)
   (there:∀b o,b ∉ ch→s.heap.get? b=some o→∃o',h'.get? b=some o')
   (tups:∀b xs,H b=some (.tup xs)→H' b=some (.tup xs)) (frzs:∀b o u,H b=some (.frz o u)→H' b=some (.frz o u)) (tbls:∀b ps,H b=some (.tbl ps)→∃more,H' b=some (.tbl (ps++more)))
   (ns:∀m,s.heap.Ns X.env.locals m→h'.Ns X.env.locals m) (hok:HOk X.prog X.w H' h') (hg:AllBare g') :
   Inv X pins σ H' { s with heap:=h',gens:=g',drawn:=d',toks:=t' }:=by
 have neL:∀b o,X.s₀.heap.get? b=some o→b≠X.env.locals:=fun b o e=>Nat.ne_of_lt (Nat.lt_of_lt_of_le (Heap.lt_size e) I.ok.above)
 have neC:∀b o,X.s₀.heap.get? b=some o→b ∉ X.ex→b ∉ ch:=fun b o e hx hb=>by
   rcases(hch b hb).1 with z | z
   · exact hx z
   · exact absurd (Nat.lt_of_lt_of_le (Heap.lt_size e) z) (Nat.lt_irrefl _)
 have cellK:∀x c,X.env.cells.lookup x=some c→∀v,s.heap.IsCell c v→h'.IsCell c v:=fun x c e v ⟨o,ho,hd⟩=>by
   have nch:c ∉ ch:=fun z=>(hch c z).2.2.1 x c e rfl
   by_cases hc:c∈X.fs
   · obtain⟨sl,q⟩:=slot c o (I.cne x c e) hc nch ho (I.freeC x c e)
     exact⟨_,q,hd⟩
   · exact⟨o,keep c o (I.cne x c e) hc nch ho (I.freeC x c e),hd⟩
 refine⟨I.ok,I.os,hg,⟨fun b o e n hb hx=>?_,fun b o e n hb hx=>?_,fun b o e n hx=>?_,fun b o e hx=>?_,fun b xs e=>tups b xs (I.base.tups b xs e),fun b o xs e=>frzs b o xs (I.base.frzs b o xs e),fun b ps e=>?_⟩,?_,fun x c e=>?_,?_,fun x c e=>?_,fun p hp=>?_,hok,I.len⟩
 · exact keep b o (neL b o e) hb (neC b o e hx) (I.base.keep b o e n hb hx) (I.base.free b o e n hx)
 · obtain⟨sl,e1⟩:=I.base.slot b o e n hb hx
   obtain⟨sl',e2⟩:=slot b _ (neL b o e) hb (neC b o e hx) e1 (I.base.free b o e n hx)
   exact⟨sl',e2⟩
 · obtain⟨o',e1⟩:=I.base.there b o e hx
   exact free b o' (neC b o e hx) e1 (I.base.free b o e n hx)
 · obtain⟨o',e1⟩:=I.base.there b o e hx
   exact there b o' (neC b o e hx) e1
 · obtain⟨m1,e1⟩:=I.base.tbls b ps e
   obtain⟨m2,e2⟩:=tbls b _ e1
   exact⟨m1++m2,by rw[e2,Array.append_assoc]⟩
 · obtain⟨m,hn,hl⟩:=I.loc
   refine⟨m,ns m hn,fun i x v e1 e2 e3=>?_⟩
   obtain⟨u,r,l⟩:=hl i x v e1 e2 e3
   refine⟨u,r,?_⟩
   rcases l with l | ⟨k,c,e,z⟩
   · exact .inl l
   · exact .inr ⟨k,c,e,cellK x c e _ z⟩
 · obtain⟨v,z⟩:=I.cell x c e
   exact⟨v,cellK x c e v z⟩
 · obtain⟨m,⟨o,_,_,ho,_⟩,_⟩:=I.loc
   exact free _ o (fun z=>(hch _ z).2.1 rfl) ho I.free
 · obtain⟨v,o,ho,hd⟩:=I.cell x c e
   exact free c o (fun z=>(hch c z).2.2.1 x c e rfl) ho (I.freeC x c e)
 · obtain⟨e,n,ne,nf,d⟩:=I.pin p hp
   have nch:p.1 ∉ ch:=fun z=>(hch p.1 z).2.2.2 p hp rfl
   exact⟨keep p.1 p.2 ne nf nch e n,free p.1 p.2 nch e n,ne,nf,d⟩
theorem Inv.un {t':Nat}(I:Inv X pins σ H s)(u:Un X.fs [] H H' s.heap h')(hok:HOk X.prog X.w H' h'):Inv X pins σ H' { s with heap:=h',toks:=t' }:=by
 obtain⟨m,⟨o,es,ep,ho,r⟩,_⟩:=id I.loc
 obtain⟨sl,hL⟩:=u.any ho I.free (by simp)
 exact I.step (g':=s.gens) (d':=s.drawn) (ch:=[]) (fun _ z=>nomatch z) (fun b o _ hb _ e n=>u.keep b o e n hb (by simp)) (fun b o _ hb _ e n=>u.slot b o e n hb (by simp)) (fun b o _ e n=>u.free b o e n (by simp)) (fun b o _ e=>u.there b o e (by simp)) u.tups u.frzs u.tbls (fun m' hm=>by
   obtain⟨o',es',ep',ho',r'⟩:=hm
   rw[ho] at ho';cases ho'
   exact⟨_,es',ep',hL,r'⟩) hok I.bare
theorem Inv.call {g':Array GenState}{t':Nat}{d':Drawn}{ch:List Addr}(I:Inv X pins σ H s)(u:Un (frs X.stack) ch H H' s.heap h')(hok:HOk X.prog X.w H' h')(hg:AllBare g')
   (hch:∀b∈ch,(b∈X.ex∨X.s₀.heap.objs.size≤b)∧b≠X.env.locals∧(∀x c,X.env.cells.lookup x=some c→c≠b)∧∀p∈X.pn++pins,p.1≠b) :
   Inv X pins σ H' { s with heap:=h',gens:=g',drawn:=d',toks:=t' }:=by
 obtain⟨m,⟨o,es,ep,ho,r⟩,_⟩:=id I.loc
 obtain⟨sl,hL⟩:=u.any ho I.free fun z=>(hch _ z).2.1 rfl
 exact I.step (ch:=ch) hch (fun b o hL hb hc e n=>u.keep b o e n (fun z=>(List.mem_cons.mp (I.stkSub b z)).elim hL hb) hc) (fun b o _ _ hc e n=>u.any e n hc) (fun b o hc e n=>u.free b o e n hc) (fun b o hc e=>u.there b o e hc) u.tups u.frzs u.tbls (fun m' hm=>by
   obtain⟨o',es',ep',ho',r'⟩:=hm
   rw[ho] at ho';cases ho'
   exact⟨_,es',ep',hL,r'⟩) hok hg
theorem Inv.turned {t':Nat}{it:Addr}(I:Inv X pins σ H s)(k:∀b o,b≠it→s.heap.get? b=some o→h'.get? b=some o)(hn:H it=none)(hL:it≠X.env.locals)
   (h1:it∈X.ex∨X.s₀.heap.objs.size≤it) (h2:∀x c,X.env.cells.lookup x=some c→c≠it) (h3:∀p∈X.pn++pins,p.1≠it):Inv X pins σ H { s with heap:=h',toks:=t' }:=by
 have nit:∀b u,H b=some u→b≠it:=fun b u e z=>by rw[z,hn] at e;cases e
 refine I.step (g':=s.gens) (d':=s.drawn) (ch:=[it]) (fun b hb=>?_) (fun b o _ _ hc e _=>k b o (fun z=>hc (by simp [z])) e) (fun b o _ _ hc e _=>⟨o.slots,k b o (fun z=>hc (by simp [z])) e⟩) (fun _ _ _ _ n=>n)
   (fun b o hc e=>⟨o,k b o (fun z=>hc (by simp [z])) e⟩) (fun _ _ e=>e) (fun _ _ _ e=>e) (fun b ps e=>⟨#[],by rw[e];simp⟩) (fun m hm=>?_) (fun b u e=>?_) I.bare
 · have e:b=it:=by simpa using hb
   subst e
   exact⟨h1,hL,h2,h3⟩
 · obtain⟨o,es,ep,ho,r⟩:=hm
   exact⟨o,es,ep,k _ o (Ne.symm hL) ho,r⟩
 · refine(I.hok b u e).stay (fun c v hc q=>k c v ?_ q) (fun _ q=>q) fun _ _ q=>q
   rcases hc with z | z
   · rw[z];exact nit b u e
   · exact nit c _ z
theorem Inv.tok (I:Inv X pins σ H s)(t:Nat):Inv X pins σ H { s with toks:=t }:=I.un (h':=s.heap) (t':=t) Un.refl I.hok
theorem Inv.kept {t':Nat}(I:Inv X pins σ H s)(k:∀b u,s.heap.get? b=some u→h'.get? b=some u):Inv X pins σ H { s with heap:=h',toks:=t' }:=I.un (Un.kept k) (I.hok.kept k)
theorem Inv.laid {a:Addr}{o:HO}{t':Nat}(I:Inv X pins σ H s)(k:∀b u,s.heap.get? b=some u→h'.get? b=some u)(hp:s.heap.objs.size≤a)(new:Xbq X.prog X.w (upd H a o) h' a o) :
   Inv X pins σ (upd H a o) { s with heap:=h',toks:=t' }:=I.un (Un.laid k hp (I.hok.fresh hp)) (I.hok.laid k hp new)
theorem Inv.write {x e:Addr}{o:HO}{t':Nat}(I:Inv X pins σ H s)(mu:Mut (H x))(he:e=x∨H e=some (.own x))(k:∀b u,b≠e→s.heap.get? b=some u→h'.get? b=some u)(heo:∃u,h'.get? e=some u)
   (new:Xbq X.prog X.w (upd H x o) h' x o):Inv X pins σ (upd H x o) { s with heap:=h',toks:=t' }:=I.un (Un.write mu he k heo) (I.hok.write mu he k heo new)
theorem Inv.pins_of {pins':List (Addr×Obj)}(I:Inv X pins σ H s)(h:∀p∈pins',s.heap.get? p.1=some p.2∧H p.1=none∧p.1≠X.env.locals∧p.1 ∉ X.fs∧∀v,p.2.data≠.cell v):Inv X pins' σ H s :=
 ⟨I.ok,I.os,I.bare,I.base,I.loc,I.cell,I.free,I.freeC,fun p hp=>(List.mem_append.mp hp).elim (fun z=>I.pin p (List.mem_append_left _ z)) (h p),I.hok,I.len⟩
theorem Xml {N:List Str}(hN:N.Nodup){i j:Nat}{x:Str}(a:N[i]?=some x)(b:N[j]?=some x):i=j:=by
 obtain⟨h1,e1⟩:=List.getElem?_eq_some_iff.mp a
 obtain⟨h2,e2⟩:=List.getElem?_eq_some_iff.mp b
 exact(List.getElem_inj hN).mp (e1.trans e2.symm)
theorem Xkb {M:Model}{A:Around}{E:Value→Shared→Prop}{i:Nat}{x:Str}{v:V}{u:Value}{Q:Unit→Shared→Prop}(I:Inv X pins σ H s)(hN:X.N.Nodup)(hi:X.N[i]?=some x)(hx:Loc X.env.scope x)(r:RelV v u)
   (h:∀s',Inv X pins (σ.set i (some v)) H s'→(∃a,Heap.SameBut a s.heap s'.heap∧(a=X.env.locals∨X.env.cells.lookup x=some a))→Q () s') (hf:X.fn x=true∨X.env.scope.names.lookup x=some .local:=by first | exact .inl rfl | exact .inr rfl | assumption):wpAny M A (storeName X.env x u) Q E s:=by
 obtain⟨m,hn,hl⟩:=id I.loc
 have hcls:(X.env.scope.kind==.class||(X.env.scope.kind==.module&&X.env.locals != X.env.globals))=false:=by rw[I.ok.kind];rfl
 have hiσ:i<σ.length:=by rw[I.len];exact(List.getElem?_eq_some_iff.mp hi).1
 have cne:=I.cne
 have tracked:∀{a:Addr} {h':Heap},(∃o,s.heap.get? a=some o∧H a=none)→Heap.SameBut a s.heap h'→HOk X.prog X.w H h':=fun {a h'} ha hs b ob e=>by
   obtain⟨_,_,hfree⟩:=ha
   refine(I.hok b ob e).stay (fun c w' hc q=>(hs.2 c ?_).trans q) (fun _ q=>q) fun _ _ q=>q
   rintro rfl
   rcases hc with rfl | hc
   · rw[hfree] at e;cases e
   · rw[hfree] at hc;cases hc
 rcases hx with hk | hk
 · refine wpAny_storeName_local hk hn (fun h' hn' hs=>?_) hcls
   obtain⟨oL,_,_,hoL,_⟩:=id hn
   refine h _ ⟨I.ok,I.os,I.bare,⟨fun b o e n hb hx=>?_,fun b o e n hb hx=>?_,I.base.free,fun b o e hx=>?_,I.base.tups,I.base.frzs,I.base.tbls⟩,⟨_,hn',fun j y v' e1 e2 e3=>?_⟩,fun y c e=>?_,I.free,I.freeC,fun p hp=>?_,tracked ⟨oL,hoL,I.free⟩ hs,by simpa using I.len⟩ ⟨_,hs,.inl rfl⟩
   · exact(hs.2 b (Nat.ne_of_lt (Nat.lt_of_lt_of_le (Heap.lt_size e) I.ok.above))).trans (I.base.keep b o e n hb hx)
   · obtain⟨sl,e1⟩:=I.base.slot b o e n hb hx
     exact⟨sl,(hs.2 b (Nat.ne_of_lt (Nat.lt_of_lt_of_le (Heap.lt_size e) I.ok.above))).trans e1⟩
   · obtain⟨o',e1⟩:=I.base.there b o e hx
     exact⟨o',(hs.2 b (Nat.ne_of_lt (Nat.lt_of_lt_of_le (Heap.lt_size e) I.ok.above))).trans e1⟩
   · by_cases hj:j=i
     · subst hj
       rw[hi] at e1;cases e1
       rw[List.getElem?_set_self hiσ] at e2
       cases e2
       exact⟨u,r,.inl ⟨hk,by simp⟩⟩
     · rw[List.getElem?_set_ne (Ne.symm hj)] at e2
       obtain⟨u',r',q⟩:=hl j y v' e1 e2 e3
       refine⟨u',r',?_⟩
       rcases q with ⟨k,e⟩ | ⟨k,c,e,z⟩
       · refine .inl ⟨k,?_⟩
         have:y≠x:=fun e=>hj (Xml hN e1 (e▸hi))
         simp [this,e]
       · exact .inr ⟨k,c,e,z.sameBut hs (cne y c e)⟩
   · obtain⟨w',z⟩:=I.cell y c e
     exact⟨w',z.sameBut hs (cne y c e)⟩
   · obtain⟨e,n,ne,nf,d⟩:=I.pin p hp
     exact⟨(hs.2 p.1 ne).trans e,n,ne,nf,d⟩
 · have hfn:X.fn x=true:=by
     rcases hf with z | z
     · exact z
     · rw[z] at hk;cases hk
   obtain⟨c,hc⟩:=I.ok.has x (.inl hk)
   obtain⟨w',z⟩:=I.cell x c hc
   refine wpAny_storeName_cell I.ok.kind hk hc z (fun h' hc' hs=>?_)
   obtain⟨oc,hoc,hocd⟩:=id z
   refine h { s with heap:=h' } ⟨I.ok,I.os,I.bare,⟨fun b o e n hb hx=>?_,fun b o e n hb hx=>?_,I.base.free,fun b o e hx=>?_,I.base.tups,I.base.frzs,I.base.tbls⟩,⟨m,hn.sameBut hs (Ne.symm (cne x c hc)),fun j y v' e1 e2 e3=>?_⟩,fun y c' e=>?_,I.free,I.freeC,fun p hp=>?_,tracked ⟨oc,hoc,I.freeC x c hc⟩ hs,by simpa using I.len⟩ ⟨c,hs,.inr hc⟩
   · exact(hs.2 b (Nat.ne_of_lt (Nat.lt_of_lt_of_le (Heap.lt_size e) (I.ok.cab x c hfn hc)))).trans (I.base.keep b o e n hb hx)
   · obtain⟨sl,e1⟩:=I.base.slot b o e n hb hx
     exact⟨sl,(hs.2 b (Nat.ne_of_lt (Nat.lt_of_lt_of_le (Heap.lt_size e) (I.ok.cab x c hfn hc)))).trans e1⟩
   · obtain⟨o',e1⟩:=I.base.there b o e hx
     exact⟨o',(hs.2 b (Nat.ne_of_lt (Nat.lt_of_lt_of_le (Heap.lt_size e) (I.ok.cab x c hfn hc)))).trans e1⟩
   · by_cases hj:j=i
     · subst hj
       rw[hi] at e1;cases e1
       rw[List.getElem?_set_self hiσ] at e2
       cases e2
       exact⟨u,r,.inr ⟨.inl hk,c,hc,hc'⟩⟩
     · rw[List.getElem?_set_ne (Ne.symm hj)] at e2
       obtain⟨u',r',q⟩:=hl j y v' e1 e2 e3
       refine⟨u',r',?_⟩
       rcases q with q | ⟨k,c',e,z'⟩
       · exact .inl q
       · refine .inr ⟨k,c',e,z'.sameBut hs ?_⟩
         rintro rfl
         exact hj (Xml hN e1 (I.ok.inj _ _ _ e hc▸hi))
   · by_cases hcc:c'=c
     · subst hcc;exact⟨_,hc'⟩
     · obtain⟨w2,z2⟩:=I.cell y c' e
       exact⟨w2,z2.sameBut hs hcc⟩
   · obtain⟨e,n,ne,nf,d⟩:=I.pin p hp
     refine⟨(hs.2 p.1 ?_).trans e,n,ne,nf,d⟩
     intro q
     rw[q,hoc] at e
     have q':oc=p.2:=Option.some.inj e
     exact d w' (by rw[←q'];exact hocd)
theorem Xit {M:Model}{A:Around}{E:Value→Shared→Prop}{i:Nat}{x:Str}{v:V}{u:Value}{Q:Unit→Shared→Prop}(I:Inv X pins σ H s)(hN:X.N.Nodup)(hi:X.N[i]?=some x)(hx:Loc X.env.scope x)(r:RelV v u)
   (h:∀s',Inv X pins (σ.set i (some v)) H s'→Q () s') (hf:X.fn x=true∨X.env.scope.names.lookup x=some .local:=by first | exact .inl rfl | exact .inr rfl | assumption):wpAny M A (storeName X.env x u) Q E s :=
 Xkb I hN hi hx r (fun s' I' _=>h s' I') hf
theorem Inv.call' {s':Shared}{ch:List Addr}(I:Inv X pins σ H s)(ho:s'.os=s.os)(u:Un (frs X.stack) ch H H' s.heap s'.heap)(hok:HOk X.prog X.w H' s'.heap)(hg:AllBare s'.gens)
   (hch:∀b∈ch,(b∈X.ex∨X.s₀.heap.objs.size≤b)∧b≠X.env.locals∧(∀x c,X.env.cells.lookup x=some c→c≠b)∧∀p∈X.pn++pins,p.1≠b):Inv X pins σ H' s':=by
 obtain⟨h',g',d',t',o'⟩:=s'
 have e:o'=s.os:=ho
 subst e
 exact I.call (g':=g') (t':=t') (d':=d') u hok hg hch
end
abbrev XK:=Value→Option Addr→Hp→Prop
abbrev St:=List (Option V)
abbrev VK:=V→Hp→Prop
abbrev TE:=St→Hp→VK→Prop
abbrev TT:=St→Hp→(Bool→Hp→Prop)→Prop
abbrev TA:=St→Hp→(List V→Hp→Prop)→Prop
structure Ends where
 nx:St→Hp→Prop
 rt:VK
 bk:St→Hp→Prop:=fun _ _=>False
 ct:St→Hp→Prop:=fun _ _=>False
abbrev TS:=Ends→St→Hp→Prop
def EP (X:Cx)(pins:List (Addr×Obj))(σ:St)(Q:VK)(u:Value)(s':Shared):Prop:=∃v H',Inv X pins σ H' s'∧RelV v u∧Q v H'
def TP (X:Cx)(pins:List (Addr×Obj))(σ:St)(Q:Bool→Hp→Prop)(b:Bool)(s':Shared):Prop:=∃H',Inv X pins σ H' s'∧Q b H'
def AP (X:Cx)(pins:List (Addr×Obj))(σ:St)(Q:List V→Hp→Prop)(us:List Value)(s':Shared):Prop:=∃vs H',Inv X pins σ H' s'∧Vals vs us∧Q vs H'
def SP (X:Cx)(pins:List (Addr×Obj))(D:Ends)(f:Flow)(s':Shared):Prop :=
 match f with
 | .next=>∃σ' H',Inv X pins σ' H' s'∧D.nx σ' H'
 | .brk=>∃σ' H',Inv X pins σ' H' s'∧D.bk σ' H'
 | .cont=>∃σ' H',Inv X pins σ' H' s'∧D.ct σ' H'
 | .ret u=>∃v σ' H',Inv X pins σ' H' s'∧RelV v u∧D.rt v H'
def PE (X:Cx)(e:Expr)(t:TE):Prop :=
 ∀(pins:List (Addr×Obj)) (s:Shared) (σ:St) (H:Hp) (Q:VK),Inv X pins σ H s→t σ H Q→wpAny (model X.prog X.w) X.A (eval e X.env) (EP X pins σ Q) X.xe s
def PT (X:Cx)(e:Expr)(t:TT):Prop :=
 ∀(pins:List (Addr×Obj)) (s:Shared) (σ:St) (H:Hp) (Q:Bool→Hp→Prop),Inv X pins σ H s→t σ H Q→wpAny (model X.prog X.w) X.A (isTrue e X.env (eval e X.env)) (TP X pins σ Q) X.xe s
def PW (X:Cx)(e:Expr)(t:TT):Prop :=
 ∀(whole:Sem Value) (pins:List (Addr×Obj)) (s:Shared) (σ:St) (H:Hp) (Q:Bool→Hp→Prop),Inv X pins σ H s→t σ H Q→wpAny (model X.prog X.w) X.A (isTrue e X.env whole) (TP X pins σ Q) X.xe s
theorem PW.pt {X:Cx}{e:Expr}{t:TT}(h:PW X e t):PT X e t:=h _
def PA (X:Cx)(es:List Expr)(t:TA):Prop :=
 ∀(pos:Pos) (pins:List (Addr×Obj)) (s:Shared) (σ:St) (H:Hp) (Q:List V→Hp→Prop),Inv X pins σ H s→t σ H Q→wpAny (model X.prog X.w) X.A (spliced (backTo pos (starEach es X.env))) (AP X pins σ Q) X.xe s
def PS (X:Cx)(st:Stmt)(t:TS):Prop :=
 ∀(pins:List (Addr×Obj)) (s:Shared) (σ:St) (H:Hp) (D:Ends),Inv X pins σ H s→t D σ H→wpAny (model X.prog X.w) X.A (exec st X.env) (SP X pins D) X.xe s
def PSs (X:Cx)(st:List Stmt)(t:TS):Prop :=
 ∀(pins:List (Addr×Obj)) (s:Shared) (σ:St) (H:Hp) (D:Ends),Inv X pins σ H s→t D σ H→wpAny (model X.prog X.w) X.A (execs st X.env) (SP X pins D) X.xe s
theorem thn {α:Type}{t:Sem α}{Q Q':α→Shared→Prop}{M:Model}{A:Around}{E:Value→Shared→Prop}{s:Shared}(h:wpAny M A t Q E s)(hQ:∀a s,Q a s→Q' a s):wpAny M A t Q' E s:=wpAny_mono h hQ fun _ _ x=>x
end L2
namespace L2
open PySem PySem.Spec PyProof.Rows
section
variable {X:Cx}
theorem bin {a b:Expr}{ta tb:TE}(ha:PE X a ta)(hb:PE X b tb){pins:List (Addr×Obj)}{s:Shared}{σ:St}{H:Hp}{R:V→V→Hp→Prop}(I:Inv X pins σ H s)(h:ta σ H fun x H1=>tb σ H1 fun y H2=>R x y H2)
   {α:Type} {Q:α→Shared→Prop} {f:Value→Value→Sem α}
   (hf:∀v u s2 x y H2,Inv X pins σ H2 s2→RelV x v→RelV y u→R x y H2→wpAny (model X.prog X.w) X.A (f v u) Q X.xe s2) :
   wpAny (model X.prog X.w) X.A (eval a X.env) (fun v s₁=>wpAny (model X.prog X.w) X.A (eval b X.env) (fun u s₂=>wpAny (model X.prog X.w) X.A (f v u) Q X.xe s₂) X.xe s₁) X.xe s:=by
 refine thn (ha pins s σ H _ I h) fun v s1 ⟨x,H1,I1,r1,q1⟩=>?_
 refine thn (hb pins s1 σ H1 _ I1 q1) fun u s2 ⟨y,H2,I2,r2,q2⟩=>?_
 exact hf v u s2 x y H2 I2 r1 r2 q2
def tVar (i:Nat):TE:=fun σ H Q=>∃v,σ[i]?=some (some v)∧Q v H
def tC (v:V):TE:=fun _ H Q=>Q v H
theorem XGt {i:Nat}{x:Str}{pos:Pos}(hN:X.N[i]?=some x)(hv:Vis X.env.scope x)(hd:(x==("__debug__":Str))=false:=by decide)(hcd:(x==("__classdict__":Str))=false:=by decide):PE X (.Name x pos) (tVar i):=by
 intro pins s σ H Q I h
 obtain⟨v,e,h⟩:=h
 obtain⟨m,hn,hl⟩:=I.loc
 obtain⟨u,r,l⟩:=hl i x v hN e hv
 have fin:EP X pins σ Q u s:=⟨v,H,I,r,h⟩
 rcases l with ⟨hk,hm⟩ | ⟨hk,c,hc,hcell⟩
 · exact wpAny_Name (wpAny_loadName_local I.ok.kind hk hn hm fin) hd
 · rcases hk with hk | hk
   · exact wpAny_Name (wpAny_loadName_cell I.ok.kind hk hc hcell fin) hd
   · exact wpAny_Name (wpAny_loadName_free I.ok.kind hk hc hcell fin hcd) hd
theorem Xaf {i j pos}:PE X (.Constant (.int i) j pos) (tC (.int i)):=fun _ _ _ H _ I h=>wpAny_Constant_int ⟨.int i,H,I.tok _,⟨_,rfl⟩,h⟩
theorem Xck {b j pos}:PE X (.Constant (.bool b) j pos) (tC (.bl b)):=fun _ _ _ H _ I h=>Constant_bool ⟨.bl b,H,I,rfl,h⟩
theorem Xcm {j pos}:PE X (.Constant .none j pos) (tC .non):=fun _ _ _ H _ I h=>Constant_none ⟨.non,H,I,rfl,h⟩
theorem Xef {x j pos}:PE X (.Constant (.str x) j pos) (tC (.str x)):=fun _ _ _ H _ I h=>Calls.Constant_str ⟨.str x,H,I.tok _,⟨_,rfl⟩,h⟩
def Gl (X:Cx)(x:Str):Prop:=X.env.kindOf x=some .globalImplicit
theorem Xei {E:Value→Shared→Prop}{pins:List (Addr×Obj)}{s:Shared}{σ:St}{H:Hp}{x:Str}{u:Value}{pos:Pos}{Q:Value→Shared→Prop}(I:Inv X pins σ H s)(hg:Gl X x)(hm:X.mg x=some u)(h:Q u s)
   (hd:(x==("__debug__":Str))=false:=by decide):wpAny (model X.prog X.w) X.A (eval (.Name x pos) X.env) Q E s :=
 Calls.Name_function_global I.ok.kind hg (Calls.loadGlobal_global (by rw[I.ok.glob];exact I.mod.glob.keeps I.bk) hm h) hd
theorem Xjq {E:Value→Shared→Prop}{pins:List (Addr×Obj)}{s:Shared}{σ:St}{H:Hp}{x:Str}{u:Value}{pos:Pos}{Q:Value→Shared→Prop}(I:Inv X pins σ H s)(hg:Gl X x)(hm:X.mg x=none)(hv:bootBuiltins x=some u)(h:Q u s)
   (hn:x≠"__name__":=by decide) (hd:(x==("__debug__":Str))=false:=by decide):wpAny (model X.prog X.w) X.A (eval (.Name x pos) X.env) Q E s:=by
 obtain⟨mb,h1,h2⟩:=I.mod.blt
 exact Calls.Name_function_global I.ok.kind hg (Calls.loadGlobal_builtin (by rw[I.ok.glob];exact I.mod.glob.keeps I.bk) hm (by rw[I.ok.blt];exact h1.keeps I.bk) ((h2 x hn).trans hv) h) hd
theorem Xiz {x:Str}{v:V}{u:Value}{pos:Pos}(hg:Gl X x)(hm:X.mg x=some u)(r:RelV v u)(hd:(x==("__debug__":Str))=false:=by decide):PE X (.Name x pos) (tC v) :=
 fun _ _ _ H _ I h=>Xei I hg hm ⟨v,H,I,r,h⟩ hd
theorem Xmf {x:Str}{v:V}{u:Value}{pos:Pos}(hg:Gl X x)(hm:X.mg x=none)(hv:bootBuiltins x=some u)(r:RelV v u)(hn:x≠"__name__":=by decide)(hd:(x==("__debug__":Str))=false:=by decide):PE X (.Name x pos) (tC v) :=
 fun _ _ _ H _ I h=>Xjq I hg hm hv ⟨v,H,I,r,h⟩ hn hd
variable {a b:Expr}{ta tb:TE}{pos:Pos}
def PC (X:Cx)(op:CmpOp)(a b:Expr)(t:TE):Prop :=
 ∀(pins:List (Addr×Obj)) (s:Shared) (σ:St) (H:Hp) (Q:VK),Inv X pins σ H s→t σ H Q →
   wpAny (model X.prog X.w) X.A (eval a X.env) (fun v s₁=>wpAny (model X.prog X.w) X.A (eval b X.env) (fun u s₂=>wpAny (model X.prog X.w) X.A (compareOp op v u) (EP X pins σ Q) X.xe s₂) X.xe s₁) X.xe s
theorem Xtv (b:Expr){op:CmpOp}(h:op≠.In)(h2:op≠.NotIn):behindInMarks op b=false:=by
 have e1:(op==CmpOp.In)=false:=by cases op <;> first | rfl | exact absurd rfl h
 have e2:(op==CmpOp.NotIn)=false:=by cases op <;> first | rfl | exact absurd rfl h2
 cases b <;> simp [behindInMarks,e1,e2]
def tB (t:TE):TT:=fun σ H Q=>t σ H fun x H1=>∃c,x = .bl c∧Q c H1
theorem Xwk {op:CmpOp}{t:TE}(h:PC X op a b t)(h1:behindInMarks op b=false:=by first | exact Xtv _ (by decide) (by decide) | rfl):PT X (.Compare a [op] [b] pos) (tB t):=by
 intro pins s σ H Q I hw
 refine wpAny_isTrue_Compare1 (thn (h pins s σ H _ I hw) fun v s1 h1=>thn h1 fun u s2 h2=>thn h2 fun c s3 ⟨x,H1,I1,r1,q1⟩=>?_) h1
 obtain⟨d,rfl,q⟩:=q1
 cases r1
 exact wpAny_truthy_bool ⟨H1,I1,q⟩
theorem Xdz {e:Expr}{t:TE}(h:PE X e t)(he:∀whole,isTrue e X.env whole=(do let v ←whole;standAt e.pos;holding [v] (truthy v)):=by intro _;rfl):PT X e (tB t):=by
 intro pins s σ H Q I hw
 refine isTrue_plain (thn (h pins s σ H _ I hw) fun v s1 ⟨x,H1,I1,r1,q1⟩=>?_) (he _)
 obtain⟨d,rfl,q⟩:=q1
 cases r1
 exact wpAny_truthy_bool ⟨H1,I1,q⟩
variable {tA tB':TT}{rest:List Expr}
def tAnd (t u:TT):TT:=fun σ H Q=>t σ H fun c H1=>if c=true then u σ H1 Q else Q false H1
def tOr (t u:TT):TT:=fun σ H Q=>t σ H fun c H1=>if c=true then Q true H1 else u σ H1 Q
def tNot (t:TT):TT:=fun σ H Q=>t σ H fun c H1=>Q (!c) H1
theorem Xfp (ha:PT X a tA):PW X (.BoolOp .And [a] pos) tA:=by
 intro wh pins s σ H Q I h
 refine isTrue_and (thn (ha pins s σ H Q I h) fun c s1 e=>?_)
 cases c with
 | true=>exact isTrue_and_nil e
 | false=>exact e
theorem Xda (ha:PT X a tA):PW X (.BoolOp .Or [a] pos) tA:=by
 intro wh pins s σ H Q I h
 refine isTrue_or (thn (ha pins s σ H Q I h) fun c s1 e=>?_)
 cases c with
 | false=>exact isTrue_or_nil e
 | true=>exact e
theorem Xfo (ha:PT X a tA)(hb:PW X (.BoolOp .And (b::rest) pos) tB'):PW X (.BoolOp .And (a::b::rest) pos) (tAnd tA tB'):=by
 intro wh pins s σ H Q I h
 refine isTrue_and (thn (ha pins s σ H _ I h) fun c s1 ⟨H1,I1,q1⟩=>?_)
 cases c with
 | true=>exact hb wh pins s1 σ H1 Q I1 q1
 | false=>exact⟨H1,I1,q1⟩
theorem Xeb (ha:PT X a tA)(hb:PW X (.BoolOp .Or (b::rest) pos) tB'):PW X (.BoolOp .Or (a::b::rest) pos) (tOr tA tB'):=by
 intro wh pins s σ H Q I h
 refine isTrue_or (thn (ha pins s σ H _ I h) fun c s1 ⟨H1,I1,q1⟩=>?_)
 cases c with
 | true=>exact⟨H1,I1,q1⟩
 | false=>exact hb wh pins s1 σ H1 Q I1 q1
theorem Xbu (ha:PT X a tA):PT X (.UnaryOp .Not a pos) (tNot tA):=by
 intro pins s σ H Q I h
 exact isTrue_not (ha pins s σ H (fun c H1=>Q (!c) H1) I h)
def Xvi (ta tb:TE):TE:=fun σ H Q=>ta σ H fun x H1=>∃c,x = .bl c∧if c=true then tb σ H1 Q else Q (.bl false) H1
def tOrV (ta tb:TE):TE:=fun σ H Q=>ta σ H fun x H1=>∃c,x = .bl c∧if c=true then Q (.bl true) H1 else tb σ H1 Q
def XDj (ta:TE):TE:=fun σ H Q=>ta σ H fun x H1=>∃c,x = .bl c∧Q (.bl (!c)) H1
theorem Xkv {op}{t:TE}(h:PE X a t):PE X (.BoolOp op [a] pos) t:=fun pins s σ H Q I hw=>BoolOp_one (h pins s σ H Q I hw)
theorem Xkj (ha:PE X a ta)(hb:PE X (.BoolOp .And (b::rest) pos) tb):PE X (.BoolOp .And (a::b::rest) pos) (Xvi ta tb):=by
 intro pins s σ H Q I h
 refine BoolOp_and (thn (ha pins s σ H _ I h) fun v s1 ⟨x,H1,I1,r1,q1⟩=>?_)
 obtain⟨c,rfl,q1⟩:=q1
 cases r1
 refine wpAny_truthy_bool ?_
 cases c with
 | true=>exact hb pins s1 σ H1 Q I1 q1
 | false=>exact⟨.bl false,H1,I1,rfl,q1⟩
theorem XMe (ha:PE X a ta)(hb:PE X (.BoolOp .Or (b::rest) pos) tb):PE X (.BoolOp .Or (a::b::rest) pos) (tOrV ta tb):=by
 intro pins s σ H Q I h
 refine BoolOp_or (thn (ha pins s σ H _ I h) fun v s1 ⟨x,H1,I1,r1,q1⟩=>?_)
 obtain⟨c,rfl,q1⟩:=q1
 cases r1
 refine wpAny_truthy_bool ?_
 cases c with
 | false=>exact hb pins s1 σ H1 Q I1 q1
 | true=>exact⟨.bl true,H1,I1,rfl,q1⟩
theorem Xnn (ha:PE X a ta):PE X (.UnaryOp .Not a pos) (XDj ta):=by
 intro pins s σ H Q I h
 refine UnaryOp_ (thn (ha pins s σ H _ I h) fun v s1 ⟨x,H1,I1,r1,q1⟩=>?_)
 obtain⟨c,rfl,q1⟩:=q1
 cases r1
 exact not_of (wpAny_truthy_bool ⟨.bl (!c),H1,I1,rfl,q1⟩)
end
end L2
namespace L2
open PySem PySem.Spec PyProof.Rows
def SqL (K:PySem.W.Frag)(H:Hp)(a:Addr)(xs:List V):Prop :=
 Rd H a (.lst xs) ∨
   ∃(o:Obj) (its:Array Value) (n:Nat),K.lookup a=some o∧o.cls = .type "list"∧o.dict=none∧o.data = .seq its n∧its.size≤sizeLine∧Vals xs its.toList
def SqT (K:PySem.W.Frag)(H:Hp)(a:Addr)(xs:List V):Prop :=
 Rd H a (.tup xs) ∨
   ∃(o:Obj) (its:Array Value) (n:Nat),K.lookup a=some o∧o.cls = .type "tuple"∧o.data = .seq its n∧its.size≤sizeLine∧Vals xs its.toList
def absV:Value→Option V
 | .none=>some .non
 | .bool b=>some (.bl b)
 | .int i _=>some (.int i)
 | .str x _=>some (.str x)
 | .bytes b _=>some (.byt b)
 | .float b _=>some (.flt b)
 | .ref a=>some (.ref a)
 | .type n=>some (.ty n)
 | _=>none
theorem RelV.abs {x:V}{u:Value}(r:RelV x u):absV u=some x:=by
 cases x with
 | non=>cases r;rfl
 | bl _=>cases r;rfl
 | int _=>obtain⟨t,rfl⟩:=r;rfl
 | str _=>obtain⟨t,rfl⟩:=r;rfl
 | byt _=>obtain⟨t,rfl⟩:=r;rfl
 | flt _=>obtain⟨t,rfl⟩:=r;rfl
 | ref _=>cases r;rfl
 | ty _=>cases r;rfl
theorem RelV.inj {x y:V}{u:Value}(r:RelV x u)(q:RelV y u):x=y:=Option.some.inj (r.abs.symm.trans q.abs)
theorem Vals.inj:∀{xs ys:List V} {us:List Value},Vals xs us→Vals ys us→xs=ys
 | _,_,_,.nil,.nil=>rfl
 | _,_,_,.cons r t,.cons r' t'=>by rw[r.inj r',Vals.inj t t']
section
variable {X:Cx}{pins:List (Addr×Obj)}{σ:St}{H:Hp}{s:Shared}{a:Addr}{xs ys:List V}
theorem SqL.of {K:PySem.W.Frag}(h:H a=some (.lst xs)):SqL K H a xs:=.inl (.inl h)
theorem SqT.of {K:PySem.W.Frag}(h:H a=some (.tup xs)):SqT K H a xs:=.inl (.inl h)
theorem Inv.list (I:Inv X pins σ H s)(h:SqL X.K H a xs):∃its:List Value,Vals xs its∧PlainL s.heap a its.toArray∧xs.length≤sizeLine:=by
 rcases h with h | ⟨o,its,n,hk,hc,hd,hs,hz,r⟩
 · obtain⟨z,its,n,r,e⟩:=h.ok I.hok
   exact⟨its,r,⟨_,n,e,rfl,rfl,rfl⟩,z⟩
 · refine⟨its.toList,r,⟨o,n,I.kIn a o hk,hc,hd,by simpa using hs⟩,?_⟩
   have e:=r.length
   simp only [Array.length_toList] at e
   omega
theorem Inv.tuple (I:Inv X pins σ H s)(h:SqT X.K H a xs):∃its:List Value,Vals xs its∧IsTup s.heap a its.toArray∧xs.length≤sizeLine:=by
 rcases h with h | ⟨o,its,n,hk,hc,hs,hz,r⟩
 · obtain⟨z,its,r,p⟩:=h.ok I.hok
   exact⟨its,r,p,z⟩
 · refine⟨its.toList,r,⟨o,I.kIn a o hk,hc,n,by simpa using hs⟩,?_⟩
   have e:=r.length
   simp only [Array.length_toList] at e
   omega
theorem Inv.list_inj (I:Inv X pins σ H s)(h:SqL X.K H a xs)(h':SqL X.K H a ys):xs=ys:=by
 obtain⟨its,r,⟨o,n,e,_,_,d⟩,_⟩:=I.list h
 obtain⟨its',r',⟨o',n',e',_,_,d'⟩,_⟩:=I.list h'
 rw[e] at e';cases e'
 rw[d] at d'
 injection d' with d1 _
 have:its=its':=by simpa using congrArg Array.toList d1
 subst this
 exact r.inj r'
end
abbrev Cx.wish (X:Cx)(E:Value→Shared→Prop):Cx:={ X with xe:=E }
abbrev Cx.nox (X:Cx):Cx:=X.wish fun _ _=>False
theorem Cx.Ok.wish {X:Cx}(ok:X.Ok)(E:Value→Shared→Prop):(X.wish E).Ok :=
 ⟨ok.mod,ok.kind,ok.glob,ok.blt,ok.above,ok.inj,ok.has,ok.cab,ok.hd,ok.frames,ok.stk,ok.exf,ok.bs,ok.bsz,ok.noex,ok.exfs,ok.funs,ok.frf⟩
theorem Cx.Ok.unwish {X:Cx}{E:Value→Shared→Prop}(ok:(X.wish E).Ok):X.Ok :=
 ⟨ok.mod,ok.kind,ok.glob,ok.blt,ok.above,ok.inj,ok.has,ok.cab,ok.hd,ok.frames,ok.stk,ok.exf,ok.bs,ok.bsz,ok.noex,ok.exfs,ok.funs,ok.frf⟩
section
variable {X:Cx}{pins:List (Addr×Obj)}{σ:St}{H:Hp}{s:Shared}{E:Value→Shared→Prop}
theorem Inv.wish (I:Inv X pins σ H s)(E:Value→Shared→Prop):Inv (X.wish E) pins σ H s:=⟨I.ok.wish E,I.os,I.bare,I.base,I.loc,I.cell,I.free,I.freeC,I.pin,I.hok,I.len⟩
theorem Inv.unwish (I:Inv (X.wish E) pins σ H s):Inv X pins σ H s:=⟨I.ok.unwish,I.os,I.bare,I.base,I.loc,I.cell,I.free,I.freeC,I.pin,I.hok,I.len⟩
theorem SP.unwish {D:Ends}{f:Flow}{s':Shared}(h:SP (X.wish E) pins D f s'):SP X pins D f s':=by
 cases f with
 | next=>obtain⟨σ',H',I,q⟩:=h;exact⟨σ',H',I.unwish,q⟩
 | brk=>obtain⟨σ',H',I,q⟩:=h;exact⟨σ',H',I.unwish,q⟩
 | cont=>obtain⟨σ',H',I,q⟩:=h;exact⟨σ',H',I.unwish,q⟩
 | ret u=>obtain⟨v,σ',H',I,r,q⟩:=h;exact⟨v,σ',H',I.unwish,r,q⟩
theorem PE.nox {e:Expr}{t:TE}(h:PE X.nox e t):PE X e t:=fun pins s σ H Q I hw =>
 wpAny_mono (h pins s σ H Q (I.wish _) hw) (fun _ _ ⟨v,H',I',r,q⟩=>⟨v,H',I'.unwish,r,q⟩) fun _ _ z=>False.elim z
theorem PT.nox {e:Expr}{t:TT}(h:PT X.nox e t):PT X e t:=fun pins s σ H Q I hw =>
 wpAny_mono (h pins s σ H Q (I.wish _) hw) (fun _ _ ⟨H',I',q⟩=>⟨H',I'.unwish,q⟩) fun _ _ z=>False.elim z
theorem PSs.nox {st:List Stmt}{t:TS}(h:PSs X.nox st t):PSs X st t:=fun pins s σ H D I hw =>
 wpAny_mono (h pins s σ H D (I.wish _) hw) (fun _ _ q=>q.unwish) fun _ _ z=>False.elim z
end
section
variable {X:Cx}{st:Stmt}{rest:List Stmt}{t u:TS}{e:Expr}{te:TE}{pos:Pos}
def XGo:TS:=fun D σ H=>D.nx σ H
def tSeq (t u:TS):TS:=fun D σ H=>t { D with nx:=u D } σ H
theorem Xal:PSs X [] XGo:=fun _ _ σ H _ I h=>wpAny_execs_nil ⟨σ,H,I,h⟩
theorem Xab (h1:PS X st t)(h2:PSs X rest u):PSs X (st::rest) (tSeq t u):=by
 intro pins s σ H D I h
 refine wpAny_execs_cons (thn (h1 pins s σ H { D with nx:=u D } I h) fun f s1 q=>?_)
 cases f with
 | next =>
   obtain⟨σ',H',I',q⟩:=q
   exact h2 pins s1 σ' H' D I' q
 | ret v=>exact q
 | brk=>exact q
 | cont=>exact q
theorem Xac (h1:PS X st t):PSs X [st] t:=by
 intro pins s σ H D I h
 refine wpAny_execs_cons (thn (h1 pins s σ H D I h) fun f s1 q=>?_)
 cases f with
 | next=>exact wpAny_execs_nil q
 | ret v=>exact q
 | brk=>exact q
 | cont=>exact q
theorem Inv.quiet {pins:List (Addr×Obj)}{σ:St}{H:Hp}{s:Shared}(I:Inv X pins σ H s):interactive X.env=false:=by simp [interactive,I.ok.kind]
def XEl (te:TE):TS:=fun D σ H=>te σ H fun _ H1=>D.nx σ H1
theorem Xbw (he:PE X e te)(hs:swapsWith e none pos.line X.env=pure false:=by rfl):PS X (.Expr e pos) (XEl te):=by
 intro pins s σ H D I h
 exact wpAny_Expr_any (thn (he pins s σ H _ I h) fun v s1 ⟨x,H1,I1,r1,q1⟩=>⟨σ,H1,I1,q1⟩) I.quiet hs
def tRet (te:TE):TS:=fun D σ H=>te σ H D.rt
theorem Xai (he:PE X e te):PS X (.Return (some e) pos) (tRet te):=by
 intro pins s σ H D I h
 exact wpAny_Return_some (thn (he pins s σ H _ I h) fun v s1 ⟨x,H1,I1,r1,q1⟩=>⟨x,σ,H1,I1,r1,q1⟩)
def tIfS (c:TT)(t u:TS):TS:=fun D σ H=>c σ H fun b H1=>if b=true then t D σ H1 else u D σ H1
theorem Xbc {c:Expr}{a b:List Stmt}{tc:TT}(hc:PT X c tc)(ha:PSs X a t)(hb:PSs X b u):PS X (.If c a b pos) (tIfS tc t u):=by
 intro pins s σ H D I h
 refine wpAny_If (thn (hc pins s σ H _ I h) fun d s1 ⟨H1,I1,q1⟩=>?_)
 cases d with
 | true=>exact ha pins s1 σ H1 D I1 q1
 | false=>exact hb pins s1 σ H1 D I1 q1
def XGa:TS:=fun _ _ _=>False
theorem Xge:PS X st XGa:=fun _ _ _ _ _ _ h=>h.elim
end
abbrev TG:=V→St→Hp→(St→Hp→Prop)→Prop
abbrev TGs:=List V→St→Hp→(St→Hp→Prop)→Prop
def PG (X:Cx)(target:Expr)(t:TG):Prop :=
 ∀(pins:List (Addr×Obj)) (s:Shared) (σ:St) (H:Hp) (v:V) (u:Value) (Q:St→Hp→Prop),Inv X pins σ H s→RelV v u→t v σ H Q →
   wpAny (model X.prog X.w) X.A (assign target X.env u) (fun _ s'=>∃σ' H',Inv X pins σ' H' s'∧Q σ' H') X.xe s
def PGs (X:Cx)(ts:List Expr)(t:TGs):Prop :=
 ∀(pins:List (Addr×Obj)) (s:Shared) (σ:St) (H:Hp) (vs:List V) (us:List Value) (Q:St→Hp→Prop),Inv X pins σ H s→Vals vs us→t vs σ H Q →
   wpAny (model X.prog X.w) X.A (assignInOrder ((assignEach ts X.env).map (·.2)) us) (fun _ s'=>∃σ' H',Inv X pins σ' H' s'∧Q σ' H') X.xe s
abbrev TSet:=V→V→V→Hp→(Hp→Prop)→Prop
def PSet (X:Cx)(t:TSet):Prop :=
 ∀(pins:List (Addr×Obj)) (s:Shared) (σ:St) (H:Hp) (o i v:V) (ov iv u:Value) (Q:Hp→Prop),Inv X pins σ H s→RelV o ov→RelV i iv→RelV v u→t o i v H Q →
   wpAny (model X.prog X.w) X.A (setItem ov iv u) (fun _ s'=>∃H',Inv X pins σ H' s'∧Q H') X.xe s
section
variable {X:Cx}{pos:Pos}
def Xoc (i:Nat):TG:=fun v σ H Q=>Q (σ.set i (some v)) H
theorem Xau {i:Nat}{x:Str}(hN:X.N.Nodup)(hi:X.N[i]?=some x)(hx:Loc X.env.scope x)(hf:X.fn x=true∨X.env.scope.names.lookup x=some .local:=by first | exact .inl rfl | exact .inr rfl | assumption):PG X (.Name x pos) (Xoc i):=by
 intro pins s σ H v u Q I r h
 exact wpAny_assign_Name (Xit I hN hi hx r (fun s' I'=>⟨_,H,I',h⟩) hf)
def gNil:TGs:=fun vs σ H Q=>vs=[]∧Q σ H
def XDx (t:TG)(u:TGs):TGs:=fun vs σ H Q=>∃v r,vs=v::r∧t v σ H fun σ' H'=>u r σ' H' Q
theorem Xfu:PGs X [] gNil:=by
 intro pins s σ H vs us Q I r h
 obtain⟨e,h⟩:=h
 subst e
 cases r
 exact assignInOrder_nil ⟨σ,H,I,h⟩
theorem Xbj {e:Expr}{es:List Expr}{t:TG}{u:TGs}(h1:PG X e t)(h2:PGs X es u)
   (hs:(assignEach (e::es) X.env).map (·.2)=assign e X.env::(assignEach es X.env).map (·.2):=by rfl):PGs X (e::es) (XDx t u):=by
 intro pins s σ H vs us Q I r h
 obtain⟨v,vr,e1,h⟩:=h
 subst e1
 cases r with
 | cons r rr =>
   rw[hs]
   refine assignInOrder_cons (thn (h1 pins s σ H _ _ _ I r h) fun _ s1 ⟨σ1,H1,I1,q1⟩=>?_)
   exact h2 pins s1 σ1 H1 _ _ Q I1 rr q1
def gTup (K:PySem.W.Frag)(n:Nat)(t:TGs):TG:=fun v σ H Q=>∃a xs,v = .ref a∧SqT K H a xs∧xs.length=n∧t xs σ H Q
theorem Xmx {es:List Expr}{k:Nat}{t:TGs}{n:Nat}(hc:X.calm=true)(h:PGs X es t)
   (hn:(assignEach es X.env).length=n:=by rfl) (hst:(assignEach es X.env).findIdx? (·.1)=none:=by rfl):PG X (.Tuple es k pos) (gTup X.K n t):=by
 intro pins s σ H v u Q I r hw
 obtain⟨a,xs,e1,hq,hl,hw⟩:=hw
 subst e1
 cases r
 obtain⟨its,rv,ht,hz⟩:=I.tuple hq
 refine assign_Tuple_tuple (I.ok.hd hc) ht (by simp [hn,←hl,rv.length]) hst fun h' hx=>?_
 have I1:Inv X pins σ H { s with heap:=h' }:=I.kept (t':=s.toks) fun b o e=>hx b o (Nat.ne_of_lt (Heap.lt_size e)) e
 exact h pins _ σ H xs _ Q I1 (by simpa using rv) hw
def gSub (to ti:TE)(t:TSet):TG:=fun v σ H Q=>to σ H fun o H1=>ti σ H1 fun i H2=>t o i v H2 fun H3=>Q σ H3
theorem Xkt {o i:Expr}{to ti:TE}{t:TSet}(ho:PE X o to)(hi:PE X i ti)(hs:PSet X t)
   (ha:∀v,assign (.Subscript o i pos) X.env v=(do
     let ov ←holding [v] (eval o X.env)
     let iv ←holding [v,ov] (eval i X.env)
     standAt pos
     holding [v,ov,iv] (setItem ov iv v)
     release [v,ov,iv] []):=by intro _;rfl):PG X (.Subscript o i pos) (gSub to ti t):=by
 intro pins s σ H v u Q I r h
 rw[ha]
 refine wpAny_bind (wpAny_holding (thn (ho pins s σ H _ I h) fun ov s1 ⟨x,H1,I1,r1,q1⟩=>?_))
 refine wpAny_bind (wpAny_holding (thn (hi pins s1 σ H1 _ I1 q1) fun iv s2 ⟨y,H2,I2,r2,q2⟩=>?_))
 refine wpAny_bind (wpAny_standAt (wpAny_bind (wpAny_holding (thn (hs pins s2 σ H2 x y v ov iv u _ I2 r1 r2 r q2) fun _ s3 ⟨H3,I3,q3⟩=>?_))))
 exact wpAny_release ⟨σ,H3,I3,q3⟩
def tAsg (te:TE)(g:TG):TS:=fun D σ H=>te σ H fun x H1=>g x σ H1 D.nx
theorem Xhx {tg e:Expr}{te:TE}{g:TG}(he:PE X e te)(hg:PG X tg g)(hs:swapsWithSole [tg] e pos.line X.env=pure false:=by rfl)(hw:swappedStores [tg] e X.env=pure none:=by rfl)
   (h1:(assignEach [tg] X.env).map (·.2)=[assign tg X.env]:=by rfl):PS X (.Assign [tg] e pos) (tAsg te g):=by
 intro pins s σ H D I h
 refine wpAny_Assign_stores (thn (he pins s σ H _ I h) fun v s1 ⟨x,H1,I1,r1,q1⟩=>?_) hs hw
 rw[h1]
 exact thn (hg pins s1 σ H1 x v _ I1 r1 q1) fun _ s2 q=>q
theorem Xao {i:Nat}{x:Str}{e:Expr}{te:TE}{pos':Pos}(hN:X.N.Nodup)(hi:X.N[i]?=some x)(hx:Loc X.env.scope x)(he:PE X e te)(hs:swapsWith e (some (.Name x pos')) pos.line X.env=pure false:=by rfl)(hf:X.fn x=true∨X.env.scope.names.lookup x=some .local:=by first | exact .inl rfl | exact .inr rfl | assumption) :
   PS X (.Assign [.Name x pos'] e pos) (tAsg te (Xoc i)):=by
 intro pins s σ H D I h
 refine wpAny_Assign_Name (thn (he pins s σ H _ I h) fun v s1 ⟨y,H1,I1,r1,q1⟩=>?_) hs
 exact Xit I1 hN hi hx r1 (fun s2 I2=>⟨_,H1,I2,q1⟩) hf
end
section
variable {X:Cx}{pos:Pos}
def XEd (c:TT)(tb:TS):TS:=fun D σ H=>∃W:Nat→St→Hp→Prop,(∃m,W m σ H)∧∀m σ H,W m σ H →
 c σ H fun b H1=>if b=true then ∃N:St→Hp→Prop,(∀σ' H',N σ' H'→∃m',m'<m∧W m' σ' H')∧tb { D with nx:=N,ct:=N,bk:=D.nx } σ H1 else D.nx σ H1
theorem Xnc {c:Expr}{body:List Stmt}{tc:TT}{tb:TS}(hp:PassesOwn (model X.prog X.w) X.A X.env X.xe)(hc:PT X c tc)(hb:PSs X body tb):PS X (.While c body [] pos) (XEd tc tb):=by
 intro pins s σ H D I h
 obtain⟨W,⟨m0,w0⟩,turn⟩:=h
 refine wpAny_While (codeAny_whileLoop (fun n s'=>∃σ' H',Inv X pins σ' H' s'∧W n σ' H') ?_ m0 ⟨σ,H,I,w0⟩)
 rintro n s1 ⟨σ1,H1,I1,w1⟩
 refine wpAny_passesOwn hp (thn (hc pins s1 σ1 H1 _ I1 (turn n σ1 H1 w1)) fun b s2 ⟨H2,I2,q2⟩=>?_)
 cases b with
 | true =>
   obtain⟨N,hN,q2⟩:=q2
   rw[if_pos rfl]
   refine wpAny_passesOwn hp (thn (hb pins s2 σ1 H2 _ I2 q2) fun f s3 q3=>?_)
   cases f with
   | next =>
     obtain⟨σ3,H3,I3,n3⟩:=q3
     obtain⟨m',hm,w3⟩:=hN σ3 H3 n3
     exact⟨m',hm,σ3,H3,I3,w3⟩
   | cont =>
     obtain⟨σ3,H3,I3,n3⟩:=q3
     obtain⟨m',hm,w3⟩:=hN σ3 H3 n3
     exact⟨m',hm,σ3,H3,I3,w3⟩
   | brk=>exact q3
   | ret v=>exact q3
 | false =>
   rw[if_neg Bool.false_ne_true]
   exact wpAny_execs_nil ⟨σ1,H2,I2,q2⟩
end
structure It where
 go:Nat→Hp→Prop
 yld:Nat→Hp→V→Hp→Prop
 stop:Nat→Hp→Prop
def FpOk (X:Cx)(pins:List (Addr×Obj))(H:Hp)(b:Addr):Prop :=
 H b=none∧b≠X.env.locals∧b ∉ X.fs∧(b∈X.ex∨X.s₀.heap.objs.size≤b)∧(∀x c,X.env.cells.lookup x=some c→c≠b)∧∀p∈X.pn++pins,p.1≠b
theorem Inv.fpOk {X:Cx}{pins:List (Addr×Obj)}{σ:St}{H H':Hp}{s:Shared}{b:Addr}(I:Inv X pins σ H s)(hb:s.heap.objs.size≤b)(hn:H' b=none):FpOk X pins H' b:=by
 refine⟨hn,Nat.ne_of_gt (Nat.lt_of_lt_of_le I.lt hb),I.nofs hb,.inr (Nat.le_trans I.sz hb),fun x c e z=>?_,fun p hp z=>?_⟩
 · obtain⟨v,q⟩:=I.cell x c e
   exact absurd (Nat.lt_of_lt_of_le q.lt (by rw[z];exact hb)) (Nat.lt_irrefl _)
 · exact absurd (Nat.lt_of_lt_of_le (Heap.lt_size (I.pin p hp).1) (by rw[z];exact hb)) (Nat.lt_irrefl _)
structure Turn (P:Program)(w:World)(K:PySem.W.Frag)(tg:Expr)(J:It)(fp:List Addr)(it:Addr)(tn:Nat→Heap→Prop):Prop where
 mem:it∈fp
 obj:∀i h,tn i h→∀b∈fp,∃o,h.get? b=some o∧∀v,o.data≠.cell v
 keep:∀i h h',tn i h→(∀b∈fp,∀o,h.get? b=some o→h'.get? b=some o)→tn i h'
 item:∀(X:Cx),X.prog=P→X.w=w→X.K=K→X.calm=true→∀(i:Nat) (pins:List (Addr×Obj)) (s:Shared) (σ:St) (H:Hp) (E:Value→Shared→Prop),Inv X pins σ H s→(∀b∈fp,FpOk X pins H b)→tn i s.heap→J.go i H →
   wpAny (model P w) X.A (pyNext (.ref it)) (fun r s1=>∃u,r=some u ∧
     wpAny (model P w) X.A (letOwnedTupleGo tg (.ref it) u) (fun _ s2=>∃x H',Inv X pins σ H' s2∧RelV x u∧J.yld i H x H'∧tn (i+1) s2.heap∧∀b∈fp,H' b=none) E s1) E s
 done:∀(X:Cx),X.prog=P→X.w=w→X.K=K→X.calm=true→∀(i:Nat) (pins:List (Addr×Obj)) (s:Shared) (σ:St) (H:Hp) (E:Value→Shared→Prop),Inv X pins σ H s→(∀b∈fp,FpOk X pins H b)→tn i s.heap→J.stop i H →
   wpAny (model P w) X.A (pyNext (.ref it)) (fun r s1=>r=none∧Inv X pins σ H s1) E s
 self:∀(A:Around) (i:Nat) (s:Shared) (Q:Value→Shared→Prop) (E:Value→Shared→Prop),tn i s.heap→Q (.ref it) s→wpAny (model P w) A (pyIter (.ref it)) Q E s
abbrev TI:=St→Hp→(It→Hp→Prop)→Prop
def PIE (X:Cx)(pins:List (Addr×Obj))(σ:St)(tg:Expr)(R:It→Hp→Prop)(itv:Value)(s2:Shared):Prop :=
 ∃(it:Addr) (fp:List Addr) (tn:Nat→Heap→Prop) (J:It) (H':Hp),itv = .ref it∧Inv X pins σ H' s2∧Turn X.prog X.w X.K tg J fp it tn∧tn 0 s2.heap∧(∀b∈fp,FpOk X pins H' b)∧R J H'
def PI (X:Cx)(tg iter:Expr)(wi:TI):Prop :=
 ∀(pins:List (Addr×Obj)) (s:Shared) (σ:St) (H:Hp) (R:It→Hp→Prop),Inv X pins σ H s→wi σ H R →
   wpAny (model X.prog X.w) X.A (eval iter X.env) (fun v s1=>wpAny (model X.prog X.w) X.A (pyIter v) (PIE X pins σ tg R) X.xe s1) X.xe s
theorem Xuu {M:Model}{A:Around}{E:Value→Shared→Prop}{s:Shared}{tg:Expr}{it:Addr}{u:Value}{o:Obj}{n:String}{vs:Array Value}{Q:Unit→Shared→Prop}(ho:s.heap.get? it=some o)(hc:o.cls = .type n)(hd:o.data = .fields vs)
   (hn:["enumerate","zip","dict_itemiterator","dict_reverseitemiterator","odict_iterator","itertools.zip_longest","itertools.pairwise"].contains n=false) (hQ:Q () s):wpAny M A (letOwnedTupleGo tg (.ref it) u) Q E s:=by
 unfold letOwnedTupleGo
 cases tg <;> first
   | exact wpAny_pure hQ
   | (cases u <;> first
       | exact wpAny_pure hQ
       | (refine wpAny_bind (wpAny_load ho ?_)
          rw[hc,hd]
          show wpAny M A (if (["enumerate","zip","dict_itemiterator","dict_reverseitemiterator","odict_iterator","itertools.zip_longest","itertools.pairwise"].contains n&&vs[0]?==some (rawInt _))=true then _ else _) Q E s
          rw[if_neg (by intro h;rw[hn,Bool.false_and] at h;cases h)]
          exact wpAny_pure hQ))
def Itl (K:PySem.W.Frag)(a:Addr):It :=
 ⟨fun i H=>∃xs x,SqL K H a xs∧xs[i]?=some x,fun i H x H'=>H'=H∧∀xs,SqL K H a xs→xs[i]?=some x,fun i H=>∃xs,SqL K H a xs∧xs.length≤i⟩
def Itr (lo:Int)(n:Nat):It:=⟨fun i _=>i<n,fun i H x H'=>H'=H∧x = .int (lo+i),fun i _=>n≤i⟩
theorem Xpw {P:Program}{w:World}{K:PySem.W.Frag}{tg:Expr}(a it:Addr):Turn P w K tg (Itl K a) [it] it (fun i h=>h.IsListIter it a i) where
 mem:=by simp
 obj:=fun i h st b hb=>by
   have e:b=it:=by simpa using hb
   subst e
   obtain⟨o,e,c,d⟩:=st
   exact⟨o,e,fun v z=>by rw[d] at z;cases z⟩
 keep:=fun i h h' st k=>st.at fun o e=>k it (by simp) o e
 item:=by
   intro X hP hw hK hc i pins s σ H E I hf st hg
   subst hP hw hK
   obtain⟨xs,x,hq,hx⟩:=hg
   obtain⟨its,rv,p,hz⟩:=I.list hq
   obtain⟨u,hu,ru⟩:=rv.get hx
   obtain⟨f0,f1,f2,f3,f4,f5⟩:=hf it (by simp)
   refine wpAny_pyNext_list_item st p.isList (x:=u) (by simpa using hu) fun h' st' sb=>?_
   have I1:Inv X pins σ H { s with heap:=h' }:=I.turned (t':=s.toks) (fun b o hb e=>(sb.2 b hb).trans e) f0 f1 f3 f4 f5
   obtain⟨o,e,c,d⟩:=id st'
   exact⟨u,rfl,Xuu (s:={ s with heap:=h' }) e c d (by decide) ⟨x,H,I1,ru,⟨rfl,fun ys hy=>by rw[I.list_inj hy hq];exact hx⟩,st',fun b hb=>(hf b hb).1⟩⟩
 done:=by
   intro X hP hw hK hc i pins s σ H E I hf st hg
   subst hP hw hK
   obtain⟨xs,hq,hx⟩:=hg
   obtain⟨its,rv,p,hz⟩:=I.list hq
   obtain⟨f0,f1,f2,f3,f4,f5⟩:=hf it (by simp)
   have hl:=rv.length
   exact wpAny_pyNext_list_end (I.ok.hd hc) st p.isList (by simp;omega) fun h' eb=>⟨rfl,I.turned (t':=s.toks) (fun b o hb e=>eb b o hb e) f0 f1 f3 f4 f5⟩
 self:=fun _ _ _ _ _ st h=>wpAny_pyIter_listiter st h
theorem Xnx {P:Program}{w:World}{K:PySem.W.Frag}{tg:Expr}(it:Addr)(lo:Int)(n:Nat):Turn P w K tg (Itr lo n) [it] it (fun i h=>IsRangeIter h it (lo+(i:Nat)*1) ((n:Int)-(i:Nat)) 1) where
 mem:=by simp
 obj:=fun i h st b hb=>by
   have e:b=it:=by simpa using hb
   subst e
   exact⟨_,st,fun v z=>by
     have z':Data.fields _=Data.cell v:=z
     cases z'⟩
 keep:=fun i h h' st k=>k it (by simp) _ st
 item:=by
   intro X hP hw hK hc i pins s σ H E I hf st hg
   subst hP hw hK
   obtain⟨f0,f1,f2,f3,f4,f5⟩:=hf it (by simp)
   have W:=Walks.range (prog:=X.prog) (w:=X.w) (I.ok.hd hc) it lo 1 n
   refine W.item i s _ _ hg st fun v h' tk hv st' kk=>?_
   obtain⟨t,rfl⟩:=hv
   have I1:Inv X pins σ H { s with heap:=h',toks:=tk }:=I.turned (fun b o hb e=>kk b o (by simpa using hb) e) f0 f1 f3 f4 f5
   refine⟨_,rfl,Xuu (s:={ s with heap:=h',toks:=tk }) (n:="range_iterator") st' rfl rfl (by decide) ⟨.int (lo+i),H,I1,⟨t,?_⟩,⟨rfl,rfl⟩,st',fun b hb=>(hf b hb).1⟩⟩
   rw[Int.mul_one]
 done:=by
   intro X hP hw hK hc i pins s σ H E I hf st hg
   subst hP hw hK
   obtain⟨f0,f1,f2,f3,f4,f5⟩:=hf it (by simp)
   exact wpAny_pyNext_range_end (I.ok.hd hc) st (by have:n≤i:=hg;omega) fun h' eb=>⟨rfl,I.turned (t':=s.toks) (fun b o hb e=>eb b o hb e) f0 f1 f3 f4 f5⟩
 self:=fun _ _ _ _ _ st h=>wpAny_pyIter_rangeiter st h
end L2
namespace L2
open PySem PySem.Spec PyProof.Rows
section
variable {X:Cx}{tg:Expr}
def XIe (K:PySem.W.Frag)(tl:TE):TI:=fun σ H R=>tl σ H fun x H1=>∃a,x = .ref a∧(∃xs,SqL K H1 a xs)∧R (Itl K a) H1
theorem Xct {l:Expr}{tl:TE}(hl:PE X l tl):PI X tg l (XIe X.K tl):=by
 intro pins s σ H R I h
 refine thn (hl pins s σ H _ I h) fun v s1 ⟨x,H1,I1,r1,q1⟩=>?_
 obtain⟨a,e,⟨xs,hq⟩,q⟩:=q1
 subst e
 cases r1
 obtain⟨its,rv,p,hz⟩:=I1.list hq
 refine wpAny_pyIter_list p.isList ?_
 refine⟨s1.heap.objs.size,[s1.heap.objs.size],_,_,H1,rfl,I1.kept (t':=s1.toks) fun b o e=>Heap.get?_push_of_some _ e,Xpw a _,⟨_,Heap.get?_push_size _ rfl,rfl,rfl⟩,fun b hb=>?_,q⟩
 have e:b=s1.heap.objs.size:=by simpa using hb
 subst e
 exact I1.fpOk (Nat.le_refl _) (I1.hok.fresh (Nat.le_refl _))
theorem Xvg {pins:List (Addr×Obj)}{σ:St}{H:Hp}{s:Shared}{R:It→Hp→Prop}{E:Value→Shared→Prop}{lo hi:Int}{t u v:Tok}{tk:Nat}(I:Inv X pins σ H s)(h1 : -(2^62)≤lo)(h2:lo<2^62)(h3 : -(2^62)≤hi)(h4:hi<2^62)
   (q:R (Itr lo (hi-lo).toNat) H):wpAny (model X.prog X.w) X.A (pyIter (.ref s.heap.objs.size)) (PIE X pins σ tg R) E { s with heap:=s.heap.push { cls:=.type "range",data:=.fields #[.int lo t,.int hi u,.int 1 v] },toks:=tk }:=by
 refine wpAny_pyIter_range (IsRange.new ..) (small_one h1 h2 h3 h4) ?_
 have I1:Inv X pins σ H { s with heap:=s.heap.push { cls:=.type "range",data:=.fields #[.int lo t,.int hi u,.int 1 v] },toks:=tk }:=I.kept fun b o e=>Heap.get?_push_of_some _ e
 refine⟨(s.heap.push { cls:=.type "range",data:=.fields #[.int lo t,.int hi u,.int 1 v] }).objs.size,[(s.heap.push { cls:=.type "range",data:=.fields #[.int lo t,.int hi u,.int 1 v] }).objs.size],_,_,H,rfl,
   I1.kept (t':=tk) fun b o e=>Heap.get?_push_of_some _ e,Xnx _ lo (hi-lo).toNat,?_,fun b hb=>?_,q⟩
 · have e1:lo+((0:Nat):Int)*1=lo:=by simp
   have e2:(((hi-lo).toNat:Nat):Int)-((0:Nat):Int)=Builtin.Range.rangeSize lo hi 1:=by rw[rangeSize_one];split <;> omega
   show IsRangeIter _ _ (lo+((0:Nat):Int)*1) ((((hi-lo).toNat:Nat):Int)-((0:Nat):Int)) 1
   rw[e1,e2]
   exact Heap.get?_push_size _ rfl
 · have e:b=(s.heap.push { cls:=.type "range",data:=.fields #[.int lo t,.int hi u,.int 1 v] }).objs.size:=by simpa using hb
   subst e
   exact I1.fpOk (Nat.le_refl _) (I1.hok.fresh (Nat.le_refl _))
def XGx (ta:TA):TI:=fun σ H R=>ta σ H fun vs H1=>∃j:Int,vs=[.int j]∧-(2^62)≤j∧j<2^62∧R (Itr 0 j.toNat) H1
theorem Xpt {a:Expr}{ta:TA}{p pos:Pos}(hg:Gl X "range")(hm:X.mg "range"=none)(ha:PA X [a] ta)(hs:starEach [a] X.env=[(false,eval a X.env)]:=by rfl):PI X tg (.Call (.Name "range" p) [a] [] pos) (XGx ta):=by
 intro pins s σ H R I h
 refine Call_ (Xjq I hg hm boot_range (PyProof.Rows.callWith_type1 (thn (ha pos pins s σ H _ I h) fun us s1 ⟨vs,H1,I1,r1,q1⟩=>?_) hs rfl))
 obtain⟨j,e,q1,q2,q⟩:=q1
 subst e
 cases r1 with
 | cons r rr =>
   cases rr
   obtain⟨t,rfl⟩:=r
   exact call_range_1 (Xvg I1 (by omega) (by omega) q1 q2 (by simpa using q))
def tFor (wi:TI)(g:TG)(tb:TS):TS:=fun D σ H=>wi σ H fun J H1=>∃W:Nat→Nat→St→Hp→Prop,(∃m,W 0 m σ H1)∧∀i m σ H,W i m σ H →
 (J.stop i H∧D.nx σ H)∨(J.go i H∧∃N:St→Hp→Prop,(∀σ' H',N σ' H'→∃m',m'<m∧W (i+1) m' σ' H')∧∀x H',J.yld i H x H'→g x σ H' fun σ2 H2=>tb { D with nx:=N,ct:=N,bk:=D.nx } σ2 H2)
def Xks (fp:List Addr)(h:Heap):List (Addr×Obj):=fp.filterMap fun b=>(h.get? b).map fun o=>(b,o)
theorem Xen {fp:List Addr}{h:Heap}{b:Addr}{o:Obj}(hb:b∈fp)(e:h.get? b=some o):(b,o)∈Xks fp h:=List.mem_filterMap.mpr ⟨b,hb,by rw[e];rfl⟩
theorem Xov {fp:List Addr}{h:Heap}{p:Addr×Obj}(hp:p∈Xks fp h):p.1∈fp∧h.get? p.1=some p.2:=by
 obtain⟨b,hb,e⟩:=List.mem_filterMap.mp hp
 cases q:h.get? b with
 | none=>rw[q] at e;cases e
 | some o =>
   rw[q] at e
   have e':(b,o)=p:=Option.some.inj e
   subst e'
   exact⟨hb,q⟩
theorem Inv.pinned {pins:List (Addr×Obj)}{σ:St}{H:Hp}{s:Shared}{fp:List Addr}(I:Inv X pins σ H s)(hf:∀b∈fp,FpOk X pins H b)(ho:∀b∈fp,∃o,s.heap.get? b=some o∧∀v,o.data≠.cell v):Inv X (pins++Xks fp s.heap) σ H s :=
 I.pins_of fun p hp=>(List.mem_append.mp hp).elim (fun z=>I.pin p (List.mem_append_right _ z)) fun z=>by
   obtain⟨hb,e⟩:=Xov z
   obtain⟨f0,f1,f2,_⟩:=hf p.1 hb
   obtain⟨o,e',d⟩:=ho p.1 hb
   rw[e] at e';cases e'
   exact⟨e,f0,f1,f2,d⟩
theorem Inv.unpinned {pins pl:List (Addr×Obj)}{σ:St}{H:Hp}{s:Shared}(I:Inv X (pins++pl) σ H s):Inv X pins σ H s:=I.pins_of fun p hp=>I.pin p (List.mem_append_right _ (List.mem_append_left _ hp))
theorem ps_for {iter:Expr}{body:List Stmt}{wi:TI}{g:TG}{tb:TS}{pos:Pos}(hp:PassesOwn (model X.prog X.w) X.A X.env X.xe)(hc:X.calm=true)(hi:PI X tg iter wi)(hg:PG X tg g)(hb:PSs X body tb)
   (hs:∀x,foldedSetIterable iter X.env x=pure x:=by intro _;rfl):PS X (.For tg iter body [] pos) (tFor wi g tb):=by
 intro pins s σ H D I h
 refine wpAny_For (thn (hi pins s σ H _ I h) fun v s1 h1=>thn h1 fun itv s2 h2=>?_) hs
 obtain⟨it,fp,tn,J,H2,e,I2,T,st2,f2,W,⟨m0,w0⟩,turn⟩:=h2
 subst e
 -- what stays true of the iterator's objects through the loop
 have stat:∀{H':Hp},(∀b∈fp,H' b=none)→∀b∈fp,FpOk X pins H' b:=fun hn b hb=>⟨hn b hb,(f2 b hb).2⟩
 refine codeAny_forLoop_any (fun n s'=>∃i σ' H',Inv X pins σ' H' s'∧tn i s'.heap∧(∀b∈fp,H' b=none)∧W i n σ' H') ?_ m0 ⟨0,σ,H2,I2,st2,fun b hb=>(f2 b hb).1,w0⟩
 rintro n s3 ⟨i,σ3,H3,I3,st3,fr3,w3⟩
 rcases turn i n σ3 H3 w3 with ⟨stop,qn⟩ | ⟨go,N,hN,step⟩
 · refine wpAny_passesOwn hp (thn (T.done X rfl rfl rfl hc i pins s3 σ3 H3 X.xe I3 (stat fr3) st3 stop) fun r s4 ⟨hr,I4⟩=>?_)
   subst hr
   exact wpAny_execs_nil ⟨σ3,H3,I4,qn⟩
 · refine wpAny_passesOwn hp (thn (T.item X rfl rfl rfl hc i pins s3 σ3 H3 X.xe I3 (stat fr3) st3 go) fun r s4 ⟨u,hr,h4⟩=>?_)
   subst hr
   refine wpAny_passesOwn hp (thn h4 fun _ s5 ⟨x,H5,I5,r5,y5,st5,fr5⟩=>?_)
   have I5':=I5.pinned (stat fr5) (T.obj _ _ st5)
   refine wpAny_passesOwn hp (thn (hg _ s5 σ3 H5 x u _ I5' r5 (step x H5 y5)) fun _ s6 ⟨σ6,H6,I6,q6⟩=>?_)
   refine wpAny_passesOwn hp (thn (hb _ s6 σ6 H6 _ I6 q6) fun f s7 q7=>?_)
   have again:∀{σ7:St} {H7:Hp},Inv X (pins++Xks fp s5.heap) σ7 H7 s7→N σ7 H7→∃m,m<n∧∃i σ' H',Inv X pins σ' H' s7∧tn i s7.heap∧(∀b∈fp,H' b=none)∧W i m σ' H':=fun {σ7 H7} I7 n7=>by
     obtain⟨m',hm,w7⟩:=hN σ7 H7 n7
     refine⟨m',hm,i+1,σ7,H7,I7.unpinned,T.keep _ _ _ st5 fun b hb o e=>(I7.pin (b,o) (List.mem_append_right _ (List.mem_append_right _ (Xen hb e)))).1,fun b hb=>?_,w7⟩
     obtain⟨o,e,d⟩:=T.obj _ _ st5 b hb
     exact(I7.pin (b,o) (List.mem_append_right _ (List.mem_append_right _ (Xen hb e)))).2.1
   cases f with
   | next=>obtain⟨σ7,H7,I7,n7⟩:=q7;exact again I7 n7
   | cont=>obtain⟨σ7,H7,I7,n7⟩:=q7;exact again I7 n7
   | brk=>obtain⟨σ7,H7,I7,q7⟩:=q7;exact⟨σ7,H7,I7.unpinned,q7⟩
   | ret v=>obtain⟨x7,σ7,H7,I7,r7,q7⟩:=q7;exact⟨x7,σ7,H7,I7.unpinned,r7,q7⟩
end
theorem Xiy {K:PySem.W.Frag}{a:Addr}{xs:List V}{g:TG}{tb:TS}{D:Ends}{σ:St}{H:Hp}(Pv:Nat→St→Hp→Prop)(h0:Pv 0 σ H)(hl:∀i σ H,i≤xs.length→Pv i σ H→SqL K H a xs)
   (hs:∀i x σ H,xs[i]?=some x→Pv i σ H→g x σ H fun σ2 H2=>tb { D with nx:=Pv (i+1),ct:=Pv (i+1),bk:=D.nx } σ2 H2) (hd:∀σ H,Pv xs.length σ H→D.nx σ H) :
   ∃W:Nat→Nat→St→Hp→Prop,(∃m,W 0 m σ H)∧∀i m σ H,W i m σ H →
     ((Itl K a).stop i H∧D.nx σ H)∨((Itl K a).go i H∧∃N:St→Hp→Prop,(∀σ' H',N σ' H'→∃m',m'<m∧W (i+1) m' σ' H')∧∀x H',(Itl K a).yld i H x H'→g x σ H' fun σ2 H2=>tb { D with nx:=N,ct:=N,bk:=D.nx } σ2 H2):=by
 refine⟨fun i m σ H=>m=xs.length-i∧i≤xs.length∧Pv i σ H,⟨xs.length,by simp,Nat.zero_le _,h0⟩,?_⟩
 rintro i m σ H ⟨rfl,hi,p⟩
 have q:=hl i σ H hi p
 by_cases hlt:i<xs.length
 · refine .inr ⟨⟨xs,xs[i],q,by simp [hlt]⟩,Pv (i+1),fun σ' H' p'=>⟨xs.length-(i+1),by omega,rfl,hlt,p'⟩,fun x H' y=>?_⟩
   obtain⟨e,y⟩:=y
   subst e
   exact hs i x σ _ (y xs q) p
 · have e:i=xs.length:=by omega
   subst e
   exact .inl ⟨⟨xs,q,Nat.le_refl _⟩,hd σ H p⟩
end L2
namespace L2
open PySem PySem.Spec PyProof.Rows
abbrev R2:=V→V→Hp→VK→Prop
def OpR (X:Cx)(f:Value→Value→Sem Value)(r:R2):Prop :=
 ∀(pins:List (Addr×Obj)) (s:Shared) (σ:St) (H:Hp) (x y:V) (v u:Value) (Q:VK),Inv X pins σ H s→RelV x v→RelV y u→r x y H Q →
   wpAny (model X.prog X.w) X.A (f v u) (EP X pins σ Q) X.xe s
def Xhs (X:Cx)(f:Value)(r:List V→Hp→VK→Prop):Prop :=
 ∀(pins:List (Addr×Obj)) (s:Shared) (σ:St) (H:Hp) (xs:List V) (us:List Value) (Q:VK),Inv X pins σ H s→Vals xs us→r xs H Q →
   wpAny (model X.prog X.w) X.A (call f us) (EP X pins σ Q) X.xe s
def TruR (X:Cx)(r:V→Hp→(Bool→Hp→Prop)→Prop):Prop :=
 ∀(pins:List (Addr×Obj)) (s:Shared) (σ:St) (H:Hp) (x:V) (v:Value) (Q:Bool→Hp→Prop),Inv X pins σ H s→RelV x v→r x H Q →
   wpAny (model X.prog X.w) X.A (truthy v) (TP X pins σ Q) X.xe s
def tOp (r:R2)(ta tb:TE):TE:=fun σ H Q=>ta σ H fun x H1=>tb σ H1 fun y H2=>r x y H2 Q
def rI (C:Int→Int→Prop)(g:Int→Int→V):R2:=fun x y H Q=>∃i j,x = .int i∧y = .int j∧C i j∧Q (g i j) H
def rI0 (g:Int→Int→V):R2:=fun x y H Q=>∃i j,x = .int i∧y = .int j∧Q (g i j) H
section
variable {X:Cx}{a b c:Expr}{ta tb tc:TE}{pos:Pos}
theorem binT (ha:PE X a ta)(hb:PE X b tb){pins:List (Addr×Obj)}{s:Shared}{σ:St}{H:Hp}{R:V→V→Hp→Prop}(I:Inv X pins σ H s)
   (h:ta σ H fun x H1=>tb σ H1 fun y H2=>R x y H2) {Q:Value→Shared→Prop} {f:Value→Value→Sem Value}
   (hf:∀v u s2 x y H2,Inv X pins σ H2 s2→RelV x v→RelV y u→R x y H2→wpAny (model X.prog X.w) X.A (f v u) Q X.xe s2) :
   wpAny (model X.prog X.w) X.A (eval a X.env) (fun v s₁=>wpAny (model X.prog X.w) X.A (eval b X.env) (fun u s₂=>wpAny (model X.prog X.w) X.A (f v u) Q X.xe s₂) X.xe s₁) X.xe s:=by
 refine thn (ha pins s σ H _ I h) fun v s1 ⟨x,H1,I1,r1,q1⟩=>?_
 refine thn (hb pins s1 σ H1 _ I1 q1) fun u s2 ⟨y,H2,I2,r2,q2⟩=>?_
 exact hf v u s2 x y H2 I2 r1 r2 q2
theorem Xan {op:Operator}{r:R2}(ho:OpR X (binaryOp op) r)(ha:PE X a ta)(hb:PE X b tb):PE X (.BinOp a op b pos) (tOp r ta tb):=by
 intro pins s σ H Q I h
 exact wpAny_BinOp (binT ha hb I h fun v u s2 x y H2 I2 rx ry q=>ho pins s2 σ H2 x y v u Q I2 rx ry q)
theorem opI {f:Value→Value→Sem Value}{C:Int→Int→Prop}{g:Int→Int→Int}
   (rule:∀(i j:Int) (t u:Tok) (s:Shared) (Q:Value→Shared→Prop) (E:Value→Shared→Prop),C i j→Q (.int (g i j) s.toks) { s with toks:=s.toks+1 }→wpAny (model X.prog X.w) X.A (f (.int i t) (.int j u)) Q E s) :
   OpR X f (rI C fun i j=>.int (g i j)):=by
 intro pins s σ H x y v u Q I rx ry h
 obtain⟨i,j,rfl,rfl,hc,q⟩:=h
 obtain⟨t,rfl⟩:=rx
 obtain⟨t',rfl⟩:=ry
 exact rule i j t t' s _ _ hc ⟨.int (g i j),H,I.tok _,⟨_,rfl⟩,q⟩
theorem opI0 {f:Value→Value→Sem Value}{g:Int→Int→Int}
   (rule:∀(i j:Int) (t u:Tok) (s:Shared) (Q:Value→Shared→Prop) (E:Value→Shared→Prop),Q (.int (g i j) s.toks) { s with toks:=s.toks+1 }→wpAny (model X.prog X.w) X.A (f (.int i t) (.int j u)) Q E s) :
   OpR X f (rI0 fun i j=>.int (g i j)):=by
 intro pins s σ H x y v u Q I rx ry h
 obtain⟨i,j,rfl,rfl,q⟩:=h
 obtain⟨t,rfl⟩:=rx
 obtain⟨t',rfl⟩:=ry
 exact rule i j t t' s _ _ ⟨.int (g i j),H,I.tok _,⟨_,rfl⟩,q⟩
theorem opB0 {f:Value→Value→Sem Value}{g:Int→Int→Bool}
   (rule:∀(i j:Int) (t u:Tok) (s:Shared) (Q:Value→Shared→Prop) (E:Value→Shared→Prop),Q (.bool (g i j)) s→wpAny (model X.prog X.w) X.A (f (.int i t) (.int j u)) Q E s) :
   OpR X f (rI0 fun i j=>.bl (g i j)):=by
 intro pins s σ H x y v u Q I rx ry h
 obtain⟨i,j,rfl,rfl,q⟩:=h
 obtain⟨t,rfl⟩:=rx
 obtain⟨t',rfl⟩:=ry
 exact rule i j t t' s _ _ ⟨.bl (g i j),H,I,rfl,q⟩
def CDiv (i j:Int):Prop:=0<j∧j<1073741824
def CPow (i j:Int):Prop:=0≤j∧j≤1000000∧i.natAbs<2^64
def CMul (i j:Int):Prop:=(-(2^64)<i∧i<2^64)∨(-(2^64)<j∧j<2^64)
theorem CMul.ok {i j:Int}(h:CMul i j):IntMulOk i j:=by
 rcases h with ⟨h1,h2⟩ | ⟨h1,h2⟩
 · exact .of_left (intBits_le_64 h1 h2)
 · exact .of_right (intBits_le_64 h1 h2)
theorem Xok (k:Nat):(0:Int)≤2^k:=by
 rw[two_pow_cast]
 exact Int.natCast_nonneg _
theorem Xbo:OpR X (binaryOp .Add) (rI0 fun i j=>.int (i+j)):=opI0 fun _ _ _ _ _ _ _ q=>add_int q
theorem Xdf:OpR X (binaryOp .Sub) (rI0 fun i j=>.int (i-j)):=opI0 fun _ _ _ _ _ _ _ q=>sub_int q
theorem Xfh:OpR X (binaryOp .Mult) (rI CMul fun i j=>.int (i*j)):=opI fun _ _ _ _ _ _ _ hc q=>mul_int q hc.ok
theorem Xdw:OpR X (binaryOp .FloorDiv) (rI CDiv fun i j=>.int (i/j)):=opI fun i j _ _ _ _ _ hc q=>by
 have h1:(0:Int)<j:=hc.1
 have h2:j<1073741824:=hc.2
 exact floordiv_int (by omega) (by rw[Int.fdiv_eq_ediv_of_nonneg i (by omega)];exact q) (.inl (PyProof.noPylong_small (by omega)))
theorem Xbn:OpR X (binaryOp .Mod) (rI (fun _ j=>0<j) fun i j=>.int (i%j)):=opI fun i j _ _ _ _ _ hc q=>by
 have h1:(0:Int)<j:=hc
 exact mod_int' (by omega) (by rw[Int.fmod_eq_emod_of_nonneg i (by omega)];exact q)
theorem Xwm:OpR X (binaryOp .Pow) (rI CPow fun i j=>.int (i^j.toNat)):=opI fun _ _ _ _ _ _ _ hc q=>pow_int_small hc.1 hc.2.1 hc.2.2 q
theorem XDk:OpR X (binaryOp .RShift) (rI (fun _ j=>0≤j) fun i j=>.int (i/2^j.toNat)):=opI fun i j _ _ _ _ _ hc q =>
 rshift_int hc (by rw[Int.fdiv_eq_ediv_of_nonneg i (Xok _)];exact q)
theorem XKa:OpR X (binaryOp .BitAnd) (rI0 fun i j=>.int (Builtin.bitAnd i j)):=opI0 fun _ _ _ _ _ _ _ q=>and_int q
theorem XNi:OpR X (binaryOp .BitOr) (rI0 fun i j=>.int (Builtin.bitOr i j)):=opI0 fun _ _ _ _ _ _ _ q=>or_int q
end
def scal:V→V→Bool
 | .non,.non=>true | .non,.int _=>true | .int _,.non=>true | .non,.bl _=>true | .bl _,.non=>true | .non,.str _=>true | .str _,.non=>true
 | .int _,.int _=>true | .bl _,.bl _=>true | .str _,.str _=>true | .byt _,.byt _=>true
 | .int _,.str _=>true | .str _,.int _=>true | .bl _,.str _=>true | .str _,.bl _=>true
 | _,_=>false
def rEq:R2:=fun x y H Q=>scal x y=true∧Q (.bl (decide (x=y))) H
def rNe:R2:=fun x y H Q=>scal x y=true∧Q (.bl (!decide (x=y))) H
theorem Xjl {i j:Int}:decide (V.int i=V.int j)=(i==j):=by
 rw[Bool.eq_iff_iff]
 simp
theorem Xwp {i j:Bool}:decide (V.bl i=V.bl j)=(i==j):=by
 rw[Bool.eq_iff_iff]
 simp
theorem Xlq {i j:Str}:decide (V.str i=V.str j)=(i==j):=by
 rw[Bool.eq_iff_iff]
 simp
theorem Xrq {i j:Array UInt8}:decide (V.byt i=V.byt j)=(i.toList==j.toList):=by
 rw[Bool.eq_iff_iff]
 cases i
 cases j
 simp
section
variable {X:Cx}{a b c:Expr}{ta tb tc:TE}{pos:Pos}
theorem Xbe {pins:List (Addr×Obj)}{σ:St}{H:Hp}{s:Shared}{Q:VK}{k k':Bool}(I:Inv X pins σ H s)(q:Q (.bl k) H)(e:k=k'):EP X pins σ Q (.bool k') s:=by
 subst e
 exact⟨.bl k,H,I,rfl,q⟩
theorem Xed:OpR X (compareOp .Eq) rEq:=by
 intro pins s σ H x y v u Q I rx ry h
 obtain⟨hs,q⟩:=h
 cases x with
 | non =>
   cases rx
   cases y with
   | non=>cases ry;exact PySem.EqNone.eq_none_none (Xbe I q (by simp))
   | bl j=>cases ry;exact PySem.EqNone.eq_none_bool (Xbe I q (by simp))
   | int j=>obtain⟨t',rfl⟩:=ry;exact PySem.EqNone.eq_none_int (Xbe I q (by simp))
   | str j=>obtain⟨t',rfl⟩:=ry;exact PySem.EqNone.eq_none_str (Xbe I q (by simp))
   | _=>exact absurd (show false=true from hs) Bool.false_ne_true
 | bl i =>
   cases rx
   cases y with
   | non=>cases ry;exact PySem.EqNone.eq_bool_none (Xbe I q (by simp))
   | bl j=>cases ry;exact eq_bool (Xbe I q Xwp)
   | str j=>obtain⟨t',rfl⟩:=ry;exact PySem.EqMixed.eq_bool_str (Xbe I q (by simp))
   | _=>exact absurd (show false=true from hs) Bool.false_ne_true
 | int i =>
   obtain⟨t,rfl⟩:=rx
   cases y with
   | non=>cases ry;exact PySem.EqNone.eq_int_none (Xbe I q (by simp))
   | int j=>obtain⟨t',rfl⟩:=ry;exact eq_int (Xbe I q Xjl)
   | str j=>obtain⟨t',rfl⟩:=ry;exact PySem.EqMixed.eq_int_str (Xbe I q (by simp))
   | _=>exact absurd (show false=true from hs) Bool.false_ne_true
 | str i =>
   obtain⟨t,rfl⟩:=rx
   cases y with
   | non=>cases ry;exact PySem.EqNone.eq_str_none (Xbe I q (by simp))
   | bl j=>cases ry;exact PySem.EqMixed.eq_str_bool (Xbe I q (by simp))
   | int j=>obtain⟨t',rfl⟩:=ry;exact PySem.EqMixed.eq_str_int (Xbe I q (by simp))
   | str j=>obtain⟨t',rfl⟩:=ry;exact eq_str (Xbe I q Xlq)
   | _=>exact absurd (show false=true from hs) Bool.false_ne_true
 | byt i =>
   obtain⟨t,rfl⟩:=rx
   cases y with
   | byt j=>obtain⟨t',rfl⟩:=ry;exact PySem.W.eq_bytes (Xbe I q Xrq)
   | _=>exact absurd (show false=true from hs) Bool.false_ne_true
 | _=>cases y <;> exact absurd (show false=true from hs) Bool.false_ne_true
theorem Xim:OpR X (compareOp .NotEq) rNe:=by
 intro pins s σ H x y v u Q I rx ry h
 obtain⟨hs,q⟩:=h
 cases x with
 | non =>
   cases rx
   cases y with
   | non=>cases ry;exact PySem.EqNone.ne_none_none (Xbe I q (by simp))
   | bl j=>cases ry;exact PySem.EqNone.ne_none_bool (Xbe I q (by simp))
   | int j=>obtain⟨t',rfl⟩:=ry;exact PySem.EqNone.ne_none_int (Xbe I q (by simp))
   | str j=>obtain⟨t',rfl⟩:=ry;exact PySem.EqNone.ne_none_str (Xbe I q (by simp))
   | _=>exact absurd (show false=true from hs) Bool.false_ne_true
 | bl i =>
   cases rx
   cases y with
   | non=>cases ry;exact PySem.EqNone.ne_bool_none (Xbe I q (by simp))
   | bl j=>cases ry;exact ne_bool (Xbe I q (congrArg not Xwp))
   | str j=>obtain⟨t',rfl⟩:=ry;exact PySem.EqMixed.ne_bool_str (Xbe I q (by simp))
   | _=>exact absurd (show false=true from hs) Bool.false_ne_true
 | int i =>
   obtain⟨t,rfl⟩:=rx
   cases y with
   | non=>cases ry;exact PySem.EqNone.ne_int_none (Xbe I q (by simp))
   | int j=>obtain⟨t',rfl⟩:=ry;exact ne_int (Xbe I q (congrArg not Xjl))
   | str j=>obtain⟨t',rfl⟩:=ry;exact PySem.EqMixed.ne_int_str (Xbe I q (by simp))
   | _=>exact absurd (show false=true from hs) Bool.false_ne_true
 | str i =>
   obtain⟨t,rfl⟩:=rx
   cases y with
   | non=>cases ry;exact PySem.EqNone.ne_str_none (Xbe I q (by simp))
   | bl j=>cases ry;exact PySem.EqMixed.ne_str_bool (Xbe I q (by simp))
   | int j=>obtain⟨t',rfl⟩:=ry;exact PySem.EqMixed.ne_str_int (Xbe I q (by simp))
   | str j=>obtain⟨t',rfl⟩:=ry;exact ne_str (Xbe I q (congrArg not Xlq))
   | _=>exact absurd (show false=true from hs) Bool.false_ne_true
 | byt i =>
   obtain⟨t,rfl⟩:=rx
   cases y with
   | byt j=>obtain⟨t',rfl⟩:=ry;exact PySem.W.ne_bytes (Xbe I q (congrArg not Xrq))
   | _=>exact absurd (show false=true from hs) Bool.false_ne_true
 | _=>cases y <;> exact absurd (show false=true from hs) Bool.false_ne_true
theorem Xeg:OpR X (compareOp .Lt) (rI0 fun i j=>.bl (decide (i<j))):=opB0 fun _ _ _ _ _ _ _ q=>lt_int q
theorem Xxr:OpR X (compareOp .LtE) (rI0 fun i j=>.bl (decide (i≤j))):=opB0 fun _ _ _ _ _ _ _ q=>le_int q
theorem Xrf:OpR X (compareOp .Gt) (rI0 fun i j=>.bl (decide (j<i))):=opB0 fun _ _ _ _ _ _ _ q=>gt_int q
theorem Xyn:OpR X (compareOp .GtE) (rI0 fun i j=>.bl (decide (j≤i))):=opB0 fun _ _ _ _ _ _ _ q=>ge_int q
theorem Xid:OpR X (compareOp .Is) (fun x y H Q=>y = .non∧Q (.bl (decide (x = .non))) H):=by
 intro pins s σ H x y v u Q I rx ry h
 obtain⟨rfl,q⟩:=h
 cases ry
 refine is_none_gen (Xbe I q ?_)
 cases x <;> first
   | (cases rx;rfl)
   | (obtain⟨t,rfl⟩:=rx;rfl)
theorem Xxf:OpR X (compareOp .IsNot) (fun x y H Q=>y = .non∧Q (.bl (!decide (x = .non))) H):=by
 intro pins s σ H x y v u Q I rx ry h
 obtain⟨rfl,q⟩:=h
 cases ry
 refine isnot_none_gen (Xbe I q ?_)
 cases x <;> first
   | (cases rx;rfl)
   | (obtain⟨t,rfl⟩:=rx;rfl)
theorem Xam (b:Expr){op:CmpOp}(h:op≠.In:=by decide)(h2:op≠.NotIn:=by decide):behindInMarks op b=false:=by
 have e1:(op==CmpOp.In)=false:=by cases op <;> first | rfl | exact absurd rfl h
 have e2:(op==CmpOp.NotIn)=false:=by cases op <;> first | rfl | exact absurd rfl h2
 cases b <;> simp [behindInMarks,e1,e2]
theorem Xcv {op:CmpOp}{r:R2}(ho:OpR X (compareOp op) r)(ha:PE X a ta)(hb:PE X b tb)(hm:behindInMarks op b=false):PE X (.Compare a [op] [b] pos) (tOp r ta tb):=by
 intro pins s σ H Q I h
 exact wpAny_Compare1 (binT ha hb I h fun v u s2 x y H2 I2 rx ry q=>ho pins s2 σ H2 x y v u Q I2 rx ry q) hm
def Xxd (t:TE):TT:=fun σ H Q=>t σ H fun x H'=>∃k,x = .bl k∧Q k H'
theorem Xaj {op:CmpOp}{r:R2}(ho:OpR X (compareOp op) r)(ha:PE X a ta)(hb:PE X b tb)(hm:behindInMarks op b=false):PT X (.Compare a [op] [b] pos) (Xxd (tOp r ta tb)):=by
 intro pins s σ H Q I h
 refine wpAny_isTrue_Compare1 (thn (ha pins s σ H _ I h) fun v s1 ⟨x,H1,I1,r1,q1⟩=>thn (hb pins s1 σ H1 _ I1 q1) fun u s2 ⟨y,H2,I2,r2,q2⟩ =>
   thn (ho pins s2 σ H2 x y v u _ I2 r1 r2 q2) fun c s3 ⟨z,H3,I3,r3,k,e,q3⟩=>?_) hm
 subst e
 cases r3
 exact wpAny_truthy_bool ⟨H3,I3,q3⟩
def Xvu (r r':R2)(ta tb tc:TE):TE:=fun σ H Q=>ta σ H fun x H1=>tb σ H1 fun y H2=>r x y H2 fun z H3=>∃k,z = .bl k ∧
 (if k=true then tc σ H3 fun w' H4=>r' y w' H4 Q else Q (.bl false) H3)
theorem Xvn {op op':CmpOp}{r r':R2}(ho:OpR X (compareOp op) r)(ho':OpR X (compareOp op') r')(ha:PE X a ta)(hb:PE X b tb)(hc:PE X c tc)
   (hm:lastMarks [op,op'] [b,c]=false:=by with_unfolding_all rfl):PT X (.Compare a [op,op'] [b,c] pos) (Xxd (Xvu r r' ta tb tc)):=by
 intro pins s σ H Q I h
 refine isTrue_chain (thn (ha pins s σ H _ I h) fun v s1 ⟨x,H1,I1,r1,q1⟩=>test_link (thn (hb pins s1 σ H1 _ I1 q1) fun u s2 ⟨y,H2,I2,r2,q2⟩ =>
   thn (ho pins s2 σ H2 x y v u _ I2 r1 r2 q2) fun d s3 ⟨z,H3,I3,r3,k,e,q3⟩=>?_)) hm
 subst e
 cases r3
 refine wpAny_truthy_bool ?_
 cases k with
 | false =>
   obtain⟨k',e',q'⟩:=q3
   cases e'
   exact ite_ff ⟨H3,I3,q'⟩
 | true =>
   refine ite_tt (test_last (thn (hc pins s3 σ H3 _ I3 q3) fun w' s4 ⟨z',H4,I4,r4,q4⟩=>thn (ho' pins s4 σ H4 y z' u w' _ I4 r2 r4 q4) fun d' s5 ⟨z2,H5,I5,r5,k2,e2,q5⟩=>?_))
   subst e2
   cases r5
   exact wpAny_truthy_bool ⟨H5,I5,q5⟩
def TruV (K:PySem.W.Frag)(x:V)(H:Hp)(k:Bool):Prop :=
 match x with
 | .non=>k=false
 | .bl b=>k=b
 | .int i=>k=(i != 0)
 | .str y=>y.length≤sizeLine∧k=((y.length:Int) != 0)
 | .byt y=>y.size≤sizeLine∧k=((y.size:Int) != 0)
 | .ref p=>(∃xs,SqL K H p xs∧k = !xs.isEmpty)∨(∃xs,SqT K H p xs∧k = !xs.isEmpty)∨∃kvs,H p=some (.dK kvs)∧k = !kvs.isEmpty
 | _=>False
theorem Xnu {κ:Type}{kvs:List (κ×V)}{vs:List (κ×Value)}(r:KV kvs vs):(!vs.isEmpty) = !kvs.isEmpty:=by
 cases r <;> rfl
theorem Xib {xs:List V}{its:List Value}(r:Vals xs its):(!its.toArray.isEmpty) = !xs.isEmpty:=by
 cases r <;> simp
theorem Xkk:(sizeLine:Nat)<2^63:=by rw[sizeLine_eq];decide
theorem XIt:TruR X (fun x H Q=>∃k,TruV X.K x H k∧Q k H):=by
 intro pins s σ H x v Q I rx h
 obtain⟨k,e,q⟩:=h
 have hl:=Xkk
 have hs:sizeLine=16777216:=sizeLine_eq
 cases x with
 | non =>
   cases rx
   have e':k=false:=e
   subst e'
   exact truthy_none ⟨H,I,q⟩
 | bl b =>
   cases rx
   have e':k=b:=e
   subst e'
   exact wpAny_truthy_bool ⟨H,I,q⟩
 | int i =>
   obtain⟨t,rfl⟩:=rx
   have e':k=(i != 0):=e
   subst e'
   exact PySem.P.truthy_int ⟨H,I,q⟩
 | str y =>
   obtain⟨t,rfl⟩:=rx
   obtain⟨hy,e'⟩:y.length≤sizeLine∧k=((y.length:Int) != 0):=e
   subst e'
   exact PySem.P.truthy_str (by omega) ⟨H,I.tok _,q⟩
 | byt y =>
   obtain⟨t,rfl⟩:=rx
   obtain⟨hy,e'⟩:y.size≤sizeLine∧k=((y.size:Int) != 0):=e
   subst e'
   exact PySem.W.truthy_bytes (by omega) ⟨H,I.tok _,q⟩
 | ref p =>
   cases rx
   have e':(∃xs,SqL X.K H p xs∧k = !xs.isEmpty)∨(∃xs,SqT X.K H p xs∧k = !xs.isEmpty)∨∃kvs,H p=some (.dK kvs)∧k = !kvs.isEmpty:=e
   rcases e' with ⟨xs,hx,e'⟩ | ⟨xs,hx,e'⟩ | ⟨kvs,hx,e'⟩
   · subst e'
     obtain⟨its,r,pl,hz⟩:=I.list hx
     have hlen:=r.length
     exact wpAny_truthy_list pl.isList (by simp only [List.size_toArray];omega) ⟨H,I.tok _,by rw[Xib r];exact q⟩
   · subst e'
     obtain⟨its,r,pl,hz⟩:=I.tuple hx
     have hlen:=r.length
     exact truthy_tuple pl (by simp only [List.size_toArray];omega) ⟨H,I.tok _,by rw[Xib r];exact q⟩
   · subst e'
     obtain⟨hz,hS,vs,r,m⟩:kvs.length≤sizeLine∧(p==sysModules)=false∧∃vs,KV kvs vs∧s.heap.DictOf (Xas X.prog X.w) p vs:=I.hok p _ hx
     have hlen:kvs.length=vs.length:=Paired.length r
     exact wpAny_truthy_dict hS m (by omega) ⟨H,I.tok _,by rw[Xnu r];exact q⟩
 | _=>exact(show False from e).elim
theorem Xcd (ha:PE X a ta)(he:∀whole,isTrue a X.env whole=(do let v ←whole;standAt a.pos;holding [v] (truthy v))) :
   PT X a (fun σ H Q=>ta σ H fun x H'=>∃k,TruV X.K x H' k∧Q k H'):=by
 intro pins s σ H Q I h
 exact isTrue_plain (thn (ha pins s σ H _ I h) fun v s1 ⟨x,H1,I1,r1,q1⟩=>XIt pins s1 σ H1 x v Q I1 r1 q1) (he _)
theorem Xsm {x:V}{us:List Value}(r:Vals [x] us):∃u,us=[u]∧RelV x u:=by
 cases r with
 | cons r1 r2=>cases r2;exact⟨_,rfl,r1⟩
theorem XBz {x y:V}{us:List Value}(r:Vals [x,y] us):∃u w',us=[u,w']∧RelV x u∧RelV y w':=by
 cases r with
 | cons r1 r2 =>
   cases r2 with
   | cons r3 r4=>cases r4;exact⟨_,_,rfl,r1,r3⟩
theorem Xju (hc:X.calm=true):Xhs X (.builtin "min") (fun xs H Q=>∃i j,xs=[.int i,.int j]∧Q (.int (if j<i then j else i)) H):=by
 intro pins s σ H xs us Q I r h
 obtain⟨i,j,rfl,q⟩:=h
 obtain⟨u,w',rfl,⟨t,rfl⟩,⟨t',rfl⟩⟩:=XBz r
 refine min_two_ints (I.ok.hd hc) fun h' tk k=>⟨_,H,I.kept k,?_,q⟩
 by_cases hj:j<i
 · rw[if_pos hj,if_pos hj];exact⟨_,rfl⟩
 · rw[if_neg hj,if_neg hj];exact⟨_,rfl⟩
end
end L2
namespace L2
open PySem PySem.Spec PyProof.Rows
structure ObjM (h:Heap)(x dx C:Addr)(mA:Str→Option Value):Prop where
 obj:h.get? x=some (PySem.W.instObj C dx)
 ns:h.Ns1 dx mA
 ne:dx≠x
theorem Xqp {h:Heap}{dx:Addr}{mA:Str→Option Value}(n:h.Ns1 dx mA):∃od,h.get? dx=some od∧∀name,PySem.W.lookIn name od=some (mA name):=by
 obtain⟨o,es,ep,ho,hd,hk,_,hm⟩:=n
 refine⟨o,ho,fun name=>?_⟩
 have e:=hm name
 unfold nsFind findBy at e
 rw[←Array.find?_toList] at e
 unfold PySem.W.lookIn
 rw[hd]
 dsimp only
 split
 · rename_i y q
   rw[q] at e
   exact congrArg some e
 · rename_i q
   rw[q] at e
   have a:es.toList.any (·.refKey)=false:=by
     rw[List.any_eq_false]
     intro y hy
     obtain⟨z,t,hkey⟩:=hk y (Array.mem_toList_iff.mp hy)
     simp [DictEntry.refKey,hkey]
   have a':¬es.toList.any (·.refKey)=true:=by rw[a];exact Bool.false_ne_true
   rw[if_neg a']
   exact congrArg some e
theorem ObjM.look {h:Heap}{x dx C:Addr}{mA:Str→Option Value}(I:ObjM h x dx C mA):∃od,PySem.W.InstAt h x (PySem.W.instObj C dx) C (some od)∧∀name,PySem.W.lookIn name od=some (mA name) :=
 let ⟨od,ho,hl⟩:=Xqp I.ns
 ⟨od,⟨I.obj,rfl,rfl,ho⟩,hl⟩
section
variable {prog:Program}{w:World}{A:Around}{E:Value→Shared→Prop}{s:Shared}{K:PySem.W.Frag}{x dx C f:Addr}{mA:Str→Option Value}{name:Str}{v:Value}
theorem XCb {expr:Bool}{Q:Value→Shared→Prop}(X:K.In s.heap)(I:ObjM s.heap x dx C mA)(hg:PySem.W.plainGet K C name=true)(hh:PySem.W.hasDictIn K C=true)
   (ha:PySem.W.findIn K (.ref C) name=some none) (hv:mA name=some v) (hv':PySem.W.handedIn v=true) (h:Q v { s with toks:=s.toks+1 }) :
   wpAny (model prog w) A (getAttr (.ref x) name expr) Q E s:=by
 obtain⟨od,J,hl⟩:=I.look
 exact PySem.W.get_value X J (PySem.W.plainGet_of hg).1 (PySem.W.findObj_own hh ha rfl (by rw[hl,hv])) hv' h
theorem Xtw {pl:Sem Bool}{Q:Value×List Value→Shared→Prop}(X:K.In s.heap)(I:ObjM s.heap x dx C mA)(hg:PySem.W.plainGet K C name=true)
   (hf:PySem.W.findIn K (.ref C) name=some (some (.ref f))) (ht:PySem.W.isFn K (.ref f)=true) (hv:mA name=none) (h:Q (.ref f,[.ref x]) s) :
   wpAny (model prog w) A (getMethod (.ref x) name pl) Q E s:=by
 obtain⟨od,J,hl⟩:=I.look
 exact PySem.W.method_fn X J (PySem.W.plainGet_of hg).1 (PySem.W.plainGet_of hg).2 hf (beq_iff_eq.mp ht) (by show (PySem.W.lookIn name od).map (·.isSome)=some false;rw[hl,hv];rfl) h
theorem XAs {ns:List Str}{Q:Unit→Shared→Prop}(X:K.In s.heap)(I:ObjM s.heap x dx C mA)
   (hs:PySem.W.findIn K (.ref C) "__setattr__"=some (some (.builtin "object.__setattr__"))) (hp:PySem.W.plainOver K C=true) (ht:PySem.W.takerIn K C name=some none) (hh:PySem.W.hasDictIn K C=true)
   (hw:PySem.Within mA ns) (hsz:ns.length≤sizeLine)
   (h:∀h',ObjM h' x dx C (fun y=>if y=name then some v else mA y)→Heap.SameBut dx s.heap h'→Q () { s with heap:=h',toks:=s.toks+2 }) :
   wpAny (model prog w) A (setAttr (.ref x) name v) Q E s:=by
 obtain⟨od,J,hl⟩:=I.look
 refine PySem.W.set_plain X J hs (PySem.W.osa_open (s:={ s with toks:=s.toks+1 }) (r:=none) X J hp ht fun b=>?_)
 obtain⟨cd,hc,hd'⟩:=PySem.W.any_some hh
 have hx:s.heap.get? x=some ⟨.ref C,some dx,.plain,#[]⟩:=I.obj
 refine wpAny_bind (wpAny_pure (wpAny_bind (wpAny_bind (wpAny_loadPart hx (wpAny_bind (PySem.W.Looks.here (s:={ s with toks:=s.toks+1 }) (PySem.W.looks_clsIn X hc) ?_))))))
 rw[hd']
 refine wpAny_pure (a:=some dx) (wpAny_bind (wpAny_pure (wpAny_bind ?_)))
 refine wpAny_nsSet1 (s:={ s with toks:=s.toks+1 }) I.ns fun h' hn2 hs2=>?_
 obtain⟨oD,esD,epD,hoD,hdD,hcD⟩:=hn2.count (PySem.Within.cons name v hw)
 refine wpAny_bind (wpAny_lookBehind hoD (by rw[hdD];exact pastItsLine_dict (Nat.le_trans hcD (by rw[List.length_cons];omega))) ?_)
 exact wpAny_pure (h _ ⟨(hs2.2 _ (Ne.symm I.ne)).trans I.obj,hn2,I.ne⟩ hs2)
theorem Xuv {R:Result→Shared→Prop}{vs:List Value}{kw:List (Str×Value)}(X:K.In s.heap)(hm:PySem.W.makesIn K C=true)
   (hi:PySem.W.findIn K (.ref C) "__init__"=some (some (.ref f))) (hf:PySem.W.typeIn K (.ref f)=some (.type "function"))
   (h:codeAny (model prog w) (A.under (.builtin "type.__call__" ⟨.ref C::vs,kw⟩)) (.call (.ref f) ⟨.ref (s.heap.objs.size+1)::vs,kw⟩) (PySem.W.InitBack (s.heap.objs.size+1) R)
     { s with heap:=(s.heap.push PySem.W.emptyDict).push (PySem.W.instObj C s.heap.objs.size) }) :
   codeAny (model prog w) A (.call (.ref C) ⟨vs,kw⟩) R s:=by
 obtain⟨hh,g,d,t,os⟩:=s
 exact PySem.W.make_core (PySem.W.makes_of X hm) (PySem.W.looks_findIn X hi) (fun self=>PySem.W.bind_fn X self hf) (.inl rfl) h
end
def putF (f:Str)(v:V):List (Str×V)→List (Str×V)
 | []=>[(f,v)]
 | (g,x)::r=>if g=f then (g,v)::r else (g,x)::putF f v r
theorem Xgl (f g:Str)(v:V):∀fs:List (Str×V),(putF f v fs).lookup g=if g=f then some v else fs.lookup g
 | []=>by
   show List.lookup g [(f,v)]=_
   by_cases h:g=f
   · have hb:(g==f)=true:=beq_iff_eq.mpr h
     simp only [List.lookup,hb,if_pos h]
   · have hb:(g==f)=false:=beq_eq_false_iff_ne.mpr h
     simp only [List.lookup,hb,if_neg h]
 | (k,x)::r=>by
   have ih:=Xgl f g v r
   rw[show putF f v ((k,x)::r)=(if k=f then (k,v)::r else (k,x)::putF f v r) from rfl]
   by_cases hk:k=f
   · rw[if_pos hk]
     by_cases h:g=k
     · have hb:(g==k)=true:=beq_iff_eq.mpr h
       simp only [List.lookup,hb,if_pos (h.trans hk)]
     · have hb:(g==k)=false:=beq_eq_false_iff_ne.mpr h
       simp only [List.lookup,hb,if_neg (fun e:g=f=>h (e.trans hk.symm))]
   · rw[if_neg hk]
     by_cases h:g=k
     · have hb:(g==k)=true:=beq_iff_eq.mpr h
       simp only [List.lookup,hb,if_neg (fun e:g=f=>hk (h.symm.trans e))]
     · have hb:(g==k)=false:=beq_eq_false_iff_ne.mpr h
       simp only [List.lookup,hb]
       exact ih
theorem Xhe (f:Str)(v:V):∀fs:List (Str×V),f∈(putF f v fs).map (·.1)∧∀g,g∈fs.map (·.1)→g∈(putF f v fs).map (·.1)
 | []=>⟨by simp [putF],fun g h=>by simp at h⟩
 | (k,x)::r=>by
   obtain⟨i1,i2⟩:=Xhe f v r
   rw[show putF f v ((k,x)::r)=(if k=f then (k,v)::r else (k,x)::putF f v r) from rfl]
   by_cases hk:k=f
   · rw[if_pos hk]
     subst hk
     exact⟨by simp,fun g h=>by simpa using h⟩
   · rw[if_neg hk]
     refine⟨?_,fun g h=>?_⟩
     · rw[List.map_cons]
       exact List.mem_cons_of_mem _ i1
     · rw[List.map_cons] at h ⊢
       rcases List.mem_cons.mp h with e | e
       · exact List.mem_cons.mpr (.inl e)
       · exact List.mem_cons_of_mem _ (i2 g e)
theorem Xhi (f:Str)(v:V):∀fs:List (Str×V),(putF f v fs).length≤fs.length+1
 | []=>by simp [putF]
 | (k,x)::r=>by
   have ih:=Xhi f v r
   rw[show putF f v ((k,x)::r)=(if k=f then (k,v)::r else (k,x)::putF f v r) from rfl]
   by_cases hk:k=f
   · rw[if_pos hk,List.length_cons,List.length_cons];omega
   · rw[if_neg hk,List.length_cons,List.length_cons];omega
theorem RelO.some_of {v:V}{o:Option Value}(r:RelO (some v) o):∃u,o=some u∧RelV v u:=by
 cases o with
 | none=>exact(show False from r).elim
 | some u=>exact⟨u,rfl,r⟩
theorem RelO.none_of {o:Option Value}(r:RelO none o):o=none:=by
 cases o with
 | none=>rfl
 | some u=>exact(show False from r).elim
theorem Xtd {v:V}{u:Value}(r:RelV v u):PySem.W.handedIn u=true:=by
 cases v with
 | non=>cases (show u=Value.none from r);rfl
 | bl b=>cases (show u=Value.bool b from r);rfl
 | int i=>obtain⟨t,e⟩:=(show ∃t,u=Value.int i t from r);cases e;rfl
 | str x=>obtain⟨t,e⟩:=(show ∃t,u=Value.str x t from r);cases e;rfl
 | byt b=>obtain⟨t,e⟩:=(show ∃t,u=Value.bytes b t from r);cases e;rfl
 | flt b=>obtain⟨t,e⟩:=(show ∃t,u=Value.float b t from r);cases e;rfl
 | ref a=>cases (show u=Value.ref a from r);rfl
 | ty n=>cases (show u=Value.type n from r);rfl
section
variable {P:Program}{w:World}{H H':Hp}{h h':Heap}{a C dx:Addr}{fs fs':List (Str×V)}
theorem Xis (hok:HOk P w H h)(e:H a=some (.ins C dx fs)):∃mA,ObjM h a dx C mA∧(∀f,RelO (fs.lookup f) (mA f))∧PySem.Within mA (fs.map (·.1))∧fs.length≤1000∧H dx=some (.own a):=by
 obtain⟨d,z,ne,ob,mA,n,r,q⟩:=(show Xbq P w H h a (.ins C dx fs) from hok a _ e)
 exact⟨mA,⟨ob,n,ne⟩,r,q,z,d⟩
end
structure Cls (K:PySem.W.Frag)(C:Addr):Prop where
 pg:PySem.W.plainGet K C Str.empty=true
 hd:PySem.W.hasDictIn K C=true
 po:PySem.W.plainOver K C=true
 sa:PySem.W.findIn K (.ref C) "__setattr__"=some (some (.builtin "object.__setattr__"))
theorem Cls.get {K:PySem.W.Frag}{C:Addr}(c:Cls K C)(f:Str):PySem.W.plainGet K C f=true:=c.pg
def Xde (K:PySem.W.Frag)(C:Addr)(f:Str):Prop:=PySem.W.findIn K (.ref C) f=some none
theorem Xde.taker {K:PySem.W.Frag}{C:Addr}{f:Str}(n:Xde K C f):PySem.W.takerIn K C f=some none:=by
 unfold PySem.W.takerIn
 rw[show PySem.W.findIn K (.ref C) f=some none from n]
 rfl
structure Con (K:PySem.W.Frag)(C:Addr)(f:Str)(v:V)(u:Value):Prop where
 at_:PySem.W.findIn K (.ref C) f=some (some u)
 rel:RelV v u
 get:PySem.W.specialIn K u "__get__"=some none
 cp:PySem.W.copiedNames.contains f=false
structure Meth (K:PySem.W.Frag)(C:Addr)(m:Str)(f:Addr):Prop where
 at_:PySem.W.findIn K (.ref C) m=some (some (.ref f))
 fn:PySem.W.isFn K (.ref f)=true
 kp:PySem.W.keepIn K (.ref f)=true
section
variable {X:Cx}{pins:List (Addr×Obj)}{σ:St}{H:Hp}{s:Shared}{a C dx:Addr}{fs:List (Str×V)}{f:Str}{v:V}{A:Around}{E:Value→Shared→Prop}
theorem Xod {b:Bool}{Q:Value→Shared→Prop}(I:Inv X pins σ H s)(e:H a=some (.ins C dx fs))(c:Cls X.K C)(n:Xde X.K C f)(l:fs.lookup f=some v)
   (h:∀u s',Inv X pins σ H s'→RelV v u→Q u s'):wpAny (model X.prog X.w) A (getAttr (.ref a) f b) Q E s:=by
 obtain⟨mA,O,r,_,_,_⟩:=Xis I.hok e
 obtain⟨u,hu,ru⟩:=RelO.some_of (v:=v) (o:=mA f) (by rw[←l];exact r f)
 exact XCb I.kIn O (c.get f) c.hd n hu (Xtd ru) (h u _ (I.tok _) ru)
theorem Xel {m:Str}{g:Addr}{pl:Sem Bool}{Q:Value×List Value→Shared→Prop}(I:Inv X pins σ H s)(e:H a=some (.ins C dx fs))(c:Cls X.K C)(k:Meth X.K C m g)(l:fs.lookup m=none)
   (h:Q (.ref g,[.ref a]) s):wpAny (model X.prog X.w) A (getMethod (.ref a) m pl) Q E s:=by
 obtain⟨mA,O,r,_,_,_⟩:=Xis I.hok e
 have hn:mA m=none:=RelO.none_of (by rw[←l];exact r m)
 exact Xtw I.kIn O (c.get m) k.at_ k.fn hn h
theorem Xns {y:V}{u:Value}{Q:Unit→Shared→Prop}(I:Inv X pins σ H s)(e:H a=some (.ins C dx fs))(c:Cls X.K C)(n:Xde X.K C f)(hl:fs.length<1000)(ry:RelV y u)
   (h:∀s',Inv X pins σ (upd H a (.ins C dx (putF f y fs))) s'→Q () s'):wpAny (model X.prog X.w) A (setAttr (.ref a) f u) Q E s:=by
 obtain⟨mA,O,r,wi,_,ho⟩:=Xis I.hok e
 have hz:(fs.map (·.1)).length≤sizeLine:=by rw[List.length_map,sizeLine_eq];omega
 refine XAs I.kIn O c.sa c.po n.taker c.hd wi hz fun h' O' sb=>h _ ?_
 have hd:∃o,h'.get? dx=some o:=let ⟨o,_,_,e',_⟩:=O'.ns;⟨o,e'⟩
 refine I.write (x:=a) (e:=dx) (by rw[e];exact True.intro) (.inr ho) (fun b q hb z=>(sb.2 b hb).trans z) hd ?_
 refine⟨by rw[Xah O.ne];exact ho,?_,O.ne,O'.obj,_,O'.ns,fun g=>?_,fun g hg=>?_⟩
 · have:=Xhi f y fs;omega
 · show RelO ((putF f y fs).lookup g) (if g=f then some u else mA g)
   rw[Xgl]
   by_cases q:g=f
   · rw[if_pos q,if_pos q];exact ry
   · rw[if_neg q,if_neg q];exact r g
 · by_cases q:g=f
   · rw[q];exact(Xhe f y fs).1
   · refine(Xhe f y fs).2 g (wi g fun z=>hg ?_)
     show (if g=f then some u else mA g)=none
     rw[if_neg q];exact z
theorem Inv.made (I:Inv X pins σ H s):Inv X pins σ (upd (upd H s.heap.objs.size (.own (s.heap.objs.size+1))) (s.heap.objs.size+1) (.ins C s.heap.objs.size []))
   { s with heap:=(s.heap.push PySem.W.emptyDict).push (PySem.W.instObj C s.heap.objs.size) }:=by
 have e1:(s.heap.push PySem.W.emptyDict).get? s.heap.objs.size=some PySem.W.emptyDict:=Heap.get?_push_size s.heap rfl
 have e2:((s.heap.push PySem.W.emptyDict).push (PySem.W.instObj C s.heap.objs.size)).get? (s.heap.objs.size+1)=some (PySem.W.instObj C s.heap.objs.size):=by
   have:=Heap.get?_push_size (s.heap.push PySem.W.emptyDict) (o:=PySem.W.instObj C s.heap.objs.size) rfl
   rwa [Heap.size_push] at this
 have e3:(s.heap.push PySem.W.emptyDict).Ns s.heap.objs.size (fun _=>none):=⟨PySem.W.emptyDict,#[],_,e1,rfl,(fun e he=>absurd he (by simp)),fun _=>rfl⟩
 have I1:=I.laid (a:=s.heap.objs.size) (o:=.own (s.heap.objs.size+1)) (h':=s.heap.push PySem.W.emptyDict) (t':=s.toks) (fun b u q=>Heap.get?_push_of_some _ q) (Nat.le_refl _) ⟨_,e1⟩
 refine I1.laid (a:=s.heap.objs.size+1) (o:=.ins C s.heap.objs.size []) (t':=s.toks) (fun b u q=>Heap.get?_push_of_some _ q) (Nat.le_of_eq (Heap.size_push _ _)) ?_
 have ne:s.heap.objs.size≠s.heap.objs.size+1:=Nat.ne_of_lt (Nat.lt_succ_self _)
 refine⟨by rw[Xah ne,upd_same],Nat.zero_le _,ne,e2,fun _=>none,(Heap.Ns1.of_empty e3).at fun o q=>Heap.get?_push_of_some _ q,fun _=>True.intro,fun y hy=>absurd rfl hy⟩
theorem XBn {prog:Program}{w:World}{env:Env}{e:Expr}{f:Str}{pos:Pos}{s:Shared}{Q:Value→Shared→Prop}(hb:attributeBase e f env (eval e env)=eval e env)
   (h:wpAny (model prog w) A (eval e env) (fun o s₁=>wpAny (model prog w) A (getAttr o f true) Q E s₁) E s):wpAny (model prog w) A (eval (.Attribute e f pos) env) Q E s :=
 Attribute_any_ h (by rw[arm_eval_Attribute,hb])
end
def tFld (K:PySem.W.Frag)(ta:TE)(f:Str):TE:=fun σ H Q=>ta σ H fun x H1=>∃a C dx fs v,x = .ref a∧H1 a=some (.ins C dx fs)∧Cls K C∧Xde K C f∧fs.lookup f=some v∧Q v H1
def sFld (K:PySem.W.Frag)(ta tv:TE)(f:Str):TS:=fun D σ H=>tv σ H fun y H1=>ta σ H1 fun x H2=>∃a C dx fs,x = .ref a∧H2 a=some (.ins C dx fs)∧Cls K C∧Xde K C f∧fs.length<1000 ∧
 D.nx σ (upd H2 a (.ins C dx (putF f y fs)))
section
variable {X:Cx}{o e value:Expr}{f:Str}{pos pos' tpos:Pos}{ta tv:TE}
theorem Xdq (he:PE X e ta)(hb:attributeBase e f X.env (eval e X.env)=eval e X.env):PE X (.Attribute e f pos) (tFld X.K ta f):=by
 intro pins s σ H Q I h
 refine XBn hb (thn (he pins s σ H _ I h) fun u s1 ⟨x,H1,I1,rx,a,C,dx,fs,v,ex,ea,c,n,l,q⟩=>?_)
 subst ex
 obtain rfl:u=Value.ref a:=rx
 exact Xod I1 ea c n l fun u' s2 I2 ru=>⟨v,H1,I2,ru,q⟩
theorem Xmz (ha:PE X o ta)(hv:PE X value tv)(hs:swapsWith value (some (.Attribute o f pos')) pos.line X.env=pure false):PS X (.Assign [.Attribute o f pos'] value pos) (sFld X.K ta tv f):=by
 intro pins s σ H D I h
 refine plainObj_wpAny_Assign_Attribute (thn (hv pins s σ H _ I h) fun u s1 ⟨y,H1,I1,ry,q⟩=>thn (ha pins s1 σ H1 _ I1 q) fun ov s2 ⟨x,H2,I2,rx,a,C,dx,fs,ex,ea,c,n,l,q2⟩=>?_) hs
 subst ex
 obtain rfl:ov=Value.ref a:=rx
 exact Xns I2 ea c n l ry fun s3 I3=>⟨σ,_,I3,q2⟩
theorem Xyq {pl:Sem Bool}{m:Str}{apos:Pos}{args:List Expr}{pins:List (Addr×Obj)}{s:Shared}{σ:St}{H:Hp}{Q:Value→Shared→Prop}{te:TE}(he:PE X e te)(I:Inv X pins σ H s)
   (h:te σ H fun x H1=>∃a C dx fs g,x = .ref a∧H1 a=some (.ins C dx fs)∧Cls X.K C∧Meth X.K C m g∧fs.lookup m=none ∧
     ∀s1,Inv X pins σ H1 s1→wpAny (model X.prog X.w) X.A (callWith pos (.ref g) [.ref a] (backTo pos (starEach args X.env)) (backToKw pos (keywordEach [] X.env))) Q X.xe s1)
   (ht:eval (.Call (.Attribute e m apos) args [] pos) X.env=(do
     let ov ←eval e X.env
     standAt apos.atName
     let (f,first) ←holding [ov] (getMethod ov m pl)
     callWith pos f first (backTo pos (starEach args X.env)) (backToKw pos (keywordEach [] X.env)))) :
   wpAny (model X.prog X.w) X.A (eval (.Call (.Attribute e m apos) args [] pos) X.env) Q X.xe s:=by
 refine PySem.W.methodCall_KW (pl:=pl) (thn (he pins s σ H _ I h) fun u s1 ⟨x,H1,I1,rx,a,C,dx,fs,g,ex,ea,c,k,l,q⟩=>?_) ht
 subst ex
 obtain rfl:u=Value.ref a:=rx
 exact Xel I1 ea c k l (q s1 I1)
end
section
variable {X:Cx}{pins:List (Addr×Obj)}{σ:St}{H:Hp}{s:Shared}{A:Around}{E:Value→Shared→Prop}{Q:Value→Shared→Prop}{c:Value}{b:Bool}
inductive TyOf (K:PySem.W.Frag)(H:Hp):V→Value→Prop where
 | non:TyOf K H .non (.type "NoneType")
 | bl (x:Bool):TyOf K H (.bl x) (.type "bool")
 | int (i:Int):TyOf K H (.int i) (.type "int")
 | str (x:Str):TyOf K H (.str x) (.type "str")
 | flt (x:UInt64):TyOf K H (.flt x) (.type "float")
 | lst {a:Addr} {xs:List V} (e:H a=some (.lst xs)):TyOf K H (.ref a) (.type "list")
 | frz {a:Addr} {o:Obj} {xs:List V} (e:H a=some (.frz o (.lst xs))):TyOf K H (.ref a) (.type "list")
 | tup {a:Addr} {xs:List V} (e:H a=some (.tup xs)):TyOf K H (.ref a) (.type "tuple")
 | dK {a:Addr} {kvs:List (Key×V)} (e:H a=some (.dK kvs)):TyOf K H (.ref a) (.type "dict")
 | dT {a:Addr} {kvs:List (List Key×V)} (e:H a=some (.dT kvs)):TyOf K H (.ref a) (.type "dict")
 | ins {a C dx:Addr} {fs:List (Str×V)} (e:H a=some (.ins C dx fs)) (cl:Cls K C) (ha:PySem.W.findIn K (.ref C) "__class__"=some (some (.builtin "object.__class__")))
     (hn:PySem.W.specialIn K (.builtin "object.__class__") "__get__"=some (some (.builtin "getset_descriptor.__get__"))) (htk:PySem.W.takesIn K (.builtin "object.__class__")=some true)
     (hm:PySem.W.mroIn K C (.type "object")=some true):TyOf K H (.ref a) (.ref C)
theorem Xpx {x:V}{u t:Value}(I:Inv X pins σ H s)(rx:RelV x u)(ty:TyOf X.K H x t)(e:PySem.W.kitOne X.K t c=some b)(h:∀tk,Q (.bool b) { s with toks:=tk }) :
   wpAny (model X.prog X.w) A (call (.builtin "isinstance") [u,c]) Q E s:=by
 cases ty with
 | non=>cases (show u=Value.none from rx);exact PySem.W.kia_one PySem.W.kitx_none I.kIn True.intro e (fun z=>nomatch z) h
 | bl y=>cases (show u=Value.bool y from rx);exact PySem.W.kia_one PySem.W.kitx_bool I.kIn True.intro e (fun z=>nomatch z) h
 | int i=>obtain⟨t,q⟩:=(show ∃t,u=Value.int i t from rx);cases q;exact PySem.W.kia_one PySem.W.kitx_int I.kIn True.intro e (fun z=>nomatch z) h
 | str y=>obtain⟨t,q⟩:=(show ∃t,u=Value.str y t from rx);cases q;exact PySem.W.kia_one PySem.W.kitx_str I.kIn True.intro e (fun z=>nomatch z) h
 | flt y=>obtain⟨t,q⟩:=(show ∃t,u=Value.float y t from rx);cases q;exact PySem.W.kia_one PySem.W.kitx_float I.kIn True.intro e (fun z=>nomatch z) h
 | @lst a xs ea =>
   cases (show u=Value.ref a from rx)
   obtain⟨_,_,n,_,h1⟩:=(show Xbq X.prog X.w H s.heap a (.lst xs) from I.hok a _ ea)
   exact PySem.W.kia_one PySem.W.kitx_list I.kIn ⟨_,h1,rfl⟩ e (fun z=>nomatch z) h
 | @frz a ob xs ea =>
   cases (show u=Value.ref a from rx)
   obtain⟨_,_,_,n,_,h1⟩:=(show Xbq X.prog X.w H s.heap a (.frz ob (.lst xs)) from I.hok a _ ea)
   exact PySem.W.kia_one PySem.W.kitx_list I.kIn ⟨_,h1,rfl⟩ e (fun z=>nomatch z) h
 | @tup a xs ea =>
   cases (show u=Value.ref a from rx)
   obtain⟨_,_,_,p⟩:=(show Xbq X.prog X.w H s.heap a (.tup xs) from I.hok a _ ea)
   obtain⟨o,h1,h2,_⟩:=p
   exact PySem.W.kia_one PySem.W.kitx_tuple I.kIn ⟨o,h1,h2⟩ e (fun z=>nomatch z) h
 | @dK a kvs ea =>
   cases (show u=Value.ref a from rx)
   obtain⟨_,_,vs,_,p⟩:=(show Xbq X.prog X.w H s.heap a (.dK kvs) from I.hok a _ ea)
   obtain⟨o,es,ep,h1,h2,_⟩:=p
   exact PySem.W.kia_one PySem.W.kitx_dict I.kIn ⟨o,h1,h2.1⟩ e (fun z=>nomatch z) h
 | @dT a kvs ea =>
   cases (show u=Value.ref a from rx)
   obtain⟨_,_,xs,_,o,es,ep,h1,h2,_⟩:=(show Xbq X.prog X.w H s.heap a (.dT kvs) from I.hok a _ ea)
   exact PySem.W.kia_one PySem.W.kitx_dict I.kIn ⟨o,h1,h2.1⟩ e (fun z=>nomatch z) h
 | @ins a C dx fs ea cl ha hn htk hm =>
   cases (show u=Value.ref a from rx)
   obtain⟨mA,O,_⟩:=Xis I.hok ea
   obtain⟨od,J,_⟩:=O.look
   exact PySem.W.kia_one (PySem.W.kitx_own (cl.get _) cl.hd ha hn htk hm) I.kIn J e (fun z=>nomatch z) h
end
end L2
namespace L2
open PySem PySem.Spec PyProof.Rows
structure Room (k:Nat)(A:Around):Prop where
 hd:A.handled=none
 dp:A.depth+3*k+5<recursionLimit
 un:A.units+16*k+200<cLine
theorem Room.mono {j k:Nat}{A:Around}(r:Room k A)(h:j≤k):Room j A:=⟨r.hd,by have:=r.dp;omega,by have:=r.un;omega⟩
theorem Room.deeper {k:Nat}{A:Around}(r:Room (k+1) A)(env:Env):Room k (A.deeper env) :=
 ⟨r.hd,by have:=r.dp;show A.depth+1+3*k+5<_;omega,by have:=r.un;show A.units+3+16*k+200<_;omega⟩
theorem Room.in1 {k:Nat}{A:Around}(r:Room (k+1) A):Room k A.in1 :=
 ⟨r.hd,by have:=r.dp;show A.depth+3*k+5<_;omega,by have:=r.un;show A.units+1+16*k+200<_;omega⟩
theorem Xnv {A:Around}{C:Addr}{us:List Value}{kw:List (Str×Value)}:(A.under (.builtin "type.__call__" ⟨.ref C::us,kw⟩)).depth=A.depth+1:=by
 first | rfl | simp [Around.under,Code.weight,Code.isCreation,Code.isGuard,Code.isCaller,Code.frames,Code.isFrame,guardIds]
theorem Xnw {A:Around}{C:Addr}{us:List Value}{kw:List (Str×Value)}:(A.under (.builtin "type.__call__" ⟨.ref C::us,kw⟩)).units=A.units+1:=by
 first | rfl | simp [Around.under,Code.cUnits,Code.frames,Code.isFrame]
theorem Room.make {k:Nat}{A:Around}(r:Room (k+1) A)(C:Addr)(us:List Value)(kw:List (Str×Value)):Room k (A.under (.builtin "type.__call__" ⟨.ref C::us,kw⟩)) :=
 ⟨r.hd,by have:=r.dp;rw[Xnv];omega,by have:=r.un;rw[Xnw];omega⟩
theorem Room.depth {k:Nat}{A:Around}(r:Room k A):A.depth<recursionLimit:=by have:=r.dp;omega
theorem Room.units {k:Nat}{A:Around}(r:Room k A):A.units+64<cLine:=by have:=r.un;omega
def tNil:TA:=fun _ H Q=>Q [] H
def XIn (ta:TE)(tr:TA):TA:=fun σ H Q=>ta σ H fun x H1=>tr σ H1 fun xs H2=>Q (x::xs) H2
section
variable {X:Cx}{e:Expr}{es:List Expr}{te:TE}{t:TA}{pos:Pos}
theorem Xae:PA X [] tNil:=fun _ _ _ _ H Q I h=>Calls.spliced_nil ⟨[],H,I,.nil,h⟩
theorem Xaa (ha:PE X e te)(hr:PA X es t)(hs:starEach (e::es) X.env=(false,eval e X.env)::starEach es X.env:=by rfl):PA X (e::es) (XIn te t):=by
 intro pos pins s σ H Q I h
 rw[hs]
 show wpAny _ _ (spliced ((false,eval e X.env)::backTo pos (starEach es X.env))) _ _ s
 refine Calls.spliced_cons (thn (ha pins s σ H _ I h) fun u s1 ⟨x,H1,I1,r1,q1⟩=>?_)
 exact thn (hr pos pins s1 σ H1 _ I1 q1) fun us s2 ⟨xs,H2,I2,r2,q2⟩=>⟨x::xs,H2,I2,.cons r1 r2,q2⟩
def tTup (t:TA):TE:=fun σ H Q=>t σ H fun xs H1=>xs.length≤sizeLine∧∀p,H1 p=none→Q (.ref p) (upd H1 p (.tup xs))
def tLst (t:TA):TE:=fun σ H Q=>t σ H fun xs H1=>xs.length≤sizeLine∧∀p,H1 p=none→Q (.ref p) (upd H1 p (.lst xs))
theorem Xfn {x1}(h:PA X es t):PE X (.Tuple es x1 pos) (tTup t):=by
 intro pins s σ H Q I hq
 refine wpAny_Tuple_spliced (thn (h pos pins s σ H _ I hq) fun us s1 ⟨xs,H1,I1,r,z,q⟩=>⟨by rw[←r.length];exact z,?_⟩)
 have hf:H1 s1.heap.objs.size=none:=I1.hok.fresh (Nat.le_refl _)
 refine⟨.ref s1.heap.objs.size,upd H1 s1.heap.objs.size (.tup xs),I1.laid (t':=s1.toks) (fun b u e=>Heap.get?_push_of_some _ e) (Nat.le_refl _) ?_,rfl,q _ hf⟩
 exact⟨z,us,r,⟨_,Heap.get?_push_size _ rfl,rfl,_,rfl⟩⟩
theorem Xgx (h:PA X es t):PE X (.List es pos) (tLst t):=by
 intro pins s σ H Q I hq
 refine wpAny_List_spliced (thn (h pos pins s σ H _ I hq) fun us s1 ⟨xs,H1,I1,r,z,q⟩=>⟨by rw[←r.length];exact z,?_⟩)
 have hf:H1 s1.heap.objs.size=none:=I1.hok.fresh (Nat.le_refl _)
 refine⟨.ref s1.heap.objs.size,upd H1 s1.heap.objs.size (.lst xs),I1.laid (t':=s1.toks) (fun b u e=>Heap.get?_push_of_some _ e) (Nat.le_refl _) ?_,rfl,q _ hf⟩
 exact⟨z,us,0,r,Heap.get?_push_size _ rfl⟩
end
abbrev Sp:=List V→Hp→VK→XK→Prop
abbrev CXT:=List Env→Hp→Shared→XK→Value→Shared→Prop
structure Env0 (P:Program)(w:World)(K:PySem.W.Frag)(mg:Str→Option Value)(base:Heap)(A:Around)(outer:List Env)(s:Shared)(H:Hp):Prop where
 frames:A.frames=some outer
 mod:Mod K mg base
 bs:∀b o,base.get? b=some o→s.heap.get? b=some o∧H b=none
 bsz:base.objs.size≤s.heap.objs.size
 funs:s.heap.FunFrames base outer
 frf:∀b∈frs outer,H b=none
 hok:HOk P w H s.heap
 bare:AllBare s.gens
def CE (outer:List Env)(P:Program)(w:World)(H:Hp)(s:Shared)(Q:VK)(u:Value)(s':Shared):Prop :=
 ∃v H',s'.os=s.os∧AllBare s'.gens∧Un (frs outer) [] H H' s.heap s'.heap∧HOk P w H' s'.heap∧RelV v u∧Q v H'
def CR (CX:CXT)(outer:List Env)(P:Program)(w:World)(H:Hp)(s:Shared)(Q:VK)(E:XK)(r:Result)(s':Shared):Prop :=
 match r with
 | .ok (.ret u)=>CE outer P w H s Q u s'
 | .ok _=>False
 | .error e=>CX outer H s E e s'
structure FnOk (P:Program)(w:World)(K:PySem.W.Frag)(mg:Str→Option Value)(base:Heap)(CX:CXT)(k:Nat)(f:Addr)(fd:FuncData)(ps:List Str)(sp:Sp):Prop where
 len:∀vs H Q E,sp vs H Q E→vs.length=ps.length
 run:∀(A:Around) (outer:List Env) (s:Shared) (H:Hp) (args:Args) (us:List Value) (vs:List V) (Q:VK) (E:XK),Room k A→Env0 P w K mg base A outer s H→BindsTo s fd args (ps.zip us)→Vals vs us→sp vs H Q E →
   codeAny (model P w) A (.call (.ref f) args) (CR CX outer P w H s Q E) s
theorem FnOk.mono {P:Program}{w:World}{K:PySem.W.Frag}{mg:Str→Option Value}{base:Heap}{CX:CXT}{j k:Nat}{f:Addr}{fd:FuncData}{ps:List Str}{sp:Sp}(F:FnOk P w K mg base CX j f fd ps sp)(h:j≤k) :
   FnOk P w K mg base CX k f fd ps sp:=⟨F.len,fun A outer s H args us vs Q E hr=>F.run A outer s H args us vs Q E (hr.mono h)⟩
theorem FnOk.imp {P:Program}{w:World}{K:PySem.W.Frag}{mg:Str→Option Value}{base:Heap}{CX:CXT}{k:Nat}{f:Addr}{fd:FuncData}{ps:List Str}{sp sp':Sp}(F:FnOk P w K mg base CX k f fd ps sp)
   (h:∀vs H Q E,sp' vs H Q E→sp vs H Q E):FnOk P w K mg base CX k f fd ps sp' :=
 ⟨fun vs H Q E q=>F.len vs H Q E (h _ _ _ _ q),fun A outer s H args us vs Q E hr he hb hv hs=>F.run A outer s H args us vs Q E hr he hb hv (h _ _ _ _ hs)⟩
theorem Env0.make {P:Program}{w:World}{K:PySem.W.Frag}{mg:Str→Option Value}{base:Heap}{A:Around}{outer:List Env}{s:Shared}{H:Hp}(e:Env0 P w K mg base A outer s H)(C:Addr)(us:List Value)(kw:List (Str×Value)) :
   Env0 P w K mg base (A.under (.builtin "type.__call__" ⟨.ref C::us,kw⟩)) outer s H:=⟨by first | exact e.frames | (simpa [Around.under,Code.envs,Code.isFrame,pushEnvs] using e.frames),e.mod,e.bs,e.bsz,e.funs,e.frf,e.hok,e.bare⟩
theorem Env0.in1 {P:Program}{w:World}{K:PySem.W.Frag}{mg:Str→Option Value}{base:Heap}{A:Around}{outer:List Env}{s:Shared}{H:Hp}(e:Env0 P w K mg base A outer s H) :
   Env0 P w K mg base A.in1 outer s H:=⟨e.frames,e.mod,e.bs,e.bsz,e.funs,e.frf,e.hok,e.bare⟩
section
variable {X:Cx}{pins:List (Addr×Obj)}{σ:St}{H:Hp}{s s':Shared}
theorem Inv.env0 (I:Inv X pins σ H s):Env0 X.prog X.w X.K X.mg X.base X.A X.stack s H :=
 ⟨I.ok.frames,I.ok.mod,I.bs,Nat.le_trans I.ok.bsz I.sz,I.stack,I.stkFree,I.hok,I.bare⟩
theorem Inv.after {Q:VK}{u:Value}(I:Inv X pins σ H s)(h:CE X.stack X.prog X.w H s Q u s'):EP X pins σ Q u s':=by
 obtain⟨v,H',os,bare,un,hok,r,q⟩:=h
 obtain⟨hh,g,d,t,os'⟩:=s'
 obtain rfl:os'=s.os:=os
 exact⟨v,H',I.call (h':=hh) (g':=g) (d':=d) (t':=t) (ch:=[]) un hok bare (fun b z=>absurd z (by simp)),r,q⟩
end
def Xss (sp:Sp)(dvs:List V)(E:XK)(t:TA):TE:=fun σ H Q=>t σ H fun vs H1=>sp (vs++dvs) H1 Q E
def Xnz (C:Addr)(m:Str)(sp:Sp)(dvs:List V)(E:XK)(ta:TE)(t:TA):TE:=fun σ H Q=>ta σ H fun x H1=>∃a dx fs,x = .ref a∧H1 a=some (.ins C dx fs)∧fs.lookup m=none ∧
 t σ H1 fun vs H2=>sp (x::(vs++dvs)) H2 Q E
def Xti (C:Addr)(sp:Sp)(dvs:List V)(E:XK)(t:TA):TE:=fun σ H Q=>t σ H fun vs H1=>∀x dx,H1 x=none→H1 dx=none→dx≠x →
 sp (.ref x::(vs++dvs)) (upd (upd H1 dx (.own x)) x (.ins C dx [])) (fun v H2=>v = .non∧Q (.ref x) H2) E
def Xci (K:PySem.W.Frag)(fd:FuncData)(ps:List Str)(ds:List Value):Prop :=
 ∀(s:Shared) (us:List Value),K.In s.heap→(us++ds).length=ps.length→BindsTo s fd ⟨us,[]⟩ (ps.zip (us++ds))
theorem Xci.all {K:PySem.W.Frag}{fd:FuncData}{ps:List Str}(h:∀us:List Value,us.length=ps.length→bindArgs fd ⟨us,[]⟩=pure (ps.zip us)):Xci K fd ps []:=fun s us _ hl=>by
 rw[List.append_nil] at hl ⊢
 exact .of_eq (h us hl)
def Xea (CX:CXT)(X:Cx)(E:XK):Prop:=∀(pins:List (Addr×Obj)) (σ:St) (H:Hp) (s:Shared) (e:Value) (s':Shared),Inv X pins σ H s→CX X.stack H s E e s'→X.xe e s'
section
variable {X:Cx}{CX:CXT}{k:Nat}{f C:Addr}{fd:FuncData}{ps:List Str}{sp:Sp}{dvs:List V}{ds:List Value}{E:XK}{x m:Str}{p pos apos:Pos}{e o:Expr}{es:List Expr}{ta:TE}{t:TA}
theorem Xnb {pins:List (Addr×Obj)}{σ:St}{H:Hp}{s:Shared}{Q:VK}{us:List Value}{vs:List V}(F:FnOk X.prog X.w X.K X.mg X.base CX k f fd ps sp)(hr:Room k X.A)(hb:Xci X.K fd ps ds)(hd:Vals dvs ds)(hx:Xea CX X E)
   (I:Inv X pins σ H s) (r:Vals vs us) (h:sp (vs++dvs) H Q E):wpAny (model X.prog X.w) X.A (call (.ref f) us) (EP X pins σ Q) X.xe s:=by
 have r2:Vals (vs++dvs) (us++ds):=r.append hd
 have hl:(us++ds).length=ps.length:=by rw[←r2.length];exact F.len _ _ _ _ h
 refine wpAny_call (codeAny_mono (F.run X.A X.stack s H ⟨us,[]⟩ (us++ds) (vs++dvs) Q E hr I.env0 (hb s us I.kIn hl) r2 h) fun r s' hq=>?_)
 cases r with
 | error e=>exact hx pins σ H s e s' I hq
 | ok fl =>
   cases fl with
   | ret u=>exact I.after hq
   | next=>exact False.elim hq
   | brk=>exact False.elim hq
   | cont=>exact False.elim hq
theorem Xsi (F:FnOk X.prog X.w X.K X.mg X.base CX k f fd ps sp)(hr:Room k X.A)(hg:Gl X x)(hm:X.mg x=some (.ref f))(hk:PySem.W.keepIn X.K (.ref f)=true)(hb:Xci X.K fd ps ds)(hd:Vals dvs ds)(hx:Xea CX X E)
   (ha:PA X (e::es) t) (hdb:(x==("__debug__":Str))=false:=by decide) (he:starEach (e::es) X.env=(false,eval e X.env)::starEach es X.env:=by rfl) (hpl:(backTo pos (starEach es X.env)).any (·.1)=false:=by rfl) :
   PE X (.Call (.Name x p) (e::es) [] pos) (Xss sp dvs E t):=by
 intro pins s σ H Q I h
 refine wpAny_Call_Name_kw (Xei I hg hm ?_ hdb)
 refine PySem.W.callWith_K (h₀:=X.base) I.ok.mod.kin hk (thn (ha pos pins s σ H _ I h) fun us s1 ⟨vs,H1,I1,r,q⟩=>⟨I1.kIn,?_⟩) he hpl
 exact Xnb F hr hb hd hx I1 r q
theorem XCf {pl:Sem Bool}(he:PE X o ta)(c:Cls X.K C)(hm:Meth X.K C m f)(F:FnOk X.prog X.w X.K X.mg X.base CX k f fd ps sp)(hr:Room k X.A)(hb:Xci X.K fd ps ds)(hd:Vals dvs ds)(hx:Xea CX X E)(ha:PA X (e::es) t)
   (hst:starEach (e::es) X.env=(false,eval e X.env)::starEach es X.env:=by rfl) (hpl:(backTo pos (starEach es X.env)).any (·.1)=false:=by rfl)
   (ht:eval (.Call (.Attribute o m apos) (e::es) [] pos) X.env=(do
     let ov ←eval o X.env
     standAt apos.atName
     let (f,first) ←holding [ov] (getMethod ov m pl)
     callWith pos f first (backTo pos (starEach (e::es) X.env)) (backToKw pos (keywordEach [] X.env))):=by rfl) :
   PE X (.Call (.Attribute o m apos) (e::es) [] pos) (Xnz C m sp dvs E ta t):=by
 intro pins s σ H Q I h
 refine PySem.W.methodCall_KW (pl:=pl) (thn (he pins s σ H _ I h) fun u s1 ⟨x,H1,I1,rx,a,dx,fs,ex,ea,l,q⟩=>?_) ht
 subst ex
 obtain rfl:u=Value.ref a:=rx
 refine Xel I1 ea c hm l ?_
 refine PySem.W.callWith_K (first:=[.ref a]) (h₀:=X.base) I.ok.mod.kin hm.kp (thn (ha pos pins s1 σ H1 _ I1 q) fun us s2 ⟨vs,H2,I2,r,q2⟩=>⟨I2.kIn,?_⟩) hst hpl
 exact Xnb (us:=.ref a::us) (vs:=.ref a::vs) F hr hb hd hx I2 (.cons rfl r) q2
theorem Xux {pl:Sem Bool}(he:PE X o ta)(c:Cls X.K C)(hm:Meth X.K C m f)(F:FnOk X.prog X.w X.K X.mg X.base CX k f fd ps sp)(hr:Room k X.A)(hb:Xci X.K fd ps ds)(hd:Vals dvs ds)(hx:Xea CX X E)
   (ht:eval (.Call (.Attribute o m apos) [] [] pos) X.env=(do
     let ov ←eval o X.env
     standAt apos.atName
     let (f,first) ←holding [ov] (getMethod ov m pl)
     callWith pos f first (backTo pos (starEach [] X.env)) (backToKw pos (keywordEach [] X.env))):=by rfl) :
   PE X (.Call (.Attribute o m apos) [] [] pos) (Xnz C m sp dvs E ta tNil):=by
 intro pins s σ H Q I h
 refine PySem.W.methodCall_KW (pl:=pl) (thn (he pins s σ H _ I h) fun u s1 ⟨x,H1,I1,rx,a,dx,fs,ex,ea,l,q⟩=>?_) ht
 subst ex
 obtain rfl:u=Value.ref a:=rx
 refine Xel I1 ea c hm l ?_
 exact PySem.W.callWith_K0 (first:=[.ref a]) I1.kIn hm.kp (Xnb (us:=[.ref a]) (vs:=[.ref a]) F hr hb hd hx I1 (.cons rfl .nil) q)
structure Mk (K:PySem.W.Frag)(C f:Addr):Prop where
 makes:PySem.W.makesIn K C=true
 init:PySem.W.findIn K (.ref C) "__init__"=some (some (.ref f))
 fn:PySem.W.isFn K (.ref f)=true
 kp:PySem.W.keepIn K (.ref C)=true
theorem Xug {pins:List (Addr×Obj)}{σ:St}{H:Hp}{s:Shared}{Q:VK}{us:List Value}{vs:List V}(M:Mk X.K C f)(F:FnOk X.prog X.w X.K X.mg X.base CX k f fd ps sp)(hr:Room (k+1) X.A)(hb:Xci X.K fd ps ds)(hd:Vals dvs ds)
   (hx:Xea CX X E) (I:Inv X pins σ H s) (r:Vals vs us)
   (h:∀x dx,H x=none→H dx=none→dx≠x→sp (.ref x::(vs++dvs)) (upd (upd H dx (.own x)) x (.ins C dx [])) (fun v H2=>v = .non∧Q (.ref x) H2) E) :
   wpAny (model X.prog X.w) X.A (call (.ref C) us) (EP X pins σ Q) X.xe s:=by
 have hq:=h (s.heap.objs.size+1) s.heap.objs.size (I.hok.fresh (Nat.le_succ _)) (I.hok.fresh (Nat.le_refl _)) (Nat.ne_of_lt (Nat.lt_succ_self _))
 have I2:=Inv.made (C:=C) I
 have r2:Vals (V.ref (s.heap.objs.size+1)::(vs++dvs)) (Value.ref (s.heap.objs.size+1)::(us++ds)):=.cons rfl (r.append hd)
 have hl:(Value.ref (s.heap.objs.size+1)::us++ds).length=ps.length:=by
   have e:=r2.length
   rw[F.len _ _ _ _ hq] at e
   exact e.symm
 refine wpAny_call (Xuv (f:=f) I.kIn M.makes M.init (beq_iff_eq.mp M.fn) (codeAny_mono (F.run _ X.stack _ _ ⟨Value.ref (s.heap.objs.size+1)::us,[]⟩ (Value.ref (s.heap.objs.size+1)::(us++ds)) _ _ E (hr.make C us [])
   (I2.env0.make C us []) (hb _ (Value.ref (s.heap.objs.size+1)::us) I2.kIn hl) r2 hq) fun r s' hq'=>?_))
 cases r with
 | error e=>exact hx pins σ _ _ e s' I2 hq'
 | ok fl =>
   cases fl with
   | ret u =>
     obtain⟨v,H',I3,rv,ev,q3⟩:=I2.after hq'
     subst ev
     exact⟨rv,⟨V.ref (s.heap.objs.size+1),H',I3,rfl,q3⟩⟩
   | next=>exact False.elim hq'
   | brk=>exact False.elim hq'
   | cont=>exact False.elim hq'
theorem XAn (M:Mk X.K C f)(F:FnOk X.prog X.w X.K X.mg X.base CX k f fd ps sp)(hr:Room (k+1) X.A)(hg:Gl X x)(hm:X.mg x=some (.ref C))(hb:Xci X.K fd ps ds)(hd:Vals dvs ds)(hx:Xea CX X E)
   (ha:PA X (e::es) t) (hdb:(x==("__debug__":Str))=false:=by decide) (he:starEach (e::es) X.env=(false,eval e X.env)::starEach es X.env:=by rfl) (hpl:(backTo pos (starEach es X.env)).any (·.1)=false:=by rfl) :
   PE X (.Call (.Name x p) (e::es) [] pos) (Xti C sp dvs E t):=by
 intro pins s σ H Q I h
 refine wpAny_Call_Name_kw (Xei I hg hm ?_ hdb)
 refine PySem.W.callWith_K (h₀:=X.base) I.ok.mod.kin M.kp (thn (ha pos pins s σ H _ I h) fun us s1 ⟨vs,H1,I1,r,q⟩=>⟨I1.kIn,?_⟩) he hpl
 exact Xug M F hr hb hd hx I1 r q
end
section
variable {X:Cx}{CX:CXT}{k:Nat}{f C:Addr}{fd:FuncData}{ps ks:List Str}{sp:Sp}{E:XK}{x m:Str}{p pos apos kpos:Pos}{e o:Expr}{es:List Expr}{kws:List Keyword}{te ta:TE}{t tk:TA}{nm:Option Str}
structure KBinds (K:PySem.W.Frag)(fd:FuncData)(ps ks:List Str)(g:List Value→List Value→List Value)(gV:List V→List V→List V):Prop where
 to:∀(s:Shared) (us ws:List Value),K.In s.heap→(g us ws).length=ps.length→BindsTo s fd ⟨us,ks.zip ws⟩ (ps.zip (g us ws))
 rel:∀{vs:List V} {us:List Value} {zs:List V} {ws:List Value},Vals vs us→Vals zs ws→Vals (gV vs zs) (g us ws)
variable {g:List Value→List Value→List Value}{gV:List V→List V→List V}
end
structure FnScope (N P:List Str)(sc:Scope):Prop where
 kind:sc.kind = .function
 co:sc.isCoroutine=false
 gen:sc.isGenerator=false
 nd:N.Nodup
 pre:N.take P.length=P
 par:∀x∈P,sc.names.lookup x=some .local∨sc.names.lookup x=some .cell
 nofree:∀y∈sc.names,y.2≠.free
theorem Xkh {kindOf:Str→Option NameKind}{x:Str}:∀{binds:List (Str×Value)} {m:Str→Option Value},(∀v,(x,v) ∉ binds)→bindL kindOf binds m x=m x
 | [],_,_=>rfl
 | (n,v)::r,m,h=>by
   unfold bindL
   rw[Xkh fun w hw=>h w (List.mem_cons_of_mem _ hw)]
   split
   · have:x≠n:=by rintro rfl;exact h v List.mem_cons_self
     simp [this]
   · rfl
theorem Xjy {kindOf:Str→Option NameKind}{x:Str}:∀{binds:List (Str×Value)} {m:Str→Option Value},(∀v,(x,v) ∉ binds)→bindC kindOf binds m x=m x
 | [],_,_=>rfl
 | (n,v)::r,m,h=>by
   unfold bindC
   rw[Xjy fun w hw=>h w (List.mem_cons_of_mem _ hw)]
   split
   · rfl
   · have:x≠n:=by rintro rfl;exact h v List.mem_cons_self
     simp [this]
theorem Xjt {kindOf:Str→Option NameKind}{x:Str}{v:Value}:∀{P:List Str} {vs:List Value} {i:Nat} {m:Str→Option Value},P.Nodup→P[i]?=some x→vs[i]?=some v→kindOf x=some .local →
   bindL kindOf (P.zip vs) m x=some v
 | [],_,_,_,_,h,_,_=>by simp at h
 | _::_,[],_,_,_,_,h,_=>by simp at h
 | p::P,w::vs,0,m,nd,h1,h2,hk=>by
   simp at h1 h2;subst h1;subst h2
   show bindL kindOf ((p,w)::P.zip vs) m p=_
   unfold bindL
   rw[Xkh fun v hv=>(List.nodup_cons.mp nd).1 (List.of_mem_zip hv).1,if_pos hk]
   simp
 | p::P,w::vs,i+1,m,nd,h1,h2,hk=>by
   show bindL kindOf ((p,w)::P.zip vs) m x=_
   unfold bindL
   exact Xjt (i:=i) (List.nodup_cons.mp nd).2 (by simpa using h1) (by simpa using h2) hk
theorem Xkm {kindOf:Str→Option NameKind}{x:Str}{v:Value}:∀{P:List Str} {vs:List Value} {i:Nat} {m:Str→Option Value},P.Nodup→P[i]?=some x→vs[i]?=some v→kindOf x≠some .local →
   bindC kindOf (P.zip vs) m x=some v
 | [],_,_,_,_,h,_,_=>by simp at h
 | _::_,[],_,_,_,_,h,_=>by simp at h
 | p::P,w::vs,0,m,nd,h1,h2,hk=>by
   simp at h1 h2;subst h1;subst h2
   show bindC kindOf ((p,w)::P.zip vs) m p=_
   unfold bindC
   rw[Xjy fun v hv=>(List.nodup_cons.mp nd).1 (List.of_mem_zip hv).1,if_neg hk]
   simp
 | p::P,w::vs,i+1,m,nd,h1,h2,hk=>by
   show bindC kindOf ((p,w)::P.zip vs) m x=_
   unfold bindC
   exact Xkm (i:=i) (List.nodup_cons.mp nd).2 (by simpa using h1) (by simpa using h2) hk
def start (N:List Str)(vs:List V):St:=vs.map some++List.replicate (N.length-vs.length) none
def cxOf (CX:CXT)(P:Program)(w:World)(K:PySem.W.Frag)(mg:Str→Option Value)(base:Heap)(N:List Str)(qual:Str)(scope:Scope)(f:Addr)(cd:Value)(A:Around)(outer:List Env)(s:Shared)(H:Hp)(E:XK):Cx where
 prog:=P
 w:=w
 K:=K
 mg:=mg
 base:=base
 A:=A.deeper (envOfC qual scope s.heap.objs.size f cd)
 N:=N
 s₀:=s
 H₀:=H
 env:=envOfC qual scope s.heap.objs.size f cd
 outer:=outer
 stack:=envOfC qual scope s.heap.objs.size f cd::outer
 ex:=[]
 calm:=true
 fn:=fun _=>true
 pn:=[]
 xe:=fun e s'=>wpAny (model P w) (A.deeper (envOfC qual scope s.heap.objs.size f cd)) (leaving (envOfC qual scope s.heap.objs.size f cd) e) (fun _ s''=>CX outer H s E e s'') (fun e' s''=>CX outer H s E e' s'') s'
theorem Xnh {sc:Scope}{n:Nat}{x:Str}(h:sc.names.lookup x=some .cell):∃c,(cellsFrom n sc.names []).lookup x=some c:=by
 have q:=PySem.W.cellsFrom_some sc.names n [] (.inl h)
 exact Option.isSome_iff_exists.mp q
theorem Xso {CX:CXT}{P:Program}{w:World}{K:PySem.W.Frag}{mg:Str→Option Value}{base:Heap}{N ps:List Str}{qual:Str}{scope:Scope}{f:Addr}{cd:Value}{A:Around}{outer:List Env}{s s1:Shared}{H:Hp}{E:XK}{us:List Value}{vs:List V}
   (S:FnScope N ps scope) (hd:A.handled=none) (e0:Env0 P w K mg base A outer s H) (hl:vs.length=ps.length) (r:Vals vs us)
   (x:InCallC s s.heap.objs.size (bindL (envOfC qual scope s.heap.objs.size f cd).kindOf (ps.zip us) fun _=>none) (cellsFrom (s.heap.objs.size+1) scope.names []) (bindC (envOfC qual scope s.heap.objs.size f cd).kindOf (ps.zip us) fun _=>none) s1) :
   Inv (cxOf CX P w K mg base N qual scope f cd A outer s H E) [] (start N vs) H s1:=by
 have hpl:ps.length≤N.length:=by have:=congrArg List.length S.pre;rw[List.length_take] at this;omega
 obtain⟨h1,tk,rfl,hk⟩:=x.done
 have noA:∀b:Addr,b ∉ (cxOf CX P w K mg base N qual scope f cd A outer s H E).ex:=fun b z=>absurd (show b∈([]:List Addr) from z) (by simp)
 refine⟨⟨e0.mod,S.kind,rfl,rfl,Nat.le_refl _,fun y z c h1 h2=>?_,fun y hy=>?_,fun y c _ h=>?_,fun _=>hd,Around.frames_deeper e0.frames,.inr ⟨rfl,rfl⟩,fun b z=>absurd z (noA b),e0.bs,e0.bsz,fun b _ _=>noA b,fun b z=>absurd z (noA b),e0.funs,e0.frf⟩,
   rfl,e0.bare,Un.kept hk,⟨_,x.toInCall.ns,fun i y v h1 h2 h3=>?_⟩,fun y c h=>⟨_,x.cell y c h⟩,e0.hok.fresh (Nat.le_refl _),fun y c h=>?_,fun p hp=>absurd (show p∈([]:List (Addr×Obj)) from hp) (by simp),e0.hok.kept hk,?_⟩
 · exact name_of_addr x.apart (PySem.mem_of_lookup h1) (PySem.mem_of_lookup h2)
 · have hy:scope.names.lookup y=some .cell∨scope.names.lookup y=some .free:=hy
   rcases hy with hy | hy
   · exact Xnh hy
   · exact absurd rfl (S.nofree _ (PySem.mem_of_lookup hy))
 · exact Nat.le_of_lt (x.above y c (PySem.mem_of_lookup h))
 · have hi:i<vs.length:=by
     unfold start at h2
     by_cases hi:i<vs.length
     · exact hi
     · rw[List.getElem?_append_right (by simpa using hi)] at h2
       rw[List.getElem?_replicate] at h2
       split at h2 <;> cases h2
   have ha:vs[i]?=some v:=by
     unfold start at h2
     rw[List.getElem?_append_left (by simpa using hi),List.getElem?_map] at h2
     cases e:vs[i]? with
     | none=>rw[e] at h2;cases h2
     | some a=>rw[e] at h2;cases h2;rfl
   obtain⟨u,hu,rv⟩:=r.get ha
   have hp:ps[i]?=some y:=by
     rw[←S.pre,List.getElem?_take_of_lt (by omega)];exact h1
   have ndP:ps.Nodup:=by rw[←S.pre];exact S.nd.sublist (List.take_sublist _ _)
   refine⟨u,rv,?_⟩
   rcases S.par y (List.mem_of_getElem? hp) with k | k
   · exact .inl ⟨k,Xjt ndP hp hu k⟩
   · obtain⟨c,e⟩:=Xnh (n:=s.heap.objs.size+1) k
     refine .inr ⟨.inl k,c,e,?_⟩
     have q:=x.cell y c e
     rw[Xkm ndP hp hu (by show scope.names.lookup y≠_;rw[k];decide)] at q
     exact q
 · exact e0.hok.fresh (Nat.le_of_lt (x.above y c (PySem.mem_of_lookup h)))
 · unfold start
   show _=N.length
   rw[List.length_append,List.length_map,List.length_replicate]
   omega
theorem XAf {CX:CXT}{P:Program}{w:World}{K:PySem.W.Frag}{mg:Str→Option Value}{base:Heap}{k:Nat}{f:Addr}{name qual:Str}{params:Arguments}{body:List Stmt}{scope:Scope}{dV kV doc pm cdv ct oc:Value}{an od:Option Addr}
   {osl:Array (Option Value)} {N ps:List Str} {sp:Sp} (lk:K.lookup f=some ⟨oc,od,.func (PySem.W.fnOf name qual params body scope dV kV doc pm an cdv ct),osl⟩) (hcd:PySem.W.codeIn K cdv qual=true) (S:FnScope N ps scope)
   (len:∀vs H Q E,sp vs H Q E→vs.length=ps.length)
   (hbody:∀(A:Around) (outer:List Env) (s:Shared) (H:Hp) (vs:List V) (Q:VK) (E:XK),Room k (A.deeper (envOfC qual scope s.heap.objs.size f cdv))→sp vs H Q E →
     ∃t,PSs (cxOf CX P w K mg base N qual scope f cdv A outer s H E) body t∧t { nx:=fun _ H'=>Q .non H',rt:=Q } (start N vs) H) :
   FnOk P w K mg base CX (k+1) f (PySem.W.fnOf name qual params body scope dV kV doc pm an cdv ct) ps sp:=by
 refine⟨len,fun A outer s H args us vs Q E hr e0 hb r hsp=>?_⟩
 have hl:=len _ _ _ _ hsp
 have KX:K.In s.heap:=e0.mod.kin.keeps fun b o e=>(e0.bs b o e).1
 have lim:s.heap.NoLimit:=e0.mod.nolimit.keeps fun b o e=>(e0.bs b o e).1
 have hkind:∀y∈ps.zip us,scope.names.lookup y.1=some .local∨(scope.names.lookup y.1=some .cell∧((cellsFrom (s.heap.objs.size+1) scope.names []).lookup y.1).isSome=true):=fun ⟨n,v⟩ hy=>by
   rcases S.par n (List.of_mem_zip hy).1 with q | q
   · exact .inl q
   · exact .inr ⟨q,PySem.W.cellsFrom_some _ _ _ (.inl q)⟩
 refine codeAny_call_function hr.depth (KX _ _ lk) rfl S.co S.gen rfl (PySem.W.codeRec_of KX hcd) (hb _ _ _ _ ?_)
 refine wpAny_newFunctionEnv_cells S.kind hkind fun env he s1 x=>?_
 subst he
 refine⟨lim.keeps x.toInCall.keep,codeAny_func ?_⟩
 obtain⟨t,ht,hq⟩:=hbody A outer s H vs Q E (hr.deeper _) hsp
 have I:Inv (cxOf CX P w K mg base N qual scope f cdv A outer s H E) [] (start N vs) H s1:=Xso S hr.hd e0 hl r x
 refine wpAny_mono (ht [] s1 (start N vs) H _ I hq) (fun fl s' hs=>?_) fun e s' hs=>hs
 have fin:∀{σ':St} {H':Hp} {v:V} {u:Value},Inv (cxOf CX P w K mg base N qual scope f cdv A outer s H E) [] σ' H' s'→RelV v u→Q v H'→CE outer P w H s Q u s' :=
   fun {σ' H' v u} J rv q=>⟨v,H',J.os,J.bare,J.base,J.hok,rv,q⟩
 cases fl with
 | ret u =>
   obtain⟨v,σ',H',J,rv,q⟩:=hs
   exact fin J rv q
 | next =>
   obtain⟨σ',H',J,q⟩:=hs
   exact fin (v:=V.non) (u:=Value.none) J rfl q
 | brk =>
   obtain⟨_,_,_,q⟩:=hs
   exact False.elim q
 | cont =>
   obtain⟨_,_,_,q⟩:=hs
   exact False.elim q
end L2
namespace L2
open PySem PySem.Spec PyProof.Rows
section
variable {X:Cx}{x:Str}{p pos:Pos}{e:Expr}{es:List Expr}{t:TA}{id T:String}{r:List V→Hp→VK→Prop}
def tCB (r:List V→Hp→VK→Prop)(t:TA):TE:=fun σ H Q=>t σ H fun vs H1=>r vs H1 Q
theorem Xat (hc:Xhs X (.builtin id) r)(hg:Gl X x)(hm:X.mg x=none)(hv:bootBuiltins x=some (.builtin id))(ha:PA X (e::es) t)(hn:x≠"__name__":=by decide)(hdb:(x==("__debug__":Str))=false:=by decide)
   (he:starEach (e::es) X.env=(false,eval e X.env)::starEach es X.env:=by rfl) (hpl:(backTo pos (starEach es X.env)).any (·.1)=false:=by rfl):PE X (.Call (.Name x p) (e::es) [] pos) (tCB r t):=by
 intro pins s σ H Q I h
 refine wpAny_Call_Name_kw (Xjq I hg hm hv ?_ hn hdb)
 exact PyProof.Rows.callWith_builtin1 (thn (ha pos pins s σ H _ I h) fun us s1 ⟨vs,H1,I1,r1,q1⟩=>hc pins s1 σ H1 vs us Q I1 r1 q1) he hpl
theorem Xdn (hc:Xhs X (.type T) r)(hg:Gl X x)(hm:X.mg x=none)(hv:bootBuiltins x=some (.type T))(ha:PA X (e::es) t)(hn:x≠"__name__":=by decide)(hdb:(x==("__debug__":Str))=false:=by decide)
   (he:starEach (e::es) X.env=(false,eval e X.env)::starEach es X.env:=by rfl) (hpl:(backTo pos (starEach es X.env)).any (·.1)=false:=by rfl):PE X (.Call (.Name x p) (e::es) [] pos) (tCB r t):=by
 intro pins s σ H Q I h
 refine wpAny_Call_Name_kw (Xjq I hg hm hv ?_ hn hdb)
 exact PyProof.Rows.callWith_type1 (thn (ha pos pins s σ H _ I h) fun us s1 ⟨vs,H1,I1,r1,q1⟩=>hc pins s1 σ H1 vs us Q I1 r1 q1) he hpl
end
end L2
namespace HT
open PySem PyProof.Rows
section
open PySem.SeqAt
open PySem.AutoSeq1 (wpAny_loadPart')
open PySem.MeetsSeq PySem.MeetsSeq2 PySem.MeetsSeq3
end
section
variable {prog:Program}{w:World}{A:Around}{E:Value→Shared→Prop}{s:Shared}
def sIx (n d:Nat):Option Int→Nat
 | none=>d
 | some v=>if v<0 then (v+(n:Int)).toNat else min v.toNat n
theorem sIx_none (n d:Nat):sIx n d none=d:=rfl
theorem sIx_nat (n d k:Nat):sIx n d (some (k:Int))=min k n:=by
 show (if (k:Int)<0 then ((k:Int)+(n:Int)).toNat else min (k:Int).toNat n)=min k n
 rw[if_neg (by omega),Int.toNat_natCast]
end
end HT
namespace L2
open PySem PySem.Spec PyProof.Rows
abbrev TO:=St→Hp→(Option Int→Hp→Prop)→Prop
def PO (X:Cx)(e:Option Expr)(t:TO):Prop :=
 ∀(pins:List (Addr×Obj)) (s:Shared) (σ:St) (H:Hp) (Q:Option Int→Hp→Prop),Inv X pins σ H s→t σ H Q →
   wpAny (model X.prog X.w) X.A (evalPart e X.env) (fun u s'=>∃o H',Inv X pins σ H' s'∧IsPart u o∧Q o H') X.xe s
def Xqj:TO:=fun _ H Q=>Q none H
def XGj (t:TE):TO:=fun σ H Q=>t σ H fun x H1=>∃i,x = .int i∧Q (some i) H1
theorem Xds {ns:List Int}:∀{us:List Value},Vals (ns.map V.int) us→IntsAre us ns:=by
 induction ns with
 | nil=>intro us r;rw[List.map_nil] at r;cases r;exact .nil
 | cons n ns ih =>
   intro us r
   rw[List.map_cons] at r
   cases r with
   | cons r1 r2 =>
     obtain⟨t,e⟩:=r1
     subst e
     exact .cons n t (ih r2)
section
variable {X:Cx}{e:Expr}{te:TE}{lo hi:Option Expr}{tl th:TO}{pos p2:Pos}
theorem Xpo:PO X none Xqj:=by
 intro pins s σ H Q I h
 rw[evalPart_none]
 exact wpAny_pure ⟨none,H,I,.none,h⟩
theorem Xfs (h:PE X e te):PO X (some e) (XGj te):=by
 intro pins s σ H Q I hw
 rw[evalPart_some]
 refine thn (h pins s σ H _ I hw) fun u s1 ⟨x,H1,I1,r1,q1⟩=>?_
 obtain⟨i,rfl,q⟩:=q1
 obtain⟨t,rfl⟩:=r1
 exact⟨some i,H1,I1,.int i t,q⟩
def SlR (X:Cx)(r:V→Option Int→Option Int→Hp→VK→Prop):Prop :=
 ∀(pins:List (Addr×Obj)) (s:Shared) (σ:St) (H:Hp) (x:V) (v vl vu:Value) (lo hi:Option Int) (sl:Addr) (Q:VK),Inv X pins σ H s→RelV x v→s.heap.IsSliceOf sl vl vu .none→IsPart vl lo→IsPart vu hi→r x lo hi H Q →
   ∃T id,typeLookup (.type T) "__getitem__"=pure (some (.builtin id))∧s.TypeIs v T∧wpAny (model X.prog X.w) X.A (getItem v (.ref sl)) (EP X pins σ Q) X.xe s
def tSl (r:V→Option Int→Option Int→Hp→VK→Prop)(te:TE)(tl th:TO):TE:=fun σ H Q=>te σ H fun x H1=>tl σ H1 fun l H2=>th σ H2 fun u H3=>r x l u H3 Q
theorem Xgh {r:V→Option Int→Option Int→Hp→VK→Prop}(hr:SlR X r)(he:PE X e te)(hl:PO X lo tl)(hu:PO X hi th):PE X (.Subscript e (.Slice lo hi none p2) pos) (tSl r te tl th):=by
 intro pins s σ H Q I h
 refine Subscript_ (thn (he pins s σ H _ I h) fun v s1 ⟨x,H1,I1,r1,q1⟩=>?_)
 refine wpAny_Slice (thn (hl pins s1 σ H1 _ I1 q1) fun vl s2 ⟨l,H2,I2,pl,q2⟩=>thn (hu pins s2 σ H2 _ I2 q2) fun vu s3 ⟨u,H3,I3,pu,q3⟩=>?_)
 rw[evalPart_none]
 refine wpAny_pure ?_
 have I4:Inv X pins σ H3 { s3 with heap:=s3.heap.push { cls:=.type "slice",data:=.fields #[vl,vu,.none] } }:=I3.kept (t':=s3.toks) fun b ob q=>Heap.get?_push_of_some _ q
 obtain⟨T,id,hT,ht,hg⟩:=hr pins { s3 with heap:=s3.heap.push { cls:=.type "slice",data:=.fields #[vl,vu,.none] } } σ H3 x v vl vu l u s3.heap.objs.size Q I4 r1 (Heap.IsSliceOf.new ..) pl pu q3
 show wpAny (model X.prog X.w) X.A (subscriptTail e (.Slice lo hi none p2) v (.ref s3.heap.objs.size)) (EP X pins σ Q) X.xe { s3 with heap:=s3.heap.push { cls:=.type "slice",data:=.fields #[vl,vu,.none] } }
 exact tail_any (ops:=[.ref s3.heap.objs.size,v]) ht hT hg (by with_unfolding_all rfl)
def cutV (xs:List V)(lo hi:Option Int):List V:=(xs.drop (HT.sIx xs.length 0 lo)).take (HT.sIx xs.length xs.length hi-HT.sIx xs.length 0 lo)
theorem Xlo (xs:List V)(lo hi:Option Int):(cutV xs lo hi).length≤xs.length:=by
 unfold cutV
 rw[List.length_take,List.length_drop]
 omega
end
end L2
namespace L2
open PySem PySem.Spec PyProof.Rows
def ixN (n:Nat)(i:Int):Option Nat:=if 0≤i then (if i<n then some i.toNat else none) else if -(n:Int)≤i then some (i+n).toNat else none
def atI {α:Type}(xs:List α)(i:Int):Option α:=(ixN xs.length i).bind fun j=>xs[j]?
theorem Xtc {n:Nat}{i:Int}{j:Nat}(h:ixN n i=some j):seqIndex? i n=some j∧j<n∧-(n:Int)≤i∧i<n:=by
 unfold ixN at h
 by_cases h0:0≤i
 · rw[if_pos h0] at h
   by_cases h1:i<n
   · rw[if_pos h1] at h
     have e:i.toNat=j:=Option.some.inj h
     exact⟨by rw[seqIndex_of h0 h1,e],by omega,by omega,h1⟩
   · rw[if_neg h1] at h;cases h
 · rw[if_neg h0] at h
   by_cases h1 : -(n:Int)≤i
   · rw[if_pos h1] at h
     have e:(i+n).toNat=j:=Option.some.inj h
     exact⟨by rw[seqIndex_neg (by omega) h1,e],by omega,h1,by omega⟩
   · rw[if_neg h1] at h;cases h
theorem Xqf {α:Type}{xs:List α}{i:Int}{v:α}(h:atI xs i=some v):∃j,seqIndex? i xs.length=some j∧xs[j]?=some v∧j<xs.length∧-(xs.length:Int)≤i∧i<xs.length:=by
 unfold atI at h
 cases e:ixN xs.length i with
 | none=>rw[e] at h;cases h
 | some j =>
   rw[e] at h
   obtain⟨h1,h2,h3,h4⟩:=Xtc e
   exact⟨j,h1,h,h2,h3,h4⟩
theorem Xgn {α:Type}{xs:List α}{j:Nat}{v:α}(h:xs[j]?=some v):atI xs (j:Int)=some v:=by
 have hj:j<xs.length:=(List.getElem?_eq_some_iff.mp h).1
 have e:ixN xs.length (j:Int)=some j:=by
   unfold ixN
   rw[if_pos (by omega),if_pos (by omega)];simp
 unfold atI;rw[e];exact h
def Xzs (b:Expr):Prop:=∀o i,subscripted b false o i=operate [o,i] (getItem o i)
def IxR (X:Cx)(r:R2):Prop :=
 ∀(value slice:Expr) (pins:List (Addr×Obj)) (s:Shared) (σ:St) (H:Hp) (x y:V) (v u:Value) (Q:VK),Inv X pins σ H s→RelV x v→RelV y u→r x y H Q →
   subscripted slice false v u=operate [v,u] (getItem v u)→wpAny (model X.prog X.w) X.A (subscriptTail value slice v u) (EP X pins σ Q) X.xe s
def MtR (X:Cx)(id:String)(r:V→List V→Hp→VK→Prop):Prop :=
 ∀(pins:List (Addr×Obj)) (s:Shared) (σ:St) (H:Hp) (x:V) (xs:List V) (v:Value) (us:List Value) (Q:VK),Inv X pins σ H s→RelV x v→Vals xs us→r x xs H Q →
   wpAny (model X.prog X.w) X.A (call (.builtin id) (v::us)) (EP X pins σ Q) X.xe s
section
variable {X:Cx}{a b:Expr}{ta tb:TE}{pos:Pos}
theorem Xbd {r:R2}(hr:IxR X r)(ha:PE X a ta)(hb:PE X b tb)(hs:Xzs b):PE X (.Subscript a b pos) (tOp r ta tb):=by
 intro pins s σ H Q I h
 exact Subscript_ (binT ha hb I h fun v u s2 x y H2 I2 rx ry q=>hr a b pins s2 σ H2 x y v u Q I2 rx ry q (hs _ _))
def rIxL (K:PySem.W.Frag):R2:=fun x y H Q=>∃p xs i v,x = .ref p∧y = .int i∧SqL K H p xs∧atI xs i=some v∧Q v H
def rIxT (K:PySem.W.Frag):R2:=fun x y H Q=>∃p xs i v,x = .ref p∧y = .int i∧SqT K H p xs∧atI xs i=some v∧Q v H
theorem Xba:IxR X (rIxL X.K):=by
 intro value slice pins s σ H x y v u Q I rx ry h hs
 obtain⟨p,xs,i,z,rfl,rfl,hq,he,q⟩:=h
 cases rx
 obtain⟨t,rfl⟩:=ry
 obtain⟨its,r,pl,hz⟩:=I.list hq
 obtain⟨j,h1,h2,h3,h4,h5⟩:=Xqf he
 obtain⟨w,ew,rw'⟩:=r.get h2
 have hl:=r.length
 have hn:=Xkk
 have fin:EP X pins σ Q w s:=⟨z,H,I,rw',q⟩
 by_cases h0:0≤i
 · have hj:i.toNat=j:=by
     rw[seqIndex_of h0 h5] at h1
     exact Option.some.inj h1
   exact item_listR pl.isList h0 (by omega) (by rw[hj];simpa using ew) fin hs
 · have hj:(i+(its.toArray.size:Int)).toNat=j:=by
     rw[seqIndex_neg (by omega) h4] at h1
     rw[List.size_toArray,←hl]
     exact Option.some.inj h1
   exact subscriptTail_builtinR (x:=w) pl.isList.typeIs slot_list_getitem.lookup
     (wpAny_getItem_list_neg (Q:=fun r s'=>r=w∧EP X pins σ Q r s') pl.isList (by omega) (by rw[List.size_toArray] <;> omega) (by omega) (by rw[hj];simpa using ew) ⟨rfl,fin⟩) hs
theorem Xdc:IxR X (rIxT X.K):=by
 intro value slice pins s σ H x y v u Q I rx ry h hs
 obtain⟨p,xs,i,z,rfl,rfl,hq,he,q⟩:=h
 cases rx
 obtain⟨t,rfl⟩:=ry
 obtain⟨its,r,pl,hz⟩:=I.tuple hq
 obtain⟨j,h1,h2,h3,h4,h5⟩:=Xqf he
 obtain⟨w,ew,rw'⟩:=r.get h2
 have hl:=r.length
 have hn:=Xkk
 have fin:EP X pins σ Q w s:=⟨z,H,I,rw',q⟩
 exact subscriptTail_builtinR (x:=w) pl.typeIs slot_tuple_getitem.lookup
   (getItem_tuple (j:=j) (Q:=fun r s'=>r=w∧EP X pins σ Q r s') pl (by omega) (by omega) (by rw[List.size_toArray,←hl];exact h1) (by simpa using ew) ⟨rfl,fin⟩) hs
theorem Xoj (its:List Value)(n j:Nat)(u:Value):Obj.mapSeq (·.setIfInBounds j u) { cls:=.type "list",data:=.seq its.toArray n }={ cls:=.type "list",data:=.seq (its.set j u).toArray n }:=by
 simp [Obj.mapSeq]
theorem Inv.lst {pins:List (Addr×Obj)}{σ:St}{H:Hp}{s:Shared}{p:Addr}{xs:List V}(I:Inv X pins σ H s)(h:H p=some (.lst xs)) :
   ∃(its:List Value) (n:Nat),Vals xs its∧s.heap.get? p=some { cls:=.type "list",data:=.seq its.toArray n }∧xs.length≤sizeLine:=by
 obtain⟨z,its,n,r,e⟩:=I.hok p _ h
 exact⟨its,n,r,e,z⟩
theorem Inv.lstUpd {pins:List (Addr×Obj)}{σ:St}{H:Hp}{s:Shared}{p:Addr}{xs ys:List V}{its its':List Value}{n n':Nat}{f:Obj→Obj}(I:Inv X pins σ H s)(h:H p=some (.lst xs))
   (ho:s.heap.get? p=some { cls:=.type "list",data:=.seq its.toArray n }) (hf:f { cls:=.type "list",data:=.seq its.toArray n }={ cls:=.type "list",data:=.seq its'.toArray n' }) (r:Vals ys its') (hz:ys.length≤sizeLine) (t:Nat) :
   Inv X pins σ (upd H p (.lst ys)) { s with heap:=s.heap.update p f,toks:=t }:=by
 have e:(s.heap.update p f).get? p=some { cls:=.type "list",data:=.seq its'.toArray n' }:=by
   rw[Heap.get?_update_self f ho (by rw[hf] <;> rfl),hf]
 refine I.write (x:=p) (e:=p) (by rw[h];trivial) (.inl rfl) (fun b u hb q=>(Heap.get?_update_other _ _ (Ne.symm hb)).trans q) ⟨_,e⟩ ?_
 exact⟨hz,its',n',r,e⟩
def XEr:V→V→V→Hp→(Hp→Prop)→Prop:=fun o i v H Q=>∃p xs k j,o = .ref p∧i = .int k∧H p=some (.lst xs)∧ixN xs.length k=some j∧Q (upd H p (.lst (xs.set j v)))
theorem Xfj:PSet X XEr:=by
 intro pins s σ H o i v ov iv u Q I ro ri rv h
 obtain⟨p,xs,k,j,rfl,rfl,hp,hj,q⟩:=h
 cases ro
 obtain⟨t,rfl⟩:=ri
 obtain⟨its,n,r,ho,hz⟩:=I.lst hp
 obtain⟨h1,h2,h3,h4⟩:=Xtc hj
 have hl:=r.length
 have hn:=Xkk
 have I':Inv X pins σ (upd H p (.lst (xs.set j v))) { s with heap:=s.heap.update p (Obj.mapSeq (·.setIfInBounds j u)) } :=
   I.lstUpd hp ho (Xoj its n j u) (r.set rv j) (by rw[List.length_set];exact hz) s.toks
 by_cases h0:0≤k
 · have hk:k.toNat=j:=by
     rw[seqIndex_of h0 h4] at h1
     exact Option.some.inj h1
   exact PySem.W.ki_setAt ho h0 (by omega) (by rw[List.size_toArray,←hl];exact h4) (by rw[hk];exact⟨_,I',q⟩)
 · have hk:(k+(its.toArray.size:Int)).toNat=j:=by
     rw[seqIndex_neg (by omega) h3] at h1
     rw[List.size_toArray,←hl]
     exact Option.some.inj h1
   exact PySem.W.ki_setBack ho (by omega) (by rw[List.size_toArray,←hl];exact h3) (by omega) (by rw[hk];exact⟨_,I',q⟩)
theorem Xjx (lo hi:Option Int)(n:Nat):(sliceBounds lo hi none n).1=((HT.sIx n 0 lo:Nat):Int)∧(sliceBounds lo hi none n).2.1=((HT.sIx n n hi:Nat):Int)∧(sliceBounds lo hi none n).2.2=1:=by
 refine⟨?_,?_,rfl⟩
 · cases lo with
   | none=>simp [sliceBounds,HT.sIx]
   | some i =>
     simp only [sliceBounds,HT.sIx,Option.getD_none,show (1:Int)>0 by decide,if_true]
     by_cases h:i<0
     · simp only [h,if_true] <;> omega
     · simp only [h,if_false] <;> omega
 · cases hi with
   | none=>simp [sliceBounds,HT.sIx]
   | some i =>
     simp only [sliceBounds,HT.sIx,Option.getD_none,show (1:Int)>0 by decide,if_true]
     by_cases h:i<0
     · simp only [h,if_true] <;> omega
     · simp only [h,if_false] <;> omega
theorem Xja (its:List Value)(lo hi:Option Int):slicePick its.toArray lo hi none=((its.drop (HT.sIx its.length 0 lo)).take (HT.sIx its.length its.length hi-HT.sIx its.length 0 lo)).toArray:=by
 obtain⟨h1,h2,h3⟩:=Xjx lo hi its.toArray.size
 unfold slicePick
 rw[h1,h2,h3]
 simp only [sliceRange_one,pick_run,List.size_toArray] <;> rfl
def rSlL (K:PySem.W.Frag):V→Option Int→Option Int→Hp→VK→Prop:=fun x lo hi H Q=>∃a xs,x = .ref a∧SqL K H a xs∧∀p,H p=none→Q (.ref p) (upd H p (.lst (cutV xs lo hi)))
theorem Xir:SlR X (rSlL X.K):=by
 intro pins s σ H x v vl vu lo hi sl Q I rx hs pl pu h
 obtain⟨a,xs,rfl,hx,q⟩:=h
 cases rx
 obtain⟨its,r,ht,hz⟩:=I.list hx
 have hlen:=r.length
 refine⟨"list",_,slot_list_getitem.lookup,ht.isList.typeIs,?_⟩
 refine wpAny_getItem_list_slice ht.isList hs pl pu .none (by simp) ?_ (by rw[List.size_toArray] <;> omega)
 rw[Xja,←hlen]
 refine⟨.ref s.heap.objs.size,_,I.laid (t':=s.toks) (o:=.lst (cutV xs lo hi)) (fun b ob q=>Heap.get?_push_of_some _ q) (Nat.le_refl _) ?_,rfl,q _ (I.hok.fresh (Nat.le_refl _))⟩
 exact⟨Nat.le_trans (Xlo xs lo hi) hz,_,0,(r.drop (HT.sIx xs.length 0 lo)).take (HT.sIx xs.length xs.length hi-HT.sIx xs.length 0 lo),Heap.get?_push_size _ rfl⟩
def Xdb:V→Bool
 | .non=>true
 | .bl _=>true
 | .int _=>true
 | .str _=>true
 | _=>false
def eqV:V→V→Bool
 | .non,.non=>true
 | .bl a,.bl b=>a==b
 | .bl a,.int b=>(if a then 1 else 0)==b
 | .int a,.bl b=>a==(if b then 1 else 0)
 | .int a,.int b=>a==b
 | .str a,.str b=>a==b
 | _,_=>false
theorem Xwi {A:Around}{s:Shared}{y x:V}{u v:Value}(ry:RelV y u)(rx:RelV x v)(fy:Xdb y=true)(fx:Xdb x=true):SeqAt.EqAt A s u v (eqV y x):=by
 cases y with
 | non =>
   cases ry
   cases x with
   | non=>cases rx;exact SeqAt.EqAt.same _
   | bl b=>cases rx;exact SeqAt.EqAt.none_bool b
   | int b=>obtain⟨t,rfl⟩:=rx;exact SeqAt.EqAt.none_int b t
   | str b=>obtain⟨t,rfl⟩:=rx;exact SeqAt.EqAt.none_str b t
   | _=>exact absurd (show false=true from fx) Bool.false_ne_true
 | bl a =>
   cases ry
   cases x with
   | non=>cases rx;exact SeqAt.EqAt.bool_none a
   | bl b=>cases rx;exact SeqAt.EqAt.bool_bool a b
   | int b=>obtain⟨t,rfl⟩:=rx;exact SeqAt.EqAt.bool_int a b t
   | str b=>obtain⟨t,rfl⟩:=rx;exact SeqAt.EqAt.bool_str a b t
   | _=>exact absurd (show false=true from fx) Bool.false_ne_true
 | int a =>
   obtain⟨t',rfl⟩:=ry
   cases x with
   | non=>cases rx;exact SeqAt.EqAt.int_none a t'
   | bl b=>cases rx;exact SeqAt.EqAt.int_bool a t' b
   | int b=>obtain⟨t,rfl⟩:=rx;exact SeqAt.EqAt.int_int a t' b t
   | str b=>obtain⟨t,rfl⟩:=rx;exact SeqAt.EqAt.int_str a t' b t
   | _=>exact absurd (show false=true from fx) Bool.false_ne_true
 | str a =>
   obtain⟨t',rfl⟩:=ry
   cases x with
   | non=>cases rx;exact SeqAt.EqAt.str_none a t'
   | bl b=>cases rx;exact SeqAt.EqAt.str_bool a t' b
   | int b=>obtain⟨t,rfl⟩:=rx;exact SeqAt.EqAt.str_int a t' b t
   | str b=>obtain⟨t,rfl⟩:=rx;exact SeqAt.EqAt.str_str a t' b t
   | _=>exact absurd (show false=true from fx) Bool.false_ne_true
 | _=>exact absurd (show false=true from fy) Bool.false_ne_true
def eqU (x:V)(u:Value):Bool:=match u with
 | .none=>eqV .non x
 | .bool b=>eqV (.bl b) x
 | .int i _=>eqV (.int i) x
 | .str z _=>eqV (.str z) x
 | _=>false
theorem Xwr {x y:V}{u:Value}(r:RelV y u)(f:Xdb y=true):eqU x u=eqV y x:=by
 cases y with
 | non=>cases r;rfl
 | bl b=>cases r;rfl
 | int i=>obtain⟨t,rfl⟩:=r;rfl
 | str z=>obtain⟨t,rfl⟩:=r;rfl
 | _=>exact absurd (show false=true from f) Bool.false_ne_true
theorem Xhd {x:V}:∀{xs:List V} {us:List Value},Vals xs us→xs.all Xdb=true→us.any (eqU x)=xs.any fun y=>eqV y x
 | _,_,.nil,_=>rfl
 | y::xs,u::us,.cons r t,f=>by
   rw[List.all_cons,Bool.and_eq_true] at f
   rw[List.any_cons,List.any_cons,Xwr r f.1,Xhd t f.2]
theorem Xfg {A:Around}{s:Shared}{x:V}{v:Value}(rx:RelV x v)(fx:Xdb x=true):∀{xs:List V} {us:List Value},Vals xs us→xs.all Xdb=true→∀u∈us,SeqAt.EqAt A s u v (eqU x u)
 | _,_,.nil,_=>fun u hu=>by cases hu
 | y::xs,u::us,.cons r t,f=>fun u' hu=>by
   rw[List.all_cons,Bool.and_eq_true] at f
   rcases List.mem_cons.mp hu with rfl | hu
   · rw[Xwr r f.1];exact Xwi r rx f.1 fx
   · exact Xfg rx fx t f.2 u' hu
def inV (x:V)(xs:List V):Bool:=xs.any fun y=>eqV y x
def rIn (K:PySem.W.Frag)(neg:Bool):R2:=fun x y H Q=>∃p xs,y = .ref p∧(SqL K H p xs∨SqT K H p xs)∧Xdb x=true∧xs.all Xdb=true∧Q (.bl (if neg then !inV x xs else inV x xs)) H
theorem Xro:OpR X (compareOp .In) (rIn X.K false):=by
 intro pins s σ H x y v u Q I rx ry h
 obtain⟨p,xs,rfl,hq,fx,fs,q⟩:=h
 cases ry
 rcases hq with hq | hq
 · obtain⟨its,r,pl,hz⟩:=I.list hq
   refine SeqAt.in_listAt (eqU x) pl.isList (fun w hw=>Xfg rx fx r fs w (by simpa using hw)) ⟨.bl _,H,I,rfl,?_⟩
   rw[show its.toArray.any (eqU x)=its.any (eqU x) by simp,Xhd r fs]
   exact q
 · obtain⟨its,r,pl,hz⟩:=I.tuple hq
   refine SeqAt.in_tupleAt (eqU x) pl (fun w hw=>Xfg rx fx r fs w (by simpa using hw)) ⟨.bl _,H,I,rfl,?_⟩
   rw[show its.toArray.any (eqU x)=its.any (eqU x) by simp,Xhd r fs]
   exact q
theorem Xkp:OpR X (compareOp .NotIn) (rIn X.K true):=by
 intro pins s σ H x y v u Q I rx ry h
 obtain⟨p,xs,rfl,hq,fx,fs,q⟩:=h
 cases ry
 rcases hq with hq | hq
 · obtain⟨its,r,pl,hz⟩:=I.list hq
   refine SeqAt.notIn_listAt (eqU x) pl.isList (fun w hw=>Xfg rx fx r fs w (by simpa using hw)) ⟨.bl _,H,I,rfl,?_⟩
   rw[show its.toArray.any (eqU x)=its.any (eqU x) by simp,Xhd r fs]
   exact q
 · obtain⟨its,r,pl,hz⟩:=I.tuple hq
   refine SeqAt.notIn_tupleAt (eqU x) pl (fun w hw=>Xfg rx fx r fs w (by simpa using hw)) ⟨.bl _,H,I,rfl,?_⟩
   rw[show its.toArray.any (eqU x)=its.any (eqU x) by simp,Xhd r fs]
   exact q
theorem Xav:Xhs X (.builtin "len") (fun xs H Q=>∃p ys,xs=[.ref p]∧(SqL X.K H p ys∨SqT X.K H p ys)∧Q (.int ys.length) H):=by
 intro pins s σ H xs us Q I r h
 obtain⟨p,ys,rfl,hq,q⟩:=h
 obtain⟨u,rfl,rx⟩:=Xsm r
 cases rx
 have hn:=Xkk
 rcases hq with hq | hq
 · obtain⟨its,r',pl,hz⟩:=I.list hq
   have hlen:=r'.length
   exact Calls.call_len_list pl.isList (by simp only [List.size_toArray] <;> omega) ⟨.int ys.length,H,I.tok _,⟨s.toks+1,by rw[List.size_toArray,hlen]⟩,q⟩
 · obtain⟨its,r',pl,hz⟩:=I.tuple hq
   have hlen:=r'.length
   exact len_tuple pl (by simp only [List.size_toArray] <;> omega) ⟨.int ys.length,H,I.tok _,⟨s.toks+1,by rw[List.size_toArray,hlen]⟩,q⟩
theorem Xco:Xhs X (.type "list") (fun xs H Q=>∃p ys,xs=[.ref p]∧(SqL X.K H p ys∨SqT X.K H p ys)∧∀l,H l=none→Q (.ref l) (upd H l (.lst ys))):=by
 intro pins s σ H xs us Q I r h
 obtain⟨p,ys,rfl,hq,q⟩:=h
 obtain⟨u,rfl,rx⟩:=Xsm r
 cases rx
 have fin:∀(its:List Value),Vals ys its→ys.length≤sizeLine→∀(h':Heap) (c':Nat),(∀b o',s.heap.get? b=some o'→h'.get? b=some o') →
     h'.get? s.heap.objs.size=some { cls:=.type "list",dict:=none,data:=.seq its.toArray c',slots:=#[] }→EP X pins σ Q (.ref s.heap.objs.size) { s with heap:=h' }:=fun its r' hz h' c' kp e =>
   ⟨.ref s.heap.objs.size,_,I.laid (t':=s.toks) kp (Nat.le_refl _) (show Xbq X.prog X.w _ h' _ (.lst ys) from ⟨hz,its,c',r',e⟩),rfl,q _ (I.hok.fresh (Nat.le_refl _))⟩
 rcases hq with hq | hq
 · obtain⟨its,r',pl,hz⟩:=I.list hq
   have hlen:=r'.length
   obtain⟨o,ho,hc,n,hd⟩:=pl.isList
   exact call_list_seq p (.inl rfl) ho hc hd (fun h' c' kp e=>fin its r' hz h' c' kp e) (by simp only [List.size_toArray] <;> omega)
 · obtain⟨its,r',pl,hz⟩:=I.tuple hq
   have hlen:=r'.length
   obtain⟨o,ho,hc,n,hd⟩:=pl
   exact call_list_seq p (.inr rfl) ho hc hd (fun h' c' kp e=>fin its r' hz h' c' kp e) (by simp only [List.size_toArray] <;> omega)
def tyV (K:PySem.W.Frag)(T:String)(x:V)(H:Hp):Prop:=match x with
 | .str _=>T="str"
 | .int _=>T="int"
 | .ref p=>(T="list"∧∃xs,SqL K H p xs)∨(T="tuple"∧∃o,K.lookup p=some o∧o.cls = .type "tuple"∧o.dict=none) ∨
     (T="dict"∧((∃kvs,H p=some (.dK kvs))∨∃kvs,H p=some (.dT kvs)))∨(T="set"∧∃S n,H p=some (.set S n))
 | _=>False
theorem Xvy {pins:List (Addr×Obj)}{σ:St}{H:Hp}{s:Shared}{T:String}{x:V}{v:Value}(I:Inv X pins σ H s)(r:RelV x v)(ty:tyV X.K T x H) :
   s.TypeIs v T∧∀a,v = .ref a→∃ob,s.heap.get? a=some ob∧ob.dict=none:=by
 cases x with
 | str z =>
   obtain⟨t,rfl⟩:=r
   cases (show T="str" from ty)
   exact⟨typeIs_str s z t,fun _ e=>nomatch e⟩
 | int i =>
   obtain⟨t,rfl⟩:=r
   cases (show T="int" from ty)
   exact⟨typeIs_int s i t,fun _ e=>nomatch e⟩
 | ref p =>
   cases r
   rcases ty with ⟨rfl,xs,hq⟩ | ⟨rfl,o,hk,hc,hd⟩ | ⟨rfl,hk⟩ | ⟨rfl,S,n,hk⟩
   · obtain⟨its,_,pl,_⟩:=I.list hq
     refine⟨pl.isList.typeIs,fun a e=>?_⟩
     cases e
     obtain⟨o,n,e,c,hd,_⟩:=pl
     exact⟨o,e,hd⟩
   · refine⟨⟨o,I.kIn p o hk,hc⟩,fun a e=>?_⟩
     cases e
     exact⟨o,I.kIn _ o hk,hd⟩
   · have z:∃o,s.heap.get? p=some o∧o.ExactDict:=by
       rcases hk with ⟨kvs,hk⟩ | ⟨kvs,hk⟩
       · obtain⟨_,_,_,_,o,_,_,e,ex,_⟩:=I.hok p _ hk
         exact⟨o,e,ex⟩
       · obtain⟨_,_,_,_,o,_,_,e,ex,_⟩:=I.hok p _ hk
         exact⟨o,e,ex⟩
     obtain⟨o,e,ex⟩:=z
     refine⟨⟨o,e,ex.1⟩,fun a e2=>?_⟩
     cases e2
     exact⟨o,e,ex.2.1⟩
   · obtain⟨o,_,_,_,e,ex,_⟩:=I.hok p _ hk
     refine⟨⟨o,e,ex.1⟩,fun a e2=>?_⟩
     cases e2
     exact⟨o,e,ex.2.1⟩
 | _=>exact False.elim ty
def tBM0 (K:PySem.W.Frag)(T:String)(r:V→List V→Hp→VK→Prop)(to:TE):TE:=fun σ H Q=>to σ H fun x H1=>tyV K T x H1∧r x [] H1 Q
def tBM (K:PySem.W.Frag)(T:String)(r:V→List V→Hp→VK→Prop)(to:TE)(t:TA):TE:=fun σ H Q=>to σ H fun x H1=>tyV K T x H1∧t σ H1 fun xs H2=>r x xs H2 Q
variable {o e:Expr}{es:List Expr}{to:TE}{t:TA}{name:Str}{apos cpos:Pos}{T id:String}{r:V→List V→Hp→VK→Prop}
theorem Xwu (pa:PlainAttrs T)(slot:Slot T name id)(hty:typeOf (.builtin id)=pure (.type "method_descriptor"))(hm:MtR X id r)(ho:PE X o to)
   (hbase:attributeBase o name X.env (eval o X.env)=eval o X.env:=by rfl) (hline:(apos.endLine==cpos.line)=true:=by rfl):PE X (.Call (.Attribute o name apos) [] [] cpos) (tBM0 X.K T r to):=by
 intro pins s σ H Q I h
 refine wpAny_Call_method0_late hbase hline (thn (ho pins s σ H _ I h) fun v s1 ⟨x,H1,I1,r1,ty,q1⟩=>?_)
 obtain⟨h1,h2⟩:=Xvy I1 r1 ty
 exact⟨T,id,pa,slot,hty,h1,h2,Calls.callWith_builtin rfl (PySem.evalArgs_none (hm pins s1 σ H1 x [] v [] Q I1 r1 .nil q1))⟩
theorem XAg (pa:PlainAttrs T)(slot:Slot T name id)(hty:typeOf (.builtin id)=pure (.type "method_descriptor"))(hm:MtR X id r)(ho:PE X o to)(ha:PA X (e::es) t)
   (hbase:attributeBase o name X.env (eval o X.env)=eval o X.env:=by rfl)
   (hfew:((backTo cpos (starEach (e::es) X.env)).all (fun x=>!x.1)&&(backToKw cpos (keywordEach [] X.env)).all (fun x=>x.1.isSome)
     && decide ((e::es).length+([]:List Keyword).length+(if ([]:List Keyword).isEmpty then 0 else 1)<30))=true:=by rfl)
   (hline:(apos.endLine==cpos.line)=true:=by rfl) (hs:starEach (e::es) X.env=(false,eval e X.env)::starEach es X.env:=by rfl) (hplain:(backTo cpos (starEach es X.env)).any (·.1)=false:=by rfl) :
   PE X (.Call (.Attribute o name apos) (e::es) [] cpos) (tBM X.K T r to t):=by
 intro pins s σ H Q I h
 refine wpAny_Call_method_late hbase hfew hline rfl (thn (ho pins s σ H _ I h) fun v s1 ⟨x,H1,I1,r1,ty,q1⟩=>?_)
 obtain⟨h1,h2⟩:=Xvy I1 r1 ty
 refine⟨T,id,pa,slot,hty,h1,h2,?_⟩
 have hA:=ha cpos pins s1 σ H1 _ I1 q1
 rw[hs] at hA ⊢
 refine Calls.callWith_builtin (by show (false||(backTo cpos (starEach es X.env)).any (·.1))=false;rw[hplain] <;> rfl) (Calls.evalArgs_plain ?_)
 exact thn hA fun us s2 ⟨vs,H2,I2,r2,q2⟩=>hm pins s2 σ H2 x vs v us Q I2 r1 r2 q2
/- xs.append(e),list.index on a module's tuple .. are MtR facts of 06m -/
end
end L2
namespace L2
open PySem PySem.Spec PyProof.Rows
def MtM (X:Cx)(id:String)(r:V→List V→Hp→VK→Prop):Prop :=
 ∀(pins:List (Addr×Obj)) (s:Shared) (σ:St) (H:Hp) (x:V) (xs:List V) (v:Value) (us:List Value) (Q:VK),Inv X pins σ H s→RelV x v→Vals xs us→r x xs H Q →
   wpAny (model X.prog X.w) X.A (call (.builtin id) (v::us)) (EP X pins σ Q) X.xe s
theorem Vals.one:∀{x:V} {us:List Value},Vals [x] us→∃u,us=[u]∧RelV x u
 | _,_,.cons r .nil=>⟨_,rfl,r⟩
theorem Vals.zero:∀{us:List Value},Vals [] us→us=[]
 | _,.nil=>rfl
theorem Vals.rep {xs:List V}{us:List Value}(h:Vals xs us):∀k:Nat,Vals (List.replicate k xs).flatten (List.replicate k us).flatten
 | 0=>.nil
 | k+1=>by
   rw[List.replicate_succ,List.replicate_succ,List.flatten_cons,List.flatten_cons]
   exact Vals.append h (Vals.rep h k)
theorem Xkx (its:List Value):∀(k:Nat) (acc:List Value),
   List.foldl (fun x1 x2=>x1++x2) acc.toArray (List.replicate k its.toArray)=(acc++(List.replicate k its).flatten).toArray
 | 0,acc=>by simp
 | k+1,acc=>by
   have e:acc.toArray++its.toArray=(acc++its).toArray:=by simp
   have e2:(acc++its)++(List.replicate k its).flatten=acc++(List.replicate (k+1) its).flatten:=by
     rw[List.replicate_succ,List.flatten_cons,List.append_assoc]
   rw[←e2,←Xkx its k (acc++its),←e,List.replicate_succ,List.foldl_cons]
section
variable {X:Cx}{pins:List (Addr×Obj)}{σ:St}{H:Hp}{s:Shared}{l b:Addr}{xs ys zs:List V}
theorem Inv.lset {its its':List Value}{n:Nat}{f:Array Value→Array Value}{t':Nat}(I:Inv X pins σ H s)(hH:H l=some (.lst xs))
   (e:s.heap.get? l=some { cls:=.type "list",data:=.seq its.toArray n }) (hf:f its.toArray=its'.toArray) (hv:Vals ys its') (hz:ys.length≤sizeLine) :
   Inv X pins σ (upd H l (.lst ys)) { s with heap:=s.heap.update l (Obj.mapSeq f),toks:=t' }:=by
 have q:=PySem.IsL.update e f
 rw[hf] at q
 refine I.write (x:=l) (e:=l) (by rw[hH];exact trivial) (.inl rfl) (fun b' u hb hu=>(Heap.get?_update_other s.heap (Obj.mapSeq f) (Ne.symm hb)).trans hu) ⟨_,q⟩ ?_
 exact⟨hz,its',_,hv,q⟩
theorem Inv.lnew {its:List Value}{t':Nat}(I:Inv X pins σ H s)(hv:Vals ys its)(hz:ys.length≤sizeLine) :
   Inv X pins σ (upd H s.heap.objs.size (.lst ys)) { s with heap:=s.heap.push { cls:=.type "list",data:=.seq its.toArray },toks:=t' } :=
 I.laid (fun _ _ q=>Heap.get?_push_of_some _ q) (Nat.le_refl _) ⟨hz,its,0,hv,Heap.get?_push_size _ rfl⟩
theorem Inv.fresh (I:Inv X pins σ H s):H s.heap.objs.size=none:=I.hok.fresh (Nat.le_refl _)
theorem Inv.lstM (I:Inv X pins σ H s)(hH:H l=some (.lst xs)):xs.length≤sizeLine∧∃(its:List Value) (n:Nat),Vals xs its∧xs.length=its.length∧s.heap.get? l=some { cls:=.type "list",data:=.seq its.toArray n }:=by
 obtain⟨z,its,n,r,e⟩:=I.hok l _ hH
 exact⟨z,its,n,r,r.length,e⟩
theorem Xmq {n:Nat}(h:n≤sizeLine):Builtin.List.listTooLong n=false:=by
 unfold Builtin.List.listTooLong
 exact decide_eq_false (by omega)
end
section
variable {X:Cx}
def Xqo:V→List V→Hp→VK→Prop:=fun x vs H Q=>∃l xs y,x = .ref l∧vs=[y]∧H l=some (.lst xs)∧xs.length<sizeLine∧Q .non (upd H l (.lst (xs++[y])))
theorem Xfm:MtM X "list.append" Xqo:=by
 intro pins s σ H x vs v us Q I rx rv h
 obtain⟨l,xs,y,rfl,rfl,hH,hz,q⟩:=h
 cases rx
 obtain⟨u,rfl,ru⟩:=rv.one
 obtain⟨z,its,n,r,hl,e⟩:=I.lstM hH
 refine call_meets F.slot_list_append ⟨_,e,rfl⟩ F.entry_list_append (F.args_list_append_2 _ _) (PySem.list_append l its.toArray n u (by rw[List.size_toArray];omega)) ⟨e,?_⟩
 refine⟨.non,_,I.lset (its':=its++[u]) hH e (by simp) (r.append (.cons ru .nil)) ?_,rfl,q⟩
 rw[List.length_append,List.length_singleton]
 omega
def Xxy:V→List V→Hp→VK→Prop:=fun x vs H Q=>∃l b xs zs,x = .ref l∧vs=[.ref b]∧H l=some (.lst xs)∧H b=some (.lst zs)∧xs.length+zs.length≤sizeLine∧Q .non (upd H l (.lst (xs++zs)))
theorem XHd:MtM X "list.extend" Xxy:=by
 intro pins s σ H x vs v us Q I rx rv h
 obtain⟨l,b,xs,zs,rfl,rfl,hH,hB,hz,q⟩:=h
 cases rx
 obtain⟨u,rfl,ru⟩:=rv.one
 cases ru
 obtain⟨z,its,n,r,hl,e⟩:=I.lstM hH
 obtain⟨z2,its2,n2,r2,hl2,e2⟩:=I.lstM hB
 have hsz:its.toArray.size+its2.toArray.size≤sizeLine:=by rw[List.size_toArray,List.size_toArray];omega
 have hlong:¬(!its.toArray.isEmpty&&Builtin.List.listTooLong (its.toArray.size+its2.toArray.size))=true:=by
   rw[Xmq hsz,Bool.and_false]
   exact Bool.false_ne_true
 refine call_meets F.slot_list_extend ⟨_,e,rfl⟩ F.entry_list_extend (F.args_list_extend_2 _ _)
   (AutoSeq1.list_extend_list_list_0 l its.toArray n b its2.toArray n2 hlong (by rw[List.size_toArray];omega) (by omega)) ⟨e,e2,?_⟩
 refine⟨.non,_,I.lset (its':=its++its2) hH e (by simp) (r.append r2) ?_,rfl,q⟩
 rw[List.length_append]
 omega
def rCat:R2:=fun x y H Q=>∃l b xs zs,x = .ref l∧y = .ref b∧H l=some (.lst xs)∧H b=some (.lst zs)∧xs.length+zs.length≤sizeLine∧∀p,H p=none→Q (.ref p) (upd H p (.lst (xs++zs)))
theorem Xwo:OpR X (binaryOp .Add) rCat:=by
 intro pins s σ H x y v u Q I rx ry h
 obtain⟨l,b,xs,zs,rfl,rfl,hH,hB,hz,q⟩:=h
 cases rx
 cases ry
 obtain⟨z,its,n,r,hl,e⟩:=I.lstM hH
 obtain⟨z2,its2,n2,r2,hl2,e2⟩:=I.lstM hB
 refine PySem.P.add_list e e2 ?_ (by rw[List.size_toArray,List.size_toArray];omega)
 have ea:its.toArray++its2.toArray=(its++its2).toArray:=by simp
 rw[ea]
 exact⟨.ref _,_,I.lnew (t':=s.toks) (r.append r2) (by rw[List.length_append];omega),rfl,q _ I.fresh⟩
def rRep:R2:=fun x y H Q=>∃l k xs,x = .ref l∧y = .int k∧H l=some (.lst xs)∧-(2^63)≤k∧k<2^63∧xs.length*k.toNat≤sizeLine ∧
 ∀p,H p=none→Q (.ref p) (upd H p (.lst (List.replicate k.toNat xs).flatten))
theorem XAr {α:Type}(xs:List α)(k:Nat):(List.replicate k xs).flatten.length=k*xs.length:=by
 induction k with
 | zero=>simp
 | succ k ih=>rw[List.replicate_succ,List.flatten_cons,List.length_append,ih,Nat.succ_mul,Nat.add_comm]
theorem Xvq:OpR X (binaryOp .Mult) rRep:=by
 intro pins s σ H x y v u Q I rx ry h
 obtain⟨l,k,xs,rfl,rfl,hH,h1,h2,hz,q⟩:=h
 cases rx
 obtain⟨t,rfl⟩:=ry
 obtain⟨z,its,n,r,hl,e⟩:=I.lstM hH
 have hlen:its.toArray.size*k.toNat≤sizeLine:=by rw[List.size_toArray,←hl];exact hz
 have hcap:¬its.toArray.size*k.toNat>(2^63-1)/8:=by
   have:(sizeLine:Nat)≤(2^63-1)/8:=by decide
   omega
 have hfit:¬(!Builtin.List.listFitsIndex k)=true:=by
   rw[fitsIndex_both h1 h2]
   exact Bool.false_ne_true
 have hlong:¬Builtin.List.listTooLong (its.toArray.size*k.toNat)=true:=by
   rw[Xmq hlen]
   exact Bool.false_ne_true
 have hnew:List.foldl (fun x1 x2=>x1++x2) #[] (List.replicate (if its.toArray.isEmpty=true then 0 else k.toNat) its.toArray)=(List.replicate k.toNat its).flatten.toArray:=by
   have f0:∀m:Nat,List.foldl (fun x1 x2=>x1++x2) #[] (List.replicate m its.toArray)=(List.replicate m its).flatten.toArray:=fun m=>by
     have:=Xkx its m []
     rw[List.nil_append] at this
     exact this
   rw[f0]
   cases its with
   | nil=>simp
   | cons a r'=>rw[if_neg (by simp)]
 refine wpAny_binaryOp_repeat_ref (T:="list") (U:="int") (by decide) ⟨_,e,rfl⟩ (fun s'=>typeIs_int s' k t) noFill_list_mul F.fills_int_mul F.slot_int_rmul repeat_list F.slot_int_index.lookup
   (call_meets F.slot_int_rmul (typeIs_int s k t) F.entry_int_rmul (F.args_int_rmul_2 _ _) (int___rmul___int_list k t l its.toArray n)
     ⟨e,rfl,⟨_,e,rfl⟩,call_meets F.slot_list_mul ⟨_,e,rfl⟩ F.entry_list_mul (F.args_list_mul_2 _ _) (AutoListH.list___mul___list_int_3 l its.toArray n k t hfit hcap hlong) ⟨e,?_⟩⟩)
 rw[hnew]
 exact⟨.ref _,_,I.lnew (t':=s.toks) (r.rep k.toNat) (by rw[XAr,Nat.mul_comm];exact hz),rfl,q _ I.fresh⟩
end
section
variable {prog:Program}{w:World}{A:Around}{E:Value→Shared→Prop}{s:Shared}
end
section
variable {X:Cx}
end
end L2
namespace Att
open PySem PySem.W PySem.Calls PyProof.Rows
theorem Xhj {P:Params}{h:Heap}:∀(ns:List Int) (vs:List Value),WellAll P h vs (ns.map WData.int)→IntsAre vs ns:=by
 intro ns
 induction ns with
 | nil =>
   intro vs w
   rw[List.map_nil] at w
   cases w
   exact .nil
 | cons n ns ih =>
   intro vs w
   rw[List.map_cons] at w
   cases w with
   | cons a b =>
     cases a
     exact .cons _ _ (ih _ b)
theorem Xtg {l:OpenLaw}{n:Nat}(hn:l.most=some n){P:Params}{h:Heap}{args:List WData}{vals:List Value}
   (hpre:l.row.toRowW.claim.pre args=true) (hwl:WellAll P h vals args) :
   ∃a vs ns,vals=[Value.ref a]∧args=[WData.list (ns.map WData.int)]∧h.get? a=some { cls:=.type "list",data:=.seq vs.toArray }∧IntsAre vs ns∧ns.length≤n:=by
 have hsh:WShape.hasAll [] args [.list .int]=true:=(pre_splitW hpre).1
 have hc:l.pre.holds [] { args:=args }=true:=(pre_splitW hpre).2
 obtain⟨d,r,rfl,h1,h2⟩:=hasAllW_cons hsh
 obtain rfl:=hasAllW_nil h2
 obtain⟨xs,rfl,h3⟩:=hasW_list h1
 obtain⟨ns,rfl⟩:=items_int h3
 have hlen:ns.length≤n:=by
   unfold OpenLaw.pre at hc
   have h4:(WTm.not (.lt (.lit (.int (n:Int))) (.len (.arg 0)))).holds [] { args:=[.list (ns.map .int)] }=true:=by
     have h4:=(holds_andW hc).1
     rw[hn] at h4
     exact h4
   have h5:=condW_of h4 (w_not (w_lt w_lit (w_len_list (w_arg rfl))))
   rw[List.length_map] at h5
   refine Nat.le_of_not_lt fun q=>?_
   have q':(n:Int)<((ns.length:Nat):Int):=by omega
   first
     | (rw[decide_eq_true q'] at h5;exact absurd h5 (by decide))
     | (simp at h5;omega)
 cases hwl with
 | cons w1 w2 =>
   cases w2
   cases w1 with
   | list ho hall=>exact⟨_,_,ns,rfl,rfl,ho,Xhj ns _ hall,hlen⟩
theorem Xrj (l:OpenLaw)(args:List WData):l.row.toRowW.claim.post args (.bool true) args=true :=
 postW_of (r:=l.row.toRowW) (X:=(true==true))
   (show WShape.has [] (.bool true) .bool=true by first | rfl | decide | simp [WShape.has,WShape.arms,WShape.armsAll])
   (show (WTm.eq .res (.lit (.bool true))).value [] { args:=args,res:=some (.bool true),after:=args }=some (.bool (true==true)) from w_eq_bool (w_res rfl) w_lit) rfl
theorem attach_call {l:OpenLaw}{n:Nat}{q:Program}{loose:List Str}{XP:(Str→Option Value)→Heap→Prop}{YP:World→Heap→Prop}{d:DefRec}
   (hn:l.most=some n) (hdf:d.params.defaults=[])
   (call:∀(w:World) (s₀ s₁:Shared) (mg mb:Str→Option Value) (fa:Addr) (o:Obj) (pm cd doc:Value) (a:Addr) (vs:List Value) (ns:List Int),
     Ground q loose [] XP w s₀ mg mb s₁.heap→YP w s₁.heap →
     s₁.heap.get? fa=some o→o.data = .func (docDef d.name d.params d.body d.scope pm cd doc)→s₁.heap.CodeRec cd d.name→mg d.name=some (.ref fa) →
     s₁.heap.get? a=some { cls:=.type "list",data:=.seq vs.toArray }→IntsAre vs ns→ns.length≤n→s₁.gens=#[] →
     codeAny (model l.prog w) callerA (.call (.ref fa) ⟨[.ref a],[]⟩) (fun r s'=>r = .ok (.ret (.bool true))∧OldK s₁.heap s'.heap∧s'.os=s₁.os∧AllBare s'.gens) s₁) :
   WalkO q loose XP YP l.row.toRowW d [] (fun f vs=>PySem.call f vs):=by
 intro w s₀ s₁ mg mb G Y fa o pm cd doc dV kV ho hd hcd hD hmg hg args vals as hpre hlay hrd hwl hlo
 obtain rfl:dV = .none:=Dflts.none hD hdf
 obtain rfl:kV = .none:=Dflts.noKw hD
 obtain⟨a,vs,ns,rfl,rfl,hobj,hints,hlen⟩:=Xtg hn hpre hwl
 refine enter_call (codeAny_mono (call w s₀ s₁ mg mb fa o pm cd doc a vs ns G Y ho (fd_plain hd) hcd hmg hobj hints hlen hg) fun r s' hq=>?_)
 obtain⟨rfl,h2,h3,h4⟩:=hq
 exact⟨.inl ⟨.bool true,.bool true,[],rfl,fun _=>rfl,.bool true,Xrj l _,fun _=>⟨List.Pairwise.nil,fun _ hm=>(nomatch hm)⟩⟩,h2,h3,h4⟩
section
variable {prog:Program}{w:World}{A:Around}{E:Value→Shared→Prop}{s:Shared}{K:Frag}
end
end Att
namespace L2
open PySem PySem.Spec PyProof.Rows
theorem Xek:∀{vs:List Value} {ns:List Int},IntsAre vs ns→Vals (ns.map V.int) vs
 | _,_,.nil=>.nil
 | _,_,.cons n t h=>.cons ⟨t,rfl⟩ (Xek h)
def Only (H:Hp):Prop:=∀b,H b=none∨∃o xs,H b=some (.frz o (.lst xs))
theorem Xtt {P:Program}{w:World}{K:PySem.W.Frag}{mg mb:Str→Option Value}{CX:CXT}{k:Nat}{fa a:Addr}{fd:FuncData}{x:Str}{sp:Sp}{s₁:Shared}{vs:List Value}{ns:List Int}
   (KX:K.In s₁.heap) (hns:s₁.heap.Ns mainGlobals mg) (hb:s₁.heap.Ns builtinsNs mb) (hbb:∀x:Str,x≠"__name__"→mb x=bootBuiltins x) (hlim:s₁.heap.NoLimit) (hg:s₁.gens=#[])
   (ha:s₁.heap.get? a=some { cls:=.type "list",data:=.seq vs.toArray }) (hi:IntsAre vs ns) (hl:ns.length≤sizeLine) (hr:Room k callerA)
   (F:∀base:Heap,K.In base→base.Ns mainGlobals mg→FnOk P w K mg base CX k fa fd [x] sp) (hbind:∀(s:Shared) (u:Value),BindsTo s fd ⟨[u],[]⟩ [(x,u)])
   (hsp:∀H:Hp,Only H→SqL K H a (ns.map V.int)→sp [.ref a] H (fun v _=>v = .bl true) fun _ _ _=>False)
   (hCX:∀H e s',CX [] H s₁ (fun _ _ _=>False) e s'→False) :
   codeAny (model P w) callerA (.call (.ref fa) ⟨[.ref a],[]⟩) (fun r s'=>r = .ok (.ret (.bool true))∧OldK s₁.heap s'.heap∧s'.os=s₁.os∧AllBare s'.gens) s₁:=by
 have rv:=Xek hi
 have lenV:=hi.length
 -- from an abstract heap in which nothing but the script may be tracked
 have core:∀H:Hp,Only H→SqL K H a (ns.map V.int)→HOk P w H s₁.heap→(∀b,H b≠none→b=a)→(H a≠none→K.lookup a=none) →
     codeAny (model P w) callerA (.call (.ref fa) ⟨[.ref a],[]⟩) (fun r s'=>r = .ok (.ret (.bool true))∧OldK s₁.heap s'.heap∧s'.os=s₁.os∧AllBare s'.gens) s₁:=by
   intro H hO hS hok hA hK
   have base_of:∀{b:Addr} {o:Obj},s₁.heap.get? b=some o→H b=none→(hidT s₁.heap H).get? b=some o:=fun e n=>Xvc e n
   have noA:∀{b:Addr} {o:Obj} {es:Array DictEntry} {ep:Nat},s₁.heap.get? b=some o→o.data = .dict es ep→H b=none:=fun {b o es ep} e d=>by
     cases q:H b with
     | none=>rfl
     | some u =>
       have e':b=a:=hA b (by rw[q];simp)
       subst e'
       rw[ha] at e;cases e
       have d':Data.seq vs.toArray _=Data.dict es ep:=d
       cases d'
   have nsK:∀{b:Addr} {m:Str→Option Value},s₁.heap.Ns b m→(hidT s₁.heap H).Ns b m:=fun {b m} ⟨o,es,ep,e,d,r⟩=>⟨o,es,ep,base_of e (noA e d),d,r⟩
   have hKb:K.In (hidT s₁.heap H):=fun b o e=>base_of (KX b o e) (by
     cases q:H b with
     | none=>rfl
     | some u =>
       have e':b=a:=hA b (by rw[q];simp)
       subst e'
       rw[hK (by rw[q];simp)] at e;cases e)
   have hM:Mod K mg (hidT s₁.heap H):=⟨hKb,nsK hns,⟨mb,nsK hb,hbb⟩,let ⟨mc,h1,h2⟩:=hlim;⟨mc,nsK h1,h2⟩⟩
   have e0:Env0 P w K mg (hidT s₁.heap H) callerA [] s₁ H:=⟨rfl,hM,fun b o e=>Xyg e,Nat.le_of_eq (Xoy _ _),trivial,fun b hb=>absurd (show b∈([]:List Addr) from hb) (by simp),hok,.of_eq hg⟩
   refine codeAny_mono ((F _ hKb (nsK hns)).run callerA [] s₁ H ⟨[.ref a],[]⟩ [.ref a] [.ref a] _ _ hr e0 (hbind s₁ (.ref a)) (.cons rfl .nil) (hsp H hO hS)) fun r s' h=>?_
   cases r with
   | error e=>exact(hCX H e s' h).elim
   | ok fl =>
     cases fl with
     | next=>exact False.elim h
     | brk=>exact False.elim h
     | cont=>exact False.elim h
     | ret u =>
       obtain⟨v,H',os,bare,un,hok',r',q⟩:=h
       have q':v = .bl true:=q
       subst q'
       obtain rfl:u=Value.bool true:=r'
       refine⟨rfl,OldK.of_keep fun b o e=>?_,os,bare⟩
       cases q:H b with
       | none=>exact un.keep b o e q (by intro z;exact absurd (show b∈([]:List Addr) from z) (by simp)) (by simp)
       | some u =>
         rcases hO b with z | ⟨ob,xs,z⟩
         · rw[q] at z;cases z
         · have z2:=un.frzs b ob _ z
           obtain⟨e1,_⟩:=hok b _ z
           obtain⟨e2,_⟩:=hok' b _ z2
           rw[e] at e1;cases e1
           exact e2
 cases hk:K.lookup a with
 | some o =>
   -- the script is one of the module's own objects
   have e:=KX a o hk
   rw[ha] at e
   cases e
   refine core (fun _=>none) (fun _=>.inl rfl) (.inr ⟨_,vs.toArray,_,hk,rfl,rfl,rfl,by rw[List.size_toArray,lenV];exact hl,by simpa using rv⟩) (fun b u z=>by have z':(none:Option HO)=some u:=z;cases z') (fun b z=>absurd rfl z) fun z=>absurd rfl z
 | none =>
   refine core (fun b=>if b=a then some (.frz { cls:=.type "list",data:=.seq vs.toArray } (.lst (ns.map V.int))) else none) (fun b=>?_) (.inl (.inr ⟨{ cls:=.type "list",data:=.seq vs.toArray },if_pos rfl⟩)) (fun b u z=>?_) (fun b z=>?_) fun _=>hk
   · by_cases hb:b=a
     · exact .inr ⟨_,_,if_pos hb⟩
     · exact .inl (if_neg hb)
   · by_cases hb:b=a
     · have z':=(if_pos hb).symm.trans z
       cases z'
       subst hb
       exact⟨ha,by rw[List.length_map];exact hl,vs,_,rv,ha⟩
     · have z':=(if_neg hb).symm.trans z
       cases z'
   · by_cases hb:b=a
     · exact hb
     · exact absurd (if_neg hb) z
end L2
namespace L2
open PySem PySem.Spec PyProof.Rows
theorem walk_of {l:PySem.W.OpenLaw}{n k:Nat}{q:Program}{loose:List Str}{XP:(Str→Option Value)→Heap→Prop}{YP:World→Heap→Prop}{d:DefRec}{K:Params→PySem.W.Frag}{CX:World→CXT}{sp:World→Sp}{x:Str}
   (hn:l.most=some n) (hn2:n≤sizeLine) (hdf:d.params.defaults=[]) (hr:Room k callerA)
   (hY:∀(w:World) (h:Heap),YP w h→(K w.params).In h)
   (F:∀(w:World) (mg:Str→Option Value) (fa:Addr) (h:Heap),(K w.params).In h→h.Ns mainGlobals mg→mg d.name=some (.ref fa) →
     ∃fd:FuncData,(∀(s:Shared) (u:Value),BindsTo s fd ⟨[u],[]⟩ [(x,u)]) ∧
       ∀base:Heap,(K w.params).In base→base.Ns mainGlobals mg→FnOk l.prog w (K w.params) mg base (CX w) k fa fd [x] (sp w))
   (hsp:∀(w:World) (H:Hp) (a:Addr) (ns:List Int),ns.length≤n→Only H→SqL (K w.params) H a (ns.map V.int)→sp w [.ref a] H (fun v _=>v = .bl true) fun _ _ _=>False)
   (hCX:∀(w:World) (H:Hp) (s:Shared) (e:Value) (s':Shared),CX w [] H s (fun _ _ _=>False) e s'→False) :
   PySem.W.WalkO q loose XP YP l.row.toRowW d [] (fun f vs=>PySem.call f vs):=by
 refine Att.attach_call hn hdf fun w s₀ s₁ mg mb fa o pm cd doc a vs ns G Y ho hd hcd hmg hobj hints hlen hg=>?_
 have KX:=hY w _ Y
 obtain⟨fd,hb,hF⟩:=F w mg fa _ KX G.T.g hmg
 exact Xtt KX G.T.g G.T.b G.T.builtins G.T.nolimit hg hobj hints (Nat.le_trans hlen hn2) hr hF hb (fun H hO hS=>hsp w H a ns hlen hO hS) fun H e s'=>hCX w H s₁ e s'
end L2
namespace L2
open PySem PySem.Spec PyProof.Rows
abbrev CX0:CXT:=fun _ _ _ _ _ _=>False
abbrev E0:XK:=fun _ _ _=>False
structure Fun (K:PySem.W.Frag)(x qual:Str)(st:Stmt)(f:Addr)(fd:FuncData):Prop where
 ex:∃(oc:Value) (od:Option Addr) (kV doc pm:Value) (an:Option Addr) (cdv ct:Value) (osl:Array (Option Value)),
   fd=PySem.W.fnOf x qual (Xbh st) (Xay st) (Xad st) .none kV doc pm an cdv ct∧K.lookup f=some ⟨oc,od,.func fd,osl⟩∧PySem.W.codeIn K cdv qual=true
 kp:PySem.W.keepIn K (.ref f)=true
section
variable {P:Program}{w:World}{K:PySem.W.Frag}{mg:Str→Option Value}{base:Heap}
theorem Fun.ok {x qual:Str}{st:Stmt}{f:Addr}{fd:FuncData}{N ps:List Str}{k:Nat}{sp:Sp}(F:Fun K x qual st f fd)(S:FnScope N ps (Xad st))(len:∀vs H Q E,sp vs H Q E→vs.length=ps.length)
   (hbody:∀(cdv:Value) (A:Around) (outer:List Env) (s:Shared) (H:Hp) (vs:List V) (Q:VK) (E:XK),Room k (A.deeper (envOfC qual (Xad st) s.heap.objs.size f cdv))→sp vs H Q E →
     ∃t,PSs (cxOf CX0 P w K mg base N qual (Xad st) f cdv A outer s H E).nox (Xay st) t∧t { nx:=fun _ H'=>Q .non H',rt:=Q } (start N vs) H):FnOk P w K mg base CX0 (k+1) f fd ps sp:=by
 obtain⟨oc,od,kV,doc,pm,an,cdv,ct,osl,rfl,lk,hcd⟩:=F.ex
 refine XAf lk hcd S len fun A outer s H vs Q E hr hsp=>?_
 obtain⟨t,h,q⟩:=hbody cdv A outer s H vs Q E hr hsp
 exact⟨t,h.nox,q⟩
theorem Fun.binds {x qual:Str}{st:Stmt}{f:Addr}{fd:FuncData}{ps:List Str}(F:Fun K x qual st f fd)
   (h:∀(kV doc pm:Value) (an:Option Addr) (cdv ct:Value) (us:List Value),us.length=ps.length→bindArgs (PySem.W.fnOf x qual (Xbh st) (Xay st) (Xad st) .none kV doc pm an cdv ct) ⟨us,[]⟩=pure (ps.zip us)):Xci K fd ps []:=by
 obtain⟨oc,od,kV,doc,pm,an,cdv,ct,osl,rfl,lk,hcd⟩:=F.ex
 exact .all (h kV doc pm an cdv ct)
theorem Xcw {x qual:Str}{st:Stmt}{f:Addr}{oc:Value}{od an:Option Addr}{osl:Array (Option Value)}{kV doc pm cdv ct:Value}(l:K.lookup f=some ⟨oc,od,.func (PySem.W.fnOf x qual (Xbh st) (Xay st) (Xad st) .none kV doc pm an cdv ct),osl⟩)
   (c:PySem.W.codeIn K cdv qual=true) (k:PySem.W.keepIn K (.ref f)=true):Fun K x qual st f (PySem.W.fnOf x qual (Xbh st) (Xay st) (Xad st) .none kV doc pm an cdv ct):=⟨⟨oc,od,kV,doc,pm,an,cdv,ct,osl,rfl,l,c⟩,k⟩
end
theorem small1000 {n:Nat}(h:n≤1000):n<sizeLine:=Nat.lt_of_le_of_lt h (by decide)
section
variable {X:Cx}
theorem pv (i:Nat){x:Str}{pos:Pos}(hN:X.N[i]?=some x:=by rfl)(hv:Vis X.env.scope x:=by first | exact Or.inl rfl | exact Or.inr (Or.inl rfl) | exact Or.inr (Or.inr rfl))(hd:(x==("__debug__":Str))=false:=by decide)
   (hcd:(x==("__classdict__":Str))=false:=by decide):PE X (.Name x pos) (tVar i):=XGt hN hv hd hcd
end
theorem iteF {A B:Prop}(h:B):if false=true then A else B:=by
 rw[if_neg Bool.false_ne_true]
 exact h
theorem iteT {A B:Prop}(h:A):if true=true then A else B:=by
 rw[if_pos rfl]
 exact h
def Same (H H':Hp):Prop:=∀b o,H b=some o→H' b=some o
theorem Same.refl (H:Hp):Same H H:=fun _ _ h=>h
theorem Same.trans {H H1 H2:Hp}(a:Same H H1)(b:Same H1 H2):Same H H2:=fun c o h=>b c o (a c o h)
theorem Same.free {H H':Hp}(e:Same H H'){l:Addr}(h:H' l=Option.none):H l=Option.none:=by
 cases q:H l with
 | none=>rfl
 | some o =>
   rw[e l o q] at h
   cases h
theorem Same.seq {K:PySem.W.Frag}{H H':Hp}{a:Addr}{xs:List V}(e:Same H H')(h:SqL K H a xs):SqL K H' a xs:=by
 rcases h with (h | ⟨o,h⟩) | h
 · exact .inl (.inl (e _ _ h))
 · exact .inl (.inr ⟨o,e _ _ h⟩)
 · exact .inr h
end L2
set_option Elab.async false
set_option linter.all false
set_option maxRecDepth 100000
set_option maxHeartbeats 4000000
namespace Stow
structure Pc where
 a:Int
 l:Int
 v:Bool
 deriving DecidableEq
def mkOf (l:Int)(v:Bool):Int:=l*2+(if v then 1 else 0)
def Pc.mk' (p:Pc):Int:=mkOf p.l p.v
def Xaq:Int→List Pc→Int→Prop
 | s,[],e=>s=e
 | s,p::r,e=>p.a=s∧1≤p.l∧(p.v=true→3≤p.l)∧Xaq (s+p.l) r e
theorem Xaq.le:∀{ps:List Pc} {s e:Int},Xaq s ps e→s+ps.length≤e
 | [],s,e,h=>by have h:s=e:=h;simp [h]
 | p::r,s,e,h=>by
   obtain⟨_,h1,_,h2⟩:=h
   have:=Xaq.le h2
   simp only [List.length_cons];omega
theorem Xaq.app:∀{ps qs:List Pc} {s m e:Int},Xaq s ps m→Xaq m qs e→Xaq s (ps++qs) e
 | [],_,s,m,e,h,k=>by have h:s=m:=h;subst h;exact k
 | p::r,qs,s,m,e,h,k=>by
   obtain⟨h0,h1,h2,h3⟩:=h
   exact⟨h0,h1,h2,Xaq.app h3 k⟩
theorem Xaq.one {p:Pc}(h1:1≤p.l)(h3:p.v=true→3≤p.l):Xaq p.a [p] (p.a+p.l):=⟨rfl,h1,h3,rfl⟩
theorem Xaq.snoc {ps:List Pc}{s:Int}{p:Pc}(h:Xaq s ps p.a)(h1:1≤p.l)(h3:p.v=true→3≤p.l):Xaq s (ps++[p]) (p.a+p.l):=h.app (.one h1 h3)
theorem Xaq.mem:∀{ps:List Pc} {s e:Int},Xaq s ps e→∀p∈ps,s≤p.a∧1≤p.l∧(p.v=true→3≤p.l)∧p.a+p.l≤e
 | [],_,_,_,p,hp=>by cases hp
 | q::r,s,e,h,p,hp=>by
   obtain⟨h0,h1,h2,h3⟩:=h
   rcases List.mem_cons.mp hp with rfl | hp
   · have:=h3.le
     exact⟨by omega,h1,h2,by omega⟩
   · obtain⟨a,b,c,d⟩:=Xaq.mem h3 p hp
     exact⟨by omega,b,c,d⟩
def Xbb (cs:List Int)(ps:List Pc):Prop:=∀p∈ps,cs[p.a.toNat]?=some p.mk'∧cs[(p.a+p.l-1).toNat]?=some p.mk'
theorem Xbb.nil (cs:List Int):Xbb cs []:=fun p hp=>by cases hp
theorem Xbb.snoc {cs ext:List Int}{ps:List Pc}{p:Pc}(hc:Xaq 0 ps p.a)(hl:(cs.length:Int)=p.a)(h1:1≤p.l)(he:(ext.length:Int)=p.l)(m:Xbb cs ps) :
   Xbb ((((cs++ext).set p.a.toNat p.mk')).set (p.a+p.l-1).toNat p.mk') (ps++[p]):=by
 intro q hq
 have h0:=hc.le
 rcases List.mem_append.mp hq with hq | hq
 · obtain⟨a1,a2,a3,a4⟩:=hc.mem q hq
   obtain⟨b1,b2⟩:=m q hq
   have key:∀k:Nat,(k:Int)<p.a→∀z,cs[k]?=some z→((((cs++ext).set p.a.toNat p.mk')).set (p.a+p.l-1).toNat p.mk')[k]?=some z:=by
     intro k hk z hz
     rw[List.getElem?_set_ne (by omega),List.getElem?_set_ne (by omega),List.getElem?_append_left (by omega)]
     exact hz
   exact⟨key _ (by omega) _ b1,key _ (by omega) _ b2⟩
 · have e:q=p:=by simpa using hq
   subst e
   have len:(cs++ext).length=cs.length+ext.length:=List.length_append
   constructor
   · by_cases h:(q.a+q.l-1).toNat=q.a.toNat
     · rw[h,List.getElem?_set_self (by simp;omega)]
     · rw[List.getElem?_set_ne (by omega),List.getElem?_set_self (by simp;omega)]
   · rw[List.getElem?_set_self (by simp;omega)]
theorem Xhm (l:Int)(v:Bool):mkOf l v/2=l:=by unfold mkOf;split <;> omega
theorem Xll (l:Int)(v:Bool):decide (mkOf l v%2=1)=v:=by
 unfold mkOf
 cases v
 · exact decide_eq_false (by simp)
 · exact decide_eq_true (by simp)
def Xbm (ns:List Int)(k:Int):Bool :=
 if ns.getD k.toNat 0/2<1∨(ns.length:Int)<k+ns.getD k.toNat 0/2 then false else decide (3≤ns.getD k.toNat 0/2)||!decide (ns.getD k.toNat 0%2=1)
def Xdi (ns:List Int)(k:Int):Option Int :=
 if Xbm ns k=true then (if ns.getD (k+ns.getD k.toNat 0/2-1).toNat 0=ns.getD k.toNat 0 then none else some (k+ns.getD k.toNat 0/2-1)) else some k
theorem Xev {ns:List Int}{k:Nat}{x:Int}(h:ns[k]?=some x):ns.getD k 0=x:=by rw[List.getD_eq_getElem?_getD,h];rfl
theorem Xto {ns:List Int}{p:Pc}(h1:1≤p.l)(h3:p.v=true→3≤p.l)(hl:p.a+p.l≤ns.length)(m1:ns[p.a.toNat]?=some p.mk')(m2:ns[(p.a+p.l-1).toNat]?=some p.mk'):Xdi ns p.a=none:=by
 have e1:=Xev m1
 have e2:=Xev m2
 have e3:ns.getD p.a.toNat 0/2=p.l:=by rw[e1];exact Xhm _ _
 have hc:Xbm ns p.a=true:=by
   unfold Xbm
   rw[e3,if_neg (by omega),e1]
   show (decide (3≤p.l)||!decide (mkOf p.l p.v%2=1))=true
   rw[Xll]
   cases hv:p.v with
   | false=>simp
   | true=>simp [h3 hv]
 unfold Xdi
 rw[if_pos hc,e3,e2,e1,if_pos rfl]
end Stow
namespace Stow
theorem Xgd (ns:List Int)(k:Int):Xbm ns k=true↔(1≤ns.getD k.toNat 0/2∧k+ns.getD k.toNat 0/2≤ns.length∧(ns.getD k.toNat 0%2=1→3≤ns.getD k.toNat 0/2)):=by
 unfold Xbm
 by_cases h:ns.getD k.toNat 0/2<1∨(ns.length:Int)<k+ns.getD k.toNat 0/2
 · rw[if_pos h]
   constructor
   · intro z;cases z
   · intro z;omega
 · rw[if_neg h]
   simp only [Bool.or_eq_true,decide_eq_true_eq,Bool.not_eq_true',decide_eq_false_iff_not]
   constructor
   · intro z
     refine⟨by omega,by omega,fun w=>?_⟩
     rcases z with z | z
     · exact z
     · exact absurd w z
   · rintro⟨_,_,z⟩
     by_cases w:ns.getD k.toNat 0%2=1
     · exact .inl (z w)
     · exact .inr w
def pcAt (ns:List Int)(k:Int):Pc:=⟨k,ns.getD k.toNat 0/2,decide (ns.getD k.toNat 0%2=1)⟩
theorem Xzv {ns:List Int}{k:Int}(h:Xdi ns k=none):Xbm ns k=true:=by
 unfold Xdi at h
 split at h
 · assumption
 · cases h
theorem Xsk {ns:List Int}{k:Int}(h:Xdi ns k=none):1≤ns.getD k.toNat 0/2∧k+ns.getD k.toNat 0/2≤ns.length∧(ns.getD k.toNat 0%2=1→3≤ns.getD k.toNat 0/2):=(Xgd ns k).mp (Xzv h)
theorem XEm {ns:List Int}{k:Int}(h:Xbm ns k=false):Xdi ns k=some k:=by
 unfold Xdi
 rw[if_neg (by rw[h];exact Bool.false_ne_true)]
theorem Xue {ns:List Int}{k:Int}(h:Xbm ns k=true)(h2:ns.getD (k+ns.getD k.toNat 0/2-1).toNat 0≠ns.getD k.toNat 0):Xdi ns k=some (k+ns.getD k.toNat 0/2-1):=by
 unfold Xdi
 rw[if_pos h,if_neg h2]
theorem Xuj {ns:List Int}{k:Int}(h:Xbm ns k=true)(h2:ns.getD (k+ns.getD k.toNat 0/2-1).toNat 0=ns.getD k.toNat 0):Xdi ns k=none:=by
 unfold Xdi
 rw[if_pos h,if_pos h2]
def Xch (ns:List Int)(k:Int):List Pc×Option Int :=
 if h:k<ns.length∧Xdi ns k=none then
   (pcAt ns k::(Xch ns (k+ns.getD k.toNat 0/2)).1,(Xch ns (k+ns.getD k.toNat 0/2)).2)
 else ([],if k<ns.length then Xdi ns k else none)
termination_by (ns.length-k).toNat
decreasing_by
 all_goals
   have:=Xsk h.2
   omega
theorem Xki {ns:List Int}{k:Int}(h:¬k<ns.length):Xch ns k=([],none):=by
 rw[Xch,dif_neg (fun z=>h z.1),if_neg h]
theorem Xse {ns:List Int}{k b:Int}(h:k<ns.length)(hb:Xdi ns k=some b):Xch ns k=([],some b):=by
 rw[Xch,dif_neg (fun z=>by rw[hb] at z;cases z.2),if_pos h,hb]
theorem Xhv {ns:List Int}{k:Int}(h:k<ns.length)(hb:Xdi ns k=none):Xch ns k=(pcAt ns k::(Xch ns (k+ns.getD k.toNat 0/2)).1,(Xch ns (k+ns.getD k.toNat 0/2)).2):=by
 rw[Xch,dif_pos ⟨h,hb⟩]
def WPre (ns:List Int)(ds:List Pc)(k:Int):Prop:=Xch ns 0=(ds++(Xch ns k).1,(Xch ns k).2)
theorem WPre.nil (ns:List Int):WPre ns [] 0:=by unfold WPre;simp
theorem WPre.step {ns:List Int}{ds:List Pc}{k:Int}(w:WPre ns ds k)(h:k<ns.length)(hb:Xdi ns k=none):WPre ns (ds++[pcAt ns k]) (k+ns.getD k.toNat 0/2):=by
 unfold WPre at *
 rw[w,Xhv h hb]
 simp
theorem WPre.fin {ns:List Int}{ds:List Pc}{k:Int}(w:WPre ns ds k)(h:¬k<ns.length):Xch ns 0=(ds,none):=by
 unfold WPre at w
 rw[w,Xki h]
 simp
theorem WPre.bad {ns:List Int}{ds:List Pc}{k b:Int}(w:WPre ns ds k)(h:k<ns.length)(hb:Xdi ns k=some b):Xch ns 0=(ds,some b):=by
 unfold WPre at w
 rw[w,Xse h hb]
 simp
end Stow
namespace Stow
end Stow
namespace Stow
theorem Xzc {cs:List Int}{p:Pc}(m:cs[p.a.toNat]?=some p.mk'):pcAt cs p.a=p:=by
 have e:=Xev m
 unfold pcAt
 rw[e]
 show (⟨p.a,mkOf p.l p.v/2,decide (mkOf p.l p.v%2=1)⟩:Pc)=p
 rw[Xhm,Xll]
theorem Xar {cs:List Int}:∀{ps:List Pc} {k:Int},Xaq k ps cs.length→Xbb cs ps→Xch cs k=(ps,none)
 | [],k,h,_=>by
   have h:k=cs.length:=h
   exact Xki (by omega)
 | p::r,k,h,m=>by
   obtain⟨ea,h1,h3,h4⟩:=h
   have le:=h4.le
   obtain⟨m1,m2⟩:=m p List.mem_cons_self
   have bn:=Xto h1 h3 (by omega) m1 m2
   rw[ea] at bn
   have e2:cs.getD k.toNat 0/2=p.l:=by rw[←ea,Xev m1];exact Xhm _ _
   have ih:=Xar (cs:=cs) h4 fun q hq=>m q (List.mem_cons_of_mem _ hq)
   rw[Xhv (by omega) bn,e2,ih,←ea,Xzc m1]
end Stow
namespace Stow
open PySem L2 PyProof.Rows
structure Def (P:Program)(w:World)(K:PySem.W.Frag)(mg:Str→Option Value)(base:Heap)(x:Str)(k:Nat)(ps:List Str)(sp:Sp):Prop where
 ex:∃(f:Addr) (fd:FuncData),FnOk P w K mg base CX0 k f fd ps sp∧mg x=some (.ref f)∧PySem.W.keepIn K (.ref f)=true∧Xci K fd ps []
structure Src (K:PySem.W.Frag)(mg:Str→Option Value)(x:Str)(st:Stmt):Prop where
 ex:∃(f:Addr) (fd:FuncData),Fun K x x st f fd∧mg x=some (.ref f)
theorem Xbf {K:PySem.W.Frag}{h:Heap}{mg:Str→Option Value}{x:Str}{st:Stmt}{f:Addr}{oc kV doc pm cdv ct:Value}{od an:Option Addr}{osl:Array (Option Value)}(X:K.In h)(G:h.Ns mainGlobals mg)
   (a:PySem.W.nsIn K mainGlobals x=some (some (.ref f))) (l:K.lookup f=some ⟨oc,od,.func (PySem.W.fnOf x x (Xbh st) (Xay st) (Xad st) .none kV doc pm an cdv ct),osl⟩)
   (c:PySem.W.codeIn K cdv x=true) (k:PySem.W.keepIn K (.ref f)=true):Src K mg x st:=⟨f,_,Xcw l c k,PySem.W.mg_of X G a⟩
section
variable {P:Program}{w:World}{K:PySem.W.Frag}{mg:Str→Option Value}{base:Heap}
theorem Src.ok {x:Str}{st:Stmt}{N ps:List Str}{k:Nat}{sp:Sp}(S:Src K mg x st)(sc:FnScope N ps (Xad st))
   (hb:∀(kV doc pm:Value) (an:Option Addr) (cdv ct:Value) (us:List Value),us.length=ps.length→bindArgs (PySem.W.fnOf x x (Xbh st) (Xay st) (Xad st) .none kV doc pm an cdv ct) ⟨us,[]⟩=pure (ps.zip us))
   (len:∀vs H Q E,sp vs H Q E→vs.length=ps.length)
   (hbody:∀(f:Addr) (cdv:Value) (A:Around) (outer:List Env) (s:Shared) (H:Hp) (vs:List V) (Q:VK) (E:XK),Room k (A.deeper (envOfC x (Xad st) s.heap.objs.size f cdv))→sp vs H Q E →
     ∃t,PSs (cxOf CX0 P w K mg base N x (Xad st) f cdv A outer s H E).nox (Xay st) t∧t { nx:=fun _ H'=>Q .non H',rt:=Q } (start N vs) H):Def P w K mg base x (k+1) ps sp:=by
 obtain⟨f,fd,F,hm⟩:=S.ex
 exact⟨f,fd,F.ok sc len (hbody f),hm,F.kp,F.binds hb⟩
end
section
variable {X:Cx}
theorem Xil:Xhs X (.builtin "isinstance") (fun xs H Q=>∃x n t b,xs=[x,.ty n]∧TyOf X.K H x t∧PySem.W.kitOne X.K t (.type n)=some b∧Q (.bl b) H):=by
 intro pins s σ H xs us Q I r h
 obtain⟨x,n,t,b,rfl,ty,e,q⟩:=h
 obtain⟨u,u',rfl,rx,ry⟩:=XBz r
 cases (show u'=Value.type n from ry)
 exact Xpx I rx ty e fun tk=>⟨.bl b,H,I.tok tk,rfl,q⟩
theorem Xuc {x:V}(h:Xdb x=true):eqV x x=true:=by
 cases x <;> first | rfl | (simp [eqV];done) | (exact absurd h Bool.false_ne_true)
theorem Xpu (hu:X.A.units+64<cLine):OpR X (compareOp .Eq) (fun x y H Q=>∃(a b:Addr) (ns ms:List Int),x = .ref a∧y = .ref b∧SqL X.K H a (ns.map V.int)∧SqL X.K H b (ms.map V.int)∧Q (.bl (decide (ns=ms))) H):=by
 intro pins s σ H x y v u Q I rx ry h
 obtain⟨a,b,ns,ms,rfl,rfl,ha,hb,q⟩:=h
 cases rx
 cases ry
 obtain⟨its,r1,p1,_⟩:=I.list ha
 obtain⟨its2,r2,p2,_⟩:=I.list hb
 exact PySem.W.ke_eq_ints p1.isList p2.isList (Xds r1) (Xds r2) hu ⟨.bl _,H,I,rfl,q⟩
end
theorem _root_.L2.Same.new {H:Hp}{p:Addr}{o:HO}(h:H p=none):Same H (upd H p o):=fun b u e=>by
 rw[Xah (Xap e h)]
 exact e
theorem _root_.L2.Same.put {H H':Hp}{p:Addr}{o:HO}(s:Same H H')(h:H p=none):Same H (upd H' p o):=fun b u e=>by
 rw[Xah (Xap e h)]
 exact s b u e
theorem small4000 {n:Nat}(h:n≤4000):n<sizeLine:=Nat.lt_of_le_of_lt h (by decide)
theorem two1:(2:Int)^(1:Int).toNat=2:=by decide
theorem XAb (ns:List Int)(k:Int)(h0:0≤k)(h:k<ns.length):atI (ns.map V.int) k=some (.int (ns.getD k.toNat 0)):=by
 have e:(ns.map V.int)[k.toNat]?=some (.int (ns.getD k.toNat 0)):=by
   rw[List.getElem?_map,List.getD_eq_getElem?_getD,List.getElem?_eq_getElem (by omega)]
   rfl
 have:=Xgn e
 rwa [Int.toNat_of_nonneg h0] at this
theorem XCi (n:Int):decide (V.int (Builtin.bitAnd n 1)=V.int 1)=decide (n%2=1):=by
 rw[Xjl,bitAnd_m1]
 rfl
section
variable {K:PySem.W.Frag}
theorem kit_ii:PySem.W.kitOne K (.type "int") (.type "int")=some true:=by rfl
theorem kit_ll:PySem.W.kitOne K (.type "list") (.type "list")=some true:=by rfl
theorem kit_ib:PySem.W.kitOne K (.type "int") (.type "bool")=some false:=by
 show (if (Value.type "int"==Value.type "bool")=true then some true else PySem.W.kitCls K (.type "int") (.type "bool"))=some false
 rw[if_neg (by decide)]
 show (if PySem.W.kitMeta "bool"=true then PySem.W.subIn K (.type "int") (.type "bool") else none)=some false
 rw[if_pos (by decide +kernel)]
 show (fastBuiltinMro "int").map (·.contains (Value.type "bool"))=some false
 decide +kernel
end
end Stow
namespace Stow
open PySem
structure Noted (fr:List Addr)(e:Addr)(oe:Obj)(fl:Value)(h h':Heap):Prop where
 keep:∀b o,b≠e→b ∉ fr→h.get? b=some o→h'.get? b=some o
 slot:∀b o,b≠e→h.get? b=some o→∃sl,h'.get? b=some { o with slots:=sl }
 ent:∃(T:Addr) (oT:Obj) (ts:Array Value),h.get? T=none∧T≠e∧h'.get? e=some (oe.mapFields (·.setIfInBounds 1 (.ref T)))∧h'.get? T=some oT∧oT.data = .fields ts∧ts[3]?=some fl
section
variable {M:Model}{A:Around}{E:Value→Shared→Prop}{s:Shared}
theorem Xtf {base:Heap}{env:Env}{outer:List Env}{L e:Addr}{oe:Obj}{vs:Array Value}{head:Value}{had:Bool}{Q:Unit→Shared→Prop}(hfr:A.frames=some (env::outer))(hl:s.heap.FunFrames base (env::outer))(hf:env.frame=some L)
   (he:s.heap.get? e=some oe) (hd:oe.data = .fields vs) (hsz:1<vs.size) (h:∀h',Noted ((env::outer).filterMap (·.frame)) e oe (rawInt L) s.heap h'→Q () { s with heap:=h' }) :
   wpAny M A (do
     let a ←frameOf env
     let pl ←entryPlaceOf L had
     let b ←EntryCells.newEntry head a .none (rawInt L) .none pl
     setField (.ref e) 1 b) Q E s:=by
 have out:e ∉ (env::outer).filterMap (·.frame):=fun z=>by
   obtain⟨_,o,q,nf⟩:=hl.mem z
   rw[he] at q
   cases q
   exact nf vs hd
 refine wpAny_bind (wpAny_frameOf_fun hfr hl hf fun hA sA=>?_)
 refine wpAny_bind (wpAny_entryPlaceOf fun pl isP=>?_)
 unfold EntryCells.newEntry newFields
 refine wpAny_bind (wpAny_newObj_type ?_ (isP.sizeOk5 _ _ _ _ _))
 have eA:hA.get? e=some oe:=(sA.2.1 e out).trans he
 refine wpAny_setField (Heap.get?_push_of_some _ eA) hd hsz (h _ ?_)
 have apart:hA.objs.size≠e:=Nat.ne_of_gt (Heap.lt_size eA)
 have other:∀{ob:Obj} b o,b≠e→hA.get? b=some o→((hA.push ob).update e (Obj.mapFields (·.setIfInBounds 1 (Value.ref hA.objs.size)))).get? b=some o:=fun b o nb q=>by
   rw[Heap.get?_update_other _ _ (fun z=>nb z.symm)]
   exact Heap.get?_push_of_some _ q
 refine⟨fun b o nb nf q=>other b o nb ((sA.2.1 b nf).trans q),fun b o nb q=>?_,hA.objs.size,_,_,?_,apart,?_,(Heap.get?_update_other _ _ (fun z=>apart z.symm)).trans (Heap.get?_push_size _ rfl),rfl,?_⟩
 · obtain⟨sl,q'⟩:=sA.2.2 b o q
   exact⟨sl,other b _ nb q'⟩
 · rw[sA.1]
   exact Heap.get?_none_of_le (Nat.le_refl _)
 · exact Heap.get?_update_self _ (Heap.get?_push_of_some _ eA) (Obj.isFreed_of_fields (Obj.data_mapFields hd _))
 · first
     | (simp;done)
     | (rcases isP with rfl | ⟨_,_,_,_,_,_,_,rfl⟩ <;> simp)
theorem Xsh (o:Obj)(f:Array Value→Array Value):(o.mapFields f).dict=o.dict:=by
 obtain⟨c,d,dt,sl⟩:=o
 cases dt <;> rfl
end
def Exc (h:Heap)(x:Addr)(cls:Value)(od:Option Addr)(T:Addr)(fl:Value):Prop :=
 ∃(oe:Obj) (vs:Array Value) (oT:Obj) (ts:Array Value),T≠x∧h.get? x=some oe∧oe.cls=cls∧oe.dict=od∧oe.data = .fields vs∧vs[1]?=some (.ref T)∧h.get? T=some oT∧oT.data = .fields ts∧ts[3]?=some fl
def Exc0 (h:Heap)(x:Addr)(cls:Value)(od:Option Addr):Prop:=∃(oe:Obj) (vs:Array Value),h.get? x=some oe∧oe.cls=cls∧oe.dict=od∧oe.data = .fields vs∧vs[1]?=some .none
structure Upto (fr ex:List Addr)(h h':Heap):Prop where
 keep:∀b o,b ∉ ex→b ∉ fr→h.get? b=some o→h'.get? b=some o
 slot:∀b o,b ∉ ex→h.get? b=some o→∃sl,h'.get? b=some { o with slots:=sl }
theorem Upto.trans {fr ex ex':List Addr}{h1 h2 h3:Heap}(a:Upto fr ex h1 h2)(b:Upto fr ex' h2 h3):Upto fr (ex++ex') h1 h3 :=
 ⟨fun c o n1 n2 q=>b.keep c o (fun z=>n1 (List.mem_append_right _ z)) n2 (a.keep c o (fun z=>n1 (List.mem_append_left _ z)) n2 q),fun c o n1 q=>by
   obtain⟨sl,q1⟩:=a.slot c o (fun z=>n1 (List.mem_append_left _ z)) q
   obtain⟨sl',q2⟩:=b.slot c _ (fun z=>n1 (List.mem_append_right _ z)) q1
   exact⟨sl',q2⟩⟩
theorem Upto.update {fr:List Addr}{h:Heap}{a:Addr}{f:Obj→Obj}:Upto fr [a] h (h.update a f) :=
 ⟨fun b o n _ q=>by rw[Heap.get?_update_other _ _ (fun z=>n (by simp [z]))];exact q,fun b o n q=>⟨o.slots,by rw[Heap.get?_update_other _ _ (fun z=>n (by simp [z]))];exact q⟩⟩
section
variable {M:Model}{A:Around}{E:Value→Shared→Prop}{s:Shared}
theorem Xgf {fr:List Addr}{x:Addr}{cls:Value}{od:Option Addr}{T:Addr}{fl:Value}{Q:Unit→Shared→Prop}(ht:Exc s.heap x cls od T fl)
   (h:∀h',Upto fr [T] s.heap h'→Exc h' x cls od T .none→Q () { s with heap:=h' }):wpAny M A (setFlight (.ref x) none) Q E s:=by
 obtain⟨oe,vs,oT,ts,ne,ex,hc,hdi,hd,h1,eT,dT,h3⟩:=ht
 unfold setFlight
 refine wpAny_bind (wpAny_field ex hd h1 ?_)
 rw[if_pos (show (Value.ref T != Value.none)=true by simp)]
 have sz:3<ts.size:=(Array.getElem?_eq_some_iff.mp h3).1
 refine wpAny_setField eT dT sz (h _ .update ⟨oe,vs,_,_,ne,?_,hc,hdi,hd,h1,Heap.get?_update_self _ eT (Obj.isFreed_of_fields (Obj.data_mapFields dT _)),Obj.data_mapFields dT _,?_⟩)
 · rw[Heap.get?_update_other _ _ ne]
   exact ex
 · simp [sz]
theorem Noted.exc {fr:List Addr}{x:Addr}{oe:Obj}{vs:Array Value}{fl:Value}{h h':Heap}(n:Noted fr x oe fl h h')(hd:oe.data = .fields vs)(hsz:1<vs.size):∃T,h.get? T=none∧Exc h' x oe.cls oe.dict T fl:=by
 obtain⟨T,oT,ts,nT,ne,ex,eT,dT,h3⟩:=n.ent
 exact⟨T,nT,_,_,oT,ts,ne,ex,Obj.cls_mapFields _ _,Xsh _ _,Obj.data_mapFields hd _,by simp [hsz],eT,dT,h3⟩
theorem Noted.upto {fr:List Addr}{x:Addr}{oe:Obj}{fl:Value}{h h':Heap}(n:Noted fr x oe fl h h'):Upto fr [x] h h' :=
 ⟨fun b o nb nf q=>n.keep b o (fun z=>nb (by simp [z])) nf q,fun b o nb q=>n.slot b o (fun z=>nb (by simp [z])) q⟩
theorem XMn {base:Heap}{env:Env}{outer:List Env}{L x:Addr}{cls:Value}{od:Option Addr}{Q:Unit→Shared→Prop}(hfr:A.frames=some (env::outer))(hl:s.heap.FunFrames base (env::outer))(hf:env.frame=some L)(hx:Exc0 s.heap x cls od)
   (h:∀h' T,s.heap.get? T=none→Upto ((env::outer).filterMap (·.frame)) [x] s.heap h'→Exc h' x cls od T (rawInt L)→Q () { s with heap:=h' }):wpAny M A (noteFrame (.ref x) env) Q E s:=by
 obtain⟨oe,vs,ex,rfl,rfl,hd,h1⟩:=hx
 have sz:=(Array.getElem?_eq_some_iff.mp h1).1
 unfold noteFrame
 simp only [hf]
 refine wpAny_bind (wpAny_field ex hd h1 ?_)
 rw[if_neg (by decide)]
 refine Xtf hfr hl hf ex hd sz fun h' n=>?_
 obtain⟨T,nT,t⟩:=n.exc hd sz
 exact h h' T nT n.upto t
theorem XJe {base:Heap}{env:Env}{outer:List Env}{L x T:Addr}{cls:Value}{od:Option Addr}{Q:Unit→Shared→Prop}(hfr:A.frames=some (env::outer))(hl:s.heap.FunFrames base (env::outer))(hf:env.frame=some L)(hx:Exc s.heap x cls od T .none)
   (h:∀h' T',s.heap.get? T'=none→Upto ((env::outer).filterMap (·.frame)) [T,x] s.heap h'→Exc h' x cls od T' (rawInt L)→Q () { s with heap:=h' }):wpAny M A (noteFrame (.ref x) env) Q E s:=by
 obtain⟨oe,vs,oT,ts,ne,ex,rfl,rfl,hd,h1,eT,dT,h3⟩:=hx
 have sz:=(Array.getElem?_eq_some_iff.mp h1).1
 have sz3:=(Array.getElem?_eq_some_iff.mp h3).1
 unfold noteFrame
 simp only [hf]
 refine wpAny_bind (wpAny_field ex hd h1 ?_)
 rw[if_pos (show (Value.ref T != Value.none)=true by simp)]
 refine wpAny_bind (wpAny_field eT dT h3 ?_)
 rw[if_neg (show ¬((Value.none==rawInt L)=true) by simp [rawInt])]
 refine wpAny_bind (wpAny_setField eT dT sz3 ?_)
 have u1:Upto ((env::outer).filterMap (·.frame)) [T] s.heap (s.heap.update T (Obj.mapFields (·.setIfInBounds 3 Value.none))):=.update
 have hl2:(s.heap.update T (Obj.mapFields (·.setIfInBounds 3 Value.none))).FunFrames base (env::outer):=hl.of_keeps fun b o q nf=>by
   have nb:b≠T:=fun z=>by
     subst z
     rw[eT] at q
     cases q
     exact nf ts dT
   exact⟨o,by rw[Heap.get?_update_other _ _ (fun z=>nb z.symm)];exact q,rfl⟩
 have ex2:(s.heap.update T (Obj.mapFields (·.setIfInBounds 3 Value.none))).get? x=some oe:=by
   rw[Heap.get?_update_other _ _ ne]
   exact ex
 refine Xtf (s:={ s with heap:=s.heap.update T (Obj.mapFields (·.setIfInBounds 3 Value.none)) }) hfr hl2 hf ex2 hd sz fun h' n=>?_
 obtain⟨T',nT,t⟩:=n.exc hd sz
 refine h h' T' ?_ (u1.trans n.upto) t
 cases q:s.heap.get? T' with
 | none=>rfl
 | some o =>
   by_cases z:T'=T
   · subst z
     rw[Heap.get?_update_self _ eT (Obj.isFreed_of_fields (Obj.data_mapFields dT _))] at nT
     cases nT
   · rw[Heap.get?_update_other _ _ (fun y=>z y.symm),q] at nT
     cases nT
theorem XFw {base:Heap}{env:Env}{outer:List Env}{L x:Addr}{cls:Value}{od:Option Addr}{Q:Unit→Shared→Prop}(hfr:A.frames=some (env::outer))(hl:s.heap.FunFrames base (env::outer))(hf:env.frame=some L)(hx:Exc0 s.heap x cls od)
   (h:∀h' T,s.heap.get? T=none→Upto ((env::outer).filterMap (·.frame)) [x,T] s.heap h'→Exc h' x cls od T .none→Q () { s with heap:=h' }):wpAny M A (leaving env (.ref x)) Q E s:=by
 unfold leaving
 refine wpAny_bind (XMn hfr hl hf hx fun h1 T nT u t=>?_)
 exact Xgf (s:={ s with heap:=h1 }) (fr:=(env::outer).filterMap (·.frame)) t fun h2 u2 t2=>h h2 T nT (u.trans u2) t2
theorem XFr {base:Heap}{env:Env}{outer:List Env}{L x T:Addr}{cls:Value}{od:Option Addr}{Q:Unit→Shared→Prop}(hfr:A.frames=some (env::outer))(hl:s.heap.FunFrames base (env::outer))(hf:env.frame=some L)(hx:Exc s.heap x cls od T .none)
   (h:∀h' T',s.heap.get? T'=none→Upto ((env::outer).filterMap (·.frame)) [T,x,T'] s.heap h'→Exc h' x cls od T' .none→Q () { s with heap:=h' }):wpAny M A (leaving env (.ref x)) Q E s:=by
 unfold leaving
 refine wpAny_bind (XJe hfr hl hf hx fun h1 T' nT u t=>?_)
 exact Xgf (s:={ s with heap:=h1 }) (fr:=(env::outer).filterMap (·.frame)) t fun h2 u2 t2=>h h2 T' nT (u.trans u2) t2
end
end Stow
namespace Stow
open PySem
open Sem (wp)
section
variable {M:Model}{A:Around}{E:Value→Shared→Prop}
variable {nm q nm0 q0:Str}{C N C0 N0:Addr}{bs bm bs0 bm0:List Value}{hdct hdct0:Bool}{sn sn0:List Str}{sub sub0:List Value}{ab ab0:Bool}{col col0:Option Bool}{dd dd0:Option Addr}{k0 k1 k2 k3 k5 j0 j1 j2 j3 j5:Option Value}{newId newId0:String}
theorem Xsu {h:Heap}{g:Array GenState}{d:Drawn}{t:Nat}{os:OsState}{x:Addr}{ox:Obj}{b:Bool}{Q:Bool→Shared→Prop}
   (hC:h.get? C=some (excClassObj nm q C N bs bm hdct sn sub ab col dd k0 k1 k2 k3 k5 newId)) (hC0:h.get? C0=some (excClassObj nm0 q0 C0 N0 bs0 bm0 hdct0 sn0 sub0 ab0 col0 dd0 j0 j1 j2 j3 j5 newId0))
   (hx:h.get? x=some ox) (hcl:ox.cls = .ref C) (hb0:(Value.ref C0::bm0).contains (.type "BaseException")=true) (hb:(Value.ref C::bm).contains (.ref C0)=b) (k:Q b ⟨h,g,d,t,os⟩) :
   wpAny M A (excMatches (.ref x) (.ref C0)) Q E ⟨h,g,d,t,os⟩:=by
 have f:=tc_notTuple
 unfold excMatches
 repeat (first
   | (with_reducible refine wpAny_loadPart_at hx ?_;rw[hcl])
   | with_reducible refine wpAny_loadPart_at hC0 ?_
   | (with_reducible refine wpAny_isSubtype_exc hC0 ?_;rw[hb0])
   | (with_reducible refine wpAny_isSubtype_exc hC ?_;rw[hb])
   | wp_step)
 all_goals (cases b <;> (wp_walk;exact k))
end
end Stow
namespace Stow
open PySem
open Sem (wp)
def Lk (M:Model)(h:Heap){α:Type}(m:Sem α)(v:α):Prop:=∀(A:Around) (E:Value→Shared→Prop) (g:Array GenState) (d:Drawn) (t:Nat) (os:OsState) (Q:α→Shared→Prop),Q v ⟨h,g,d,t,os⟩→wpAny M A m Q E ⟨h,g,d,t,os⟩
theorem Lk.at {M:Model}{h:Heap}{α:Type}{m:Sem α}{v:α}(l:Lk M h m v){A:Around}{E:Value→Shared→Prop}{g:Array GenState}{d:Drawn}{t:Nat}{os:OsState}{Q:α→Shared→Prop}(q:Q v ⟨h,g,d,t,os⟩):wpAny M A m Q E ⟨h,g,d,t,os⟩:=l A E g d t os Q q
section
variable {prog:Program}{w:World}{A:Around}{E:Value→Shared→Prop}{h:Heap}{g:Array GenState}{d:Drawn}{t:Nat}{os:OsState}{a C:Addr}{o:Obj}
structure XLk (prog:Program)(w:World)(h:Heap)(C:Addr):Prop where
 ga:Lk (model prog w) h (typeLookup (.ref C) "__getattribute__") (some (.builtin "BaseException.__getattribute__"))
 gat:Lk (model prog w) h (typeLookup (.ref C) "__getattr__") none
 cls:Lk (model prog w) h (typeLookup (.ref C) "__class__") (some (.builtin "object.__class__"))
 obj:Lk (model prog w) h (isSubtype (.ref C) (.type "object")) true
 exc:Lk (model prog w) h (isSubtype (.ref C) (.type "BaseException")) true
end
end Stow
namespace Stow
open PySem L2 PyProof.Rows
section
variable {P:Program}{w:World}{H H':Hp}{h h' g:Heap}{a:Addr}{o:HO}
theorem Xtj (x:Xbq P w H h a o):∃ob,h.get? a=some ob:=by
 cases o with
 | lst xs=>obtain⟨_,_,_,_,e⟩:=x;exact⟨_,e⟩
 | tup xs=>obtain⟨_,_,_,ob,e,_⟩:=x;exact⟨_,e⟩
 | dK kvs=>obtain⟨_,_,_,_,ob,_,_,e,_⟩:=x;exact⟨_,e⟩
 | dT kvs=>obtain⟨_,_,_,_,ob,_,_,e,_⟩:=x;exact⟨_,e⟩
 | set S n=>obtain⟨ob,_,_,_,e,_⟩:=x;exact⟨_,e⟩
 | ins C dx fs=>obtain⟨_,_,_,e,_⟩:=x;exact⟨_,e⟩
 | own y=>obtain⟨_,e⟩:=x;exact⟨_,e⟩
 | xd fs=>obtain⟨_,⟨_,_,_,e,_⟩,_⟩:=x;exact⟨_,e⟩
 | rng lo hi=>obtain⟨_,_,_,e⟩:=x;exact⟨_,e⟩
 | frz ob u=>obtain⟨e,_⟩:=x;exact⟨_,e⟩
 | tbl ps=>exact⟨_,(show h.get? a=some _ from x)⟩
 | met f y=>exact⟨_,(show h.get? a=some _ from x)⟩
 | ext φ=>obtain⟨_,e,_⟩:=x;exact e
theorem Xdg (x:HOk P w H h)(e:h.get? a=none):H a=none:=by
 cases q:H a with
 | none=>rfl
 | some u =>
   obtain⟨ob,z⟩:=Xtj (x a u q)
   rw[e] at z
   cases z
theorem Xjh {fr ex:List Addr}(x:HOk P w H h)(u:Upto fr ex h h')(hf:∀b∈fr,H b=none)(he:∀b∈ex,H b=none):HOk P w H h':=fun a o e=>by
 have out:∀b v,H b=some v→b ∉ ex∧b ∉ fr:=fun b v q=>⟨(fun z=>by rw[he b z] at q;cases q),(fun z=>by rw[hf b z] at q;cases q)⟩
 refine(x a o e).stay (fun b ob hb q=>?_) (fun _ q=>q) fun _ _ q=>q
 rcases hb with rfl | hb
 · exact u.keep b ob (out b _ e).1 (out b _ e).2 q
 · exact u.keep b ob (out b _ hb).1 (out b _ hb).2 q
theorem Xmc {fs fr ex:List Addr}(u:Un fs [] H H' g h)(v:Upto fr ex h h')(hfr:∀b∈fr,b∈fs∨g.get? b=none)(hex:∀b∈ex,g.get? b=none):Un fs [] H H' g h':=by
 have nex:∀b o,g.get? b=some o→b ∉ ex:=fun b o q z=>by rw[hex b z] at q;cases q
 refine⟨fun b o q n hb hx=>?_,fun b o q n hb hx=>?_,u.free,fun b o q hx=>?_,u.tups,u.frzs,u.tbls⟩
 · refine v.keep b o (nex b o q) (fun z=>?_) (u.keep b o q n hb hx)
   rcases hfr b z with z | z
   · exact hb z
   · rw[z] at q
     cases q
 · obtain⟨sl,q1⟩:=u.slot b o q n hb hx
   obtain⟨sl',q2⟩:=v.slot b _ (nex b o q) q1
   exact⟨sl',q2⟩
 · obtain⟨o',q1⟩:=u.there b o q hx
   obtain⟨sl,q2⟩:=v.slot b o' (nex b o q) q1
   exact⟨_,q2⟩
theorem Xfb {fs:List Addr}(u:Un fs [] H H' g h)(e:h.get? a=none):g.get? a=none:=by
 cases q:g.get? a with
 | none=>rfl
 | some o =>
   obtain⟨o',z⟩:=u.there a o q (by simp)
   rw[e] at z
   cases z
end
def CXe (P:Program)(w:World):CXT:=fun outer H s E e s'=>∃(x C T:Addr) (od:Option Addr) (H':Hp),e = .ref x∧s'.os=s.os∧AllBare s'.gens∧Un (frs outer) [] H H' s.heap s'.heap∧HOk P w H' s'.heap ∧
 s.heap.get? x=none∧s.heap.get? T=none∧H' x=none∧H' T=none∧Exc s'.heap x (.ref C) od T .none∧E (.ref C) od H'
section
variable {P:Program}{w:World}{K:PySem.W.Frag}{mg:Str→Option Value}{base:Heap}{N:List Str}{qual:Str}{scope:Scope}{f:Addr}{cd:Value}{A:Around}{outer:List Env}{s₀:Shared}{H₀:Hp}{EX:XK}
theorem Xsf {pins:List (Addr×Obj)}{σ:L2.St}{H:Hp}{s:Shared}{x C:Addr}{od:Option Addr}(I:Inv (cxOf (CXe P w) P w K mg base N qual scope f cd A outer s₀ H₀ EX) pins σ H s)(hx:Exc0 s.heap x (.ref C) od)(nx:s₀.heap.get? x=none)(ux:H x=none)(q:EX (.ref C) od H) :
   (cxOf (CXe P w) P w K mg base N qual scope f cd A outer s₀ H₀ EX).xe (.ref x) s:=by
 refine XFw (base:=base) (outer:=outer) I.ok.frames I.stack rfl hx fun h' T nT u t=>?_
 have hu:Un (frs outer) [] H₀ H s₀.heap s.heap:=I.base
 have uT:H T=none:=Xdg I.hok nT
 refine⟨x,C,T,od,H,rfl,I.os,I.bare,Xmc hu u (fun b hb=>?_) (fun b hb=>?_),Xjh I.hok u I.stkFree (fun b hb=>?_),nx,Xfb hu nT,ux,uT,t,q⟩
 · rcases List.mem_cons.mp hb with rfl | hb
   · exact .inr (Heap.get?_none_of_le (Nat.le_refl _))
   · exact .inl hb
 · rcases List.mem_cons.mp hb with rfl | hb
   · exact nx
   · have e:b=T:=by simpa using hb
     subst e
     exact Xfb hu nT
 · rcases List.mem_cons.mp hb with rfl | hb
   · exact ux
   · have e:b=T:=by simpa using hb
     subst e
     exact uT
theorem Xqi:Xea (CXe P w) (cxOf (CXe P w) P w K mg base N qual scope f cd A outer s₀ H₀ EX) EX:=by
 rintro pins σ H s e s' I ⟨x,C,T,od,H',rfl,os,bare,un,hok,nx,nT,ux,uT,t,q⟩
 have I':Inv (cxOf (CXe P w) P w K mg base N qual scope f cd A outer s₀ H₀ EX) pins σ H' s':=by
   obtain⟨hh,gg,dd,tt,oo⟩:=s'
   obtain rfl:oo=s.os:=os
   have z:=I.call (h':=hh) (g':=gg) (d':=dd) (t':=tt) (ch:=[]) un hok bare (fun b z=>absurd z (by simp))
   exact z
 refine XFr (base:=base) (outer:=outer) I'.ok.frames I'.stack rfl t fun h' T' nT' u t'=>?_
 have hu:Un (frs outer) [] H₀ H' s₀.heap s'.heap:=I'.base
 have hu0:Un (frs outer) [] H₀ H s₀.heap s.heap:=I.base
 have uT':H' T'=none:=Xdg hok nT'
 have n0:∀b∈[T,x,T'],s₀.heap.get? b=none:=fun b hb=>by
   rcases List.mem_cons.mp hb with rfl | hb
   · exact Xfb hu0 nT
   · rcases List.mem_cons.mp hb with rfl | hb
     · exact Xfb hu0 nx
     · have e:b=T':=by simpa using hb
       subst e
       exact Xfb hu nT'
 refine⟨x,C,T',od,H',rfl,I'.os,I'.bare,Xmc hu u (fun b hb=>?_) n0,Xjh hok u I'.stkFree (fun b hb=>?_),n0 x (by simp),n0 T' (by simp),ux,uT',t',q⟩
 · rcases List.mem_cons.mp hb with rfl | hb
   · exact .inr (Heap.get?_none_of_le (Nat.le_refl _))
   · exact .inl hb
 · rcases List.mem_cons.mp hb with rfl | hb
   · exact uT
   · rcases List.mem_cons.mp hb with rfl | hb
     · exact ux
     · have e:b=T':=by simpa using hb
       subst e
       exact uT'
end
end Stow
namespace Stow
open PySem L2 PyProof.Rows
theorem Xpa {K:PySem.W.Frag}{h:Heap}{C:Addr}{bmB:List Value}{newId:String}(X:K.In h)(q:PySem.W.excIn K C bmB newId=true) :
   ∃(bm:List Value) (N:Addr) (nm qn:Str) (bs:List Value) (hd:Bool) (sn:List Str) (sub:List Value) (ab:Bool) (col:Option Bool) (dd:Option Addr) (k0 k1 k2 k3 k5:Option Value) (mN:Str→Option Value),
     h.get? C=some (excClassObj nm qn C N bs bm hd sn sub ab col dd k0 k1 k2 k3 k5 newId)∧h.Ns N mN∧mN "__init__"=none∧OwnTail h bmB bm∧∀v,PySem.W.mroIn K C v=some ((Value.ref C::bm).contains v):=by
 unfold PySem.W.excIn at q
 split at q
 · rename_i dd cd sl lk
   split at q
   · rename_i C' bm a0 a1 a2 a3 n a5 em es
     simp only [Bool.and_eq_true,beq_iff_eq,Bool.not_eq_true'] at q
     obtain⟨⟨⟨⟨⟨eC,rfl⟩,nodel⟩,tl⟩,okN⟩,noI⟩:=q
     have eC:=eC.symm
     subst eC
     have mro:∀v,PySem.W.mroIn K C v=some ((Value.ref C::bm).contains v):=fun v=>by
       unfold PySem.W.mroIn PySem.W.clsIn
       rw[lk]
       first
         | rfl
         | (simp [em];done)
     obtain⟨nm,bs,mr,ns,qn,hd,sn,sub,ab,col,del⟩:=cd
     dsimp only at em nodel okN noI
     subst em nodel
     have esl:sl=#[a0,a1,a2,a3,some (.builtin n),a5]:=by
       cases sl with
       | mk l =>
         dsimp only at es
         rw[es]
     subst esl
     exact⟨bm,ns,nm,qn,bs,hd,sn,sub,ab,col,dd,a0,a1,a2,a3,a5,_,X _ _ lk,.of_isNs (PySem.W.isNs_of_in X okN),PySem.W.nsMap_none_of_in X okN noI,PySem.W.tail_of_in X tl,mro⟩
   · cases q
 · cases q
structure XCls (K:PySem.W.Frag)(mg:Str→Option Value)(x:Str)(C:Addr):Prop where
 bound:mg x=some (.ref C)
 ex:∃(bmB:List Value) (B newId initId:String),PySem.W.excIn K C bmB newId=true∧ExcBaseFacts B newId initId bmB∧bmB.contains (.type "BaseException")=true
def Xwj (C:Addr)(E:XK)(t:TA):TS:=fun _ σ H=>t σ H fun xs H1=>xs.length≤sizeLine∧E (.ref C) none H1
section
variable {P:Program}{w:World}{K:PySem.W.Frag}{mg:Str→Option Value}{base:Heap}{N:List Str}{qual:Str}{scope:Scope}{f:Addr}{cd:Value}{A:Around}{outer:List Env}{s₀:Shared}{H₀:Hp}{EX:XK}
theorem Xfk {x:Str}{C:Addr}{np cpos pos:Pos}{e:Expr}{es:List Expr}{t:TA}(XC:XCls K mg x C)(hh:(cxOf (CXe P w) P w K mg base N qual scope f cd A outer s₀ H₀ EX).A.handled=none)
   (hg:Gl (cxOf (CXe P w) P w K mg base N qual scope f cd A outer s₀ H₀ EX) x) (ha:PA (cxOf (CXe P w) P w K mg base N qual scope f cd A outer s₀ H₀ EX) (e::es) t)
   (hdb:(x==("__debug__":Str))=false:=by decide) (he:starEach (e::es) (cxOf (CXe P w) P w K mg base N qual scope f cd A outer s₀ H₀ EX).env=(false,eval e (cxOf (CXe P w) P w K mg base N qual scope f cd A outer s₀ H₀ EX).env)::starEach es (cxOf (CXe P w) P w K mg base N qual scope f cd A outer s₀ H₀ EX).env:=by rfl)
   (hpl:(backTo cpos (starEach es (cxOf (CXe P w) P w K mg base N qual scope f cd A outer s₀ H₀ EX).env)).any (·.1)=false:=by rfl) :
   PS (cxOf (CXe P w) P w K mg base N qual scope f cd A outer s₀ H₀ EX) (.Raise (some (.Call (.Name x np) (e::es) [] cpos)) none pos) (Xwj C EX t):=by
 intro pins s σ H D I h
 obtain⟨bmB,B,newId,initId,q,FB,hB⟩:=XC.ex
 obtain⟨bm,NN,nm,qn,bs,hd,sn,sub,ab,col,dd,k0,k1,k2,k3,k5,mN,hC,hN,noI,tl,_⟩:=Xpa I.mod.kin q
 refine wpAny_Raise_call_subT (C:=C) (nm:=nm) (q:=qn) (N:=NN) (bs:=bs) (bm:=bm) (hdct:=hd) (sn:=sn) (sub:=sub) (ab:=ab) (col:=col) (dd:=dd) (k0:=k0) (k1:=k1) (k2:=k2) (k3:=k3) (k5:=k5) FB (mN:=mN) (tl.hasType hB) hh
   (by rw[he];show (false||(backTo cpos (starEach es _)).any (·.1))=false;rw[hpl];rfl) noI (Xei I hg XC.bound ⟨rfl,?_⟩ hdb)
 have hA:=ha cpos pins s σ H _ I h
 rw[he] at hA ⊢
 refine Calls.evalArgs_plain (thn hA fun us s2 ⟨xs,H2,I2,r2,hz,q2⟩=>⟨rfl,by rw[←r2.length];exact hz,I2.bk _ _ hC,hN.keeps I2.bk,tl.keeps I2.bk,fun h' x hm=>?_⟩)
 have I3:Inv (cxOf (CXe P w) P w K mg base N qual scope f cd A outer s₀ H₀ EX) pins σ H2 { s2 with heap:=h' }:=I2.kept (t':=s2.toks) hm.keeps
 obtain⟨tt,ht,_,_⟩:=hm.there
 exact Xsf I3 ⟨_,_,ht,rfl,rfl,rfl,rfl⟩ (Xfb (show Un (frs outer) [] H₀ H2 s₀.heap s2.heap from I2.base) hm.new) (Xdg I2.hok hm.new) q2
end
def ExcO (x C:Addr)(od:Option Addr):HO:=.ext fun h=>∃oe vs,h.get? x=some oe∧oe.cls = .ref C∧oe.dict=od∧oe.data = .fields vs
abbrev Cx.suite (X:Cx)(x:Addr):Cx:={ X with A:=X.A.mark (some (.ref x)),calm:=false,xe:=fun _ _=>False }
theorem Xvk {X:Cx}(ok:X.Ok)(x:Addr):(Cx.suite X x).Ok :=
 ⟨ok.mod,ok.kind,ok.glob,ok.blt,ok.above,ok.inj,ok.has,ok.cab,fun z=>(nomatch z),ok.frames,ok.stk,ok.exf,ok.bs,ok.bsz,ok.noex,ok.exfs,ok.funs,ok.frf⟩
theorem Xgo {X:Cx}{pins:List (Addr×Obj)}{σ:L2.St}{H:Hp}{s:Shared}(I:Inv X pins σ H s)(x:Addr):Inv (Cx.suite X x) pins σ H s:=⟨Xvk I.ok x,I.os,I.bare,I.base,I.loc,I.cell,I.free,I.freeC,I.pin,I.hok,I.len⟩
theorem Xdx {X:Cx}{pins:List (Addr×Obj)}{σ:L2.St}{H:Hp}{s:Shared}{x:Addr}(ok:X.Ok)(I:Inv (Cx.suite X x) pins σ H s):Inv X pins σ H s:=⟨ok,I.os,I.bare,I.base,I.loc,I.cell,I.free,I.freeC,I.pin,I.hok,I.len⟩
section
variable {X:Cx}
theorem Xnl {pins:List (Addr×Obj)}{σ:L2.St}{H H':Hp}{s s':Shared}{h':Heap}{x C T:Addr}{od:Option Addr}{fr ex:List Addr}(I:Inv X pins σ H s)(os:s'.os=s.os)(bare:AllBare s'.gens)(un:Un (frs X.stack) [] H H' s.heap s'.heap)(hok:HOk X.prog X.w H' s'.heap)
   (nx:s.heap.get? x=none) (ux:H' x=none) (u:Upto fr ex s'.heap h') (hfr:fr=frs X.stack) (nex:∀b∈ex,s.heap.get? b=none∧H' b=none) (t:Exc h' x (.ref C) od T .none):Inv X pins σ (upd H' x (ExcO x C od)) { s' with heap:=h' }:=by
 subst hfr
 have un2:Un (frs X.stack) [] H H' s.heap h':=Xmc un u (fun b hb=>.inl hb) fun b hb=>(nex b hb).1
 have stk:∀b∈frs X.stack,H' b=none:=fun b hb=>by
   obtain⟨_,o,ho,_⟩:=I.stack.mem hb
   exact un.free b o ho (I.stkFree b hb) (by simp)
 have hok2:HOk X.prog X.w H' h':=Xjh hok u stk fun b hb=>(nex b hb).2
 have nex':∀b v,H' b=some v→b≠x:=fun b v e z=>by rw[z,ux] at e;cases e
 have un3:Un (frs X.stack) [] H (upd H' x (ExcO x C od)) s.heap h':=by
   refine⟨un2.keep,un2.slot,fun b o q n hx=>?_,un2.there,fun b xs q=>?_,fun b o v q=>?_,fun b ps q=>?_⟩
   · rw[Xah (fun z=>by rw[z,nx] at q;cases q)]
     exact un2.free b o q n hx
   · rw[Xah (nex' b _ (un2.tups b xs q))]
     exact un2.tups b xs q
   · rw[Xah (nex' b _ (un2.frzs b o v q))]
     exact un2.frzs b o v q
   · obtain⟨more,z⟩:=un2.tbls b ps q
     exact⟨more,by rw[Xah (nex' b _ z)];exact z⟩
 obtain⟨oe,vs,oT,ts,ne,ee,hc,hd,hf,_⟩:=t
 have hok3:HOk X.prog X.w (upd H' x (ExcO x C od)) h':=fun b v e=>by
   by_cases z:b=x
   · subst z
     rw[upd_same] at e
     cases e
     exact⟨⟨oe,vs,ee,hc,hd,hf⟩,⟨oe,ee⟩,fun h1 h2 ⟨o1,v1,q1,q2,q3,q4⟩ k=>⟨o1,v1,k o1 q1,q2,q3,q4⟩⟩
   · rw[Xah z] at e
     exact(hok2 b v e).stay (fun _ _ _ q=>q) (fun c q=>by rw[Xah (nex' c _ q)];exact q) fun c xs q=>by rw[Xah (nex' c _ q)];exact q
 obtain⟨hh,gg,dd,tt,oo⟩:=s'
 obtain rfl:oo=s.os:=os
 have z:=I.call (h':=h') (g':=gg) (d':=dd) (t':=tt) (ch:=[]) un3 hok3 bare (fun b z=>absurd z (by simp))
 exact z
end
end Stow
namespace Stow
open PySem L2 PyProof.Rows
section
variable {X:Cx}
def ECls (K:PySem.W.Frag)(C:Addr)(bm:List Value):Prop:=∃(nm qn:Str) (N:Addr) (bs:List Value) (hd:Bool) (sn:List Str) (sub:List Value) (ab:Bool) (col:Option Bool) (dd:Option Addr) (k0 k1 k2 k3 k5:Option Value) (newId:String),
 K.lookup C=some (excClassObj nm qn C N bs bm hd sn sub ab col dd k0 k1 k2 k3 k5 newId)
variable {k:Nat}{f C0:Addr}{fd:FuncData}{ps:List Str}{sp:Sp}{fx cx:Str}{p cpos epos np hpos pos:Pos}{e:Expr}{es:List Expr}{ta:TA}{b0:Stmt}{suite:List Stmt}{ts:Addr→TS}
theorem Xwd {pins:List (Addr×Obj)}{σ:L2.St}{H:Hp}{s s':Shared}{EX:XK}{y:Value}{W:Shared→Prop}(I:Inv X pins σ H s)(hst:X.stack=X.env::X.outer∧X.env.frame=some X.env.locals)(hq:CXe X.prog X.w X.stack H s EX y s')
   (k:∀(x C:Addr) (od:Option Addr) (T:Addr) (h2:Heap) (H2:Hp),y = .ref x→EX (.ref C) od H2→Exc h2 x (.ref C) od T .none→Inv X pins σ (upd H2 x (ExcO x C od)) { s' with heap:=h2 } →
     (∀h3,Upto (frs X.stack) [T] h2 h3→Exc h3 x (.ref C) od T .none→H2 x=none∧Inv X pins σ (upd H2 x (ExcO x C od)) { s' with heap:=h3 })→W { s' with heap:=h2 }) {E':Value→Shared→Prop} :
   wpAny (model X.prog X.w) X.A (noteFrame y X.env) (fun _ s2=>wpAny (model X.prog X.w) X.A (setFlight y none) (fun _ s3=>W s3) E' s2) E' s':=by
 obtain⟨x,C,T,od,H',rfl,os,bare,un,hok,nx,nT,ux,uT,t,q⟩:=hq
 have I':Inv X pins σ H' s':=by
   obtain⟨hh,gg,dd,tt,oo⟩:=s'
   obtain rfl:oo=s.os:=os
   have z:=I.call (h':=hh) (g':=gg) (d':=dd) (t':=tt) (ch:=[]) un hok bare (fun b z=>absurd z (by simp))
   exact z
 have efr:(X.env::X.outer).filterMap (·.frame)=frs X.stack:=by rw[hst.1];rfl
 refine XJe (base:=X.base) (outer:=X.outer) (by rw[←hst.1];exact I'.ok.frames) (by rw[←hst.1];exact I'.stack) hst.2 t fun h1 T' nT' u1 t1=>?_
 rw[efr] at u1
 refine Xgf (s:={ s' with heap:=h1 }) (fr:=frs X.stack) t1 fun h2 u2 t2=>?_
 have new:∀b∈[T,x]++[T']++[T'],s.heap.get? b=none∧H' b=none:=fun b hb=>by
   simp only [List.cons_append,List.nil_append,List.mem_cons,List.not_mem_nil,or_false] at hb
   rcases hb with rfl | rfl | rfl | rfl
   · exact⟨nT,uT⟩
   · exact⟨nx,ux⟩
   · exact⟨Xfb un nT',Xdg hok nT'⟩
   · exact⟨Xfb un nT',Xdg hok nT'⟩
 refine k x C od T' h2 H' rfl q t2 (Xnl I os bare un hok nx ux (u1.trans u2) rfl (fun b hb=>new b (List.mem_append_left _ hb)) t2) fun h3 u3 t3=>⟨ux,Xnl I os bare un hok nx ux ((u1.trans u2).trans u3) rfl new t3⟩
theorem Xob {pins:List (Addr×Obj)}{D:Ends}{x:Addr}{fl:Flow}{s':Shared}(ok:X.Ok)(h:SP (Cx.suite X x) pins D fl s'):SP X pins D fl s':=by
 cases fl with
 | next=>obtain⟨σ',H',I,q⟩:=h;exact⟨σ',H',Xdx ok I,q⟩
 | brk=>obtain⟨σ',H',I,q⟩:=h;exact⟨σ',H',Xdx ok I,q⟩
 | cont=>obtain⟨σ',H',I,q⟩:=h;exact⟨σ',H',Xdx ok I,q⟩
 | ret u=>obtain⟨v,σ',H',I,r,q⟩:=h;exact⟨v,σ',H',Xdx ok I,r,q⟩
end
end Stow
namespace Stow
open PySem L2 PyProof.Rows
structure Defx (P:Program)(w:World)(K:PySem.W.Frag)(mg:Str→Option Value)(base:Heap)(x:Str)(k:Nat)(ps:List Str)(sp:Sp):Prop where
 ex:∃(f:Addr) (fd:FuncData),FnOk P w K mg base (CXe P w) k f fd ps sp∧mg x=some (.ref f)∧PySem.W.keepIn K (.ref f)=true∧Xci K fd ps []
section
variable {P:Program}{w:World}{K:PySem.W.Frag}{mg:Str→Option Value}{base:Heap}
theorem Xbx {x qual:Str}{st:Stmt}{f:Addr}{fd:FuncData}{N ps:List Str}{k:Nat}{sp:Sp}(F:Fun K x qual st f fd)(S:FnScope N ps (Xad st))(len:∀vs H Q E,sp vs H Q E→vs.length=ps.length)
   (hbody:∀(cdv:Value) (A:Around) (outer:List Env) (s:Shared) (H:Hp) (vs:List V) (Q:VK) (E:XK),Room k (A.deeper (envOfC qual (Xad st) s.heap.objs.size f cdv))→sp vs H Q E →
     ∃t,PSs (cxOf (CXe P w) P w K mg base N qual (Xad st) f cdv A outer s H E) (Xay st) t∧t { nx:=fun _ H'=>Q .non H',rt:=Q } (start N vs) H):FnOk P w K mg base (CXe P w) (k+1) f fd ps sp:=by
 obtain⟨oc,od,kV,doc,pm,an,cdv,ct,osl,rfl,lk,hcd⟩:=F.ex
 exact XAf lk hcd S len fun A outer s H vs Q E hr hsp=>hbody cdv A outer s H vs Q E hr hsp
theorem Src.okx {x:Str}{st:Stmt}{N ps:List Str}{k:Nat}{sp:Sp}(S:Src K mg x st)(sc:FnScope N ps (Xad st))
   (hb:∀(kV doc pm:Value) (an:Option Addr) (cdv ct:Value) (us:List Value),us.length=ps.length→bindArgs (PySem.W.fnOf x x (Xbh st) (Xay st) (Xad st) .none kV doc pm an cdv ct) ⟨us,[]⟩=pure (ps.zip us))
   (len:∀vs H Q E,sp vs H Q E→vs.length=ps.length)
   (hbody:∀(f:Addr) (cdv:Value) (A:Around) (outer:List Env) (s:Shared) (H:Hp) (vs:List V) (Q:VK) (E:XK),Room k (A.deeper (envOfC x (Xad st) s.heap.objs.size f cdv))→sp vs H Q E →
     ∃t,PSs (cxOf (CXe P w) P w K mg base N x (Xad st) f cdv A outer s H E) (Xay st) t∧t { nx:=fun _ H'=>Q .non H',rt:=Q } (start N vs) H):Defx P w K mg base x (k+1) ps sp:=by
 obtain⟨f,fd,F,hm⟩:=S.ex
 exact⟨f,fd,Xbx F sc len (hbody f),hm,F.kp,F.binds hb⟩
end
section
variable {X:Cx}
theorem Xaw:Xea (CXe X.prog X.w) X E0:=by
 rintro pins σ H s e s' I ⟨x,C,T,od,H',_,_,_,_,_,_,_,_,_,_,q⟩
 exact q.elim
theorem Xag {x:Str}{j k:Nat}{ps:List Str}{sp:Sp}{p pos:Pos}{e:Expr}{es:List Expr}{t:TA}(D:Defx X.prog X.w X.K X.mg X.base x j ps sp)(hr:Room k X.A)(hg:Gl X x)(ha:PA X (e::es) t)(hk:j≤k:=by decide)
   (hdb:(x==("__debug__":Str))=false:=by decide) (he:starEach (e::es) X.env=(false,eval e X.env)::starEach es X.env:=by rfl) (hpl:(backTo pos (starEach es X.env)).any (·.1)=false:=by rfl) :
   PE X (.Call (.Name x p) (e::es) [] pos) (Xss sp [] E0 t):=by
 obtain⟨f,fd,F,hm,kp,b⟩:=D.ex
 exact Xsi F (hr.mono hk) hg hm kp b .nil Xaw ha hdb he hpl
variable {j k:Nat}{C0:Addr}{ps:List Str}{sp:Sp}{fx cx:Str}{p cpos epos np hpos pos:Pos}{e:Expr}{es:List Expr}{ta:TA}{b0:Stmt}{suite:List Stmt}{ts:Addr→TS}
end
theorem Lk.of {M:Model}{h:Heap}{α:Type}{m:Sem α}{v:α}(l:PySem.W.Looks M h m v):Lk M h m v:=fun A E g d t os Q q=>l A Q E ⟨h,g,d,t,os⟩ (fun _ _ e=>e) q
structure XK0 (K:PySem.W.Frag)(C:Addr):Prop where
 ga:PySem.W.findIn K (.ref C) "__getattribute__"=some (some (.builtin "BaseException.__getattribute__"))
 gat:PySem.W.findIn K (.ref C) "__getattr__"=some none
 cls:PySem.W.findIn K (.ref C) "__class__"=some (some (.builtin "object.__class__"))
 obj:PySem.W.mroIn K C (.type "object")=some true
 exc:PySem.W.mroIn K C (.type "BaseException")=some true
theorem XK0.lk {prog:Program}{w:World}{K:PySem.W.Frag}{C:Addr}{h:Heap}(x:XK0 K C)(KX:K.In h):XLk prog w h C :=
 ⟨.of (PySem.W.looks_findIn KX x.ga),.of (PySem.W.looks_findIn KX x.gat),.of (PySem.W.looks_findIn KX x.cls),.of (PySem.W.looks_mroIn KX x.obj),.of (PySem.W.looks_mroIn KX x.exc)⟩
section
variable {X:Cx}
end
end Stow
namespace Stow
open PySem L2 PyProof.Rows
open PySem.W in
theorem Xla (self:Value):refuseLoop self "__setattr__" [.type "ValueError",.type "Exception",.type "BaseException",.type "object"]=pure ():=by kernel_rfl
def Xhk:List Value→Bool
 | .ref _::r=>Xhk r
 | l=>l==[.type "ValueError",.type "Exception",.type "BaseException",.type "object"]
open PySem.W in
theorem Xhf (self:Value):∀{l:List Value},Xhk l=true→refuseLoop self "__setattr__" l=pure ()
 | .ref c::r,e=>by rw[refuseLoop_ref];exact Xhf self e
 | [],e=>by cases e
 | .none::r,e=>by cases e
 | .type n::r,e=>by
   have e':(Value.type n::r)=[.type "ValueError",.type "Exception",.type "BaseException",.type "object"]:=beq_iff_eq.mp e
   rw[e']
   exact Xla self
 | .ellipsis::r,e=>by cases e
 | .notImplemented::r,e=>by cases e
 | .bool b::r,e=>by cases e
 | .int i t::r,e=>by cases e
 | .float i t::r,e=>by cases e
 | .str i t::r,e=>by cases e
 | .bytes i t::r,e=>by cases e
 | .builtin i::r,e=>by cases e
section
variable {prog:Program}{w:World}{A:Around}{K:PySem.W.Frag}{x C:Addr}{s:Shared}
open PySem.W in
theorem Xtu {E:Value→Shared→Prop}{ox:Obj}{vs:Array Value}{name:Str}{v:Value}{cd:ClassData}{Q:Unit→Shared→Prop}(X:K.In s.heap)(hx:s.heap.get? x=some ox)(hcl:ox.cls = .ref C)(hdi:ox.dict=none)(hda:ox.data = .fields vs)
   (hs:findIn K (.ref C) "__setattr__"=some (some (.builtin "object.__setattr__"))) (hc:clsIn K C=some cd) (ho:Xhk cd.mro=true) (hm:mroIn K C (.type "object")=some true) (hd:cd.hasDict=true) (ht:findIn K (.ref C) name=some none)
   (h:∀h' dx,s.heap.get? dx=none→dx≠x→h'.get? x=some { ox with dict:=some dx }→h'.Ns1 dx (fun y=>if y=name then some v else none)→(∀b o,b≠x→s.heap.get? b=some o→h'.get? b=some o)→Q () { s with heap:=h',toks:=s.toks+2 }) :
   wpAny (model prog w) A (setAttr (.ref x) name v) Q E s:=by
 have I:InstAt s.heap x ox C none:=⟨hx,hcl,by unfold notCls;rw[hda],by rw[hdi];trivial⟩
 refine set_plain X I hs ?_
 have SF:=PySem.F.store_object
 have sub:Looks (model prog w) s.heap (isInstance (.ref x) (.type "object")) true:=I.type.andThen (looks_mroIn X hm)
 refine codeAny_call_builtin SF.slot.plain SF.entry (@check_slot (model prog w) _ _ { s with toks:=s.toks+1 } "object.__setattr__" "object" "__setattr__" (.ref x) [.str name s.toks,v] [] _ SF.kind SF.split sub (SF.args (.ref x) (.str name s.toks) v) ?_)
 have mro:Looks (model prog w) s.heap (mroOf (.ref C)) cd.mro:=(looks_clsIn X hc).andThen .now
 rw[osa_eq,refuse_eq]
 refine wpAny_bind (wpAny_bind (Looks.here (s:={ s with toks:=s.toks+1 }) I.type (wpAny_bind (Looks.here (s:={ s with toks:=s.toks+1 }) mro ?_))))
 rw[Xhf _ ho]
 refine wpAny_pure (wpAny_bind (Looks.here (s:={ s with toks:=s.toks+1 }) I.type (wpAny_bind (Looks.here (s:={ s with toks:=s.toks+1 }) (looks_findIn X ht) (wpAny_bind (wpAny_pure ?_))))))
 show wpAny _ _ (Builtin.ObjectAttr.storeInOwnDict (.ref x) (.ref C) _ name v _) _ _ _
 unfold Builtin.ObjectAttr.storeInOwnDict
 obtain⟨c0,d0,dt0,sl0⟩:=ox
 dsimp only at hcl hdi hda
 subst hcl hdi hda
 refine wpAny_bind (wpAny_pure (wpAny_bind (wpAny_bind (wpAny_loadPart hx (wpAny_bind (Looks.here (s:={ s with toks:=s.toks+1 }) (looks_clsIn X hc) ?_))))))
 rw[hd]
 show wpAny (model prog w) A.in1 (do
   let d ←alloc { cls:=Value.type "dict",data:=Data.dict #[] }
   update x fun o=>{ o with dict:=some d }
   dictMade (.ref C) x d) _ _ _
 refine wpAny_bind (wpAny_alloc ?_)
 refine wpAny_bind (wpAny_update (Heap.get?_push_of_some _ hx) ?_)
 refine wpAny_pure (a:=some s.heap.objs.size) (wpAny_bind (wpAny_pure (wpAny_bind ?_)))
 have ne:s.heap.objs.size≠x:=Nat.ne_of_gt (Heap.lt_size hx)
 have n0:((s.heap.push { cls:=.type "dict",data:=.dict #[] }).update x fun o=>{ o with dict:=some s.heap.objs.size }).Ns1 s.heap.objs.size (fun _=>none):=by
   have e1:(s.heap.push { cls:=.type "dict",data:=.dict #[] }).get? s.heap.objs.size=some { cls:=.type "dict",data:=.dict #[] }:=Heap.get?_push_size s.heap rfl
   have e3:(s.heap.push { cls:=.type "dict",data:=.dict #[] }).Ns s.heap.objs.size (fun _=>none):=⟨_,#[],_,e1,rfl,(fun e he=>absurd he (by simp)),fun _=>rfl⟩
   exact(Heap.Ns1.of_empty e3).at fun o q=>by rw[Heap.get?_update_other _ _ (fun z=>ne z.symm)];exact q
 refine wpAny_nsSet1 n0 fun h' hn2 hs2=>?_
 obtain⟨oD,esD,epD,hoD,hdD,hcD⟩:=hn2.count (PySem.Within.cons name v (ns:=[]) (fun y hy=>absurd rfl hy))
 refine wpAny_bind (wpAny_lookBehind hoD (by rw[hdD];exact pastItsLine_dict (Nat.le_trans hcD (by show 1≤sizeLine+1;exact Nat.le_add_left 1 _))) ?_)
 refine wpAny_pure (h _ s.heap.objs.size (Heap.get?_none_of_le (Nat.le_refl _)) ne ?_ hn2 fun b o nb q=>?_)
 · rw[hs2.2 x (fun z=>ne z.symm)]
   exact Heap.get?_update_self _ (Heap.get?_push_of_some _ hx) rfl
 · rw[hs2.2 b (Nat.ne_of_lt (Heap.lt_size q))]
   show ((s.heap.push _).update x _).get? b=some o
   rw[Heap.get?_update_other _ _ (fun z=>nb z.symm)]
   exact Heap.get?_push_of_some _ q
end
end Stow
namespace Stow
open PySem
open Sem (wp)
section
variable {prog:Program}{w:World}{A:Around}{E:Value→Shared→Prop}{h:Heap}{g:Array GenState}{d:Drawn}{t:Nat}{os:OsState}{a C:Addr}{o:Obj}{name:Str}{v:Value}
end
end Stow
namespace Stow
open PySem L2 PyProof.Rows
structure XSet (K:PySem.W.Frag)(C:Addr)(f:Str):Prop where
 sa:PySem.W.findIn K (.ref C) "__setattr__"=some (some (.builtin "object.__setattr__"))
 cd:∃cd,PySem.W.clsIn K C=some cd∧Xhk cd.mro=true∧cd.hasDict=true
 ob:PySem.W.mroIn K C (.type "object")=some true
 no:PySem.W.findIn K (.ref C) f=some none
def ExcN (x C:Addr)(od:Option Addr):HO:=.ext fun h=>∃tt,h.get? x=some { cls:=.ref C,dict:=od,data:=.fields #[.ref tt,.none,.none,.none,.bool false,.none] }
def XOf (K:PySem.W.Frag)(ta tv:TE)(f:Str):TS:=fun D σ H=>tv σ H fun y H1=>ta σ H1 fun x H2=>∃a C,x = .ref a∧H2 a=some (ExcN a C none)∧XSet K C f∧∀dx,H2 dx=none→D.nx σ (upd (upd H2 dx (.xd [(f,y)])) a (ExcN a C (some dx)))
section
variable {X:Cx}{o e value:Expr}{f:Str}{pos pos':Pos}{ta tv:TE}
theorem Xzf (ha:PE X o ta)(hv:PE X value tv)(hs:swapsWith value (some (.Attribute o f pos')) pos.line X.env=pure false:=by rfl):PS X (.Assign [.Attribute o f pos'] value pos) (XOf X.K ta tv f):=by
 intro pins s σ H D I h
 refine plainObj_wpAny_Assign_Attribute (thn (hv pins s σ H _ I h) fun u s1 ⟨y,H1,I1,ry,q⟩=>thn (ha pins s1 σ H1 _ I1 q) fun ov s2 ⟨x,H2,I2,rx,a,C,ex,ea,Z,q2⟩=>?_) hs
 subst ex
 obtain rfl:ov=Value.ref a:=rx
 obtain⟨⟨tt,ee⟩,_⟩:=I2.hok a _ ea
 obtain⟨cd,hcd,ht,hdi⟩:=Z.cd
 refine Xtu I2.kIn ee rfl rfl rfl Z.sa hcd ht Z.ob hdi Z.no fun h' dx nd ne e' n' kp=>?_
 have ud:H2 dx=none:=Xdg I2.hok nd
 have nda:a≠dx:=fun z=>ne z.symm
 refine⟨σ,_,?_,q2 dx ud⟩
 -- the dict is laid,the exception bears it
 have un:Un X.fs [] H2 (upd (upd H2 dx (.xd [(f,y)])) a (ExcN a C (some dx))) s2.heap h':=by
   refine⟨fun b ob qb n _ _=>kp b ob (fun z=>by rw[z,ea] at n;cases n) qb,fun b ob qb n _ _=>⟨ob.slots,kp b ob (fun z=>by rw[z,ea] at n;cases n) qb⟩,fun b ob qb n _=>?_,fun b ob qb _=>?_,fun b xs qb=>?_,fun b ob v' qb=>?_,fun b ps qb=>?_⟩
   · rw[Xah (fun z=>by rw[z,ea] at n;cases n),Xah (fun z=>by rw[z,nd] at qb;cases qb)]
     exact n
   · by_cases z:b=a
     · subst z
       exact⟨_,e'⟩
     · exact⟨ob,kp b ob z qb⟩
   · rw[Xah (fun z=>by rw[z,ea] at qb;cases qb),Xah (Xap qb ud)]
     exact qb
   · rw[Xah (fun z=>by rw[z,ea] at qb;cases qb),Xah (Xap qb ud)]
     exact qb
   · exact⟨#[],by rw[Xah (fun z=>by rw[z,ea] at qb;cases qb),Xah (Xap qb ud),qb];simp⟩
 have hok:HOk X.prog X.w (upd (upd H2 dx (.xd [(f,y)])) a (ExcN a C (some dx))) h':=fun b v' qb=>by
   by_cases z:b=a
   · subst z
     rw[upd_same] at qb
     cases qb
     exact⟨⟨tt,e'⟩,⟨_,e'⟩,fun h1 h2 ⟨t1,q1⟩ k=>⟨t1,k _ q1⟩⟩
   · rw[Xah z] at qb
     by_cases z2:b=dx
     · subst z2
       rw[upd_same] at qb
       cases qb
       refine⟨_,n',fun g=>?_⟩
       show RelO (List.lookup g [(f,y)]) (if g=f then some u else none)
       by_cases zg:g=f
       · subst zg
         rw[if_pos rfl,List.lookup_cons_self]
         exact ry
       · rw[if_neg zg,List.lookup_cons,show (g==f)=false from beq_false_of_ne zg]
         trivial
     · rw[Xah z2] at qb
       refine(I2.hok b v' qb).stay (fun c w' hcw q=>kp c w' (fun y'=>?_) q) (fun c q=>?_) fun c xs q=>?_
       · subst y'
         rcases hcw with r | r
         · exact z r.symm
         · rw[ea] at r
           cases r
       · rw[Xah (fun z=>by rw[z,ea] at q;cases q),Xah (Xap q ud)]
         exact q
       · rw[Xah (fun z=>by rw[z,ea] at q;cases q),Xah (Xap q ud)]
         exact q
 exact I2.un un hok
end
end Stow
namespace Stow
open PySem
open Sem (wp)
section
variable {prog:Program}{w:World}{A:Around}{E:Value→Shared→Prop}{h:Heap}{g:Array GenState}{d:Drawn}{t:Nat}{os:OsState}
variable {nm q:Str}{C N:Addr}{bs bm bmB:List Value}{hdct:Bool}{sn:List Str}{sub:List Value}{ab:Bool}{col:Option Bool}{dd:Option Addr}{k0 k1 k2 k3 k5:Option Value}{B newId initId:String}
theorem Xth (FB:ExcBaseFacts B newId initId bmB)(TL:OwnTail h bmB bm){args:List Value}{fI:Addr}{oI:Obj}{Q:Fin→Shared→Prop}(hC:h.get? C=some (excClassObj nm q C N bs bm hdct sn sub ab col dd k0 k1 k2 k3 k5 newId))
   (LI:PySem.W.Looks (model prog w) h (typeLookup (.ref C) "__init__") (some (.ref fI))) (hfI:h.get? fI=some oI) (hfc:oI.cls = .type "function")
   (k:∀h' e,Heap.MadeExcOf h h' e (.ref C) args→wpAny (model prog w) A (call (.ref fI) (.ref e::args)) (fun r s'=>r = .none∧Q (.done (.ret (.ref e))) s') E ⟨h',g,d,t,os⟩) (hz:args.length≤sizeLine) :
   wpAny (model prog w) A (Builtin.«type.__call__» ⟨.ref C::args,[]⟩) Q E ⟨h,g,d,t,os⟩:=by
 repeat (first
   | with_reducible refine wpAny_loadPart_at hC ?_
   | with_reducible refine wpAny_madeBy_exc hC ?_
   | wp_step)
 refine codeAny_call_builtin_code (Code.quiet_builtin _ FB.quiet) (wpAny_check_new_subT FB TL hC (codeAny_exc_new_subT FB TL hC ?_ hz))
 show wpAny _ _ _ _ _ _
 have kp:∀b o,h.get? b=some o→((h.push { cls:=.type "tuple",data:=.seq args.toArray }).push { cls:=.ref C,data:=.fields #[.ref h.objs.size,.none,.none,.none,.bool false,.none] }).get? b=some o :=
   fun b o z=>Heap.get?_push_of_some _ (Heap.get?_push_of_some _ z)
 have gC:=kp _ _ hC
 have gE:((h.push { cls:=.type "tuple",data:=.seq args.toArray }).push { cls:=.ref C,data:=.fields #[.ref h.objs.size,.none,.none,.none,.bool false,.none] }).get? (h.objs.size+1)
     = some { cls:=.ref C,data:=.fields #[.ref h.objs.size,.none,.none,.none,.bool false,.none] }:=by heap_get
 have cC:(Value.ref C::bm).contains (.ref C)=true:=by simp
 unfold isInstance
 repeat (first
   | with_reducible refine wpAny_loadPart_at gE ?_
   | (with_reducible refine wpAny_isSubtype_exc gC ?_;rw[cC])
   | wp_step)
 show wpAny _ _ (typeLookup (.ref C) _) _ _ _
 refine LI _ _ _ _ kp ?_
 refine wpAny_holding (wpAny_bind ?_)
 unfold bindSpecial
 refine wpAny_bind (wpAny_typeOf (T:="function") ⟨_,kp _ _ hfI,hfc⟩ ?_)
 rw[if_pos (by decide)]
 refine wpAny_pure (wpAny_bind (wpAny_mono (k _ (h.objs.size+1) ⟨kp,Heap.get?_none_of_le (Nat.le_succ _),h.objs.size,gE,Heap.get?_none_of_le (Nat.le_refl _),?_⟩) (fun r s' hr=>?_) fun _ _ z=>z))
 · exact Heap.get?_push_of_some _ (Heap.get?_push_at rfl rfl)
 · obtain⟨rfl,z⟩:=hr
   wp_walk
   exact z
theorem Xpr (FB:ExcBaseFacts B newId initId bmB)(TL:OwnTail h bmB bm){args:List Value}{fI:Addr}{oI:Obj}{Q:Value→Shared→Prop}(hC:h.get? C=some (excClassObj nm q C N bs bm hdct sn sub ab col dd k0 k1 k2 k3 k5 newId))
   (LI:PySem.W.Looks (model prog w) h (typeLookup (.ref C) "__init__") (some (.ref fI))) (hfI:h.get? fI=some oI) (hfc:oI.cls = .type "function")
   (k:∀h' e,Heap.MadeExcOf h h' e (.ref C) args→wpAny (model prog w) (A.under (.builtin "type.__call__" ⟨.ref C::args,[]⟩)) (call (.ref fI) (.ref e::args)) (fun r s'=>r = .none∧Q (.ref e) s') E ⟨h',g,d,t,os⟩) (hz:args.length≤sizeLine) :
   wpAny (model prog w) A (call (.ref C) args) Q E ⟨h,g,d,t,os⟩:=by
 have y1:=tc_lookup
 have y2:=tc_bind (.ref C)
 have y3:(⟨h,g,d,t,os⟩:Shared).TypeIs (.ref C) "type":=⟨_,hC,rfl⟩
 refine wpAny_call (codeAny_of_tree ?_)
 show wpAny _ _ (callAny (.ref C) _) _ _ _
 repeat (any_goals (first
   | assumption
   | with_reducible refine wpAny_loadPart_at hC ?_
   | wp_step))
 refine⟨rfl,codeAny_call_builtin_at (Code.quiet_builtin _ (by decide +kernel)) entry_typeCall (wpAny_check_type_call_sub hC (Xth FB TL hC LI hfI hfc (fun h' e hm=>?_) hz))⟩
 exact k h' e hm
theorem Xst {M:Model}{env:Env}{s:Shared}{x:Sem Value}{Q:Flow→Shared→Prop}(hbase:bm.contains (.type "BaseException")=true)(hh:A.handled=none)
   (k:wpAny M A x (fun v s1=>∃e od tt,v = .ref e∧s1.heap.get? C=some (excClassObj nm q C N bs bm hdct sn sub ab col dd k0 k1 k2 k3 k5 newId)∧s1.heap.get? e=some { cls:=.ref C,dict:=od,data:=.fields #[.ref tt,.none,.none,.none,.bool false,.none] }∧E (.ref e) s1) E s) :
   wpAny M A (raiseStmt env (some x) none) Q E s:=by
 have cB:(Value.ref C::bm).contains (.type "BaseException")=true:=by rw[List.contains_cons,hbase,Bool.or_true]
 unfold raiseStmt
 refine wpAny_bind (wpAny_mono k (fun v s1 k1=>?_) fun _ _ z=>z)
 obtain⟨e,od,tt,rfl,hC,he,z⟩:=k1
 obtain⟨hp,gg,d1,tk,os1⟩:=s1
 repeat (first
   | with_reducible refine wpAny_loadPart_at he ?_
   | with_reducible refine wpAny_loadPart_at hC ?_
   | (with_reducible refine wpAny_isSubtype_exc hC ?_;rw[cB])
   | wp_step)
 exact wpAny_raiseNew_none hh z
end
end Stow
namespace Stow
open PySem L2 PyProof.Rows
structure XIni (K:PySem.W.Frag)(mg:Str→Option Value)(x:Str)(C C0 fI:Addr):Prop where
 bound:mg x=some (.ref C)
 lk:∃(nm qn:Str) (N:Addr) (bs:List Value) (hd:Bool) (sn:List Str) (sub:List Value) (ab:Bool) (col:Option Bool) (dd:Option Addr) (k0 k1 k2 k3 k5:Option Value),
   K.lookup C=some (excClassObj nm qn C N bs (.ref C0::[.type "ValueError",.type "Exception",.type "BaseException",.type "object"]) hd sn sub ab col dd k0 k1 k2 k3 k5 "ValueError.__new__")
 base:PySem.W.excIn K C0 [.type "ValueError",.type "Exception",.type "BaseException",.type "object"] "ValueError.__new__"=true
 ini:PySem.W.findIn K (.ref C) "__init__"=some (some (.ref fI))
 keep:PySem.W.keepIn K (.ref C)=true
 fn:∃(c:Value) (dd:Option Addr) (da:Data) (sl:Array (Option Value)),K.lookup fI=some ⟨c,dd,da,sl⟩∧c = .type "function"
def del (H:Hp)(x:Addr):Hp:=fun b=>if b=x then none else H b
theorem Xgg {H:Hp}{x:Addr}:del H x x=none:=by unfold del;rw[if_pos rfl]
theorem Xfy {H:Hp}{x b:Addr}(h:b≠x):del H x b=H b:=by unfold del;rw[if_neg h]
theorem XBh {X:Cx}{pins:List (Addr×Obj)}{σ:L2.St}{H:Hp}{s:Shared}{x:Addr}{φ:Heap→Prop}(I:Inv X pins σ H s)(e:H x=some (.ext φ)):Inv X pins σ (del H x) s:=by
 have nx:∀b v,H b=some v→v≠.ext φ→b≠x:=fun b v q n z=>by
   subst z
   rw[e] at q
   exact n (Option.some.inj q).symm
 have un:Un X.fs [] H (del H x) s.heap s.heap:=by
   refine⟨fun b o q _ _ _=>q,fun b o q _ _ _=>⟨o.slots,q⟩,fun b o q n _=>?_,fun b o q _=>⟨o,q⟩,fun b xs q=>?_,fun b o v q=>?_,fun b ps q=>⟨#[],?_⟩⟩
   · by_cases z:b=x
     · rw[z]
       exact Xgg
     · rw[Xfy z]
       exact n
   · rw[Xfy (nx b _ q (by intro z;cases z))]
     exact q
   · rw[Xfy (nx b _ q (by intro z;cases z))]
     exact q
   · rw[Xfy (nx b _ q (by intro z;cases z)),q]
     simp
 have hok:HOk X.prog X.w (del H x) s.heap:=fun b v q=>by
   by_cases z:b=x
   · rw[z,Xgg] at q
     cases q
   · rw[Xfy z] at q
     refine(I.hok b v q).stay (fun _ _ _ z=>z) (fun c q'=>?_) fun c xs q'=>?_
     · rw[Xfy (nx c _ q' (by intro z;cases z))]
       exact q'
     · rw[Xfy (nx c _ q' (by intro z;cases z))]
       exact q'
 exact I.un (h':=s.heap) (t':=s.toks) un hok
theorem Xxm {X:Cx}{pins:List (Addr×Obj)}{σ:L2.St}{H:Hp}{s:Shared}{h':Heap}{x C tt:Addr}(I:Inv X pins σ H s)(nx:s.heap.get? x=none)(kp:∀b o,s.heap.get? b=some o→h'.get? b=some o)
   (e:h'.get? x=some { cls:=.ref C,data:=.fields #[.ref tt,.none,.none,.none,.bool false,.none] }):Inv X pins σ (upd H x (ExcN x C none)) { s with heap:=h' }:=by
 have ux:H x=none:=Xdg I.hok nx
 have un:Un X.fs [] H (upd H x (ExcN x C none)) s.heap h':=by
   refine⟨fun b o q _ _ _=>kp b o q,fun b o q _ _ _=>⟨o.slots,kp b o q⟩,fun b o q n _=>?_,fun b o q _=>⟨o,kp b o q⟩,fun b xs q=>?_,fun b o v q=>?_,fun b ps q=>⟨#[],?_⟩⟩
   · rw[Xah (fun z=>by rw[z,nx] at q;cases q)]
     exact n
   · rw[Xah (Xap q ux)]
     exact q
   · rw[Xah (Xap q ux)]
     exact q
   · rw[Xah (Xap q ux),q]
     simp
 have hok:HOk X.prog X.w (upd H x (ExcN x C none)) h':=fun b v q=>by
   by_cases z:b=x
   · subst z
     rw[upd_same] at q
     cases q
     exact⟨⟨tt,e⟩,⟨_,e⟩,fun h1 h2 ⟨t1,q1⟩ k=>⟨t1,k _ q1⟩⟩
   · rw[Xah z] at q
     refine(I.hok b v q).stay (fun c w' _ q'=>kp c w' q') (fun c q'=>?_) fun c xs q'=>?_
     · rw[Xah (Xap q' ux)]
       exact q'
     · rw[Xah (Xap q' ux)]
       exact q'
 exact I.un (t':=s.toks) un hok
theorem Xud {X:Cx}{x:Str}{C C0 fI:Addr}{fd:FuncData}{ps:List Str}{sp:Sp}{j:Nat}{pins:List (Addr×Obj)}{σ:L2.St}{H:Hp}{s:Shared}{Q:VK}{us:List Value}{vs:List V}(XI:XIni X.K X.mg x C C0 fI)(F:FnOk X.prog X.w X.K X.mg X.base (CXe X.prog X.w) j fI fd ps sp)
   (hr:Room (j+1) X.A) (hb:Xci X.K fd ps []) (I:Inv X pins σ H s) (r:Vals vs us) (hz:vs.length≤1000) (h:∀y,H y=none→sp (.ref y::vs) (upd H y (ExcN y C none)) (fun v H2=>v = .non∧Q (.ref y) H2) E0) :
   wpAny (model X.prog X.w) X.A (call (.ref C) us) (fun u s'=>EP X pins σ Q u s'∧∃y,u = .ref y∧s.heap.get? y=none) X.xe s:=by
 obtain⟨nm,qn,NN,bs,hd,sn,sub,ab,col,dd,k0,k1,k2,k3,k5,lkC⟩:=XI.lk
 obtain⟨bm,N0,nm0,qn0,bs0,hd0,sn0,sub0,ab0,col0,dd0,j0,j1,j2,j3,j5,mN0,hC0,hN0,noI,tl,_⟩:=Xpa I.kIn XI.base
 have FB:=PySem.F.excBase_ValueError
 have TL:OwnTail s.heap [.type "ValueError",.type "Exception",.type "BaseException",.type "object"] (.ref C0::[.type "ValueError",.type "Exception",.type "BaseException",.type "object"]):=.own hC0 hN0 noI .base
 obtain⟨cI,dI,daI,slI,lkI,ecI⟩:=XI.fn
 have gC:=I.kIn _ _ lkC
 have gI:=I.kIn _ _ lkI
 have LI:=PySem.W.looks_findIn (M:=model X.prog X.w) I.kIn XI.ini
 obtain⟨hp,gg,d1,tk,os1⟩:=s
 refine Xpr FB TL gC LI gI ecI (fun h' y hm=>?_) (by rw[←r.length];exact Nat.le_of_lt (small1000 hz))
 obtain⟨tt,ey,_,_⟩:=hm.there
 have I2:=Xxm I hm.new hm.keeps ey
 have uy:H y=none:=Xdg I.hok hm.new
 have hq:=h y uy
 have r2:Vals (V.ref y::vs) (Value.ref y::us):=.cons rfl r
 have hl:((Value.ref y::us)++[]).length=ps.length:=by
   rw[List.append_nil,←F.len _ _ _ _ hq]
   exact r2.length.symm
 have bd:=hb _ (Value.ref y::us) I2.kIn hl
 rw[List.append_nil] at bd
 refine wpAny_call (codeAny_mono (F.run _ X.stack _ _ ⟨Value.ref y::us,[]⟩ (Value.ref y::us) _ _ E0 (hr.make C us []) (I2.env0.make C us []) bd r2 hq) fun rs s' hq'=>?_)
 cases rs with
 | error e=>obtain⟨_,_,_,_,_,_,_,_,_,_,_,_,_,_,_,z⟩:=hq';exact z.elim
 | ok fl =>
   cases fl with
   | ret u =>
     obtain⟨v,H',I3,rv,ev,q3⟩:=I2.after hq'
     subst ev
     exact⟨rv,⟨V.ref y,H',I3,rfl,q3⟩,y,rfl,hm.new⟩
   | next=>exact False.elim hq'
   | brk=>exact False.elim hq'
   | cont=>exact False.elim hq'
def Xld (C:Addr)(sp:Sp)(E:XK)(t:TA):TS:=fun _ σ H=>t σ H fun vs H1=>vs.length≤1000∧∀y,H1 y=none→sp (.ref y::vs) (upd H1 y (ExcN y C none)) (fun v H2=>v = .non∧∃z,V.ref y=V.ref z∧∃od,H2 z=some (ExcN z C od)∧E (.ref C) od (del H2 z)) E0
section
variable {P:Program}{w:World}{K:PySem.W.Frag}{mg:Str→Option Value}{base:Heap}{N:List Str}{qual:Str}{scope:Scope}{f:Addr}{cd:Value}{A:Around}{outer:List Env}{s₀:Shared}{H₀:Hp}{EX:XK}
theorem Xrl {x:Str}{C C0 fI:Addr}{fd:FuncData}{ps:List Str}{sp:Sp}{j k:Nat}{np cpos pos:Pos}{e:Expr}{es:List Expr}{t:TA}(XI:XIni K mg x C C0 fI)(F:FnOk P w K mg base (CXe P w) j fI fd ps sp)(hb:Xci K fd ps [])
   (hr:Room k (cxOf (CXe P w) P w K mg base N qual scope f cd A outer s₀ H₀ EX).A)
   (hg:Gl (cxOf (CXe P w) P w K mg base N qual scope f cd A outer s₀ H₀ EX) x) (ha:PA (cxOf (CXe P w) P w K mg base N qual scope f cd A outer s₀ H₀ EX) (e::es) t) (hj:j+1≤k:=by decide)
   (hdb:(x==("__debug__":Str))=false:=by decide) (he:starEach (e::es) (cxOf (CXe P w) P w K mg base N qual scope f cd A outer s₀ H₀ EX).env=(false,eval e (cxOf (CXe P w) P w K mg base N qual scope f cd A outer s₀ H₀ EX).env)::starEach es (cxOf (CXe P w) P w K mg base N qual scope f cd A outer s₀ H₀ EX).env:=by rfl)
   (hpl:(backTo cpos (starEach es (cxOf (CXe P w) P w K mg base N qual scope f cd A outer s₀ H₀ EX).env)).any (·.1)=false:=by rfl) :
   PS (cxOf (CXe P w) P w K mg base N qual scope f cd A outer s₀ H₀ EX) (.Raise (some (.Call (.Name x np) (e::es) [] cpos)) none pos) (Xld C sp EX t):=by
 intro pins s σ H D I h
 obtain⟨nm,qn,NN,bs,hd,sn,sub,ab,col,dd,k0,k1,k2,k3,k5,lkC⟩:=id XI.lk
 have hB:(Value.ref C0::[.type "ValueError",.type "Exception",.type "BaseException",.type "object"]:List Value).contains (.type "BaseException")=true:=by
   rw[List.contains_cons,PySem.F.excBase_ValueError.hasBase,Bool.or_true]
 rw[arm_exec_Raise]
 refine wpAny_bind (wpAny_standAt (Xst (C:=C) (nm:=nm) (q:=qn) (N:=NN) (bs:=bs) (bm:=.ref C0::[.type "ValueError",.type "Exception",.type "BaseException",.type "object"]) (hdct:=hd) (sn:=sn) (sub:=sub) (ab:=ab) (col:=col) (dd:=dd) (k0:=k0) (k1:=k1) (k2:=k2) (k3:=k3) (k5:=k5) (newId:="ValueError.__new__") hB hr.hd ?_))
 refine wpAny_bind (wpAny_mono ?_ (fun v s1 hv=>wpAny_bind (wpAny_standAt (wpAny_pure hv))) (fun _ _ z=>z))
 refine wpAny_Call_Name_kw (Xei I hg XI.bound ?_ hdb)
 refine PySem.W.callWith_K (h₀:=base) I.ok.mod.kin XI.keep (thn (ha cpos pins s σ H _ I h) fun us s1 ⟨vs,H1,I1,r,hz,q⟩=>⟨I1.kIn,?_⟩) he hpl
 refine thn (Xud XI F (hr.mono hj) hb I1 r hz (Q:=fun u H2=>∃z,u = .ref z∧∃od,H2 z=some (ExcN z C od)∧EX (.ref C) od (del H2 z)) (fun y hy=>q y hy)) fun u s2 ⟨⟨v,H2,I2,rv,y,ev,od,ey,qe⟩,y',eu,ny⟩=>?_
 · subst ev
   obtain rfl:u=Value.ref y:=rv
   cases eu
   obtain⟨⟨tt,g1⟩,_⟩:=I2.hok y _ ey
   refine⟨y,od,tt,rfl,I2.kIn _ _ lkC,g1,?_⟩
   exact Xsf (XBh I2 ey) ⟨_,_,g1,rfl,rfl,rfl,rfl⟩ (Xfb (show Un (frs outer) [] H₀ H1 s₀.heap s1.heap from I1.base) ny) Xgg qe
end
end Stow
set_option Elab.async false
set_option linter.all false
set_option maxRecDepth 100000
set_option maxHeartbeats 4000000
namespace Stow
open PySem L2 PyProof.Rows
structure DefI (P:Program)(w:World)(K:PySem.W.Frag)(mg:Str→Option Value)(base:Heap)(x:Str)(C C0:Addr)(j:Nat)(ps:List Str)(sp:Sp):Prop where
 ex:∃(fI:Addr) (fd:FuncData),XIni K mg x C C0 fI∧FnOk P w K mg base (CXe P w) j fI fd ps sp∧Xci K fd ps []
def Xtb (C:Addr)(f:Str):Sp:=fun vs H Q _=>∃(y:Addr) (v:V),vs=[.ref y,v]∧H y=some (ExcN y C none)∧∀dx,H dx=none→Q .non (upd (upd H dx (.xd [(f,v)])) y (ExcN y C (some dx)))
section
variable {P:Program}{w:World}{K:PySem.W.Frag}{mg:Str→Option Value}{base:Heap}{N:List Str}{qual:Str}{scope:Scope}{f:Addr}{cd:Value}{A:Around}{outer:List Env}{s₀:Shared}{H₀:Hp}{EX:XK}
theorem Xoq {x:Str}{C C0:Addr}{ps:List Str}{sp:Sp}{j k:Nat}{np cpos pos:Pos}{e:Expr}{es:List Expr}{t:TA}(D:DefI P w K mg base x C C0 j ps sp)
   (hr:Room k (cxOf (CXe P w) P w K mg base N qual scope f cd A outer s₀ H₀ EX).A)
   (hg:Gl (cxOf (CXe P w) P w K mg base N qual scope f cd A outer s₀ H₀ EX) x) (ha:PA (cxOf (CXe P w) P w K mg base N qual scope f cd A outer s₀ H₀ EX) (e::es) t) (hj:j+1≤k:=by decide)
   (hdb:(x==("__debug__":Str))=false:=by decide) (he:starEach (e::es) (cxOf (CXe P w) P w K mg base N qual scope f cd A outer s₀ H₀ EX).env=(false,eval e (cxOf (CXe P w) P w K mg base N qual scope f cd A outer s₀ H₀ EX).env)::starEach es (cxOf (CXe P w) P w K mg base N qual scope f cd A outer s₀ H₀ EX).env:=by rfl)
   (hpl:(backTo cpos (starEach es (cxOf (CXe P w) P w K mg base N qual scope f cd A outer s₀ H₀ EX).env)).any (·.1)=false:=by rfl) :
   PS (cxOf (CXe P w) P w K mg base N qual scope f cd A outer s₀ H₀ EX) (.Raise (some (.Call (.Name x np) (e::es) [] cpos)) none pos) (Xld C sp EX t):=by
 obtain⟨fI,fd,XI,F,hb⟩:=D.ex
 exact Xrl XI F hb hr hg ha hj hdb he hpl
theorem Xiq {x:Str}{j k:Nat}{ps:List Str}{sp:Sp}{p pos:Pos}{e:Expr}{es:List Expr}{t:TA}(D:Defx P w K mg base x j ps sp)(hr:Room k (cxOf (CXe P w) P w K mg base N qual scope f cd A outer s₀ H₀ EX).A)
   (hg:Gl (cxOf (CXe P w) P w K mg base N qual scope f cd A outer s₀ H₀ EX) x) (ha:PA (cxOf (CXe P w) P w K mg base N qual scope f cd A outer s₀ H₀ EX) (e::es) t) (hk:j≤k:=by decide)
   (hdb:(x==("__debug__":Str))=false:=by decide) (he:starEach (e::es) (cxOf (CXe P w) P w K mg base N qual scope f cd A outer s₀ H₀ EX).env=(false,eval e (cxOf (CXe P w) P w K mg base N qual scope f cd A outer s₀ H₀ EX).env)::starEach es (cxOf (CXe P w) P w K mg base N qual scope f cd A outer s₀ H₀ EX).env:=by rfl)
   (hpl:(backTo pos (starEach es (cxOf (CXe P w) P w K mg base N qual scope f cd A outer s₀ H₀ EX).env)).any (·.1)=false:=by rfl) :
   PE (cxOf (CXe P w) P w K mg base N qual scope f cd A outer s₀ H₀ EX) (.Call (.Name x p) (e::es) [] pos) (Xss sp [] EX t):=by
 obtain⟨f',fd,F,hm,kp,b⟩:=D.ex
 exact Xsi F (hr.mono hk) hg hm kp b .nil Xqi ha hdb he hpl
end
section
variable {K:PySem.W.Frag}{σ:L2.St}{H:Hp}{D:Ends}
theorem r_raise {C:Addr}{E:XK}{t:TA}(h:t σ H fun xs H1=>xs.length≤sizeLine∧E (.ref C) none H1):Xwj C E t D σ H:=h
theorem r_raiseI {C:Addr}{sp:Sp}{E:XK}{t:TA}(h:t σ H fun vs H1=>vs.length≤1000∧∀y,H1 y=none→sp (.ref y::vs) (upd H1 y (ExcN y C none)) (fun v H2=>v = .non∧∃z,V.ref y=V.ref z∧∃od,H2 z=some (ExcN z C od)∧E (.ref C) od (del H2 z)) E0) :
   Xld C sp E t D σ H:=h
theorem XHs {C:Addr}{f:Str}{E:XK}{v:V}(q:∀dx,H dx=none→E (.ref C) (some dx) (upd H dx (.xd [(f,v)]))) :
   [v].length≤1000∧∀y,H y=none→Xtb C f (.ref y::[v]) (upd H y (ExcN y C none)) (fun v H2=>v = .non∧∃z,V.ref y=V.ref z∧∃od,H2 z=some (ExcN z C od)∧E (.ref C) od (del H2 z)) E0:=by
 refine⟨by show 1≤1000;decide,fun y hy=>⟨y,v,rfl,upd_same,fun dx hd=>⟨rfl,y,rfl,some dx,upd_same,?_⟩⟩⟩
 have ne:dx≠y:=fun z=>by rw[z,upd_same] at hd;cases hd
 have hd':H dx=none:=by rw[Xah ne] at hd;exact hd
 have e:del (upd (upd (upd H y (ExcN y C none)) dx (.xd [(f,v)])) y (ExcN y C (some dx))) y=upd H dx (.xd [(f,v)]):=by
   funext b
   by_cases hb:b=y
   · subst hb
     rw[Xgg,Xah (Ne.symm ne)]
     exact hy.symm
   · rw[Xfy hb,Xah hb]
     by_cases hbd:b=dx
     · subst hbd
       rw[upd_same,upd_same]
     · rw[Xah hbd,Xah hb,Xah hbd]
 rw[e]
 exact q dx hd'
end
end Stow
namespace Stow
open PySem L2 PyProof.Rows
section
variable {X:Cx}{x:Str}{C:Addr}{p pos:Pos}{e:Expr}{es:List Expr}{t:TA}
end
section
variable {K:PySem.W.Frag}{σ:L2.St}{H:Hp}{Q:VK}
end
end Stow
namespace Stow
open PySem L2 PyProof.Rows
end Stow
namespace Stow
open PySem L2 PyProof.Rows
section
variable {X:Cx}
def PTs (X:Cx)(ifs:List Expr)(t:TT):Prop:=∀(pins:List (Addr×Obj)) (s:Shared) (σ:L2.St) (H:Hp) (Q:Bool→Hp→Prop),Inv X pins σ H s→t σ H Q →
 wpAny (model X.prog X.w) X.A (forIn ifs true fun c r=>if r=true then do let ok ←isTrue c X.env (eval c X.env);pure (ForInStep.yield ok) else pure (ForInStep.yield r)) (TP X pins σ Q) X.xe s
theorem Xmb:PTs X [] (fun _ H Q=>Q true H):=fun pins s σ H Q I q=>wpAny_tests_nil ⟨H,I,q⟩
theorem Xes {c:Expr}{t:TT}(h:PT X c t):PTs X [c] t:=fun pins s σ H Q I q=>wpAny_tests_one (h pins s σ H Q I q)
end
end Stow
namespace Stow
open PySem L2 PyProof.Rows
theorem XGu {X:Cx}(hu:X.A.units+64<cLine):OpR X (compareOp .NotEq) (fun x y H Q=>∃(a b:Addr) (ns ms:List Int),x = .ref a∧y = .ref b∧SqL X.K H a (ns.map V.int)∧SqL X.K H b (ms.map V.int)∧Q (.bl (!decide (ns=ms))) H):=by
 intro pins s σ H x y v u Q I rx ry h
 obtain⟨a,b,ns,ms,rfl,rfl,ha,hb,q⟩:=h
 cases rx
 cases ry
 obtain⟨its,r1,p1,_⟩:=I.list ha
 obtain⟨its2,r2,p2,_⟩:=I.list hb
 exact PySem.W.ke_ne_ints p1.isList p2.isList (Xds r1) (Xds r2) hu ⟨.bl _,H,I,rfl,q⟩
section
variable {K:PySem.W.Frag}{σ:L2.St}{H:Hp}{Q:VK}{D:Ends}
theorem r_next (h:D.nx σ H):XGo D σ H:=h
theorem r_seq {t u:TS}(h:t { D with nx:=u D } σ H):tSeq t u D σ H:=h
theorem r_nx {f:L2.St→Hp→Prop}{r:VK}{b c:L2.St→Hp→Prop}(h:f σ H):Ends.nx ⟨f,r,b,c⟩ σ H:=h
theorem r_rt {f:L2.St→Hp→Prop}{r:VK}{b c:L2.St→Hp→Prop}{v:V}(h:r v H):Ends.rt ⟨f,r,b,c⟩ v H:=h
theorem r_drop {te:TE}(h:te σ H fun _ H1=>D.nx σ H1):XEl te D σ H:=h
theorem r_ret {te:TE}(h:te σ H D.rt):tRet te D σ H:=h
theorem r_ifS {c:TT}{t u:TS}(h:c σ H fun b H1=>if b=true then t D σ H1 else u D σ H1):tIfS c t u D σ H:=h
theorem r_asg {te:TE}{g:TG}(h:te σ H fun x H1=>g x σ H1 D.nx):tAsg te g D σ H:=h
theorem r_gname {i:Nat}{v:V}{R:L2.St→Hp→Prop}(h:R (σ.set i (some v)) H):Xoc i v σ H R:=h
theorem r_gsub {to ti:TE}{t:TSet}{v:V}{R:L2.St→Hp→Prop}(h:to σ H fun o H1=>ti σ H1 fun i H2=>t o i v H2 fun H3=>R σ H3):gSub to ti t v σ H R:=h
theorem r_var {i:Nat}{v:V}(e:σ[i]?=some (some v))(h:Q v H):tVar i σ H Q:=⟨v,e,h⟩
theorem r_c {v:V}(h:Q v H):tC v σ H Q:=h
theorem r_op {r:R2}{ta tb:TE}(h:ta σ H fun x H1=>tb σ H1 fun y H2=>r x y H2 Q):tOp r ta tb σ H Q:=h
theorem r_rI0 {g:Int→Int→V}{i j:Int}(h:Q (g i j) H):rI0 g (.int i) (.int j) H Q:=⟨i,j,rfl,rfl,h⟩
theorem r_rI {C:Int→Int→Prop}{g:Int→Int→V}{i j:Int}(c:C i j)(h:Q (g i j) H):rI C g (.int i) (.int j) H Q:=⟨i,j,rfl,rfl,c,h⟩
theorem decV {i j:Int}:decide (V.int i=V.int j)=decide (i=j):=by rw[Xjl];exact Bool.beq_eq_decide_eq i j
theorem r_eqI {i j:Int}(h:Q (.bl (decide (i=j))) H):rEq (.int i) (.int j) H Q:=⟨rfl,by rw[decV];exact h⟩
theorem r_neI {i j:Int}(h:Q (.bl (!decide (i=j))) H):rNe (.int i) (.int j) H Q:=⟨rfl,by rw[decV];exact h⟩
theorem r_isN {P:Prop}(h:P):V.non=V.non∧P:=⟨rfl,h⟩
theorem r_bl {b:Bool}{P:Bool→Prop}(h:P b):∃k,V.bl b=V.bl k∧P k:=⟨b,rfl,h⟩
theorem r_int {i:Int}{P:Int→Prop}(h:P i):∃k,V.int i=V.int k∧P k:=⟨i,rfl,h⟩
theorem r_test {t:TE}{R:Bool→Hp→Prop}(h:t σ H fun x H'=>∃k,x = .bl k∧R k H'):Xxd t σ H R:=h
theorem r_tB {t:TE}{R:Bool→Hp→Prop}(h:t σ H fun x H'=>∃k,x = .bl k∧R k H'):tB t σ H R:=h
theorem r_and {t u:TT}{R:Bool→Hp→Prop}(h:t σ H fun c H1=>if c=true then u σ H1 R else R false H1):tAnd t u σ H R:=h
theorem r_or {t u:TT}{R:Bool→Hp→Prop}(h:t σ H fun c H1=>if c=true then R true H1 else u σ H1 R):tOr t u σ H R:=h
theorem r_not {t:TT}{R:Bool→Hp→Prop}(h:t σ H fun c H1=>R (!c) H1):tNot t σ H R:=h
theorem r_andV {ta tb:TE}(h:ta σ H fun x H1=>∃c,x = .bl c∧if c=true then tb σ H1 Q else Q (.bl false) H1):Xvi ta tb σ H Q:=h
theorem r_orV {ta tb:TE}(h:ta σ H fun x H1=>∃c,x = .bl c∧if c=true then Q (.bl true) H1 else tb σ H1 Q):tOrV ta tb σ H Q:=h
theorem r_notV {ta:TE}(h:ta σ H fun x H1=>∃c,x = .bl c∧Q (.bl (!c)) H1):XDj ta σ H Q:=h
theorem r_cons {ta:TE}{tr:TA}{R:List V→Hp→Prop}(h:ta σ H fun x H1=>tr σ H1 fun xs H2=>R (x::xs) H2):XIn ta tr σ H R:=h
theorem r_nil {R:List V→Hp→Prop}(h:R [] H):tNil σ H R:=h
theorem r_tup {t:TA}(h:t σ H fun xs H1=>xs.length≤sizeLine∧∀p,H1 p=none→Q (.ref p) (upd H1 p (.tup xs))):tTup t σ H Q:=h
theorem r_lst {t:TA}(h:t σ H fun xs H1=>xs.length≤sizeLine∧∀p,H1 p=none→Q (.ref p) (upd H1 p (.lst xs))):tLst t σ H Q:=h
theorem r_call {sp:Sp}{E:XK}{t:TA}(h:t σ H fun vs H1=>sp vs H1 Q E):Xss sp [] E t σ H Q:=by
 have e:(fun (vs:List V) H1=>sp (vs++[]) H1 Q E)=fun vs H1=>sp vs H1 Q E:=by funext vs H1;rw[List.append_nil]
 show t σ H fun vs H1=>sp (vs++[]) H1 Q E
 rw[e]
 exact h
theorem r_cb {r:List V→Hp→VK→Prop}{t:TA}(h:t σ H fun vs H1=>r vs H1 Q):tCB r t σ H Q:=h
theorem r_sl {r:V→Option Int→Option Int→Hp→VK→Prop}{te:TE}{tl th:TO}(h:te σ H fun x H1=>tl σ H1 fun l H2=>th σ H2 fun u H3=>r x l u H3 Q):tSl r te tl th σ H Q:=h
theorem r_nopart {R:Option Int→Hp→Prop}(h:R none H):Xqj σ H R:=h
theorem r_part {t:TE}{R:Option Int→Hp→Prop}(h:t σ H fun x H1=>∃i,x = .int i∧R (some i) H1):XGj t σ H R:=h
theorem r_bm {T:String}{r:V→List V→Hp→VK→Prop}{to:TE}{t:TA}(h:to σ H fun x H1=>tyV K T x H1∧t σ H1 fun xs H2=>r x xs H2 Q):tBM K T r to t σ H Q:=h
theorem r_bm0 {T:String}{r:V→List V→Hp→VK→Prop}{to:TE}(h:to σ H fun x H1=>tyV K T x H1∧r x [] H1 Q):tBM0 K T r to σ H Q:=h
theorem r_tyL {p:Addr}{xs:List V}{P:Prop}(h:H p=some (.lst xs))(q:P):tyV K "list" (.ref p) H∧P:=⟨.inl ⟨rfl,xs,SqL.of h⟩,q⟩
theorem r_append {l:Addr}{xs:List V}{y:V}(h:H l=some (.lst xs))(hz:xs.length<sizeLine)(q:Q .non (upd H l (.lst (xs++[y])))):Xqo (.ref l) [y] H Q:=⟨l,xs,y,rfl,rfl,h,hz,q⟩
theorem Xva {p:Addr}{xs:List V}{i:Int}{v:V}(h:SqL K H p xs)(e:atI xs i=some v)(q:Q v H):rIxL K (.ref p) (.int i) H Q:=⟨p,xs,i,v,rfl,rfl,h,e,q⟩
theorem r_ixT {p:Addr}{xs:List V}{i:Int}{v:V}(h:H p=some (.tup xs))(e:atI xs i=some v)(q:Q v H):rIxT K (.ref p) (.int i) H Q:=⟨p,xs,i,v,rfl,rfl,SqT.of h,e,q⟩
theorem r_ixI {p:Addr}{ns:List Int}{k:Int}(h:SqL K H p (ns.map V.int))(h0:0≤k)(h1:k<ns.length)(q:Q (.int (ns.getD k.toNat 0)) H):rIxL K (.ref p) (.int k) H Q:=⟨p,_,k,_,rfl,rfl,h,XAb ns k h0 h1,q⟩
theorem Xwc {n:Nat}{k:Int}(h0:0≤k)(h:k<n):ixN n k=some k.toNat:=by
 unfold ixN
 rw[if_pos h0,if_pos h]
theorem r_setI {p:Addr}{ns:List Int}{k x:Int}{R:Hp→Prop}(h:H p=some (.lst (ns.map V.int)))(h0:0≤k)(h1:k<ns.length)(q:R (upd H p (.lst ((ns.set k.toNat x).map V.int)))):XEr (.ref p) (.int k) (.int x) H R:=by
 refine⟨p,_,k,k.toNat,rfl,rfl,h,Xwc h0 (by rw[List.length_map];exact h1),?_⟩
 rw[List.map_set] at q
 exact q
theorem r_lenI {p:Addr}{ns:List Int}{P:List V→Prop}(h:SqL K H p (ns.map V.int))(q:P (ns.map V.int)):∃p' ys,[V.ref p]=[V.ref p']∧(SqL K H p' ys∨SqT K H p' ys)∧P ys:=⟨p,_,rfl,.inl h,q⟩
theorem r_isi {x:V}{n:String}{t:Value}{b:Bool}{P:Bool→Prop}(ty:TyOf K H x t)(e:PySem.W.kitOne K t (.type n)=some b)(q:P b):∃x' n' t' b',[x,V.ty n]=[x',V.ty n']∧TyOf K H x' t'∧PySem.W.kitOne K t' (.type n')=some b'∧P b':=⟨x,n,t,b,rfl,ty,e,q⟩
theorem r_max {i j:Int}{P:Int→Int→Prop}(q:P i j):∃i' j',[V.int i,V.int j]=[V.int i',V.int j']∧P i' j':=⟨i,j,rfl,q⟩
theorem r_new {xs:List V}{P:Prop}(h:xs.length≤1000)(q:P):xs.length≤sizeLine∧P:=⟨Nat.le_of_lt (small1000 h),q⟩
theorem r_truB {b:Bool}{P:Bool→Prop}(q:P b):∃k,TruV K (.bl b) H k∧P k:=⟨b,rfl,q⟩
theorem r_truL {p:Addr}{xs:List V}{P:Bool→Prop}(h:SqL K H p xs)(q:P (!xs.isEmpty)):∃k,TruV K (.ref p) H k∧P k:=⟨_,.inl ⟨xs,h,rfl⟩,q⟩
theorem r_for {wi:TI}{g:TG}{tb:TS}(h:wi σ H fun J H1=>∃W:Nat→Nat→L2.St→Hp→Prop,(∃m,W 0 m σ H1)∧∀i m σ H,W i m σ H →
   (J.stop i H∧D.nx σ H)∨(J.go i H∧∃N:L2.St→Hp→Prop,(∀σ' H',N σ' H'→∃m',m'<m∧W (i+1) m' σ' H')∧∀x H',J.yld i H x H'→g x σ H' fun σ2 H2=>tb { D with nx:=N,ct:=N,bk:=D.nx } σ2 H2)):tFor wi g tb D σ H:=h
theorem r_iL {tl:TE}{R:It→Hp→Prop}(h:tl σ H fun x H1=>∃a,x = .ref a∧(∃xs,SqL K H1 a xs)∧R (Itl K a) H1):XIe K tl σ H R:=h
theorem r_iR1 {ta:TA}{R:It→Hp→Prop}(h:ta σ H fun vs H1=>∃j:Int,vs=[.int j]∧-(2^62)≤j∧j<2^62∧R (Itr 0 j.toNat) H1):XGx ta σ H R:=h
theorem Xrr {t u:TS}{M:L2.St→Hp→Prop}(hM:∀σ' H',M σ' H'→u D σ' H')(h:∀nx:L2.St→Hp→Prop,(∀σ' H',M σ' H'→nx σ' H')→t { D with nx:=nx } σ H):tSeq t u D σ H:=h (u D) hM
theorem r_isIf {c:TT}{t u v:TS}(h:tSeq (tIfS c t u) v D σ H):tSeq (tIfS c t u) v D σ H:=h
end
theorem r_ifN {b:Bool}{A B:Prop}(h:if b=true then B else A):if (!b)=true then A else B:=by cases b <;> exact h
theorem Xby {c A B:Prop}[Decidable c](h1:c→A)(h2:¬c→B):if decide c=true then A else B:=by
 by_cases h:c
 · rw[decide_eq_true h]
   exact iteT (h1 h)
 · rw[decide_eq_false h]
   exact iteF (h2 h)
theorem r_ifdT {c A B:Prop}[Decidable c](h:c)(h1:A):if decide c=true then A else B:=Xby (fun _=>h1) fun z=>absurd h z
theorem r_ifdF {c A B:Prop}[Decidable c](h:¬c)(h1:B):if decide c=true then A else B:=Xby (fun z=>absurd z h) fun _=>h1
theorem Xhl {b:Bool}{A B:Prop}(h1:b=true→A)(h2:b=false→B):if b=true then A else B:=by
 cases b with
 | true=>exact iteT (h1 rfl)
 | false=>exact iteF (h2 rfl)
theorem look_put {H:Hp}{p d:Addr}{o v:HO}(hp:H p=none)(h:H d=some v):upd H p o d=some v:=(Xah (Xap h hp)).trans h
theorem look_ne {H:Hp}{p d:Addr}{o v:HO}(hp:d≠p)(h:H d=some v):upd H p o d=some v:=(Xah hp).trans h
end Stow
namespace Stow
open PySem L2 PyProof.Rows
abbrev TX:=L2.St→Hp→VK→XK→Prop
def PX (X:Cx)(e:Expr)(t:TX):Prop:=∀(pins:List (Addr×Obj)) (s:Shared) (σ:L2.St) (H:Hp) (QV:VK) (EX:XK) (Qp W:Value→Shared→Prop),Inv X pins σ H s→t σ H QV EX→(∀u s',EP X pins σ QV u s'→Qp u s') →
 (∀H1 s1 y s',Inv X pins σ H1 s1→CXe X.prog X.w X.stack H1 s1 EX y s'→W y s')→wpAny (model X.prog X.w) X.A (eval e X.env) Qp W s
def Xxh (C:Addr)(m:Str)(sp:Sp)(dvs:List V)(to:TE)(ta:TA):TX:=fun σ H QV EX=>to σ H fun x H1=>∃a dx fs,x = .ref a∧H1 a=some (.ins C dx fs)∧fs.lookup m=none∧ta σ H1 fun vs H2=>sp (x::(vs++dvs)) H2 QV EX
section
variable {X:Cx}{k:Nat}{f C:Addr}{fd:FuncData}{ps:List Str}{sp:Sp}{dvs:List V}{ds:List Value}{fx m:Str}{p pos apos:Pos}{e o:Expr}{es:List Expr}{to:TE}{ta:TA}
theorem XMa {pins:List (Addr×Obj)}{σ:L2.St}{H:Hp}{s:Shared}{us:List Value}{vs:List V}{QV:VK}{EX:XK}{Qp W:Value→Shared→Prop}(F:FnOk X.prog X.w X.K X.mg X.base (CXe X.prog X.w) k f fd ps sp)(hr:Room k X.A)(hb:Xci X.K fd ps ds)(hd:Vals dvs ds)
   (I:Inv X pins σ H s) (r:Vals vs us) (h:sp (vs++dvs) H QV EX) (hv:∀u s',EP X pins σ QV u s'→Qp u s') (hx:∀y s',CXe X.prog X.w X.stack H s EX y s'→W y s'):wpAny (model X.prog X.w) X.A (call (.ref f) us) Qp W s:=by
 have r2:Vals (vs++dvs) (us++ds):=r.append hd
 have hl:(us++ds).length=ps.length:=by rw[←r2.length];exact F.len _ _ _ _ h
 refine wpAny_call (codeAny_mono (F.run X.A X.stack s H ⟨us,[]⟩ (us++ds) (vs++dvs) QV EX hr I.env0 (hb s us I.kIn hl) r2 h) fun r s' hq=>?_)
 cases r with
 | error y=>exact hx y s' hq
 | ok fl =>
   cases fl with
   | ret u=>exact hv u s' (I.after hq)
   | next=>exact False.elim hq
   | brk=>exact False.elim hq
   | cont=>exact False.elim hq
theorem Xzl {pl:Sem Bool}(ho:PE X.nox o to)(c:Cls X.K C)(hm:Meth X.K C m f)(F:FnOk X.prog X.w X.K X.mg X.base (CXe X.prog X.w) k f fd ps sp)(hr:Room k X.A)(hb:Xci X.K fd ps ds)(hd:Vals dvs ds)(ha:PA X.nox (e::es) ta)
   (hst:starEach (e::es) X.env=(false,eval e X.env)::starEach es X.env:=by rfl) (hpl:(backTo pos (starEach es X.env)).any (·.1)=false:=by rfl)
   (ht:eval (.Call (.Attribute o m apos) (e::es) [] pos) X.env=(do
     let ov ←eval o X.env
     standAt apos.atName
     let (f,first) ←holding [ov] (getMethod ov m pl)
     callWith pos f first (backTo pos (starEach (e::es) X.env)) (backToKw pos (keywordEach [] X.env))):=by rfl) :
   PX X (.Call (.Attribute o m apos) (e::es) [] pos) (Xxh C m sp dvs to ta):=by
 intro pins s σ H QV EX Qp W I h hv hx
 refine PySem.W.methodCall_KW (pl:=pl) (wpAny_mono (ho pins s σ H _ (I.wish _) h) (fun u s1 ⟨x,H1,I1',rx,a,dx,fs,ex,ea,l,q⟩=>?_) (fun _ _ z=>z.elim)) ht
 have I1:=I1'.unwish
 subst ex
 obtain rfl:u=Value.ref a:=rx
 refine Xel I1 ea c hm l ?_
 refine PySem.W.callWith_K (first:=[.ref a]) (h₀:=X.base) I.ok.mod.kin hm.kp (wpAny_mono (ha pos pins s1 σ H1 _ (I1.wish _) q) (fun us s2 ⟨vs,H2,I2',r,q2⟩=>?_) (fun _ _ z=>z.elim)) hst hpl
 have I2:=I2'.unwish
 exact⟨I2.kIn,XMa (us:=.ref a::us) (vs:=.ref a::vs) F hr hb hd I2 (.cons rfl r) q2 hv fun y s' hq=>hx H2 s2 y s' I2 hq⟩
end
def Fits (K:PySem.W.Frag)(C C0:Addr)(b:Bool):Prop:=∃(bm bm0:List Value),ECls K C bm∧ECls K C0 bm0∧(Value.ref C0::bm0).contains (.type "BaseException")=true∧(Value.ref C::bm).contains (.ref C0)=b
theorem Xpy {M:Model}{A:Around}{E:Value→Shared→Prop}{K:PySem.W.Frag}{C C0 x:Addr}{ox:Obj}{s:Shared}{b:Bool}{Q:Bool→Shared→Prop}(F:Fits K C C0 b)(KX:K.In s.heap)(hx:s.heap.get? x=some ox)(hc:ox.cls = .ref C)(k:Q b s) :
   wpAny M A (excMatches (.ref x) (.ref C0)) Q E s:=by
 obtain⟨bm,bm0,⟨nm,qn,N,bs,hd,sn,sub,ab,col,dd,k0,k1,k2,k3,k5,newId,lk⟩,⟨nm',qn',N',bs',hd',sn',sub',ab',col',dd',j0,j1,j2,j3,j5,new',lk0⟩,hb,hm⟩:=F
 have hC:=KX _ _ lk
 have hC0:=KX _ _ lk0
 obtain⟨hh,g,d,t,os⟩:=s
 exact Xsu hC hC0 hx hc hb hm k
abbrev TH:=Addr→Addr→TS
def PH (X:Cx)(hs:List ExceptHandler)(th:TH):Prop:=∀(pins:List (Addr×Obj)) (s:Shared) (σ:L2.St) (H:Hp) (D:Ends) (x C T:Addr) (od:Option Addr),X.Ok→Inv X pins σ H s→Exc s.heap x (.ref C) od T .none →
 (∀h3,Upto (frs X.stack) [T] s.heap h3→Exc h3 x (.ref C) od T .none→Inv X pins σ H { s with heap:=h3 })→th x C D σ H→wpAny (model X.prog X.w) X.A (handleBy (.ref x) X.env hs) (SP X pins D) X.xe s
section
variable {X:Cx}{C0:Addr}{cx:Str}{np hpos pos epos:Pos}{b0:Stmt}{suite:List Stmt}{ts:Addr→TS}{hs:List ExceptHandler}{th:TH}{e:Expr}{t:TX}
theorem Xwa:PH X [] (fun _ _ _ _ _=>False):=fun _ _ _ _ _ _ _ _ _ _ _ _ _ h=>h.elim
theorem Xsr (hgc:Gl X cx)(hc0:X.mg cx=some (.ref C0))(hss:∀x,PSs (Cx.suite X x) (b0::suite) (ts x))(hr:PH X hs th)(hdc:(cx==("__debug__":Str))=false:=by decide) :
   PH X (.ExceptHandler (some (.Name cx np)) none (b0::suite) hpos::hs) (fun x C D σ H=>(Fits X.K C C0 true∧ts x D σ H)∨(Fits X.K C C0 false∧th x C D σ H)):=by
 intro pins s σ H D x C T od ok J t2 again h
 obtain⟨oe,vs,oT,tts,ne,ee,hcl,_⟩:=id t2
 rcases h with ⟨fit,q⟩ | ⟨fit,q⟩
 · refine wpAny_handleBy_cons (codeAny_handlers_test (Xei (X:=Cx.suite X x) (Xgo J x) hgc hc0 (Xpy fit J.kIn ee hcl ?_) hdc)) (by intro z;cases z)
   refine codeAny_handlers_suite ?_
   refine Xgf (fr:=frs X.stack) t2 fun h3 u3 t3=>?_
   exact wpAny_mono (hss x pins _ σ _ D (Xgo (again h3 u3 t3) x) q) (fun fl s4 q4=>Xob ok q4) (fun _ _ z=>z.elim)
 · refine wpAny_handleBy_cons (codeAny_handlers_test (Xei (X:=Cx.suite X x) (Xgo J x) hgc hc0 (Xpy fit J.kIn ee hcl ?_) hdc)) (by intro z;cases z)
   exact hr pins s σ H D x C T od ok J t2 again q
theorem Upto.refl (fr ex:List Addr)(h:Heap):Upto fr ex h h:=⟨fun _ _ _ _ q=>q,fun b o _ q=>⟨o.slots,q⟩⟩
def XLo (t:TX)(th:TH):TS:=fun D σ H=>t σ H (fun _ H2=>D.nx σ H2) fun c od H2=>∃C,c = .ref C∧∀x,H2 x=none→th x C D σ (upd H2 x (ExcO x C od))
def XEj (i:Nat)(t:TX)(th:TH):TS:=fun D σ H=>t σ H (fun v H2=>D.nx (σ.set i (some v)) H2) fun c od H2=>∃C,c = .ref C∧∀x,H2 x=none→th x C D σ (upd H2 x (ExcO x C od))
theorem XOq {h₀:ExceptHandler}(he:PX X e t)(hst:X.stack=X.env::X.outer∧X.env.frame=some X.env.locals)(hh:PH X (h₀::hs) th)(hsw:swapsWith e none epos.line X.env=pure false:=by rfl) :
   PS X (.Try [.Expr e epos] (h₀::hs) [] [] pos) (XLo t th):=by
 intro pins s σ H D I h
 refine wpAny_Try_except (wpAny_execs_cons (wpAny_Expr_any (he pins s σ H _ _ _ _ I h (fun u s' ⟨v,H2,I2,_,q2⟩=>wpAny_execs_nil (wpAny_execs_nil ⟨σ,H2,I2,q2⟩)) (fun H1 s1 y s' I1 hq=>?_)) I.quiet hsw))
 refine Xwd I1 hst hq fun x C od T h2 H2 ex ⟨C',ec,q⟩ t2 J2 again=>?_
 subst ex
 cases ec
 exact hh pins _ σ _ D x C T od I.ok J2 t2 (fun h3 u3 t3=>(again h3 u3 t3).2) (q x (again h2 (Upto.refl _ _ _) t2).1)
theorem Xrx {h₀:ExceptHandler}{i:Nat}{y:Str}{py:Pos}(hN:X.N.Nodup)(hi:X.N[i]?=some y)(hy:Loc X.env.scope y)(he:PX X e t)(hst:X.stack=X.env::X.outer∧X.env.frame=some X.env.locals)(hh:PH X (h₀::hs) th)
   (hsw:swapsWith e (some (.Name y py)) epos.line X.env=pure false:=by rfl) (hf:X.fn y=true∨X.env.scope.names.lookup y=some .local:=by first | exact .inl rfl | exact .inr rfl | assumption) :
   PS X (.Try [.Assign [.Name y py] e epos] (h₀::hs) [] [] pos) (XEj i t th):=by
 intro pins s σ H D I h
 refine wpAny_Try_except (wpAny_execs_cons (wpAny_Assign_Name (he pins s σ H _ _ _ _ I h (fun u s' ⟨v,H2,I2,r2,q2⟩=>Xit I2 hN hi hy r2 (fun s3 I3=>wpAny_execs_nil (wpAny_execs_nil ⟨_,H2,I3,q2⟩)) hf) (fun H1 s1 z s' I1 hq=>?_)) hsw))
 refine Xwd I1 hst hq fun x C od T h2 H2 ex ⟨C',ec,q⟩ t2 J2 again=>?_
 subst ex
 cases ec
 exact hh pins _ σ _ D x C T od I.ok J2 t2 (fun h3 u3 t3=>(again h3 u3 t3).2) (q x (again h2 (Upto.refl _ _ _) t2).1)
end
section
variable {K:PySem.W.Frag}{σ:L2.St}{H:Hp}{D:Ends}
theorem r_tryA {i:Nat}{t:TX}{th:TH}(h:t σ H (fun v H2=>D.nx (σ.set i (some v)) H2) fun c od H2=>∃C,c = .ref C∧∀x,H2 x=none→th x C D σ (upd H2 x (ExcO x C od))):XEj i t th D σ H:=h
end
end Stow
namespace Stow
open PySem L2 PyProof.Rows
structure FunD (K:PySem.W.Frag)(x qual:Str)(st:Stmt)(dV:Value)(f:Addr)(fd:FuncData):Prop where
 ex:∃(oc:Value) (od:Option Addr) (kV doc pm:Value) (an:Option Addr) (cdv ct:Value) (osl:Array (Option Value)),
   fd=PySem.W.fnOf x qual (Xbh st) (Xay st) (Xad st) dV kV doc pm an cdv ct∧K.lookup f=some ⟨oc,od,.func fd,osl⟩∧PySem.W.codeIn K cdv qual=true
 kp:PySem.W.keepIn K (.ref f)=true
theorem Xpm {K:PySem.W.Frag}{x qual:Str}{st:Stmt}{f:Addr}{oc:Value}{od an:Option Addr}{osl:Array (Option Value)}{dV kV doc pm cdv ct:Value}(l:K.lookup f=some ⟨oc,od,.func (PySem.W.fnOf x qual (Xbh st) (Xay st) (Xad st) dV kV doc pm an cdv ct),osl⟩)
   (c:PySem.W.codeIn K cdv qual=true) (k:PySem.W.keepIn K (.ref f)=true):FunD K x qual st dV f (PySem.W.fnOf x qual (Xbh st) (Xay st) (Xad st) dV kV doc pm an cdv ct):=⟨⟨oc,od,kV,doc,pm,an,cdv,ct,osl,rfl,l,c⟩,k⟩
section
variable {P:Program}{w:World}{K:PySem.W.Frag}{mg:Str→Option Value}{base:Heap}
theorem Xne {x qual:Str}{st:Stmt}{dV:Value}{f:Addr}{fd:FuncData}{N ps:List Str}{k:Nat}{sp:Sp}(F:FunD K x qual st dV f fd)(S:FnScope N ps (Xad st))(len:∀vs H Q E,sp vs H Q E→vs.length=ps.length)
   (hbody:∀(cdv:Value) (A:Around) (outer:List Env) (s:Shared) (H:Hp) (vs:List V) (Q:VK) (E:XK),Room k (A.deeper (envOfC qual (Xad st) s.heap.objs.size f cdv))→sp vs H Q E →
     ∃t,PSs (cxOf (CXe P w) P w K mg base N qual (Xad st) f cdv A outer s H E) (Xay st) t∧t { nx:=fun _ H'=>Q .non H',rt:=Q } (start N vs) H):FnOk P w K mg base (CXe P w) (k+1) f fd ps sp:=by
 obtain⟨oc,od,kV,doc,pm,an,cdv,ct,osl,rfl,lk,hcd⟩:=F.ex
 exact XAf lk hcd S len fun A outer s H vs Q E hr hsp=>hbody cdv A outer s H vs Q E hr hsp
theorem FunD.binds {x qual:Str}{st:Stmt}{dV:Value}{f:Addr}{fd:FuncData}{ps:List Str}(F:FunD K x qual st dV f fd)
   (h:∀(kV doc pm:Value) (an:Option Addr) (cdv ct:Value) (us:List Value),us.length=ps.length→bindArgs (PySem.W.fnOf x qual (Xbh st) (Xay st) (Xad st) dV kV doc pm an cdv ct) ⟨us,[]⟩=pure (ps.zip us)):Xci K fd ps []:=by
 obtain⟨oc,od,kV,doc,pm,an,cdv,ct,osl,rfl,lk,hcd⟩:=F.ex
 exact .all (h kV doc pm an cdv ct)
theorem FunD.bindsD {x qual:Str}{st:Stmt}{T:Addr}{f:Addr}{fd:FuncData}{ps:List Str}{ds:List Value}{tc:Value}{td:Option Addr}{tn:Nat}{tsl:Array (Option Value)}(F:FunD K x qual st (.ref T) f fd)
   (lt:K.lookup T=some ⟨tc,td,.seq ds.toArray tn,tsl⟩)
   (h:∀(kV doc pm:Value) (an:Option Addr) (cdv ct:Value) (us:List Value),(us++ds).length=ps.length→∃k:Option (Array Value)→Sem (List (Str×Value)),
     bindArgs (PySem.W.fnOf x qual (Xbh st) (Xay st) (Xad st) (.ref T) kV doc pm an cdv ct) ⟨us,[]⟩=seqItems? (.ref T) >>= k∧k (some ds.toArray)=pure (ps.zip (us++ds))):Xci K fd ps ds:=by
 obtain⟨oc,od,kV,doc,pm,an,cdv,ct,osl,rfl,lk,hcd⟩:=F.ex
 intro s us X hl
 obtain⟨k,h1,h2⟩:=h kV doc pm an cdv ct us hl
 exact .of_defaults rfl (X _ _ lt) rfl h1 h2
end
structure Methx (P:Program)(w:World)(K:PySem.W.Frag)(mg:Str→Option Value)(base:Heap)(C:Addr)(m:Str)(j:Nat)(ps:List Str)(dvs:List V)(sp:Sp):Prop where
 ex:∃(f:Addr) (fd:FuncData) (ds:List Value),FnOk P w K mg base (CXe P w) j f fd ps sp∧Meth K C m f∧Xci K fd ps ds∧Vals dvs ds
 cl:Cls K C
structure Makex (P:Program)(w:World)(K:PySem.W.Frag)(mg:Str→Option Value)(base:Heap)(x:Str)(C:Addr)(j:Nat)(ps:List Str)(dvs:List V)(sp:Sp):Prop where
 ex:∃(f:Addr) (fd:FuncData) (ds:List Value),FnOk P w K mg base (CXe P w) j f fd ps sp∧Mk K C f∧Xci K fd ps ds∧Vals dvs ds
 bound:mg x=some (.ref C)
structure ClsM (K:PySem.W.Frag)(C:Addr)(m:Str)(f:Addr):Prop where
 sp:PySem.W.specialIn K (.ref C) "__getattribute__"=some (some (.builtin "type.__getattribute__"))
 rd:PySem.W.readsIn K C (.type "type")=true
 fc:PySem.W.findCls K (.ref C) (.type "type") m=some (.val (.ref f))
 kp:PySem.W.keepIn K (.ref f)=true
structure Basex (P:Program)(w:World)(K:PySem.W.Frag)(mg:Str→Option Value)(base:Heap)(x:Str)(m:Str)(j:Nat)(ps:List Str)(sp:Sp):Prop where
 ex:∃(C f:Addr) (fd:FuncData),FnOk P w K mg base (CXe P w) j f fd ps sp∧ClsM K C m f∧Xci K fd ps []∧mg x=some (.ref C)
section
variable {X:Cx}{j k:Nat}{C:Addr}{ps:List Str}{sp:Sp}{dvs:List V}{x m:Str}{p pos apos:Pos}{e o:Expr}{es:List Expr}{to:TE}{t:TA}{EX:XK}
theorem Xbg {pl:Sem Bool}(D:Methx X.prog X.w X.K X.mg X.base C m j ps dvs sp)(hp:Xea (CXe X.prog X.w) X EX)(hr:Room k X.A)(ho:PE X o to)(ha:PA X (e::es) t)(hk:j≤k:=by decide)
   (hst:starEach (e::es) X.env=(false,eval e X.env)::starEach es X.env:=by rfl) (hpl:(backTo pos (starEach es X.env)).any (·.1)=false:=by rfl)
   (ht:eval (.Call (.Attribute o m apos) (e::es) [] pos) X.env=(do
     let ov ←eval o X.env
     standAt apos.atName
     let (f,first) ←holding [ov] (getMethod ov m pl)
     callWith pos f first (backTo pos (starEach (e::es) X.env)) (backToKw pos (keywordEach [] X.env))):=by rfl):PE X (.Call (.Attribute o m apos) (e::es) [] pos) (Xnz C m sp dvs EX to t):=by
 obtain⟨f,fd,ds,F,hm,hb,hd⟩:=D.ex
 exact XCf (pl:=pl) ho D.cl hm F (hr.mono hk) hb hd hp ha hst hpl ht
theorem Xcc {pl:Sem Bool}(D:Methx X.prog X.w X.K X.mg X.base C m j ps dvs sp)(hp:Xea (CXe X.prog X.w) X EX)(hr:Room k X.A)(ho:PE X o to)(hk:j≤k:=by decide)
   (ht:eval (.Call (.Attribute o m apos) [] [] pos) X.env=(do
     let ov ←eval o X.env
     standAt apos.atName
     let (f,first) ←holding [ov] (getMethod ov m pl)
     callWith pos f first (backTo pos (starEach [] X.env)) (backToKw pos (keywordEach [] X.env))):=by rfl):PE X (.Call (.Attribute o m apos) [] [] pos) (Xnz C m sp dvs EX to tNil):=by
 obtain⟨f,fd,ds,F,hm,hb,hd⟩:=D.ex
 exact Xux (pl:=pl) ho D.cl hm F (hr.mono hk) hb hd hp ht
theorem Xmt {pl:Sem Bool}(D:Methx X.prog X.w X.K X.mg X.base C m j ps dvs sp)(hr:Room k X.A)(ho:PE X.nox o to)(ha:PA X.nox (e::es) t)(hk:j≤k:=by decide)
   (hst:starEach (e::es) X.env=(false,eval e X.env)::starEach es X.env:=by rfl) (hpl:(backTo pos (starEach es X.env)).any (·.1)=false:=by rfl)
   (ht:eval (.Call (.Attribute o m apos) (e::es) [] pos) X.env=(do
     let ov ←eval o X.env
     standAt apos.atName
     let (f,first) ←holding [ov] (getMethod ov m pl)
     callWith pos f first (backTo pos (starEach (e::es) X.env)) (backToKw pos (keywordEach [] X.env))):=by rfl):PX X (.Call (.Attribute o m apos) (e::es) [] pos) (Xxh C m sp dvs to t):=by
 obtain⟨f,fd,ds,F,hm,hb,hd⟩:=D.ex
 exact Xzl (pl:=pl) ho D.cl hm F (hr.mono hk) hb hd ha hst hpl ht
theorem Xve (D:Makex X.prog X.w X.K X.mg X.base x C j ps dvs sp)(hp:Xea (CXe X.prog X.w) X EX)(hr:Room k X.A)(hg:Gl X x)(ha:PA X (e::es) t)(hk:j+1≤k:=by decide)
   (hdb:(x==("__debug__":Str))=false:=by decide) (he:starEach (e::es) X.env=(false,eval e X.env)::starEach es X.env:=by rfl) (hpl:(backTo pos (starEach es X.env)).any (·.1)=false:=by rfl):PE X (.Call (.Name x p) (e::es) [] pos) (Xti C sp dvs EX t):=by
 obtain⟨f,fd,ds,F,M,hb,hd⟩:=D.ex
 exact XAn M F (hr.mono hk) hg D.bound hb hd hp ha hdb he hpl
theorem Xup {pl:Sem Bool}{p':Pos}(D:Basex X.prog X.w X.K X.mg X.base x m j ps sp)(hp:Xea (CXe X.prog X.w) X EX)(hr:Room k X.A)(hg:Gl X x)(ha:PA X (e::es) t)(hk:j≤k:=by decide)(hdb:(x==("__debug__":Str))=false:=by decide)
   (hst:starEach (e::es) X.env=(false,eval e X.env)::starEach es X.env:=by rfl) (hpl:(backTo pos (starEach es X.env)).any (·.1)=false:=by rfl)
   (ht:eval (.Call (.Attribute (.Name x p') m apos) (e::es) [] pos) X.env=(do
     let ov ←eval (.Name x p') X.env
     standAt apos.atName
     let (f,first) ←holding [ov] (getMethod ov m pl)
     callWith pos f first (backTo pos (starEach (e::es) X.env)) (backToKw pos (keywordEach [] X.env))):=by rfl):PE X (.Call (.Attribute (.Name x p') m apos) (e::es) [] pos) (Xss sp [] EX t):=by
 obtain⟨C,f,fd,F,M,hb,hm⟩:=D.ex
 intro pins s σ H Q I h
 refine PySem.W.methodCall_KW (pl:=pl) (Xei I hg hm ?_ hdb) ht
 refine PySem.W.method_cls I.kIn M.sp (PySem.W.cls_value I.kIn M.rd M.fc rfl ?_)
 have I':=I.tok (s.toks+1)
 refine PySem.W.callWith_K (h₀:=X.base) I.ok.mod.kin M.kp (thn (ha pos pins _ σ H _ I' h) fun us s1 ⟨vs,H1,I1,r,q⟩=>⟨I1.kIn,?_⟩) hst hpl
 exact Xnb F (hr.mono hk) hb .nil hp I1 r q
end
section
variable {K:PySem.W.Frag}{σ:L2.St}{H:Hp}{Q:VK}{D:Ends}
theorem r_fld {f:Str}{ta:TE}(h:ta σ H fun x H1=>∃a C dx fs v,x = .ref a∧H1 a=some (.ins C dx fs)∧Cls K C∧Xde K C f∧fs.lookup f=some v∧Q v H1):tFld K ta f σ H Q:=h
theorem r_at {a C dx:Addr}{fs:List (Str×V)}{f:Str}{v:V}{P:V→Prop}(h:H a=some (.ins C dx fs))(c:Cls K C)(n:Xde K C f)(l:fs.lookup f=some v)(q:P v) :
   ∃a' C' dx' fs' v',V.ref a=V.ref a'∧H a'=some (.ins C' dx' fs')∧Cls K C'∧Xde K C' f∧fs'.lookup f=some v'∧P v':=⟨a,C,dx,fs,v,rfl,h,c,n,l,q⟩
theorem r_sfld {f:Str}{ta tv:TE}(h:tv σ H fun y H1=>ta σ H1 fun x H2=>∃a C dx fs,x = .ref a∧H2 a=some (.ins C dx fs)∧Cls K C∧Xde K C f∧fs.length<1000∧D.nx σ (upd H2 a (.ins C dx (putF f y fs)))):sFld K ta tv f D σ H:=h
theorem r_meth {C:Addr}{m:Str}{sp:Sp}{E:XK}{ta:TE}{t:TA}(h:ta σ H fun x H1=>∃a dx fs,x = .ref a∧H1 a=some (.ins C dx fs)∧fs.lookup m=none∧t σ H1 fun vs H2=>sp (x::vs) H2 Q E):Xnz C m sp [] E ta t σ H Q:=by
 unfold Xnz
 simp only [List.append_nil]
 exact h
end
end Stow
namespace Stow
open PySem L2 PyProof.Rows
section
variable {X:Cx}
end
section
variable {a x:Option V}{v:V}{l r:L2.St}{k:Nat}{n:Str}{ns:List Str}{vs:List V}
theorem set0_c:(a::l).set 0 x=x::l:=rfl
theorem XAk:L2.start (n::ns) (v::vs)=some v::L2.start ns vs:=by
 unfold L2.start
 rw[List.length_cons,List.length_cons,Nat.add_sub_add_right]
 rfl
theorem set0_0:(L2.start (n::ns) []).set 0 x=x::L2.start ns []:=rfl
theorem setS_c (h:l.set k x=r):(a::l).set (k+1) x=a::r:=h▸rfl
theorem setS_1 (h:(L2.start ns vs).set k x=r):(L2.start (n::ns) (v::vs)).set (k+1) x=some v::r:=by
 rw[XAk,←h]
 rfl
theorem r_gnameN {σ σ':L2.St}{H:Hp}{i:Nat}{R:L2.St→Hp→Prop}(e:σ.set i (some v)=σ')(h:R σ' H):Xoc i v σ H R:=by
 subst e
 exact h
end
def cutI (ns:List Int)(l u:Option Int):List Int:=(ns.drop (HT.sIx ns.length 0 l)).take (HT.sIx ns.length ns.length u-HT.sIx ns.length 0 l)
theorem Xyj (ns:List Int)(l u:Option Int):cutV (ns.map V.int) l u=(cutI ns l u).map V.int:=by
 unfold cutV cutI
 rw[List.map_take,List.map_drop,List.length_map]
theorem Xiw (ns:List Int)(l u:Option Int):(cutI ns l u).length≤ns.length:=by
 unfold cutI
 rw[List.length_take,List.length_drop]
 omega
section
variable {K:PySem.W.Frag}{σ:L2.St}{H:Hp}{D:Ends}{Q:VK}
theorem r_sllG {a:Addr}{ns:List Int}{lo hi:Option Int}(h:SqL K H a (ns.map V.int))(q:∀p H',H p=none→Same H H'→H' p=some (.lst ((cutI ns lo hi).map V.int))→Q (.ref p) H'):rSlL K (.ref a) lo hi H Q :=
 ⟨a,_,rfl,h,fun p hp=>by rw[Xyj];exact q p _ hp (Same.new hp) upd_same⟩
theorem r_catG {l b:Addr}{xs zs:List Int}(h:H l=some (.lst (xs.map V.int)))(h2:H b=some (.lst (zs.map V.int)))(hz:xs.length+zs.length≤4000)(q:∀p H',H p=none→Same H H'→H' p=some (.lst ((xs++zs).map V.int))→Q (.ref p) H'):rCat (.ref l) (.ref b) H Q :=
 ⟨l,b,_,_,rfl,rfl,h,h2,by rw[List.length_map,List.length_map];exact Nat.le_of_lt (small4000 hz),fun p hp=>by rw[←List.map_append];exact q p _ hp (Same.new hp) upd_same⟩
theorem Xub (ns:List Int)(l u:Nat):(cutI ns (some l) (some u)).length≤u-l:=by
 unfold cutI
 rw[List.length_take]
 have e1:=HT.sIx_nat ns.length ns.length u
 have e2:=HT.sIx_nat ns.length 0 l
 rw[e1,e2,List.length_drop]
 omega
theorem r_isSeq {t u:TS}(h:tSeq t u D σ H):tSeq t u D σ H:=h
theorem r_isAnd {ta tb:TE}(h:Xvi ta tb σ H Q):Xvi ta tb σ H Q:=h
theorem r_isOr {ta tb:TE}(h:tOrV ta tb σ H Q):tOrV ta tb σ H Q:=h
end
end Stow
namespace Stow
open PySem L2 PyProof.Rows
section
variable {K:PySem.W.Frag}{σ:L2.St}{H:Hp}{Q:VK}
theorem r_gtup {a:Addr}{xs:List V}{n:Nat}{t:TGs}{R:L2.St→Hp→Prop}(h:H a=some (.tup xs))(hl:xs.length=n)(q:t xs σ H R):gTup K n t (.ref a) σ H R:=⟨a,xs,rfl,SqT.of h,hl,q⟩
theorem r_gcons {v:V}{r:List V}{t:TG}{u:TGs}{R:L2.St→Hp→Prop}(h:t v σ H fun σ' H'=>u r σ' H' R):XDx t u (v::r) σ H R:=⟨v,r,rfl,h⟩
theorem r_gnil {R:L2.St→Hp→Prop}(h:R σ H):gNil [] σ H R:=⟨rfl,h⟩
end
end Stow
namespace Stow
def fpl (a b:Int):Int:=a+(b-1-a%b)
def fp (a n L b:Int):Option Int:=if fpl a b+L≤a+n then some (fpl a b) else none
end Stow
namespace Stow
open PySem L2 PyProof.Rows
def Xbk (H:Hp)(us:List V)(ps:List Pc):Prop:=us.length=ps.length∧∀(i:Nat) (p:Pc),ps[i]?=some p→∃a,us[i]?=some (.ref a)∧H a=some (.tup [.int p.a,.int p.l,.bl p.v])
theorem Xbk.nil {H:Hp}:Xbk H [] []:=⟨rfl,fun i p h=>by simp at h⟩
theorem Xbk.mono {H H':Hp}{us:List V}{ps:List Pc}(h:Xbk H us ps)(k:∀b xs,H b=some (.tup xs)→H' b=some (.tup xs)):Xbk H' us ps :=
 ⟨h.1,fun i p e=>let ⟨a,h1,h2⟩:=h.2 i p e;⟨a,h1,k _ _ h2⟩⟩
theorem Xbk.same {H H':Hp}{us:List V}{ps:List Pc}(h:Xbk H us ps)(k:Same H H'):Xbk H' us ps:=h.mono fun b xs e=>k b _ e
theorem Xbk.snoc {H:Hp}{us:List V}{ps:List Pc}{p:Pc}{a:Addr}(h:Xbk H us ps)(ha:H a=some (.tup [.int p.a,.int p.l,.bl p.v])):Xbk H (us++[.ref a]) (ps++[p]):=by
 refine⟨by simp [h.1],fun i q e=>?_⟩
 have hl:=h.1
 by_cases hi:i<ps.length
 · rw[List.getElem?_append_left hi] at e
   obtain⟨b,h1,h2⟩:=h.2 i q e
   exact⟨b,by rw[List.getElem?_append_left (by omega)];exact h1,h2⟩
 · have hlt:i<(ps++[p]).length:=(List.getElem?_eq_some_iff.mp e).1
   have hi2:i=ps.length:=by simp at hlt;omega
   subst hi2
   rw[List.getElem?_append_right (Nat.le_refl _)] at e
   have e':p=q:=by simpa using e
   subst e'
   exact⟨a,by rw[←hl,List.getElem?_append_right (Nat.le_refl _)];simp,ha⟩
theorem Xlp {H:Hp}{p:Addr}{o:HO}(hp:H p=none∨∃xs,H p=some (.lst xs)):∀b xs,H b=some (.tup xs)→upd H p o b=some (.tup xs):=fun b xs e=>by
 have hne:b≠p:=fun z=>by
   subst z
   rcases hp with h | ⟨ys,h⟩
   · rw[h] at e;cases e
   · rw[h] at e;cases e
 rw[Xah hne]
 exact e
theorem Xbk.push {H:Hp}{us:List V}{ps:List Pc}{p t:Addr}{z:Pc}(h:Xbk H us ps)(hp:H p=some (.lst us))(ht:H t=none) :
   upd (upd H t (.tup [.int z.a,.int z.l,.bl z.v])) p (.lst (us++[.ref t])) p=some (.lst (us++[.ref t])) ∧
   Xbk (upd (upd H t (.tup [.int z.a,.int z.l,.bl z.v])) p (.lst (us++[.ref t]))) (us++[.ref t]) (ps++[z]):=by
 have hpt:p≠t:=Xap hp ht
 have hp2:upd H t (.tup [.int z.a,.int z.l,.bl z.v]) p=some (.lst us):=by rw[Xah hpt];exact hp
 refine⟨upd_same,?_⟩
 refine Xbk.snoc ?_ ?_
 · exact(h.mono (Xlp (.inl ht))).mono (Xlp (.inr ⟨_,hp2⟩))
 · exact Xlp (.inr ⟨_,hp2⟩) _ _ upd_same
theorem Xbk.at {H:Hp}{us:List V}{ps:List Pc}(h:Xbk H us ps){k:Int}(h0:0≤k)(h1:k<us.length):∃t z,atI us k=some (.ref t)∧ps[k.toNat]?=some z∧H t=some (.tup [.int z.a,.int z.l,.bl z.v]):=by
 have hl:=h.1
 have hk:k.toNat<ps.length:=by omega
 obtain⟨t,e1,e2⟩:=h.2 k.toNat ps[k.toNat] (by simp [hk])
 refine⟨t,_,?_,by simp [hk],e2⟩
 have:=Xgn e1
 rwa [Int.toNat_of_nonneg h0] at this
def Xdd (H:Hp)(us:List V)(xs:List (List V)):Prop:=us.length=xs.length∧∀(i:Nat) (x:List V),xs[i]?=some x→∃a,us[i]?=some (.ref a)∧H a=some (.tup x)
theorem Xdd.nil {H:Hp}:Xdd H [] []:=⟨rfl,fun i p h=>by simp at h⟩
theorem Xdd.mono {H H':Hp}{us:List V}{xs:List (List V)}(h:Xdd H us xs)(k:∀b ys,H b=some (.tup ys)→H' b=some (.tup ys)):Xdd H' us xs :=
 ⟨h.1,fun i p e=>let ⟨a,h1,h2⟩:=h.2 i p e;⟨a,h1,k _ _ h2⟩⟩
theorem Xdd.same {H H':Hp}{us:List V}{xs:List (List V)}(h:Xdd H us xs)(k:Same H H'):Xdd H' us xs:=h.mono fun b ys e=>k b _ e
theorem Xdd.push {H:Hp}{us:List V}{xs:List (List V)}{p t:Addr}{z:List V}(h:Xdd H us xs)(hp:H p=some (.lst us))(ht:H t=none) :
   Xdd (upd (upd H t (.tup z)) p (.lst (us++[.ref t]))) (us++[.ref t]) (xs++[z]):=by
 have hpt:p≠t:=Xap hp ht
 have hp2:upd H t (.tup z) p=some (.lst us):=by rw[Xah hpt];exact hp
 have h2:=(h.mono (Xlp (o:=.tup z) (.inl ht))).mono (Xlp (o:=.lst (us++[.ref t])) (.inr ⟨_,hp2⟩))
 have hz:upd (upd H t (.tup z)) p (.lst (us++[.ref t])) t=some (.tup z):=Xlp (.inr ⟨_,hp2⟩) _ _ upd_same
 refine⟨by simp [h.1],fun i q e=>?_⟩
 have hl:=h.1
 by_cases hi:i<xs.length
 · rw[List.getElem?_append_left hi] at e
   obtain⟨b,h1,h3⟩:=h2.2 i q e
   exact⟨b,by rw[List.getElem?_append_left (by omega)];exact h1,h3⟩
 · have hlt:i<(xs++[z]).length:=(List.getElem?_eq_some_iff.mp e).1
   have hi2:i=xs.length:=by simp at hlt;omega
   subst hi2
   rw[List.getElem?_append_right (Nat.le_refl _)] at e
   have e':z=q:=by simpa using e
   subst e'
   exact⟨t,by rw[←hl,List.getElem?_append_right (Nat.le_refl _)];simp,hz⟩
theorem Xdd.at {H:Hp}{us:List V}{xs:List (List V)}(h:Xdd H us xs){i:Nat}(h1:i<us.length):∃t z,atI us (0+(i:Int))=some (.ref t)∧xs[i]?=some z∧H t=some (.tup z):=by
 have hl:=h.1
 have hk:i<xs.length:=by omega
 obtain⟨t,e1,e2⟩:=h.2 i xs[i] (by simp [hk])
 exact⟨t,_,by rw[Int.zero_add];exact Xgn e1,by simp [hk],e2⟩
@[reducible] def optV:Option Int→V
 | none=>.non
 | some b=>.int b
def Xhu:Sp:=fun vs H Q _=>∃n:Int,vs=[.int n]∧Q (.int (n/2)) H
def Xnf:Sp:=fun vs H Q _=>∃n:Int,vs=[.int n]∧Q (.bl (decide (n%2=1))) H
def Xyz (K:PySem.W.Frag):Sp:=fun vs H Q _=>∃(a:Addr) (ns:List Int) (k:Int),vs=[.ref a,.int k]∧SqL K H a (ns.map V.int)∧0≤k∧k<ns.length∧Q (.bl (Xbm ns k)) H
def XCa (K:PySem.W.Frag):Sp:=fun vs H Q _=>∃(a:Addr) (ns:List Int) (k:Int),vs=[.ref a,.int k]∧SqL K H a (ns.map V.int)∧0≤k∧k<ns.length∧Q (optV (Xdi ns k)) H
def Xdu (K:PySem.W.Frag)(C:Addr):Sp:=fun vs H Q E=>∃(a:Addr) (ns:List Int),vs=[.ref a]∧SqL K H a (ns.map V.int)∧ns.length≤4000 ∧
 (∀b,(Xch ns 0).2=some b→∀(dx:Addr) (H':Hp),Same H H'→H' dx=some (.xd [("cell",.int b)])→E (.ref C) (some dx) H') ∧
 ((Xch ns 0).2=none→∀(p:Addr) (us:List V) (H':Hp),H p=none→Same H H'→H' p=some (.lst us)→Xbk H' us (Xch ns 0).1→Q (.ref p) H')
def Xsq (K:PySem.W.Frag):Sp:=fun vs H Q _=>∃(a:Addr) (ns:List Int) (k:Int),vs=[.ref a,.int k]∧SqL K H a (ns.map V.int)∧0≤k∧Q (.int (ns.getD k.toNat 0)) H
def Xew:Sp:=fun vs H Q _=>∃n:Int,vs=[.int n]∧Q (.bl true) H
def Xty (K:PySem.W.Frag):Sp:=fun vs H Q _=>∃(a:Addr) (ns:List Int),vs=[.ref a]∧SqL K H a (ns.map V.int)∧ns.length≤63∧∀H',Q (.bl true) H'
section
variable {K:PySem.W.Frag}{H:Hp}{Q:VK}{E:XK}
theorem i_long {n:Int}(q:Q (.int (n/2)) H):Xhu [.int n] H Q E:=⟨n,rfl,q⟩
theorem i_live {n:Int}(q:Q (.bl (decide (n%2=1))) H):Xnf [.int n] H Q E:=⟨n,rfl,q⟩
theorem i_can {a:Addr}{ns:List Int}{k:Int}(h:SqL K H a (ns.map V.int))(h0:0≤k)(h1:k<ns.length)(q:Q (.bl (Xbm ns k)) H):Xyz K [.ref a,.int k] H Q E:=⟨a,ns,k,rfl,h,h0,h1,q⟩
theorem i_bad {a:Addr}{ns:List Int}{k:Int}(h:SqL K H a (ns.map V.int))(h0:0≤k)(h1:k<ns.length)(q:Q (optV (Xdi ns k)) H):XCa K [.ref a,.int k] H Q E:=⟨a,ns,k,rfl,h,h0,h1,q⟩
theorem i_cell {a:Addr}{ns:List Int}{k:Int}(h:SqL K H a (ns.map V.int))(h0:0≤k)(q:Q (.int (ns.getD k.toNat 0)) H):Xsq K [.ref a,.int k] H Q E:=⟨a,ns,k,rfl,h,h0,q⟩
theorem i_whole {n:Int}(q:Q (.bl true) H):Xew [.int n] H Q E:=⟨n,rfl,q⟩
theorem Xvf (n:Int):decide (Builtin.bitAnd n 1=1)=decide (n%2=1):=by rw[←XCi,decV]
end
end Stow
namespace Stow
def Xcr (cs:List Int)(k l:Int)(v:Bool):List Int:=(cs.set k.toNat (l*2+if v then 1 else 0)).set (k+l-1).toNat (l*2+if v then 1 else 0)
theorem Xdo (cs:List Int)(k l:Int)(v:Bool):(Xcr cs k l v).length=cs.length:=by
 unfold Xcr
 rw[List.length_set,List.length_set]
theorem Xce {cs:List Int}{k l:Int}{v:Bool}{j:Nat}(h0:0≤k)(h1:1≤l)(h:(j:Int)<k∨k+l≤j):(Xcr cs k l v)[j]?=cs[j]?:=by
 unfold Xcr
 rw[List.getElem?_set_ne (by omega),List.getElem?_set_ne (by omega)]
theorem Xlr {cs:List Int}{k l:Int}{v:Bool}(h0:0≤k)(h1:1≤l)(h:k+l≤cs.length):(Xcr cs k l v)[k.toNat]?=some (mkOf l v):=by
 unfold Xcr mkOf
 by_cases e:(k+l-1).toNat=k.toNat
 · rw[e,List.getElem?_set_self (by rw[List.length_set];omega)]
 · rw[List.getElem?_set_ne e,List.getElem?_set_self (by omega)]
theorem Xoh {cs:List Int}{k l:Int}{v:Bool}(h0:0≤k)(h1:1≤l)(h:k+l≤cs.length):(Xcr cs k l v)[(k+l-1).toNat]?=some (mkOf l v):=by
 unfold Xcr mkOf
 rw[List.getElem?_set_self (by rw[List.length_set];omega)]
def Xfv (ds:List Pc)(k:Int):Prop:=∀p∈ds,0≤p.a∧1≤p.l∧p.a+p.l≤k
def Xkf (rs:List Pc)(e:Int):Prop:=∀p∈rs,e≤p.a∧1≤p.l
theorem Xaq.endBy {ds:List Pc}{s e:Int}(h:Xaq s ds e)(h0:0≤s):Xfv ds e:=fun p hp=>by
 obtain⟨h1,h2,_,h3⟩:=h.mem p hp
 omega
theorem Xaq.fromOn {ds:List Pc}{s e:Int}(h:Xaq s ds e):Xkf ds s:=fun p hp=>by
 obtain⟨h1,h2,_,_⟩:=h.mem p hp
 omega
theorem Xfv.mono {ds:List Pc}{k k':Int}(h:Xfv ds k)(e:k≤k'):Xfv ds k':=fun p hp=>by have:=h p hp;omega
theorem Xfv.app {ds es:List Pc}{k:Int}(h:Xfv ds k)(g:Xfv es k):Xfv (ds++es) k:=fun p hp=>(List.mem_append.mp hp).elim (h p) (g p)
theorem Xbb.sub {cs:List Int}{ps qs:List Pc}(m:Xbb cs ps)(h:∀p∈qs,p∈ps):Xbb cs qs:=fun p hp=>m p (h p hp)
theorem Xbb.lay {cs:List Int}{ds rs:List Pc}{k l:Int}{v:Bool}(h0:0≤k)(h1:1≤l)(hl:k+l≤cs.length)(hd:Xfv ds k)(hr:Xkf rs (k+l))(m:Xbb cs (ds++rs)) :
   Xbb (Xcr cs k l v) (ds++⟨k,l,v⟩::rs):=by
 intro p hp
 rcases List.mem_append.mp hp with h | h
 · obtain⟨a0,a1,a2⟩:=hd p h
   obtain⟨m1,m2⟩:=m p (List.mem_append_left _ h)
   exact⟨by rw[Xce h0 h1 (by omega)];exact m1,by rw[Xce h0 h1 (by omega)];exact m2⟩
 · rcases List.mem_cons.mp h with h | h
   · subst h
     exact⟨Xlr h0 h1 hl,Xoh h0 h1 hl⟩
   · obtain⟨a0,a1⟩:=hr p h
     obtain⟨m1,m2⟩:=m p (List.mem_append_right _ h)
     exact⟨by rw[Xce h0 h1 (by omega)];exact m1,by rw[Xce h0 h1 (by omega)];exact m2⟩
def lfI (cs:List Int)(b e:Int):List Int:=if b=e then cs else Xcr cs b (e-b) false
def fr (b e:Int):List Pc:=if b=e then [] else [⟨b,e-b,false⟩]
theorem XMg {cs:List Int}{b e:Int}{j:Nat}(h0:0≤b)(h1:b≤e)(h:(j:Int)<b∨e≤j):(lfI cs b e)[j]?=cs[j]?:=by
 unfold lfI
 split
 · rfl
 · exact Xce h0 (by omega) (by omega)
theorem Xmk {b e:Int}(h:b≤e):Xaq b (fr b e) e:=by
 unfold fr
 split
 · assumption
 · exact⟨rfl,(by show 1≤e-b;omega),(fun z=>by cases z),(by show b+(e-b)=e;omega)⟩
theorem Xet:∀{ps:List Pc} {s e:Int} {i:Nat} {z:Pc},Xaq s ps e→ps[i]?=some z→∃ds rs,ps=ds++z::rs∧ds.length=i∧Xaq s ds z.a∧Xaq (z.a+z.l) rs e
 | [],s,e,i,z,_,h=>by simp at h
 | p::r,s,e,0,z,c,h=>by
   have e1:p=z:=by simpa using h
   subst e1
   obtain⟨h0,h1,h2,h3⟩:=c
   exact⟨[],r,rfl,rfl,h0.symm,by rw[h0];exact h3⟩
 | p::r,s,e,i+1,z,c,h=>by
   obtain⟨h0,h1,h2,h3⟩:=c
   obtain⟨ds,rs,e1,e2,c1,c2⟩:=Xet h3 (show r[i]?=some z by simpa using h)
   exact⟨p::ds,rs,by rw[e1];rfl,by rw[List.length_cons,e2],⟨h0,h1,h2,c1⟩,c2⟩
theorem Xlh {ps:List Pc}:∀{b e:Int},Xaq b ps e→∀(i j:Nat) (y z:Pc),ps[i]?=some y→ps[j]?=some z→y.a=z.a→y=z:=by
 induction ps with
 | nil=>intro b e _ i j y z hi;simp at hi
 | cons p r ih =>
   intro b e h i j y z hi hj ha
   obtain⟨e1,h1,h3,c⟩:=h
   have up:∀(i:Nat) (y:Pc),r[i]?=some y→y.a>p.a:=fun i y hy=>by
     have:=(c.mem y (List.mem_of_getElem? hy)).1
     omega
   cases i with
   | zero =>
     cases j with
     | zero=>simp at hi hj;rw[←hi,←hj]
     | succ j =>
       have e2:p=y:=by simpa using hi
       have:=up j z (by simpa using hj)
       subst e2;omega
   | succ i =>
     cases j with
     | zero =>
       have e2:p=z:=by simpa using hj
       have:=up i y (by simpa using hi)
       subst e2;omega
     | succ j=>exact ih c i j y z (by simpa using hi) (by simpa using hj) ha
end Stow
namespace Stow
theorem Xbt {ps:List Pc}{s e:Int}{y z:Pc}(c:Xaq s ps e)(hy:y∈ps)(hz:z∈ps)(h:y.a=z.a):y=z:=by
 obtain⟨i,hi⟩:=List.getElem?_of_mem hy
 obtain⟨j,hj⟩:=List.getElem?_of_mem hz
 exact Xlh c i j y z hi hj h
end Stow
namespace Stow
end Stow
namespace Stow
end Stow
namespace Stow
theorem Xaq.take:∀{ps:List Pc} {s e:Int} {i:Nat},Xaq s ps e→i≤ps.length→∃m,Xaq s (ps.take i) m∧Xaq m (ps.drop i) e
 | ps,s,e,0,c,_=>⟨s,rfl,c⟩
 | [],s,e,i+1,c,h=>by simp at h
 | p::r,s,e,i+1,c,h=>by
   obtain⟨h0,h1,h2,h3⟩:=c
   obtain⟨m,c1,c2⟩:=h3.take (i:=i) (by simpa using h)
   exact⟨m,⟨h0,h1,h2,c1⟩,c2⟩
def Xft (ps:List Pc):Prop:=∀j y z,ps[j]?=some y→ps[j+1]?=some z→y.v=true∨z.v=true
theorem Xft.snoc {D:List Pc}{w z:Pc}(h:Xft (D++[w]))(hv:w.v=true∨z.v=true):Xft (D++[w]++[z]):=by
 intro j y x hy hx
 have hl:j+1<(D++[w]++[z]).length:=(List.getElem?_eq_some_iff.mp hx).1
 rw[List.length_append,List.length_singleton] at hl
 rw[List.getElem?_append_left (by omega)] at hy
 by_cases e:j+1<(D++[w]).length
 · rw[List.getElem?_append_left e] at hx
   exact h j y x hy hx
 · rw[List.length_append,List.length_singleton] at e hl
   rw[List.getElem?_append_right (by rw[List.length_append,List.length_singleton];omega),show j+1-(D++[w]).length=0 by rw[List.length_append,List.length_singleton];omega] at hx
   rw[show j=D.length by omega,List.getElem?_append_right (Nat.le_refl _),Nat.sub_self] at hy
   have e1:w=y:=by simpa using hy
   have e2:z=x:=by simpa using hx
   rw[←e1,←e2]
   exact hv
end Stow
namespace Stow
end Stow
namespace Stow
end Stow
namespace Stow
open PySem L2 PyProof.Rows
section
variable {X:Cx}
end
end Stow
namespace Stow
open PySem L2 PyProof.Rows
def eqVs (xs ys:List V):Bool:=(List.range (min xs.length ys.length)).all (fun j=>eqV (xs.getD j .non) (ys.getD j .non))&&xs.length==ys.length
section
variable {X:Cx}{pins:List (Addr×Obj)}{σ:L2.St}{H:Hp}{s:Shared}{A:Around}
theorem Xuw {a b:Addr}{xs ys:List V}(I:Inv X pins σ H s)(ha:SqT X.K H a xs)(hb:SqT X.K H b ys)(hf:xs.all Xdb=true)(hg:ys.all Xdb=true) :
   ∃its its2:List Value,s.heap.IsTuple a its.toArray∧s.heap.IsTuple b its2.toArray∧its.length=xs.length∧its2.length=ys.length ∧
     ∀j (h1:j<its.toArray.size) (h2:j<its2.toArray.size),SeqAt.EqAt A s its.toArray[j] its2.toArray[j] (eqV (xs.getD j .non) (ys.getD j .non)):=by
 obtain⟨its,r1,p1,_⟩:=I.tuple ha
 obtain⟨its2,r2,p2,_⟩:=I.tuple hb
 have l1:=r1.length
 have l2:=r2.length
 refine⟨its,its2,p1,p2,l1.symm,l2.symm,fun j h1 h2=>?_⟩
 rw[List.size_toArray] at h1 h2
 have hj:j<xs.length:=by omega
 have hk:j<ys.length:=by omega
 obtain⟨u1,e1,q1⟩:=r1.get (i:=j) (x:=xs[j]) (by simp [hj])
 obtain⟨u2,e2,q2⟩:=r2.get (i:=j) (x:=ys[j]) (by simp [hk])
 obtain⟨g1,f1⟩:=List.getElem?_eq_some_iff.mp e1
 obtain⟨g2,f2⟩:=List.getElem?_eq_some_iff.mp e2
 have fl:Xdb xs[j]=true:=List.all_eq_true.mp hf _ (List.getElem_mem hj)
 have gl:Xdb ys[j]=true:=List.all_eq_true.mp hg _ (List.getElem_mem hk)
 have z:=Xwi (A:=A) (s:=s) q1 q2 fl gl
 rw[←f1,←f2] at z
 have ex:xs.getD j .non=xs[j]:=by simp [hj]
 have ey:ys.getD j .non=ys[j]:=by simp [hk]
 rw[ex,ey]
 simpa using z
theorem Xzx {a b:Addr}{xs ys:List V}(hu:A.units<cLine)(I:Inv X pins σ H s)(ha:SqT X.K H a xs)(hb:SqT X.K H b ys)(hf:xs.all Xdb=true)(hg:ys.all Xdb=true):SeqAt.RcAt A s (.ref a) (.ref b) (eqVs xs ys):=by
 obtain⟨its,its2,p1,p2,l1,l2,he⟩:=Xuw (A:=A.in1) I ha hb hf hg
 have key:=SeqAt.RcAt.tuples p1 p2 hu he
 simp only [List.size_toArray,l1,l2] at key
 exact key
theorem Xgz {xs:List V}(hf:xs.all Xdb=true):eqVs xs xs=true:=by
 unfold eqVs
 rw[Bool.and_eq_true]
 refine⟨List.all_eq_true.mpr fun j hj=>?_,by simp⟩
 have hj:j<xs.length:=by simpa using hj
 have ex:xs.getD j .non=xs[j]:=by simp [hj]
 rw[ex]
 exact Xuc (List.all_eq_true.mp hf _ (List.getElem_mem hj))
end
section
variable {X:Cx}
end
end Stow
set_option Elab.async false
set_option linter.all false
set_option maxRecDepth 100000
set_option maxHeartbeats 4000000
namespace L2
open PySem PySem.Spec PyProof.Rows
section
variable {κ:Type}[DecidableEq κ]
def valV (kvs:List (κ×V))(k:κ):Option V:=(kvs.find? fun kv=>decide (kv.1=k)).map (·.2)
def putK (kvs:List (κ×V))(k:κ)(v:V):List (κ×V) :=
 if (kvs.any fun kv=>decide (kv.1=k))=true then kvs.map (fun kv=>if kv.1=k then (kv.1,v) else kv) else kvs++[(k,v)]
def Xbz (kvs:List (κ×V))(k:κ):List (κ×V):=kvs.filter fun kv=>decide (kv.1≠k)
theorem Xcb {p:κ×V}{r:List (κ×V)}{k:κ}(e:p.1=k):valV (p::r) k=some p.2:=by simp [valV,List.find?_cons,e]
theorem Xbs {p:κ×V}{r:List (κ×V)}{k:κ}(e:¬p.1=k):valV (p::r) k=valV r k:=by simp [valV,List.find?_cons,e]
theorem Xem (k:κ):∀kvs:List (κ×V),(kvs.any fun kv=>decide (kv.1=k))=(valV kvs k).isSome
 | []=>rfl
 | p::r=>by
   rw[List.any_cons]
   by_cases e:p.1=k
   · simp only [Xcb e,decide_eq_true e,Bool.true_or,Option.isSome_some]
   · rw[Xbs e,decide_eq_false e,Bool.false_or];exact Xem k r
theorem Xmo (k j:κ)(y:V):∀kvs:List (κ×V),valV (kvs.map fun kv=>if kv.1=k then (kv.1,y) else kv) j=(valV kvs j).map fun x=>if j=k then y else x
 | []=>rfl
 | p::r=>by
   have ih:=Xmo k j y r
   rw[List.map_cons]
   by_cases h:p.1=k
   · rw[if_pos h]
     by_cases e:p.1=j
     · rw[Xcb (p:=(p.1,y)) e,Xcb e,Option.map_some,if_pos (e.symm.trans h)]
     · rw[Xbs (p:=(p.1,y)) e,Xbs e,ih]
   · rw[if_neg h]
     by_cases e:p.1=j
     · rw[Xcb (p:=p) e,Xcb e,Option.map_some,if_neg (fun z=>h (e.trans z))]
     · rw[Xbs (p:=p) e,Xbs e,ih]
theorem Xjw (k j:κ)(y:V):∀kvs:List (κ×V),valV kvs k=none→valV (kvs++[(k,y)]) j=if j=k then some y else valV kvs j
 | [],_=>by
   by_cases e:k=j
   · rw[if_pos e.symm];exact Xcb (p:=(k,y)) e
   · rw[if_neg (fun z=>e z.symm)];exact Xbs (p:=(k,y)) e
 | p::r,hn=>by
   rw[List.cons_append]
   have hk:¬p.1=k:=fun z=>by rw[Xcb z] at hn;cases hn
   rw[Xbs hk] at hn
   have ih:=Xjw k j y r hn
   by_cases e:p.1=j
   · rw[Xcb e,Xcb e,if_neg (fun z=>hk (e.trans z))]
   · rw[Xbs e,Xbs e,ih]
theorem Xtq (kvs:List (κ×V))(k j:κ)(y:V):valV (putK kvs k y) j=if j=k then some y else valV kvs j:=by
 unfold putK
 by_cases a:(kvs.any fun kv=>decide (kv.1=k))=true
 · rw[if_pos a,Xmo]
   rw[Xem] at a
   by_cases e:j=k
   · obtain⟨x,hx⟩:=Option.isSome_iff_exists.mp a
     rw[if_pos e,e,hx,Option.map_some,if_pos rfl]
   · rw[if_neg e]
     cases valV kvs j with
     | none=>rfl
     | some x=>rw[Option.map_some,if_neg e]
 · rw[if_neg a]
   refine Xjw k j y kvs ?_
   rw[Xem] at a
   cases q:valV kvs k with
   | none=>rfl
   | some x=>rw[q] at a;exact(a rfl).elim
theorem Xex (kvs:List (κ×V))(k:κ)(v:V):(putK kvs k v).length≤kvs.length+1:=by
 unfold putK
 split
 · rw[List.length_map];omega
 · rw[List.length_append,List.length_cons,List.length_nil];omega
theorem Xjg {kvs:List (κ×V)}{k:κ}(v:V)(h:valV kvs k=none):putK kvs k v=kvs++[(k,v)]:=by
 unfold putK
 rw[Xem,h]
 exact if_neg (by decide)
theorem RelO.isSome_eq {o:Option V}{u:Option Value}(r:RelO o u):o.isSome=u.isSome:=by
 cases o with
 | none=>cases u with
   | none=>rfl
   | some _=>exact(show False from r).elim
 | some _=>cases u with
   | none=>exact(show False from r).elim
   | some _=>rfl
theorem RelO.getD {o:Option V}{u:Option Value}{d:V}{d':Value}(r:RelO o u)(rd:RelV d d'):RelV (o.getD d) (u.getD d'):=by
 cases o with
 | none=>cases u with
   | none=>exact rd
   | some _=>exact(show False from r).elim
 | some _=>cases u with
   | none=>exact(show False from r).elim
   | some _=>exact r
theorem KV.val {kvs:List (κ×V)}{vs:List (κ×Value)}(r:KV kvs vs)(k:κ):RelO (valV kvs k) (valueAt vs k):=by
 unfold KV at r
 induction r with
 | nil=>exact True.intro
 | @cons p q ps qs h t ih =>
   obtain⟨h1,h2⟩:=h
   by_cases e:p.1=k
   · have e':q.1=k:=h1.symm.trans e
     have b:valueAt (q::qs) k=some q.2:=by simp [valueAt,List.find?_cons,e']
     rw[Xcb e,b];exact h2
   · have e':¬q.1=k:=fun z=>e (h1.trans z)
     have b:valueAt (q::qs) k=valueAt qs k:=by simp [valueAt,List.find?_cons,e']
     rw[Xbs e,b];exact ih
theorem KV.any {kvs:List (κ×V)}{vs:List (κ×Value)}(r:KV kvs vs)(k:κ):(kvs.any fun kv=>decide (kv.1=k))=vs.any fun kv=>decide (kv.1=k):=by
 unfold KV at r
 induction r with
 | nil=>rfl
 | cons h t ih=>rw[List.any_cons,List.any_cons,ih,h.1]
theorem KV.repl {kvs:List (κ×V)}{vs:List (κ×Value)}(r:KV kvs vs)(k:κ){y:V}{u:Value}(ry:RelV y u) :
   KV (kvs.map fun kv=>if kv.1=k then (kv.1,y) else kv) (vs.map fun kv=>if kv.1=k then (kv.1,u) else kv):=by
 unfold KV at r ⊢
 induction r with
 | nil=>exact .nil
 | @cons p q ps qs h t ih =>
   rw[List.map_cons,List.map_cons]
   refine .cons ?_ ih
   obtain⟨h1,h2⟩:=h
   by_cases e:p.1=k
   · rw[if_pos e,if_pos (h1.symm.trans e)];exact⟨h1,ry⟩
   · rw[if_neg e,if_neg (fun z=>e (h1.trans z))];exact⟨h1,h2⟩
theorem KV.put {kvs:List (κ×V)}{vs:List (κ×Value)}(r:KV kvs vs)(k:κ){y:V}{u:Value}(ry:RelV y u):KV (putK kvs k y) (stored vs k u):=by
 unfold putK stored
 rw[r.any k]
 by_cases e:(vs.any fun kv=>decide (kv.1=k))=true
 · rw[if_pos e,if_pos e];exact r.repl k ry
 · rw[if_neg e,if_neg e];exact Paired.snoc r ⟨rfl,ry⟩
theorem KV.drop {kvs:List (κ×V)}{vs:List (κ×Value)}(r:KV kvs vs)(k:κ):KV (Xbz kvs k) (without vs k):=by
 unfold KV at r ⊢
 unfold Xbz without
 induction r with
 | nil=>exact .nil
 | @cons p q ps qs h t ih =>
   obtain⟨h1,h2⟩:=h
   rw[List.filter_cons,List.filter_cons]
   by_cases e:p.1=k
   · have a:¬decide (p.1≠k)=true:=by simp [e]
     have b:¬decide (q.1≠k)=true:=by simp [h1.symm.trans e]
     rw[if_neg a,if_neg b];exact ih
   · have e':¬q.1=k:=fun z=>e (h1.trans z)
     have a:decide (p.1≠k)=true:=by simp [e]
     have b:decide (q.1≠k)=true:=by simp [e']
     rw[if_pos a,if_pos b];exact .cons ⟨h1,h2⟩ ih
theorem KV.keys {kvs:List (κ×V)}{vs:List (κ×Value)}(r:KV kvs vs):kvs.map (·.1)=vs.map (·.1):=by
 unfold KV at r
 induction r with
 | nil=>rfl
 | cons h t ih=>rw[List.map_cons,List.map_cons,ih,h.1]
theorem KV.length {kvs:List (κ×V)}{vs:List (κ×Value)}(r:KV kvs vs):kvs.length=vs.length:=Paired.length r
theorem Xiv (kvs:List (κ×V))(k:κ):(Xbz kvs k).length≤kvs.length:=List.length_filter_le _ _
end
theorem Xlx {P:Program}{w:World}{k:Key}{u:Value}(r:RelV (kV k) u):(Xas P w).is k u=true:=by
 cases k with
 | inl i=>obtain⟨t,e⟩:=(show ∃t,u=Value.int i t from r);subst e;exact Xle P w i t
 | inr x=>obtain⟨t,e⟩:=(show ∃t,u=Value.str x t from r);subst e;exact Xlg P w x t
theorem Xku {P:Program}{w:World}:∀{ks:List Key} {us:List Value},Vals (ks.map kV) us→ItemsAre (Xas P w) ks us
 | [],_,r=>by rw[List.map_nil] at r;cases r;exact .nil
 | k::ks,_,r=>by
   rw[List.map_cons] at r
   cases r with
   | cons h t=>exact .cons (Xlx h) (Xku t)
abbrev KT (H:Hp):List (List Key×V)→List (List Key×Addr×Value)→Prop:=Paired fun p q=>p.1=q.1∧H q.2.1=some (.tup (p.1.map kV))∧RelV p.2 q.2.2
theorem KT.val {H:Hp}{kvs:List (List Key×V)}{xs:List (List Key×Addr×Value)}(r:KT H kvs xs)(k:List Key):RelO (valV kvs k) ((atKey xs k).map (·.2)):=by
 induction r with
 | nil=>exact True.intro
 | @cons p q ps qs h t ih =>
   obtain⟨h1,_,h2⟩:=h
   by_cases e:p.1=k
   · have e':q.1=k:=h1.symm.trans e
     have b:atKey (q::qs) k=some q.2:=by simp [atKey,List.find?_cons,e']
     rw[Xcb e,b];exact h2
   · have e':¬q.1=k:=fun z=>e (h1.trans z)
     have b:atKey (q::qs) k=atKey qs k:=by simp [atKey,List.find?_cons,e']
     rw[Xbs e,b];exact ih
theorem KT.repl {H:Hp}{kvs:List (List Key×V)}{xs:List (List Key×Addr×Value)}(r:KT H kvs xs)(k:List Key){y:V}{u:Value}(ry:RelV y u) :
   KT H (kvs.map fun kv=>if kv.1=k then (kv.1,y) else kv) (xs.map (putAt k u)):=by
 induction r with
 | nil=>exact .nil
 | @cons p q ps qs h t ih =>
   rw[List.map_cons,List.map_cons]
   refine .cons ?_ ih
   obtain⟨h1,h2,h3⟩:=h
   unfold putAt
   by_cases e:p.1=k
   · rw[if_pos e,if_pos (h1.symm.trans e)];exact⟨h1,h2,ry⟩
   · rw[if_neg e,if_neg (fun z=>e (h1.trans z))];exact⟨h1,h2,h3⟩
theorem KT.put {H:Hp}{kvs:List (List Key×V)}{xs:List (List Key×Addr×Value)}(r:KT H kvs xs)(k:List Key){b:Addr}{y:V}{u:Value}(hb:H b=some (.tup (k.map kV)))(ry:RelV y u) :
   KT H (putK kvs k y) (storedH xs k b u):=by
 have e:(kvs.any fun kv=>decide (kv.1=k))=(atKey xs k).isSome:=by
   rw[Xem,(r.val k).isSome_eq,Option.isSome_map]
 unfold putK storedH
 rw[e]
 by_cases q:(atKey xs k).isSome=true
 · rw[if_pos q,if_pos q];exact r.repl k ry
 · rw[if_neg q,if_neg q];exact Paired.snoc r ⟨rfl,hb,ry⟩
theorem KT.keeps {H H':Hp}{kvs:List (List Key×V)}{xs:List (List Key×Addr×Value)}(r:KT H kvs xs)(ht:∀b ys,H b=some (.tup ys)→H' b=some (.tup ys)):KT H' kvs xs :=
 Paired.mapP r fun _ _ z=>⟨z.1,ht _ _ z.2.1,z.2.2⟩
section
variable {P:Program}{w:World}{H:Hp}{h:Heap}{a:Addr}
theorem XIb {u:HO}(ok:HOk P w H h)(e:Rd H a u):Xbq P w H h a u:=e.ok ok
theorem Xln {kvs:List (Key×V)}(ok:HOk P w H h)(e:Rd H a (.dK kvs)):kvs.length≤sizeLine∧(a==sysModules)=false∧∃vs,KV kvs vs∧h.DictOf (Xas P w) a vs :=
 show Xbq P w H h a (.dK kvs) from XIb ok e
theorem Xoi {kvs:List (Key×V)}(ok:HOk P w H h)(e:H a=some (.dK kvs)):kvs.length≤sizeLine∧(a==sysModules)=false∧∃vs,KV kvs vs∧h.DictOf (Xas P w) a vs:=Xln ok (.inl e)
theorem Xmm {ks:List Key}(ok:HOk P w H h)(e:H a=some (.tup (ks.map kV))):(tupleKind (Xas P w)).is h ks a:=by
 obtain⟨_,its,r,o,h1,h2,n,h3⟩:=(show Xbq P w H h a (.tup (ks.map kV)) from ok a _ e)
 exact⟨o,its.toArray,n,h1,h2,h3,by simpa using Xku r⟩
theorem Xpd {kvs:List (List Key×V)}(ok:HOk P w H h)(e:Rd H a (.dT kvs)):kvs.length≤sizeLine∧(a==sysModules)=false ∧
   ∃xs,KT H kvs xs∧h.DictOfH (tupleKind (Xas P w)) a xs:=by
 obtain⟨z,y,xs,r,o,es,ep,h1,h2,h3,h4,h5⟩:=(show Xbq P w H h a (.dT kvs) from XIb ok e)
 refine⟨z,y,xs,r,o,es,ep,h1,h2,h3,h4,fun x hx=>?_,h5⟩
 have all:∀{l:List (List Key×V)} {m:List (List Key×Addr×Value)},KT H l m→∀x∈m,(tupleKind (Xas P w)).is h x.1 x.2.1:=by
   intro l m q
   induction q with
   | nil=>intro x hx;exact nomatch hx
   | @cons p q ps qs hq t ih =>
     intro x hx
     rcases List.mem_cons.mp hx with e | hx
     · subst e
       exact Xmm ok (by rw[←hq.1];exact hq.2.1)
     · exact ih x hx
 exact all r x hx
theorem XNx {kvs:List (List Key×V)}(ok:HOk P w H h)(e:H a=some (.dT kvs)):kvs.length≤sizeLine∧(a==sysModules)=false ∧
   ∃xs,KT H kvs xs∧h.DictOfH (tupleKind (Xas P w)) a xs:=Xpd ok (.inl e)
end
def DGet (H:Hp)(a:Addr)(y:V)(r:Option V):Prop :=
 (∃kvs k,Rd H a (.dK kvs)∧y=kV k∧r=valV kvs k)∨∃kvs k b,Rd H a (.dT kvs)∧y = .ref b∧H b=some (.tup (k.map kV))∧r=valV kvs k
def DPut (H:Hp)(a:Addr)(y v:V)(H':Hp):Prop :=
 (∃kvs k,H a=some (.dK kvs)∧y=kV k∧kvs.length<sizeLine∧H'=upd H a (.dK (putK kvs k v))) ∨
 ∃kvs k b,H a=some (.dT kvs)∧y = .ref b∧H b=some (.tup (k.map kV))∧kvs.length<sizeLine∧H'=upd H a (.dT (putK kvs k v))
theorem DGet.k {H:Hp}{a:Addr}{kvs:List (Key×V)}{k:Key}(e:H a=some (.dK kvs)):DGet H a (kV k) (valV kvs k):=.inl ⟨kvs,k,.inl e,rfl,rfl⟩
theorem DGet.t {H:Hp}{a b:Addr}{kvs:List (List Key×V)}{k:List Key}(e:H a=some (.dT kvs))(eb:H b=some (.tup (k.map kV))):DGet H a (.ref b) (valV kvs k):=.inr ⟨kvs,k,b,.inl e,rfl,eb,rfl⟩
theorem DPut.k {H:Hp}{a:Addr}{kvs:List (Key×V)}{k:Key}{v:V}(e:H a=some (.dK kvs))(hl:kvs.length<sizeLine):DPut H a (kV k) v (upd H a (.dK (putK kvs k v))):=.inl ⟨kvs,k,e,rfl,hl,rfl⟩
theorem DPut.t {H:Hp}{a b:Addr}{kvs:List (List Key×V)}{k:List Key}{v:V}(e:H a=some (.dT kvs))(eb:H b=some (.tup (k.map kV)))(hl:kvs.length<sizeLine) :
   DPut H a (.ref b) v (upd H a (.dT (putK kvs k v))):=.inr ⟨kvs,k,b,e,rfl,eb,hl,rfl⟩
section
variable {X:Cx}{pins:List (Addr×Obj)}{σ:St}{H:Hp}{s:Shared}{a:Addr}{y v:V}{u r:Value}{o:Option V}{A:Around}{E:Value→Shared→Prop}
theorem Inv.big (I:Inv X pins σ H s):sysModules<s.heap.objs.size:=by
 have h:mainGlobals<s.heap.objs.size:=(I.mod.glob.keeps I.bk).lt
 exact Nat.lt_trans (by decide) h
theorem Xop {Q:Value→Shared→Prop}(hu:A.units+1<cLine)(I:Inv X pins σ H s)(g:DGet H a y (some v))(ry:RelV y u)(h:∀w' s',Inv X pins σ H s'→RelV v w'→Q w' s') :
   wpAny (model X.prog X.w) A (getItem (.ref a) u) Q E s:=by
 rcases g with ⟨kvs,k,e,ey,l⟩ | ⟨kvs,k,b,e,ey,eb,l⟩
 · subst ey
   obtain⟨z,hd,vs,rel,dd⟩:=Xln I.hok e
   obtain⟨w',hw,rw'⟩:=RelO.some_of (v:=v) (o:=valueAt vs k) (by rw[l];exact rel.val k)
   exact wpAny_getItem_of (Xlx ry) dd.mapOf hw (h w' _ (I.tok _) rw')
 · subst ey
   cases (show u=Value.ref b from ry)
   obtain⟨z,hd,xs,rel,dd⟩:=Xpd I.hok e
   obtain⟨w',hw,rw'⟩:=RelO.some_of (v:=v) (o:=(atKey xs k).map (·.2)) (by rw[l];exact rel.val k)
   obtain⟨p,hp,hp2⟩:=Option.map_eq_some_iff.mp hw
   refine wpAny_getItem_heap (tupleKind_room_in1 hu) (Xmm I.hok eb) dd hp ?_
   rw[hp2]
   exact h w' _ (I.tok _) rw'
theorem d_in {Q:Value→Shared→Prop}(hu:A.units+1<cLine)(I:Inv X pins σ H s)(g:DGet H a y o)(ry:RelV y u)(h:∀s',Inv X pins σ H s'→Q (.bool o.isSome) s') :
   wpAny (model X.prog X.w) A (compareOp .In u (.ref a)) Q E s:=by
 rcases g with ⟨kvs,k,e,ey,l⟩ | ⟨kvs,k,b,e,ey,eb,l⟩
 · subst ey
   obtain⟨z,hd,vs,rel,dd⟩:=Xln I.hok e
   refine wpAny_in_of (Xlx ry) hd dd.mapOf ?_
   rw[←(rel.val k).isSome_eq,←l]
   exact h _ (I.tok _)
 · subst ey
   cases (show u=Value.ref b from ry)
   obtain⟨z,hd,xs,rel,dd⟩:=Xpd I.hok e
   refine wpAny_in_heap (tupleKind_room_in1 hu) (Xmm I.hok eb) hd dd ?_
   have q:=(rel.val k).isSome_eq
   rw[Option.isSome_map] at q
   rw[←q,←l]
   exact h _ (I.tok _)
theorem Xhc {h':Heap}{t':Nat}{ob:HO}(I:Inv X pins σ H s)(mu:Mut (H a))(hs:Heap.SameBut a s.heap h')(he:∃q,h'.get? a=some q)(new:Xbq X.prog X.w (upd H a ob) h' a ob) :
   Inv X pins σ (upd H a ob) { s with heap:=h',toks:=t' } :=
 I.write (x:=a) (e:=a) mu (.inl rfl) (fun b q hb z=>(hs.2 b hb).trans z) he new
theorem Xmn {P:Program}{w:World}{H':Hp}{h':Heap}{kvs:List (Key×V)}{vs:List (Key×Value)}(z:kvs.length≤sizeLine)(hd:(a==sysModules)=false)(rel:KV kvs vs)(dd:h'.DictOf (Xas P w) a vs) :
   Xbq P w H' h' a (.dK kvs):=⟨z,hd,vs,rel,dd⟩
theorem Xqk {H':Hp}{Q:Unit→Shared→Prop}(hu:A.units+1<cLine)(I:Inv X pins σ H s)(g:DPut H a y v H')(ry:RelV y u)(rv:RelV v r)(h:∀s',Inv X pins σ H' s'→Q () s') :
   wpAny (model X.prog X.w) A (setItem (.ref a) u r) Q E s:=by
 rcases g with ⟨kvs,k,e,ey,l,eH⟩ | ⟨kvs,k,b,e,ey,eb,l,eH⟩
 · subst ey eH
   obtain⟨z,hd,vs,rel,dd⟩:=Xoi I.hok e
   have hz:vs.length≤sizeLine:=by rw[←rel.length];exact z
   have hl:(putK kvs k v).length≤sizeLine:=by have:=Xex kvs k v;omega
   refine wpAny_setItem_pairs (hsz:=hz) (Xlx ry) dd fun h' dd' hs=>h _ ?_
   have he:∃q,h'.get? a=some q:=let ⟨q,_,_,hq,_⟩:=dd';⟨q,hq⟩
   exact Xhc I (by rw[e];exact True.intro) hs he (Xmn hl hd (rel.put k rv) dd')
 · subst ey eH
   cases (show u=Value.ref b from ry)
   obtain⟨z,hd,xs,rel,dd⟩:=XNx I.hok e
   have hz:xs.length≤sizeLine:=by rw[←Paired.length rel];exact z
   have hl:(putK kvs k v).length≤sizeLine:=by have:=Xex kvs k v;omega
   refine wpAny_setItem_heap (hsz:=hz) (tupleKind_room_in1 hu) (Xmm I.hok eb) dd fun h' dd' hs=>h _ ?_
   obtain⟨q,es,ep,hq,h2,h3,h4,_,h5⟩:=dd'
   refine Xhc I (by rw[e];exact True.intro) hs ⟨q,hq⟩ ⟨hl,hd,_,(rel.put k eb rv).keeps fun c ys ec=>?_,q,es,ep,hq,h2,h3,h4,h5⟩
   rw[Xah (XOc ec e (fun z=>nomatch z))]
   exact ec
end
section
variable {X:Cx}{pins:List (Addr×Obj)}{σ:St}{H:Hp}{s:Shared}{a:Addr}{kvs:List (Key×V)}{k:Key}{u:Value}{A:Around}{E:Value→Shared→Prop}
theorem XHm {Q:Unit→Shared→Prop}(I:Inv X pins σ H s)(e:H a=some (.dK kvs))(ry:RelV (kV k) u)(l:(valV kvs k).isSome=true)(h:∀s',Inv X pins σ (upd H a (.dK (Xbz kvs k))) s'→Q () s') :
   wpAny (model X.prog X.w) A (delItem (.ref a) u) Q E s:=by
 obtain⟨z,hd,vs,rel,dd⟩:=Xoi I.hok e
 refine wpAny_delItem_slot dd.typeIs (by decide) PySem.F.slot_dict_delitem
   (call_meetsIn PySem.F.slot_dict_delitem dd.typeIs PySem.F.entry_dict_delitem (PySem.F.args_dict_delitem_2 _ _) (meets_dict_delitem_pairs (Xas X.prog X.w) a (Xlx ry)) ⟨vs,dd,by rw[←rel.length];exact z,by rw[←(rel.val k).isSome_eq];exact l,fun h' dd' hs=>h _ ?_⟩)
 have he:∃q,h'.get? a=some q:=let ⟨q,_,_,hq,_⟩:=dd';⟨q,hq⟩
 exact Xhc I (by rw[e];exact True.intro) hs he (Xmn (Nat.le_trans (Xiv kvs k) z) hd (rel.drop k) dd')
theorem XNc {v:V}{more:List Value}{Q:Value→Shared→Prop}(I:Inv X pins σ H s)(e:H a=some (.dK kvs))(ry:RelV (kV k) u)(l:valV kvs k=some v)(hm:more=[]∨∃x,more=[x])
   (h:∀w' s',Inv X pins σ (upd H a (.dK (Xbz kvs k))) s'→RelV v w'→Q w' s'):wpAny (model X.prog X.w) A (call (.builtin "dict.pop") (.ref a::u::more)) Q E s:=by
 obtain⟨z,hd,vs,rel,dd⟩:=Xoi I.hok e
 obtain⟨w',hw,rw'⟩:=RelO.some_of (v:=v) (o:=valueAt vs k) (by rw[←l];exact rel.val k)
 have hp:(keyPart u).isSome=true:=by
   cases k with
   | inl i=>obtain⟨t,q⟩:=(show ∃t,u=Value.int i t from ry);subst q;rfl
   | inr x=>obtain⟨t,q⟩:=(show ∃t,u=Value.str x t from ry);subst q;rfl
 have ha:argsOk "dict.pop" ⟨.ref a::u::more,[]⟩:=by
   rcases hm with q | ⟨x,q⟩
   · subst q;exact PySem.F.args_dict_pop_2 _ _
   · subst q;exact PySem.F.args_dict_pop_3 _ _ _
 refine call_meetsIn PySem.F.slot_dict_pop dd.typeIs PySem.F.entry_dict_pop ha (meets_dict_pop_there (Xas X.prog X.w) a (Xlx ry) more hm hp)
   ⟨vs,w',dd,by rw[←rel.length];exact z,hw,fun h' dd' hs=>h w' _ ?_ rw'⟩
 have he:∃q,h'.get? a=some q:=let ⟨q,_,_,hq,_⟩:=dd';⟨q,hq⟩
 exact Xhc I (by rw[e];exact True.intro) hs he (Xmn (Nat.le_trans (Xiv kvs k) z) hd (rel.drop k) dd')
theorem Xzi {Q:Value→Shared→Prop}(I:Inv X pins σ H s)(e:H a=some (.dK kvs))(h:∀s',Inv X pins σ (upd H a (.dK [])) s'→Q .none s'):wpAny (model X.prog X.w) A (call (.builtin "dict.clear") [.ref a]) Q E s:=by
 obtain⟨z,hd,vs,rel,dd⟩:=Xoi I.hok e
 refine call_meetsIn PySem.F.slot_dict_clear dd.typeIs PySem.F.entry_dict_clear (PySem.F.args_dict_clear_1 _) (meets_dict_clear (Xas X.prog X.w) a) ⟨vs,dd,by rw[←rel.length];exact z,fun h' dd' hs=>h _ ?_⟩
 have he:∃q,h'.get? a=some q:=let ⟨q,_,_,hq,_⟩:=dd';⟨q,hq⟩
 exact Xhc (t':=s.toks) I (by rw[e];exact True.intro) hs he (Xmn (Nat.zero_le _) hd .nil dd')
theorem XMz {Q:Value→Shared→Prop}(I:Inv X pins σ H s)(e:Rd H a (.dK kvs))(h:∀t s',Inv X pins σ H s'→Q (.int kvs.length t) s'):wpAny (model X.prog X.w) A (call (.builtin "len") [.ref a]) Q E s:=by
 obtain⟨z,hd,vs,rel,dd⟩:=Xln I.hok e
 refine call_len_dict hd dd (by rw[←rel.length];rw[sizeLine_eq] at z;omega) ?_
 rw[←rel.length]
 exact h _ _ (I.tok _)
theorem Xyv {Q:Bool→Shared→Prop}(I:Inv X pins σ H s)(e:Rd H a (.dK kvs))(h:∀s',Inv X pins σ H s'→Q (!kvs.isEmpty) s'):wpAny (model X.prog X.w) A (truthy (.ref a)) Q E s:=by
 obtain⟨z,hd,vs,rel,dd⟩:=Xln I.hok e
 refine wpAny_truthy_dict hd dd (by rw[←rel.length];rw[sizeLine_eq] at z;omega) ?_
 have q:kvs.isEmpty=vs.isEmpty:=by cases rel <;> rfl
 rw[←q]
 exact h _ (I.tok _)
end
def NoSl (i:Expr):Prop:=∀ov iv,subscripted i false ov iv=operate [ov,iv] (getItem ov iv)
theorem XBy {prog:Program}{w:World}{A:Around}{E:Value→Shared→Prop}{s:Shared}{env:Env}{value slice:Expr}{pos:Pos}{T id:String}{Q:Value→Shared→Prop}
   (hl:typeLookup (.type T) "__getitem__"=pure (some (.builtin id))) (hs:NoSl slice)
   (h:wpAny (model prog w) A (eval value env) (fun o s₁=>wpAny (model prog w) A (eval slice env) (fun i s₂=>s₂.TypeIs o T∧wpAny (model prog w) A (getItem o i) Q E s₂) E s₁) E s) :
   wpAny (model prog w) A (eval (.Subscript value slice pos) env) Q E s:=by
 refine Subscript_ (wpAny_mono h (fun o s₁ h₁=>wpAny_mono h₁ (fun i s₂ h₂=>?_) fun _ _ x=>x) fun _ _ x=>x)
 obtain⟨hT,h₂⟩:=h₂
 unfold subscriptTail
 refine wpAny_bind ?_
 rw[getitemInPython_of_ne hT.not_modules]
 refine wpAny_bind (wpAny_specialOf hT hl ?_)
 have fin:wpAny (model prog w) A (subscripted slice false o i) (fun r s₃=>wpAny (model prog w) A (letTemporaryGo value o r >>= fun _=>pure r) Q E s₃) E s₂:=by
   rw[hs o i]
   exact wpAny_operating (wpAny_mono h₂ (fun r s₃ h₃=>wpAny_bind (wpAny_letTemporaryGo (wpAny_pure h₃))) fun _ _ x=>x)
 first
   | exact wpAny_pure (wpAny_bind fin)
   | exact wpAny_bind (wpAny_pure (wpAny_bind fin))
   | exact wpAny_bind fin
theorem Xlz {X:Cx}{pins:List (Addr×Obj)}{σ:St}{H:Hp}{s:Shared}{a:Addr}{y:V}{o:Option V}(I:Inv X pins σ H s)(g:DGet H a y o):s.TypeIs (.ref a) "dict":=by
 rcases g with ⟨kvs,k,e,_,_⟩ | ⟨kvs,k,b,e,_,_,_⟩
 · obtain⟨_,_,vs,_,dd⟩:=Xln I.hok e
   exact dd.typeIs
 · obtain⟨_,_,xs,_,dd⟩:=Xpd I.hok e
   exact dd.typeIs
def XIv (td ty:TE):TE:=fun σ H Q=>td σ H fun x H1=>ty σ H1 fun y H2=>∃a v,x = .ref a∧DGet H2 a y (some v)∧Q v H2
def tDIn (ty td:TE):TE:=fun σ H Q=>ty σ H fun y H1=>td σ H1 fun x H2=>∃a o,x = .ref a∧DGet H2 a y o∧Q (.bl o.isSome) H2
def XKt (td ty tv:TE):TS:=fun D σ H=>tv σ H fun v H1=>td σ H1 fun x H2=>ty σ H2 fun y H3=>∃a H4,x = .ref a∧DPut H3 a y v H4∧D.nx σ H4
section
variable {X:Cx}{o i e value:Expr}{pos pos' tpos:Pos}{td ty tv:TE}
theorem Xcs (hu:X.A.units+1<cLine)(ho:PE X o td)(hi:PE X i ty)(hs:NoSl i):PE X (.Subscript o i pos) (XIv td ty):=by
 intro pins s σ H Q I h
 refine XBy PySem.F.slot_dict_getitem.lookup hs (thn (ho pins s σ H _ I h) fun u s1 ⟨x,H1,I1,rx,q1⟩=>thn (hi pins s1 σ H1 _ I1 q1) fun iv s2 ⟨y,H2,I2,ry,a,v,ex,g,q2⟩=>?_)
 subst ex
 obtain rfl:u=Value.ref a:=rx
 exact⟨Xlz I2 g,Xop hu I2 g ry fun w' s3 I3 rw'=>⟨v,H2,I3,rw',q2⟩⟩
theorem Xvv (hu:X.A.units+1<cLine)(hi:PE X i ty)(ho:PE X o td):PC X .In i o (tDIn ty td):=by
 intro pins s σ H Q I h
 refine thn (hi pins s σ H _ I h) fun iv s1 ⟨y,H1,I1,ry,q1⟩=>thn (ho pins s1 σ H1 _ I1 q1) fun u s2 ⟨x,H2,I2,rx,a,ov,ex,g,q2⟩=>?_
 subst ex
 obtain rfl:u=Value.ref a:=rx
 exact d_in hu I2 g ry fun s3 I3=>⟨.bl ov.isSome,H2,I3,rfl,q2⟩
theorem Xlf (hu:X.A.units+1<cLine)(ho:PE X o td)(hi:PE X i ty)(hv:PE X value tv)(hs:swapsWith value (some (.Subscript o i pos')) pos.line X.env=pure false) :
   PS X (.Assign [.Subscript o i pos'] value pos) (XKt td ty tv):=by
 intro pins s σ H D I h
 refine wpAny_Assign_Subscript (thn (hv pins s σ H _ I h) fun r s1 ⟨v,H1,I1,rv,q1⟩=>thn (ho pins s1 σ H1 _ I1 q1) fun u s2 ⟨x,H2,I2,rx,q2⟩=>thn (hi pins s2 σ H2 _ I2 q2) fun iv s3 ⟨y,H3,I3,ry,a,H4,ex,g,q3⟩=>?_) hs
 subst ex
 obtain rfl:u=Value.ref a:=rx
 exact Xqk hu I3 g ry rv fun s4 I4=>⟨σ,H4,I4,q3⟩
end
theorem Xuk {P:Program}{w:World}{H:Hp}(h:Heap)(hb:sysModules<h.objs.size):Xbq P w H (h.push { cls:=.type "dict",data:=.dict #[] }) h.objs.size (.dK []) :=
 ⟨Nat.zero_le _,beq_eq_false_iff_ne.mpr (Ne.symm (Nat.ne_of_lt hb)),[],.nil,Heap.DictOf.new h⟩
def Xwx:TE:=fun _ H Q=>∀p,H p=none→Q (.ref p) (upd H p (.dK []))
section
variable {X:Cx}{pos:Pos}
theorem Xmu:PE X (.Dict [] [] pos) Xwx:=fun pins s σ H Q I h =>
 wpAny_Dict_empty ⟨.ref s.heap.objs.size,_,I.laid (a:=s.heap.objs.size) (o:=.dK []) (t':=s.toks) (fun _ _ q=>Heap.get?_push_of_some _ q) (Nat.le_refl _) (Xuk s.heap I.big),rfl,h _ (I.hok.fresh (Nat.le_refl _))⟩
end
structure M1 (X:Cx)(o:Expr)(m:Str)(apos:Pos)(e:Expr)(cpos:Pos):Prop where
 base:attributeBase o m X.env (eval o X.env)=eval o X.env
 few:((backTo cpos (starEach [e] X.env)).all (fun x=>!x.1)&&(backToKw cpos (keywordEach [] X.env)).all (fun x=>x.1.isSome)
   && decide (([e]:List Expr).length+([]:List Keyword).length+(if ([]:List Keyword).isEmpty then 0 else 1)<30))=true
 line:(apos.endLine==cpos.line)=true
 trees:backTo cpos (starEach [e] X.env)=[(false,eval e X.env)]
structure M2 (X:Cx)(o:Expr)(m:Str)(apos:Pos)(e f:Expr)(cpos:Pos):Prop where
 base:attributeBase o m X.env (eval o X.env)=eval o X.env
 few:((backTo cpos (starEach [e,f] X.env)).all (fun x=>!x.1)&&(backToKw cpos (keywordEach [] X.env)).all (fun x=>x.1.isSome)
   && decide (([e,f]:List Expr).length+([]:List Keyword).length+(if ([]:List Keyword).isEmpty then 0 else 1)<30))=true
 line:(apos.endLine==cpos.line)=true
 trees:backTo cpos (starEach [e,f] X.env)=[(false,eval e X.env),(false,eval f X.env)]
def IsD (H:Hp)(a:Addr):Prop:=(∃kvs,Rd H a (.dK kvs))∨∃kvs,Rd H a (.dT kvs)
theorem XDi {X:Cx}{pins:List (Addr×Obj)}{σ:St}{H:Hp}{s:Shared}{a:Addr}(I:Inv X pins σ H s)(d:IsD H a) :
   s.TypeIs (.ref a) "dict"∧(∀b,Value.ref a = .ref b→∃ob,s.heap.get? b=some ob∧ob.dict=none)∧(a==sysModules)=false:=by
 rcases d with ⟨kvs,e⟩ | ⟨kvs,e⟩
 · obtain⟨_,hd,vs,_,dd⟩:=Xln I.hok e
   refine⟨dd.typeIs,fun b q=>?_,hd⟩
   cases q
   obtain⟨ob,_,_,h1,h2,_⟩:=dd
   exact⟨ob,h1,h2.2.1⟩
 · obtain⟨_,hd,xs,_,dd⟩:=Xpd I.hok e
   refine⟨dd.typeIs,fun b q=>?_,hd⟩
   cases q
   obtain⟨ob,_,_,h1,h2,_⟩:=dd
   exact⟨ob,h1,h2.2.1⟩
section
variable {X:Cx}{pins:List (Addr×Obj)}{σ:St}{H:Hp}{s:Shared}{a:Addr}{y d:V}{u r:Value}{o:Option V}{A:Around}{E:Value→Shared→Prop}
end
def Xwl (td ty:TE):TE:=fun σ H Q=>td σ H fun x H1=>∃a,x = .ref a∧IsD H1 a∧ty σ H1 fun y H2=>∃kvs k v,H2 a=some (.dK kvs)∧y=kV k∧valV kvs k=some v∧Q v (upd H2 a (.dK (Xbz kvs k)))
section
variable {X:Cx}{o e f:Expr}{apos cpos:Pos}{td ty tx:TE}
theorem Xnj (ho:PE X o td)(he:PE X e ty)(m:M1 X o "pop" apos e cpos):PE X (.Call (.Attribute o "pop" apos) [e] [] cpos) (Xwl td ty):=by
 intro pins s σ H Q I h
 refine wpAny_Call_method m.base m.few m.line PySem.F.plainAttrs_dict PySem.F.slot_dict_pop PySem.F.type_dict_pop (thn (ho pins s σ H _ I h) fun u s1 ⟨x,H1,I1,rx,a,ex,d,q1⟩=>?_)
 subst ex
 obtain rfl:u=Value.ref a:=rx
 obtain⟨t1,t2,_⟩:=XDi I1 d
 refine⟨t1,t2,?_⟩
 rw[m.trees]
 refine Calls.callWith_builtin rfl (Calls.evalArgs_plain (Calls.spliced_cons (thn (he pins s1 σ H1 _ I1 q1) fun iv s2 ⟨y,H2,I2,ry,kvs,k,v,ea,ey,l,q2⟩=>Calls.spliced_nil ?_)))
 subst ey
 exact XNc I2 ea ry l (.inl rfl) fun w' s3 I3 rw'=>⟨v,_,I3,rw',q2⟩
end
section
variable {X:Cx}{pins:List (Addr×Obj)}{σ:St}{H:Hp}{s:Shared}{a:Addr}{kvs:List (Key×V)}{A:Around}{E:Value→Shared→Prop}
end
section
variable {X:Cx}{pins:List (Addr×Obj)}{σ:St}{H:Hp}{s:Shared}{a:Addr}{y:V}{u:Value}{A:Around}{E:Value→Shared→Prop}
end
end L2
namespace L2
open PySem PySem.Spec PyProof.Rows
section
variable {X:Cx}
theorem Xru:Xhs X (.builtin "len") (fun xs H Q=>∃a kvs,xs=[V.ref a]∧H a=some (.dK kvs)∧Q (.int kvs.length) H):=by
 intro pins s σ H xs us Q I r h
 obtain⟨a,kvs,rfl,ha,q⟩:=h
 obtain⟨u,rfl,ru⟩:=Xsm r
 cases ru
 exact XMz I (.inl ha) fun t s' I'=>⟨.int kvs.length,H,I',⟨t,rfl⟩,q⟩
end
section
variable {κ:Type}[DecidableEq κ]
theorem Xus {kvs:List (κ×V)}{k:κ}(h:valV kvs k=none):¬k∈kvs.map (·.1):=by
 intro m
 obtain⟨p,hp,e⟩:=List.mem_map.mp m
 have q:(kvs.any fun kv=>decide (kv.1=k))=true:=List.any_eq_true.mpr ⟨p,hp,decide_eq_true e⟩
 rw[Xem,h] at q
 exact absurd q (by simp)
theorem Xma:∀{l:List κ} {k:κ},l.Nodup→¬k∈l→(l++[k]).Nodup
 | [],k,_,_=>by simp
 | a::r,k,h,hk=>by
   obtain⟨h1,h2⟩:=List.nodup_cons.mp h
   show (a::(r++[k])).Nodup
   refine List.nodup_cons.mpr ⟨fun m=>?_,Xma h2 fun m=>hk (List.mem_cons.mpr (Or.inr m))⟩
   rcases List.mem_append.mp m with q | q
   · exact h1 q
   · exact hk (List.mem_cons.mpr (Or.inl (List.mem_singleton.mp q).symm))
theorem Xyc {kvs:List (κ×V)}{k:κ}(v:V)(hn:(kvs.map (·.1)).Nodup)(h:valV kvs k=none):((putK kvs k v).map (·.1)).Nodup:=by
 rw[Xjg v h,List.map_append]
 exact Xma hn (Xus h)
theorem Xpf {p:κ×V}{r:List (κ×V)}{k:κ}(e:p.1=k):Xbz (p::r) k=Xbz r k:=by
 unfold Xbz
 rw[List.filter_cons,if_neg (by simp [e])]
theorem Xpk {p:κ×V}{r:List (κ×V)}{k:κ}(e:¬p.1=k):Xbz (p::r) k=p::Xbz r k:=by
 unfold Xbz
 rw[List.filter_cons,if_pos (by simp [e])]
theorem Xqq {kvs:List (κ×V)}{k:κ}{p:κ×V}(h:p∈Xbz kvs k):p∈kvs:=(List.mem_filter.mp h).1
theorem Xik:∀{kvs:List (κ×V)} {k:κ},(kvs.map (·.1)).Nodup→((Xbz kvs k).map (·.1)).Nodup
 | [],_,_=>List.nodup_nil
 | p::r,k,h=>by
   have h:(p.1::r.map (·.1)).Nodup:=h
   obtain⟨h1,h2⟩:=List.nodup_cons.mp h
   by_cases e:p.1=k
   · rw[Xpf e]
     exact Xik h2
   · rw[Xpk e]
     show (p.1::(Xbz r k).map (·.1)).Nodup
     refine List.nodup_cons.mpr ⟨fun m=>h1 ?_,Xik h2⟩
     obtain⟨q,hq,eq⟩:=List.mem_map.mp m
     exact List.mem_map.mpr ⟨q,Xqq hq,eq⟩
end
end L2
set_option Elab.async false
set_option linter.all false
set_option maxRecDepth 100000
set_option maxHeartbeats 4000000
namespace Stow
open PySem L2 PyProof.Rows
def CShl (i j:Int):Prop:=0≤j∧j≤1000∧i.natAbs<2^220
section
variable {X:Cx}
theorem Xps:OpR X (binaryOp .LShift) (rI CShl fun i j=>.int (i*2^j.toNat)):=opI fun i j _ _ _ _ _ hc q =>
 lshift_int hc.1 (by
   obtain⟨h0,h1,h2⟩:=hc
   have:=PyProof.Rows.intBits_le h2
   omega) q
end
theorem Xqw (n:Int):Builtin.bitOr (n*2) 1=n*2+1:=by
 rw[PyProof.Rows.bitOr_and]
 have e:Builtin.bitAnd (n*2) 1=(n*2)%2:=by rw[bitAnd_m1]
 rw[e]
 omega
end Stow
set_option Elab.async false
set_option linter.all false
set_option maxRecDepth 100000
set_option maxHeartbeats 4000000
namespace Stow
open PySem L2 PyProof.Rows
section
variable {prog:Program}{w:World}{A:Around}{R:Result→Shared→Prop}{s:Shared}
theorem Xol {elt tgt src:Expr}{cs:List Expr}{sc:Scope}{ps:Pos}{itv accv:Value}{ev:Env}(J:Nat→Shared→Prop)
   (step:∀k t,J k t→wpAny (model prog w) A (pyNext itv) (fun r t1=>match r with
     | none=>R (.ok .next) t1
     | some x=>wpAny (model prog w) A (letOwnedTupleGo tgt itv x) (fun _ t2=>wpAny (model prog w) A (assign tgt ev x) (fun _ t3 =>
         wpAny (model prog w) A (forIn cs true fun c r=>if r=true then do let ok ←isTrue c ev (eval c ev);pure (ForInStep.yield ok) else pure (ForInStep.yield r)) (fun good t4 =>
           if good=true then wpAny (model prog w) A (eval elt ev) (fun y t5=>wpAny (model prog w) A (call (.builtin "list.append") [accv,y]) (fun _ t6=>∃j,j<k∧J j t6) (notedBy (model prog w) A ev fun e t'=>R (.error e) t') t5) (notedBy (model prog w) A ev fun e t'=>R (.error e) t') t4
           else ∃j,j<k∧J j t4) (notedBy (model prog w) A ev fun e t'=>R (.error e) t') t3) (notedBy (model prog w) A ev fun e t'=>R (.error e) t') t2) (notedBy (model prog w) A ev fun e t'=>R (.error e) t') t1) (notedBy (model prog w) A ev fun e t'=>R (.error e) t') t)
   (k0:Nat) (j0:J k0 s):codeAny (model prog w) A (.compLoop (.ListComp elt [⟨tgt,src,cs,0⟩] sc ps) 0 itv accv ev) R s:=by
 refine codeAny_loop rfl J (fun k t hJ=>?_) k0 j0
 show wpAny _ A ((compTurn (.ListComp elt [⟨tgt,src,cs,0⟩] sc ps) 0 itv accv ev).onRaise (fun x=>do noteFrame x ev;theTreesLotGoes x)) _ _ t
 refine wpAny_noted ?_
 rw[compTurn_list]
 refine wpAny_bind (wpAny_standAt (wpAny_bind (wpAny_mono (step k t hJ) (fun r t1 g1=>?_) fun _ _ z=>z)))
 cases r with
 | none=>exact wpAny_pure g1
 | some x =>
   refine wpAny_bind (wpAny_mono g1 (fun _ t2 g2=>?_) fun _ _ z=>z)
   refine wpAny_bind (wpAny_mono g2 (fun _ t3 g3=>?_) fun _ _ z=>z)
   refine wpAny_bind (wpAny_mono g3 (fun good t4 g4=>?_) fun _ _ z=>z)
   cases good with
   | false=>exact wpAny_pure ⟨rfl,g4⟩
   | true=>exact wpAny_bind (wpAny_bind (wpAny_mono g4 (fun y t5 g5=>wpAny_bind (wpAny_mono g5 (fun _ t6 g6=>wpAny_pure (wpAny_pure ⟨rfl,g6⟩)) fun _ _ z=>z)) fun _ _ z=>z))
end
theorem Xfr {env:Env}:∀(names:List (Str×NameKind)) (acc:List (Str×Addr)),(∀y∈names,y.2 = .free→∃c,env.cells.lookup y.1=some c)→(∀x c,acc.lookup x=some c→env.cells.lookup x=some c) →
   ∃cl,(forIn names acc fun x r=>(do let (name,kind):=x;if (kind==NameKind.free)=true then do let c ←cellOf env name;pure (ForInStep.yield ((name,c)::r)) else pure (ForInStep.yield r)):Sem (List (Str×Addr)))=pure cl ∧
     (∀x c,cl.lookup x=some c→env.cells.lookup x=some c)∧(∀y∈names,y.2 = .free→∃c,cl.lookup y.1=some c)∧(∀x c,acc.lookup x=some c→∃c',cl.lookup x=some c')
 | [],acc,_,ha=>⟨acc,by simp,ha,fun y hy=>by simp at hy,fun x c e=>⟨c,e⟩⟩
 | (n,k)::r,acc,h,ha=>by
   by_cases hk:k = .free
   · obtain⟨c,hc⟩:=h (n,k) List.mem_cons_self hk
     obtain⟨cl,e1,e2,e3,e4⟩:=Xfr r ((n,c)::acc) (fun y hy=>h y (List.mem_cons_of_mem _ hy)) (fun x d e=>by
       by_cases hx:x=n
       · subst hx
         rw[List.lookup_cons_self] at e
         cases e
         exact hc
       · rw[List.lookup_cons,show (x==n)=false by simpa using hx] at e
         exact ha x d e)
     refine⟨cl,?_,e2,fun y hy hf=>?_,fun x d e=>?_⟩
     · rw[List.forIn_cons]
       subst hk
       have ec:cellOf env n=pure c:=by unfold cellOf;rw[hc]
       simp only [beq_self_eq_true,if_true,ec,pure_bind]
       exact e1
     · rcases List.mem_cons.mp hy with z | z
       · subst z
         exact e4 n c (by rw[List.lookup_cons_self])
       · exact e3 y z hf
     · by_cases hx:x=n
       · subst hx
         exact e4 x c (by rw[List.lookup_cons_self])
       · exact e4 x d (by rw[List.lookup_cons,show (x==n)=false by simpa using hx];exact e)
   · obtain⟨cl,e1,e2,e3,e4⟩:=Xfr r acc (fun y hy=>h y (List.mem_cons_of_mem _ hy)) ha
     refine⟨cl,?_,e2,fun y hy hf=>?_,e4⟩
     · rw[List.forIn_cons]
       have:(k==NameKind.free)=false:=by simpa using hk
       simp only [this,Bool.false_eq_true,if_false,pure_bind]
       exact e1
     · rcases List.mem_cons.mp hy with z | z
       · subst z
         exact absurd hf hk
       · exact e3 y z hf
theorem Xif {scope:Scope}{env:Env}(h:∀y∈scope.names,y.2 = .free→∃c,env.cells.lookup y.1=some c) :
   ∃cl,closureFor scope env=pure cl∧(∀x c,cl.lookup x=some c→env.cells.lookup x=some c)∧(∀y∈scope.names,y.2 = .free→∃c,cl.lookup y.1=some c):=by
 obtain⟨cl,e1,e2,e3,_⟩:=Xfr scope.names [] h (fun x c e=>by simp at e)
 refine⟨cl,?_,e2,e3⟩
 unfold closureFor
 simp only [bind_pure] at *
 exact e1
section
variable {X:Cx}
abbrev Cx.blockG (X:Cx)(scope:Scope)(cl:List (Str×Addr))(C:Addr)(N:List Str)(s₀:Shared)(H₀:Hp)(ex:List Addr):Cx :=
 { X with N:=N,s₀:=s₀,H₀:=H₀,env:=compEnvC scope cl C X.env,outer:=X.stack,stack:=X.stack,ex:=ex,fn:=fun _=>false,pn:=[],xe:=fun _ _=>False }
theorem Xot {pins:List (Addr×Obj)}{σ:L2.St}{H:Hp}{s:Shared}{scope:Scope}{cl:List (Str×Addr)}{C:Addr}{N:List Str}{fp:List Addr}(I:Inv X pins σ H s)(hk:scope.kind = .function)(hC:s.heap.objs.size≤C)
   (hcl:∀x c,cl.lookup x=some c→X.env.cells.lookup x=some c) (hhas:∀y,(relabel scope X.env).names.lookup y=some .cell∨(relabel scope X.env).names.lookup y=some .free→∃c,cl.lookup y=some c)
   (ho:∀b∈fp,∃o,s.heap.get? b=some o∧∀v,o.data≠.cell v) (hf:∀b∈fp,FpOk X pins H b) :
   (Cx.blockG X scope cl C N s H fp).Ok where
 mod:=I.ok.mod
 kind:=hk
 glob:=I.ok.glob
 blt:=I.ok.blt
 above:=hC
 inj:=fun x y c e1 e2=>I.ok.inj x y c (hcl x c e1) (hcl y c e2)
 has:=fun y e=>hhas y e
 cab:=fun _ _ e=>nomatch e
 hd:=I.ok.hd
 frames:=I.ok.frames
 stk:=.inl rfl
 exf:=fun b hb=>⟨fun z=>by
   obtain⟨o,e,_⟩:=ho b hb
   have:=Nat.lt_of_lt_of_le (Heap.lt_size e) hC
   rw[z] at this
   exact Nat.lt_irrefl _ this,fun x c e=>(hf b hb).2.2.2.2.1 x c (hcl x c e)⟩
 bs:=I.bs
 bsz:=Nat.le_trans I.ok.bsz I.sz
 noex:=fun b o e hb=>by
   rcases(hf b hb).2.2.2.1 with z | z
   · exact I.ok.noex b o e z
   · exact absurd (Nat.lt_of_lt_of_le (Heap.lt_size (I.ok.bs b o e).1) z) (Nat.lt_irrefl _)
 exfs:=fun b hb z=>by
   rcases List.mem_cons.mp (I.stkSub b z) with e | e
   · exact(hf b hb).2.1 e
   · exact(hf b hb).2.2.1 e
 funs:=I.stack
 frf:=I.stkFree
def Xrc (n:Nat)(fs:L2.St)(J:It)(g:TG)(tt:TT)(te:TE)(Q:VK)(H1:Hp):Prop:=∀D,H1 D=none→∃W:Nat→Nat→List V→Hp→Prop,(∃m,W 0 m [] (upd H1 D (.lst [])))∧∀i m ys H2,W i m ys H2 →
 (J.stop i H2∧Q (.ref D) H2)∨(J.go i H2∧∀x H3,J.yld i H2 x H3→∀τ:L2.St,τ.length=n→g x (τ++fs) H3 fun σ1 H4=>(∃τ':L2.St,τ'.length=n∧σ1=τ'++fs)∧tt σ1 H4 fun b H5 =>
   if b=true then te σ1 H5 fun y H6=>H6 D=some (.lst ys)∧ys.length<sizeLine∧∃m',m'<m∧W (i+1) m' (ys++[y]) (upd H6 D (.lst (ys++[y]))) else ∃m',m'<m∧W (i+1) m' ys H5)
def Xno (n:Nat)(is:List Nat)(wi:TI)(g:TG)(tt:TT)(te:TE):TE:=fun σ H Q=>wi σ H fun J H1=>Xrc n (is.map fun k=>σ.getD k none) J g tt te Q H1
def Xhg (X:Cx)(scope:Scope)(F:List Str)(is:List Nat):Prop:=F.length=is.length∧∀(j:Nat) (y:Str) (k:Nat),F[j]?=some y→is[j]?=some k→X.N[k]?=some y∧X.env.kindOf y=some .cell∧(relabel scope X.env).names.lookup y=some .cell
theorem Xha {elt iter tg:Expr}{pos:Pos}{ifs:List Expr}{scope:Scope}{O F:List Str}{is:List Nat}{cl:List (Str×Addr)}{g:TG}{tt:TT}{te:TE}{pins:List (Addr×Obj)}{σ:L2.St}{s2:Shared}{H2:Hp}{it:Addr}{fp:List Addr}{tn:Nat→Heap→Prop}{J:It}{Q:VK}{RR:Value→Addr→Result→Shared→Prop}
   (hc:X.calm=true) (hkind:scope.kind = .function) (hcell:∀y∈scope.names,y.2≠.cell)
   (hcl:∀x c,cl.lookup x=some c→X.env.cells.lookup x=some c) (hhas:∀y,(relabel scope X.env).names.lookup y=some .cell∨(relabel scope X.env).names.lookup y=some .free→∃c,cl.lookup y=some c) (hF:Xhg X scope F is)
   (hG:∀cl C s₀ H₀ ex,PG (Cx.blockG X scope cl C (O++F) s₀ H₀ ex) tg g) (hT:∀cl C s₀ H₀ ex,PTs (Cx.blockG X scope cl C (O++F) s₀ H₀ ex) ifs tt) (hE:∀cl C s₀ H₀ ex,PE (Cx.blockG X scope cl C (O++F) s₀ H₀ ex) elt te)
   (I2:Inv X pins σ H2 s2) (T:Turn X.prog X.w X.K tg J fp it tn) (st2:tn 0 s2.heap) (f2:∀b∈fp,FpOk X pins H2 b)
   (h:Xrc O.length (is.map fun k=>σ.getD k none) J g tt te Q H2)
   (hRR:∀D C H' s',Inv X pins σ H' s'→FpOk X pins H' C→(∃m,s'.heap.Ns C m)→Q (.ref D) H'→RR (.ref D) C (.ok .next) s') :
   wpAny (model X.prog X.w) X.A (newList []) (fun acc s₃=>wpAny (model X.prog X.w) X.A (newFunctionEnv scope X.env.globals cl [] X.env.qual none .none (some X.env)) (fun cenv s₄ =>
     codeAny (model X.prog X.w) X.A (.compStart (.ListComp elt [⟨tg,iter,ifs,0⟩] scope pos) 0 (.ref it) acc { cenv with scope:=relabel scope X.env }) (RR acc cenv.locals) s₄) X.xe s₃) X.xe s2:=by
 refine wpAny_newObj_type (wpAny_newFunctionEnv hcell (by intro y hy;simp at hy) (fun h₁ hns₁ hsb₁=>?_) hkind)
 dsimp only at hns₁ hsb₁ ⊢
 generalize hG0:s2.heap.push { cls:=.type "list",dict:=none,data:=.seq ([]:List Value).toArray }=G at hns₁ hsb₁ ⊢
 have hCs:G.objs.size=s2.heap.objs.size+1:=by rw[←hG0,Heap.size_push]
 have hDC:s2.heap.objs.size≠G.objs.size:=by rw[hCs];exact Nat.ne_of_lt (Nat.lt_succ_self _)
 have hCle:s2.heap.objs.size≤G.objs.size:=by rw[hCs];exact Nat.le_succ _
 have old:∀b o,s2.heap.get? b=some o→h₁.get? b=some o:=fun b o e=>hsb₁.extBut b o (by rw[hCs];exact Nat.ne_of_lt (Nat.lt_succ_of_lt (Heap.lt_size e))) (Heap.get?_push_of_some _ (hG0▸Heap.get?_push_of_some _ e))
 have eD:h₁.get? s2.heap.objs.size=some { cls:=.type "list",dict:=none,data:=.seq ([]:List Value).toArray }:=hsb₁.extBut _ _ hDC (Heap.get?_push_of_some _ (hG0▸Heap.get?_push_size _ rfl))
 have nD:H2 s2.heap.objs.size=none:=I2.hok.fresh (Nat.le_refl _)
 have nC:H2 G.objs.size=none:=I2.hok.fresh hCle
 obtain⟨W,⟨m0,w0⟩,turn⟩:=h s2.heap.objs.size nD
 generalize efs:(is.map fun k=>σ.getD k none)=fs at turn
 have fre:∀b∈fp,upd H2 s2.heap.objs.size (.lst []) b=none:=fun b hb=>by
   obtain⟨o,e,_⟩:=T.obj _ _ st2 b hb
   rw[Xah (Nat.ne_of_lt (Heap.lt_size e))]
   exact(f2 b hb).1
 have loop:∀s4:Shared,s4={ s2 with heap:=h₁,toks:=s2.toks+([]:List (Str×Value)).length } →
     codeAny (model X.prog X.w) X.A (.compLoop (.ListComp elt [⟨tg,iter,ifs,0⟩] scope pos) 0 (.ref it) (.ref s2.heap.objs.size) (compEnvC scope cl G.objs.size X.env)) (RR (.ref s2.heap.objs.size) G.objs.size) s4:=by
   rintro s4 rfl
   have ok:=Xot (N:=O++F) I2 hkind hCle hcl hhas (T.obj _ _ st2) f2
   have IB:Inv (Cx.blockG X scope cl G.objs.size (O++F) s2 H2 fp) [] (List.replicate O.length none++fs) (upd H2 s2.heap.objs.size (.lst [])) { s2 with heap:=h₁,toks:=s2.toks+([]:List (Str×Value)).length }:=by
     refine⟨ok,rfl,I2.bare,Un.laid old (Nat.le_refl _) nD,⟨_,hns₁,fun i y v e1 e2 _=>?_⟩,(fun x c e=>?_),?_,(fun x c e=>?_),(fun p hp=>nomatch hp),I2.hok.laid old (Nat.le_refl _) ⟨Nat.zero_le _,[],0,.nil,eD⟩,?_⟩
     · have e1:(O++F)[i]?=some y:=e1
       by_cases hi:i<O.length
       · rw[List.getElem?_append_left (by rw[List.length_replicate];exact hi),List.getElem?_replicate,if_pos hi] at e2
         cases e2
       · rw[List.getElem?_append_right (by omega)] at e1
         rw[List.getElem?_append_right (by rw[List.length_replicate];omega),List.length_replicate,←efs,List.getElem?_map] at e2
         obtain⟨k,ek,ev⟩:=Option.map_eq_some_iff.mp e2
         obtain⟨g1,g2,g3⟩:=hF.2 _ _ _ e1 ek
         have es:σ[k]?=some (some v):=by
           rw[List.getD_eq_getElem?_getD] at ev
           cases q:σ[k]? with
           | none=>rw[q] at ev;cases ev
           | some z=>rw[q] at ev;exact congrArg some ev
         obtain⟨m,hm,hl⟩:=I2.loc
         obtain⟨u,ru,lk⟩:=hl k y v g1 es (.inr (.inl g2))
         refine⟨u,ru,.inr ⟨.inl g3,?_⟩⟩
         rcases lk with ⟨z,_⟩ | ⟨_,c,c1,o,c2,c3⟩
         · rw[g2] at z;cases z
         · obtain⟨c',e'⟩:=hhas y (.inl g3)
           have:=hcl y c' e'
           rw[c1] at this
           cases this
           exact⟨c,e',o,old c o c2,c3⟩
     · obtain⟨v,o,c2,c3⟩:=I2.cell x c (hcl x c e)
       exact⟨v,o,old c o c2,c3⟩
     · show upd H2 s2.heap.objs.size (.lst []) G.objs.size=none
       rw[Xah (Ne.symm hDC)]
       exact nC
     · obtain⟨v,o,c2,c3⟩:=I2.cell x c (hcl x c e)
       show upd H2 s2.heap.objs.size (.lst []) c=none
       rw[Xah (Nat.ne_of_lt (Heap.lt_size c2))]
       exact I2.freeC x c (hcl x c e)
     · show (List.replicate O.length none++fs).length=(O++F).length
       rw[List.length_append,List.length_append,List.length_replicate,←efs,List.length_map,hF.1]
   have stat:∀{H':Hp},(∀b∈fp,H' b=none)→∀b∈fp,FpOk (Cx.blockG X scope cl G.objs.size (O++F) s2 H2 fp) [] H' b:=fun hn b hb =>
     ⟨hn b hb,(ok.exf b hb).1,ok.exfs b hb,.inl hb,(ok.exf b hb).2,(fun p hp=>nomatch hp)⟩
   refine Xol (fun n s'=>∃i ys τ H',Inv (Cx.blockG X scope cl G.objs.size (O++F) s2 H2 fp) [] (τ++fs) H' s'∧τ.length=O.length∧tn i s'.heap∧(∀b∈fp,H' b=none)∧W i n ys H') ?_ m0
     ⟨0,[],_,_,IB,List.length_replicate,T.keep _ _ _ st2 fun b _ o e=>old b o e,fre,w0⟩
   rintro n s3 ⟨i,ys,τ,H3,I3,hτ,st3,fr3,w3⟩
   rcases turn i n ys H3 w3 with ⟨stop,q⟩ | ⟨go,step⟩
   · refine wpAny_mono (T.done (Cx.blockG X scope cl G.objs.size (O++F) s2 H2 fp) rfl rfl rfl hc i [] s3 (τ++fs) H3 (fun _ _=>False) I3 (stat fr3) st3 stop) (fun r s4 ⟨hr,I4⟩=>?_) (fun _ _ z=>z.elim)
     subst hr
     obtain⟨m,hn,_⟩:=I4.loc
     refine hRR _ G.objs.size H3 s4 (I2.call' (ch:=fp) I4.os I4.base I4.hok I4.bare fun b hb=>?_) (I2.fpOk hCle I4.free) ⟨m,hn⟩ q
     obtain⟨g0,g1,g2,g3,g4,g5⟩:=f2 b hb
     exact⟨g3,g1,g4,g5⟩
   · refine wpAny_mono (T.item (Cx.blockG X scope cl G.objs.size (O++F) s2 H2 fp) rfl rfl rfl hc i [] s3 (τ++fs) H3 (fun _ _=>False) I3 (stat fr3) st3 go) (fun r s4 ⟨u,hr,h4⟩=>?_) (fun _ _ z=>z.elim)
     subst hr
     refine wpAny_mono h4 (fun _ s5 ⟨v,H5,I5,r5,y5,st5,fr5⟩=>?_) (fun _ _ z=>z.elim)
     have I5':=I5.pinned (stat fr5) (T.obj _ _ st5)
     refine wpAny_mono (hG _ _ _ _ _ _ s5 (τ++fs) H5 v u _ I5' r5 (step v H5 y5 τ hτ)) (fun _ s6 ⟨σ6,H6,I6,⟨τ',hτ',e6⟩,q6⟩=>?_) (fun _ _ z=>z.elim)
     subst e6
     have again:∀{s7:Shared} {H7:Hp} {ys':List V} {m':Nat},Inv (Cx.blockG X scope cl G.objs.size (O++F) s2 H2 fp) ([]++Xks fp s5.heap) (τ'++fs) H7 s7→m'<n→W (i+1) m' ys' H7 →
         ∃m,m<n∧∃i ys τ H',Inv (Cx.blockG X scope cl G.objs.size (O++F) s2 H2 fp) [] (τ++fs) H' s7∧τ.length=O.length∧tn i s7.heap∧(∀b∈fp,H' b=none)∧W i m ys H':=fun {s7 H7 ys' m'} I7 hm w7=>by
       refine⟨m',hm,i+1,ys',τ',H7,I7.unpinned,hτ',T.keep _ _ _ st5 fun b hb o e=>(I7.pin (b,o) (List.mem_append_right _ (List.mem_append_right _ (Xen hb e)))).1,fun b hb=>?_,w7⟩
       obtain⟨o,e,_⟩:=T.obj _ _ st5 b hb
       exact(I7.pin (b,o) (List.mem_append_right _ (List.mem_append_right _ (Xen hb e)))).2.1
     refine wpAny_mono (hT _ _ _ _ _ _ s6 (τ'++fs) H6 _ I6 q6) (fun b s7 ⟨H7,I7,q7⟩=>?_) (fun _ _ z=>z.elim)
     cases b with
     | false =>
       obtain⟨m',hm,w7⟩:=q7
       exact again I7 hm w7
     | true =>
       rw[if_pos rfl]
       refine wpAny_mono (hE _ _ _ _ _ _ s7 (τ'++fs) H7 _ I7 q7) (fun y' s8 ⟨y,H8,I8,ry,hD,hz,m',hm,w8⟩=>?_) (fun _ _ z=>z.elim)
       refine wpAny_mono (Xfm (X:=Cx.blockG X scope cl G.objs.size (O++F) s2 H2 fp) _ s8 (τ'++fs) H8 (.ref s2.heap.objs.size) [y] (.ref s2.heap.objs.size) [y'] (fun _ H9=>H9=upd H8 s2.heap.objs.size (.lst (ys++[y]))) I8 rfl (.cons ry .nil) ⟨s2.heap.objs.size,ys,y,rfl,rfl,hD,hz,rfl⟩) (fun _ s9 ⟨_,H9,I9,_,e9⟩=>?_) (fun _ _ z=>z.elim)
       subst e9
       exact again I9 hm w8
 exact codeAny_compStart_list (loop _ rfl) (T.self _ 0 _ _ _ (T.keep _ _ _ st2 fun b _ o e=>old b o e) (loop _ rfl))
theorem Xfd {elt iter tg:Expr}{pos:Pos}{ifs:List Expr}{scope:Scope}{wi:TI}{g:TG}{tt:TT}{te:TE}(O F:List Str)(is:List Nat)(hc:X.calm=true)(hi:PI X tg iter wi)
   (hG:∀cl C s₀ H₀ ex,PG (Cx.blockG X scope cl C (O++F) s₀ H₀ ex) tg g) (hT:∀cl C s₀ H₀ ex,PTs (Cx.blockG X scope cl C (O++F) s₀ H₀ ex) ifs tt) (hE:∀cl C s₀ H₀ ex,PE (Cx.blockG X scope cl C (O++F) s₀ H₀ ex) elt te)
   (hF:Xhg X scope F is) (hfc:∀y∈scope.names,y.2 = .free→X.env.kindOf y.1=some .cell) (hrl:∀y,(relabel scope X.env).names.lookup y=some .cell∨(relabel scope X.env).names.lookup y=some .free→∃z∈scope.names,z.1=y∧z.2 = .free)
   (hkind:scope.kind = .function:=by rfl) (hcell:∀y∈scope.names,y.2≠.cell:=by decide +kernel)
   (hnames:∀y∈scope.names,y.2 = .local→scope.names.lookup y.1=some .local:=by decide +kernel) (hs:∀y,foldedSetIterable iter X.env y=pure y:=by intro _;rfl) :
   PE X (.ListComp elt [⟨tg,iter,ifs,0⟩] scope pos) (Xno O.length is wi g tt te):=by
 intro pins s σ H Q I h
 rw[eval_ListComp]
 obtain⟨cl,hcf,hcl,hca⟩:=Xif (scope:=scope) (env:=X.env) fun y hy hf=>I.ok.has y.1 (.inl (hfc y hy hf))
 refine wpAny_comprehension_free (use:=none) (cl:=cl) rfl hs hcf hkind hnames (wpAny_mono (hi pins s σ H _ I h) (fun v s1 h1=>wpAny_mono h1 (fun itv s2 h2=>?_) fun _ _ e=>e) fun _ _ e=>e)
 obtain⟨it,fp,tn,J,H2,e,I2,T,st2,f2,R2⟩:=h2
 subst e
 refine Xha (O:=O) (F:=F) (is:=is) (Q:=Q) (RR:=fun acc C=>compPost (model X.prog X.w) X.A X.xe none (EP X pins σ Q) acc C) hc hkind hcell hcl (fun y hy=>?_) hF hG hT hE I2 T st2 f2 R2 ?_
 · obtain⟨z,hz,e1,e2⟩:=hrl y hy
   subst e1
   exact hca z hz e2
 · rintro D C H' s' I' f' ⟨m,hn⟩ q
   obtain⟨f0,f1,f2',f3,f4,f5⟩:=f'
   refine⟨m,hn,fun h' sb=>⟨.ref D,H',I'.turned (t':=s'.toks) (fun b o hb e=>(sb.2 b hb).trans e) f0 f1 f3 f4 f5,rfl,q⟩⟩
theorem Xer {elt iter tg:Expr}{y:Str}{py pos spos:Pos}{ifs:List Expr}{scope:Scope}{wi:TI}{g:TG}{tt:TT}{te:TE}{i:Nat}(O F:List Str)(is:List Nat)(hN:X.N.Nodup)(hi0:X.N[i]?=some y)(hy:Loc X.env.scope y)(hc:X.calm=true)(hi:PI X tg iter wi)
   (hG:∀cl C s₀ H₀ ex,PG (Cx.blockG X scope cl C (O++F) s₀ H₀ ex) tg g) (hT:∀cl C s₀ H₀ ex,PTs (Cx.blockG X scope cl C (O++F) s₀ H₀ ex) ifs tt) (hE:∀cl C s₀ H₀ ex,PE (Cx.blockG X scope cl C (O++F) s₀ H₀ ex) elt te)
   (hF:Xhg X scope F is) (hfc:∀y∈scope.names,y.2 = .free→X.env.kindOf y.1=some .cell) (hrl:∀y,(relabel scope X.env).names.lookup y=some .cell∨(relabel scope X.env).names.lookup y=some .free→∃z∈scope.names,z.1=y∧z.2 = .free)
   (hsw:swapsWith (.ListComp elt [⟨tg,iter,ifs,0⟩] scope pos) (some (.Name y py)) spos.line X.env=pure true:=by rfl)
   (hkind:scope.kind = .function:=by rfl) (hcell:∀y∈scope.names,y.2≠.cell:=by decide +kernel)
   (hnames:∀y∈scope.names,y.2 = .local→scope.names.lookup y.1=some .local:=by decide +kernel) (hs:∀y,foldedSetIterable iter X.env y=pure y:=by intro _;rfl)
   (hf:X.fn y=true∨X.env.scope.names.lookup y=some .local:=by first | exact .inl rfl | exact .inr rfl | assumption) :
   PS X (.Assign [.Name y py] (.ListComp elt [⟨tg,iter,ifs,0⟩] scope pos) spos) (tAsg (Xno O.length is wi g tt te) (Xoc i)):=by
 intro pins s σ H D I h
 rw[exec_Assign_Name_used _ _ _ _ hsw]
 obtain⟨cl,hcf,hcl,hca⟩:=Xif (scope:=scope) (env:=X.env) fun y hy hf=>I.ok.has y.1 (.inl (hfc y hy hf))
 refine wpAny_bind (wpAny_standAt (wpAny_bind ?_))
 show wpAny _ X.A (do let _ ←comprehension (.ListComp elt [⟨tg,iter,ifs,0⟩] scope pos) scope X.env _ (newList []) false (eval iter X.env) (some (assign (.Name y py) X.env))) _ _ s
 refine wpAny_bind (wpAny_mono (wpAny_comprehension_free (use:=some (assign (.Name y py) X.env)) (cl:=cl) (Q:=fun _ s'=>SP X pins D .next s') rfl hs hcf hkind hnames
   (wpAny_mono (hi pins s σ H _ I h) (fun v s1 h1=>wpAny_mono h1 (fun itv s2 h2=>?_) fun _ _ e=>e) fun _ _ e=>e)) (fun _ s' hq=>wpAny_pure (wpAny_pure hq)) fun _ _ e=>e)
 obtain⟨it,fp,tn,J,H2,e,I2,T,st2,f2,R2⟩:=h2
 subst e
 refine Xha (O:=O) (F:=F) (is:=is) (Q:=fun v H1=>Xoc i v σ H1 D.nx) (RR:=fun acc C=>compPost (model X.prog X.w) X.A X.xe (some (assign (.Name y py) X.env)) (fun _ s'=>SP X pins D .next s') acc C) hc hkind hcell hcl (fun y hy=>?_) hF hG hT hE I2 T st2 f2 R2 ?_
 · obtain⟨z,hz,e1,e2⟩:=hrl y hy
   subst e1
   exact hca z hz e2
 · rintro D' C H' s' I' f' ⟨m,hn⟩ q
   obtain⟨f0,f1,f2',f3,f4,f5⟩:=f'
   show wpAny _ X.A (assign (.Name y py) X.env (.ref D')) _ _ _
   refine wpAny_assign_Name (Xkb I' hN hi0 hy (v:=.ref D') rfl (fun s'' I'' ⟨a,sb,ha⟩=>?_) hf)
   have ne:C≠a:=by
     rcases ha with e | e
     · rw[e];exact f1
     · exact fun z=>f4 _ _ e z.symm
   exact⟨m,hn.sameBut sb ne,fun h' sb'=>⟨_,H',I''.turned (t':=s''.toks) (fun b o hb e=>(sb'.2 b hb).trans e) f0 f1 f3 f4 f5,q⟩⟩
theorem Xdk {K:PySem.W.Frag}(hK:X.K=K):IxR X (rIxT K):=hK▸Xdc
theorem Xuf {K:PySem.W.Frag}(hK:X.K=K):IxR X (rIxL K):=hK▸Xba
theorem Xky {K:PySem.W.Frag}{es:List Expr}{k:Nat}{t:TGs}{n:Nat}{pos:Pos}(hK:X.K=K)(hc:X.calm=true)(h:PGs X es t)
   (hn:(assignEach es X.env).length=n:=by rfl) (hst:(assignEach es X.env).findIdx? (·.1)=none:=by rfl):PG X (.Tuple es k pos) (gTup K n t):=hK▸Xmx hc h hn hst
theorem Xfa {K:PySem.W.Frag}{a:Expr}{ta:TE}(hK:X.K=K)(ha:PE X a ta)(he:∀whole,isTrue a X.env whole=(do let v ←whole;standAt a.pos;holding [v] (truthy v))):PT X a (fun σ H Q=>ta σ H fun x H'=>∃k,TruV K x H' k∧Q k H'):=by
 subst hK
 exact Xcd ha he
theorem Xbp {scope:Scope}{env:Env}{y:Str}(hcell:∀z∈scope.names,z.2≠.cell)(h:(relabel scope env).names.lookup y=some .cell∨(relabel scope env).names.lookup y=some .free):∃z∈scope.names,z.1=y∧z.2 = .free:=by
 have key:∀(l:List (Str×NameKind)) (k:NameKind),l.lookup y=some k→(y,k)∈l:=by
   intro l k
   induction l with
   | nil=>intro e;cases e
   | cons p r ih =>
     intro e
     obtain⟨n,k'⟩:=p
     rw[List.lookup_cons] at e
     cases hb:y==n with
     | true =>
       rw[hb] at e
       cases e
       rw[eq_of_beq hb]
       exact List.mem_cons_self
     | false=>rw[hb] at e;exact List.mem_cons_of_mem _ (ih e)
 have fin:∀k,(relabel scope env).names.lookup y=some k→k = .cell∨k = .free→∃z∈scope.names,z.1=y∧z.2 = .free:=fun k e hk=>by
   obtain⟨z,hz,ez⟩:=List.mem_map.mp (key _ _ e)
   obtain⟨n,k0⟩:=z
   dsimp only at ez
   split at ez
   · rename_i hc
     simp only [Bool.and_eq_true,beq_iff_eq] at hc
     cases ez
     exact⟨(y,k0),hz,rfl,hc.1.1⟩
   · cases ez
     rcases hk with rfl | rfl
     · exact absurd rfl (hcell _ hz)
     · exact⟨_,hz,rfl,rfl⟩
 rcases h with h | h
 · exact fin _ h (.inl rfl)
 · exact fin _ h (.inr rfl)
theorem Xof {scope:Scope}:Xhg X scope [] []:=⟨rfl,fun j y k e=>by simp at e⟩
theorem Xhw {scope:Scope}{y:Str}{k:Nat}(h1:X.N[k]?=some y)(h2:X.env.kindOf y=some .cell)(h3:(relabel scope X.env).names.lookup y=some .cell):Xhg X scope [y] [k]:=⟨rfl,fun j z i e1 e2=>by
 cases j with
 | zero =>
   have g1:y=z:=by simpa using e1
   have g2:k=i:=by simpa using e2
   subst g1 g2
   exact⟨h1,h2,h3⟩
 | succ j=>simp at e1⟩
theorem Xeo {scope:Scope}{y y':Str}{k k':Nat}(h1:X.N[k]?=some y)(h1':X.N[k']?=some y')(h2:X.env.kindOf y=some .cell)(h2':X.env.kindOf y'=some .cell)(h3:(relabel scope X.env).names.lookup y=some .cell)(h3':(relabel scope X.env).names.lookup y'=some .cell) :
   Xhg X scope [y,y'] [k,k']:=⟨rfl,fun j z i e1 e2=>by
 match j with
 | 0 =>
   have g1:y=z:=by simpa using e1
   have g2:k=i:=by simpa using e2
   subst g1 g2
   exact⟨h1,h2,h3⟩
 | 1 =>
   have g1:y'=z:=by simpa using e1
   have g2:k'=i:=by simpa using e2
   subst g1 g2
   exact⟨h1',h2',h3'⟩
 | j+2=>simp at e1⟩
theorem Xnm {scope:Scope}{n:Str}(h:∀y∈scope.names,y.2 = .free→y.1=n)(k:X.env.kindOf n=some .cell):∀y∈scope.names,y.2 = .free→X.env.kindOf y.1=some .cell:=fun y hy hf=>by rw[h y hy hf];exact k
theorem Xgk {scope:Scope}{n m:Str}(h:∀y∈scope.names,y.2 = .free→y.1=n∨y.1=m)(k:X.env.kindOf n=some .cell)(k':X.env.kindOf m=some .cell):∀y∈scope.names,y.2 = .free→X.env.kindOf y.1=some .cell:=fun y hy hf=>by
 rcases h y hy hf with e | e
 · rw[e];exact k
 · rw[e];exact k'
theorem Xje {elt iter tg:Expr}{pos:Pos}{ifs:List Expr}{scope:Scope}{wi:TI}{g:TG}{tt:TT}{te:TE}(O:List Str)(hc:X.calm=true)(hi:PI X tg iter wi)
   (hG:∀cl C s₀ H₀ ex,PG (Cx.blockG X scope cl C (O++[]) s₀ H₀ ex) tg g) (hT:∀cl C s₀ H₀ ex,PTs (Cx.blockG X scope cl C (O++[]) s₀ H₀ ex) ifs tt) (hE:∀cl C s₀ H₀ ex,PE (Cx.blockG X scope cl C (O++[]) s₀ H₀ ex) elt te)
   (hfree:∀y∈scope.names,y.2≠.free:=by decide +kernel) (hkind:scope.kind = .function:=by rfl) (hcell:∀y∈scope.names,y.2≠.cell:=by decide +kernel)
   (hnames:∀y∈scope.names,y.2 = .local→scope.names.lookup y.1=some .local:=by decide +kernel) (hs:∀y,foldedSetIterable iter X.env y=pure y:=by intro _;rfl) :
   PE X (.ListComp elt [⟨tg,iter,ifs,0⟩] scope pos) (Xno O.length [] wi g tt te) :=
 Xfd O [] [] hc hi hG hT hE Xof (fun y hy hf=>absurd hf (hfree y hy)) (fun y h=>Xbp hcell h) hkind hcell hnames hs
end
section
variable {K:PySem.W.Frag}{σ:L2.St}{H:Hp}{Q:VK}
theorem r_compG {n:Nat}{is:List Nat}{wi:TI}{g:TG}{tt:TT}{te:TE}(h:wi σ H fun J H1=>Xrc n (is.map fun k=>σ.getD k none) J g tt te Q H1):Xno n is wi g tt te σ H Q:=h
def Nx (n:Nat)(Pv:Addr→Nat→List V→Hp→Prop)(D:Addr)(i:Nat)(ys:List V)(H2:Hp):Prop:=∃m',m'<n-i∧m'=n-(i+1)∧i+1≤n∧Pv D (i+1) ys H2
theorem Xdl {n:Nat}{Pv:Addr→Nat→List V→Hp→Prop}{D:Addr}{i:Nat}{ys:List V}{H2:Hp}(hi:i<n)(p:Pv D (i+1) ys H2):Nx n Pv D i ys H2:=⟨_,by omega,rfl,hi,p⟩
theorem Xbr {a:Addr}{xs:List V}{n:Nat}{fs:L2.St}{g:TG}{tt:TT}{te:TE}(Pv:Addr→Nat→List V→Hp→Prop)(h0:∀D,H D=none→Pv D 0 [] (upd H D (.lst [])))
   (hl:∀D i ys H2,i≤xs.length→Pv D i ys H2→SqL K H2 a xs)
   (hs:∀D i x ys H2,H D=none→xs[i]?=some x→Pv D i ys H2→∀τ:L2.St,τ.length=n→g x (τ++fs) H2 fun σ1 H4=>(∃τ':L2.St,τ'.length=n∧σ1=τ'++fs)∧tt σ1 H4 fun b H5 =>
     if b=true then te σ1 H5 fun y H6=>H6 D=some (.lst ys)∧ys.length<sizeLine∧Nx xs.length Pv D i (ys++[y]) (upd H6 D (.lst (ys++[y]))) else Nx xs.length Pv D i ys H5)
   (hd:∀D ys H2,H D=none→Pv D xs.length ys H2→Q (.ref D) H2):Xrc n fs (Itl K a) g tt te Q H:=by
 intro D hD
 refine⟨fun i m ys H2=>m=xs.length-i∧i≤xs.length∧Pv D i ys H2,⟨_,rfl,Nat.zero_le _,h0 D hD⟩,?_⟩
 rintro i m ys H2 ⟨rfl,hi,p⟩
 have q:=hl D i ys H2 hi p
 by_cases hlt:i<xs.length
 · refine .inr ⟨⟨xs,xs[i],q,by simp [hlt]⟩,fun x H3 y τ hτ=>?_⟩
   obtain⟨e,y⟩:=y
   subst e
   have ex:=y xs q
   exact hs D i x ys _ hD ex p τ hτ
 · have e:i=xs.length:=by omega
   subst e
   exact .inl ⟨⟨xs,q,Nat.le_refl _⟩,hd D ys H2 hD p⟩
end
end Stow
namespace Stow
open PySem L2 PyProof.Rows
section
variable {prog:Program}{w:World}{A:Around}{R:Result→Shared→Prop}{I:Addr}{fp wr:List Addr}{n:Nat}{P:Nat→Value→Prop}{St:Nat→Heap→Prop}
end
section
variable {prog:Program}{w:World}{A:Around}{E:Value→Shared→Prop}{s:Shared}
end
section
variable {X:Cx}
end
end Stow
namespace Stow
open PySem L2 PyProof.Rows
structure InsK (K:PySem.W.Frag)(C:Addr):Prop where
 cl:Cls K C
 ha:PySem.W.findIn K (.ref C) "__class__"=some (some (.builtin "object.__class__"))
 hn:PySem.W.specialIn K (.builtin "object.__class__") "__get__"=some (some (.builtin "getset_descriptor.__get__"))
 htk:PySem.W.takesIn K (.builtin "object.__class__")=some true
 hm:PySem.W.mroIn K C (.type "object")=some true
section
variable {X:Cx}
end
section
variable {K:PySem.W.Frag}{σ:L2.St}{H:Hp}{Q:VK}{D:Ends}
theorem r_sat {a C dx:Addr}{fs:List (Str×V)}{f:Str}{R:Addr→Addr→Addr→List (Str×V)→Prop}(h:H a=some (.ins C dx fs))(c:Cls K C)(n:Xde K C f)(l:fs.length<1000)(q:R a C dx fs) :
   ∃a' C' dx' fs',V.ref a=V.ref a'∧H a'=some (.ins C' dx' fs')∧Cls K C'∧Xde K C' f∧fs'.length<1000∧R a' C' dx' fs':=⟨a,C,dx,fs,rfl,h,c,n,l,q⟩
theorem r_mat {a C dx:Addr}{fs:List (Str×V)}{m:Str}{P:Prop}(h:H a=some (.ins C dx fs))(l:fs.lookup m=none)(q:P) :
   ∃a' dx' fs',V.ref a=V.ref a'∧H a'=some (.ins C dx' fs')∧fs'.lookup m=none∧P:=⟨a,dx,fs,rfl,h,l,q⟩
theorem r_make {C:Addr}{sp:Sp}{E:XK}{t:TA}(h:t σ H fun vs H1=>∀x dx,H1 x=none→H1 dx=none→dx≠x→sp (.ref x::vs) (upd (upd H1 dx (.own x)) x (.ins C dx [])) (fun v H2=>v = .non∧Q (.ref x) H2) E):Xti C sp [] E t σ H Q:=by
 unfold Xti
 simp only [List.append_nil]
 exact h
end
section
variable {X:Cx}
end
def Xbi (x:Addr)(H H':Hp):Prop:=∀b o,b≠x→H b=some o→H' b=some o
theorem Xbi.refl {x:Addr}{H:Hp}:Xbi x H H:=fun _ _ _ h=>h
theorem Xbi.of {x:Addr}{H H':Hp}(s:Same H H'):Xbi x H H':=fun b o _ h=>s b o h
theorem Xbi.trans {x:Addr}{H H' H'':Hp}(s:Xbi x H H')(t:Xbi x H' H''):Xbi x H H'':=fun b o n h=>t b o n (s b o n h)
theorem Xbi.put {x:Addr}{H H':Hp}{o:HO}(s:Xbi x H H'):Xbi x H (upd H' x o):=fun b o' n h=>look_ne n (s b o' n h)
end Stow
set_option Elab.async false
set_option linter.all false
set_option maxRecDepth 100000
set_option maxHeartbeats 4000000
namespace Stow
end Stow
namespace Stow
open PySem L2 PyProof.Rows
structure MethD (P:Program)(w:World)(K:PySem.W.Frag)(mg:Str→Option Value)(base:Heap)(C:Addr)(m:Str)(j:Nat)(ps:List Str)(dvs:List V)(sp:Sp):Prop where
 all:Methx P w K mg base C m j ps [] sp
 less:Methx P w K mg base C m j ps dvs sp
theorem MethD.made {P:Program}{w:World}{K:PySem.W.Frag}{mg:Str→Option Value}{base:Heap}{C:Addr}{m:Str}{j:Nat}{ps:List Str}{dvs:List V}{sp:Sp}{f:Addr}{fd:FuncData}{ds:List Value}
   (F:FnOk P w K mg base (CXe P w) j f fd ps sp) (M:Meth K C m f) (b:Xci K fd ps []) (b':Xci K fd ps ds) (v:Vals dvs ds) (c:Cls K C):MethD P w K mg base C m j ps dvs sp :=
 ⟨⟨⟨f,fd,[],F,M,b,.nil⟩,c⟩,⟨⟨f,fd,ds,F,M,b',v⟩,c⟩⟩
theorem FunD.bindsA {K:PySem.W.Frag}{x qual:Str}{st:Stmt}{T:Addr}{f:Addr}{fd:FuncData}{ps:List Str}{ds:List Value}{tc:Value}{td:Option Addr}{tn:Nat}{tsl:Array (Option Value)}(F:FunD K x qual st (.ref T) f fd)
   (lt:K.lookup T=some ⟨tc,td,.seq ds.toArray tn,tsl⟩)
   (h:∀(kV doc pm:Value) (an:Option Addr) (cdv ct:Value) (us:List Value),us.length=ps.length→∃k:Option (Array Value)→Sem (List (Str×Value)),
     bindArgs (PySem.W.fnOf x qual (Xbh st) (Xay st) (Xad st) (.ref T) kV doc pm an cdv ct) ⟨us,[]⟩=seqItems? (.ref T) >>= k∧k (some ds.toArray)=pure (ps.zip us)):Xci K fd ps []:=by
 obtain⟨oc,od,kV,doc,pm,an,cdv,ct,osl,rfl,lk,hcd⟩:=F.ex
 intro s us X hl
 rw[List.append_nil] at hl ⊢
 obtain⟨k,h1,h2⟩:=h kV doc pm an cdv ct us hl
 exact .of_defaults rfl (X _ _ lt) rfl h1 h2
abbrev TXS:=Ends→XK→L2.St→Hp→Prop
section
variable {X:Cx}{e c:Expr}{t:TX}{tc:TT}{ta tb ts:TXS}{a b ss:List Stmt}{pos epos:Pos}{hs:List ExceptHandler}{th:TH}
end
section
variable {K:PySem.W.Frag}{σ:L2.St}{H:Hp}{Q:VK}{D:Ends}{EX:XK}
theorem r_xMethD {C:Addr}{m:Str}{sp:Sp}{ta:TE}{t:TA}{dvs:List V}(h:ta σ H fun x H1=>∃a dx fs,x = .ref a∧H1 a=some (.ins C dx fs)∧fs.lookup m=none∧t σ H1 fun vs H2=>sp (x::(vs++dvs)) H2 Q EX):Xxh C m sp dvs ta t σ H Q EX:=h
end
end Stow
set_option Elab.async false
set_option linter.all false
set_option maxRecDepth 100000
set_option maxHeartbeats 4000000
namespace Stow
def Xcf (s:Int)(j m:Nat):List Pc:=(List.range' j m).map fun i:Nat=>⟨s*(i:Int),s,false⟩
theorem Xfl (s:Int)(j m:Nat):Xcf s j (m+1)=⟨s*(j:Int),s,false⟩::Xcf s (j+1) m:=by
 unfold Xcf
 rw[List.range'_succ,List.map_cons]
theorem Xin (s:Int)(j m:Nat):Xcf s j (m+1)=Xcf s j m++[⟨s*((j+m:Nat):Int),s,false⟩]:=by
 unfold Xcf
 rw[List.range'_concat,List.map_append,Nat.one_mul]
 rfl
theorem Xdj {s:Int}(hs:1≤s):∀(m j:Nat),Xaq (s*(j:Int)) (Xcf s j m) (s*((j+m:Nat):Int))
 | 0,j=>rfl
 | m+1,j=>by
   rw[Xfl]
   refine⟨rfl,hs,(fun z=>by cases z),?_⟩
   have h:=Xdj hs m (j+1)
   rw[show j+1+m=j+(m+1) by omega] at h
   show Xaq (s*(j:Int)+s) _ _
   rw[show s*(j:Int)+s=s*((j+1:Nat):Int) by rw[Int.natCast_add,Int.mul_add];omega]
   exact h
theorem Xbb.app {cs ds:List Int}{ps qs:List Pc}(h0:Xfv ps cs.length)(m:Xbb cs ps)(h1:Xkf qs 0)(k:Xbb ds qs) :
   Xbb (cs++ds) (ps++qs.map fun q=>⟨q.a+cs.length,q.l,q.v⟩):=by
 intro p hp
 rcases List.mem_append.mp hp with h | h
 · obtain⟨a0,a1,a2⟩:=h0 p h
   obtain⟨m1,m2⟩:=m p h
   exact⟨by rw[List.getElem?_append_left (by omega)];exact m1,by rw[List.getElem?_append_left (by omega)];exact m2⟩
 · obtain⟨q,hq,rfl⟩:=List.mem_map.mp h
   obtain⟨b0,b1⟩:=h1 q hq
   obtain⟨m1,m2⟩:=k q hq
   constructor
   · show (cs++ds)[(q.a+cs.length).toNat]?=some (mkOf q.l q.v)
     rw[List.getElem?_append_right (by omega),show (q.a+cs.length).toNat-cs.length=q.a.toNat by omega]
     exact m1
   · show (cs++ds)[(q.a+cs.length+q.l-1).toNat]?=some (mkOf q.l q.v)
     rw[List.getElem?_append_right (by omega),show (q.a+cs.length+q.l-1).toNat-cs.length=(q.a+q.l-1).toNat by omega]
     exact m2
theorem Xfi {one:List Int}{s:Int}(hs:1≤s)(hl:(one.length:Int)=s)(m1:Xbb one [⟨0,s,false⟩]):∀(m:Nat),Xbb ((List.replicate m one).flatten) (Xcf s 0 m)∧(((List.replicate m one).flatten).length:Int)=s*(m:Int)
 | 0=>⟨Xbb.nil _,by simp⟩
 | m+1=>by
   obtain⟨h1,h2⟩:=Xfi hs hl m1 m
   have e:(List.replicate (m+1) one).flatten=(List.replicate m one).flatten++one:=by
     rw[List.replicate_succ',List.flatten_append]
     simp
   rw[e]
   constructor
   · rw[Xin]
     have ch:=(Xdj hs m 0).endBy (show (0:Int)≤s*((0:Nat):Int) by simp)
     rw[Nat.zero_add] at ch
     have:=Xbb.app (ps:=Xcf s 0 m) (qs:=[⟨0,s,false⟩]) (by rw[h2];exact ch) h1 (fun p hp=>by
       have:p=⟨0,s,false⟩:=by simpa using hp
       subst this
       exact⟨Int.le_refl _,hs⟩) m1
     rw[h2] at this
     simpa using this
   · rw[List.length_append,Int.natCast_add,h2,hl,Int.natCast_add,Int.mul_add]
     omega
end Stow
namespace Stow
open PySem L2 PyProof.Rows
section
variable {X:Cx}
theorem Xkd {scope:Scope}{y y' y'':Str}{k k' k'':Nat}(h1:X.N[k]?=some y)(h1':X.N[k']?=some y')(h1'':X.N[k'']?=some y'')(h2:X.env.kindOf y=some .cell)(h2':X.env.kindOf y'=some .cell)(h2'':X.env.kindOf y''=some .cell)
   (h3:(relabel scope X.env).names.lookup y=some .cell) (h3':(relabel scope X.env).names.lookup y'=some .cell) (h3'':(relabel scope X.env).names.lookup y''=some .cell):Xhg X scope [y,y',y''] [k,k',k'']:=⟨rfl,fun j z i e1 e2=>by
 match j with
 | 0 =>
   have g1:y=z:=by simpa using e1
   have g2:k=i:=by simpa using e2
   subst g1 g2
   exact⟨h1,h2,h3⟩
 | 1 =>
   have g1:y'=z:=by simpa using e1
   have g2:k'=i:=by simpa using e2
   subst g1 g2
   exact⟨h1',h2',h3'⟩
 | 2 =>
   have g1:y''=z:=by simpa using e1
   have g2:k''=i:=by simpa using e2
   subst g1 g2
   exact⟨h1'',h2'',h3''⟩
 | j+3=>simp at e1⟩
theorem Xoe {scope:Scope}{n m o:Str}(h:∀y∈scope.names,y.2 = .free→y.1=n∨y.1=m∨y.1=o)(k:X.env.kindOf n=some .cell)(k':X.env.kindOf m=some .cell)(k'':X.env.kindOf o=some .cell):∀y∈scope.names,y.2 = .free→X.env.kindOf y.1=some .cell:=fun y hy hf=>by
 rcases h y hy hf with e | e | e
 · rw[e];exact k
 · rw[e];exact k'
 · rw[e];exact k''
end
def Its (lo c:Int)(n:Nat):It:=⟨fun i _=>i<n,fun i H x H'=>H'=H∧x = .int (lo+i*c),fun i _=>n≤i⟩
theorem Xrh {P:Program}{w:World}{K:PySem.W.Frag}{tg:Expr}(it:Addr)(lo c:Int)(n:Nat):Turn P w K tg (Its lo c n) [it] it (fun i h=>IsRangeIter h it (lo+(i:Nat)*c) ((n:Int)-(i:Nat)) c) where
 mem:=by simp
 obj:=fun i h st b hb=>by
   have e:b=it:=by simpa using hb
   subst e
   exact⟨_,st,fun v z=>by
     have z':Data.fields _=Data.cell v:=z
     cases z'⟩
 keep:=fun i h h' st k=>k it (by simp) _ st
 item:=by
   intro X hP hw hK hc i pins s σ H E I hf st hg
   subst hP hw hK
   obtain⟨f0,f1,f2,f3,f4,f5⟩:=hf it (by simp)
   have W:=Walks.range (prog:=X.prog) (w:=X.w) (I.ok.hd hc) it lo c n
   refine W.item i s _ _ hg st fun v h' tk hv st' kk=>?_
   obtain⟨t,rfl⟩:=hv
   have I1:Inv X pins σ H { s with heap:=h',toks:=tk }:=I.turned (fun b o hb e=>kk b o (by simpa using hb) e) f0 f1 f3 f4 f5
   exact⟨_,rfl,Xuu (s:={ s with heap:=h',toks:=tk }) (n:="range_iterator") st' rfl rfl (by decide) ⟨.int (lo+i*c),H,I1,⟨t,rfl⟩,⟨rfl,rfl⟩,st',fun b hb=>(hf b hb).1⟩⟩
 done:=by
   intro X hP hw hK hc i pins s σ H E I hf st hg
   subst hP hw hK
   obtain⟨f0,f1,f2,f3,f4,f5⟩:=hf it (by simp)
   exact wpAny_pyNext_range_end (I.ok.hd hc) st (by have:n≤i:=hg;omega) fun h' eb=>⟨rfl,I.turned (t':=s.toks) (fun b o hb e=>eb b o hb e) f0 f1 f3 f4 f5⟩
 self:=fun _ _ _ _ _ st h=>wpAny_pyIter_rangeiter st h
section
variable {X:Cx}{tg:Expr}
theorem Xny {i j c:Int}(h0:0≤i)(hj:0≤j)(hj':j≤4000)(hc:1≤c):0≤Builtin.Range.rangeSize i j c∧Builtin.Range.rangeSize i j c≤4000∧(i<j→i+(Builtin.Range.rangeSize i j c-1)*c<j):=by
 unfold Builtin.Range.rangeSize
 rw[if_pos (by omega)]
 split
 · rename_i h
   have h1:0≤(j-i-1)/c:=Int.ediv_nonneg (by omega) (by omega)
   have h2:(j-i-1)/c*c≤j-i-1:=Int.ediv_mul_le _ (by omega)
   have h3:(j-i-1)/c≤(j-i-1)/c*c:=by
     have:=Int.mul_le_mul_of_nonneg_left hc h1
     omega
   refine⟨by omega,by omega,fun _=>?_⟩
   rw[show (j-i-1)/c+1-1=(j-i-1)/c by omega]
   omega
 · rename_i h
   exact⟨by omega,by omega,fun z=>absurd z h⟩
def XGn (ta:TA):TI:=fun σ H R=>ta σ H fun vs H1=>∃i j c:Int,vs=[.int i,.int j,.int c]∧(0≤i∧i≤4000∧0≤j∧j≤4000∧1≤c∧c≤4000)∧R (Its i c (Builtin.Range.rangeSize i j c).toNat) H1
theorem XBk {pins:List (Addr×Obj)}{σ:L2.St}{H:Hp}{s:Shared}{R:It→Hp→Prop}{E:Value→Shared→Prop}{lo hi c:Int}{t u v:Tok}{tk:Nat}(I:Inv X pins σ H s)(h1:0≤lo)(h2:lo≤4000)(h3:0≤hi)(h4:hi≤4000)(h5:1≤c)(h6:c≤4000)
   (q:R (Its lo c (Builtin.Range.rangeSize lo hi c).toNat) H):wpAny (model X.prog X.w) X.A (pyIter (.ref s.heap.objs.size)) (PIE X pins σ tg R) E { s with heap:=s.heap.push { cls:=.type "range",data:=.fields #[.int lo t,.int hi u,.int c v] },toks:=tk }:=by
 obtain⟨b1,b2,b3⟩:=Xny h1 h3 h4 h5
 have sm:Builtin.Range.small lo hi c=true:=by
   unfold Builtin.Range.small
   simp only [Builtin.Range.rangeFitsLong,Bool.and_eq_true,Bool.or_eq_true,decide_eq_true_eq,beq_iff_eq]
   generalize Builtin.Range.rangeSize lo hi c=n at b1 b2 b3
   rw[if_pos (show c>0 by omega)]
   simp only [Bool.and_eq_true,decide_eq_true_eq]
   omega
 refine wpAny_pyIter_range (IsRange.new ..) sm ?_
 have I1:Inv X pins σ H { s with heap:=s.heap.push { cls:=.type "range",data:=.fields #[.int lo t,.int hi u,.int c v] },toks:=tk }:=I.kept fun b o e=>Heap.get?_push_of_some _ e
 refine⟨(s.heap.push { cls:=.type "range",data:=.fields #[.int lo t,.int hi u,.int c v] }).objs.size,[(s.heap.push { cls:=.type "range",data:=.fields #[.int lo t,.int hi u,.int c v] }).objs.size],_,_,H,rfl,
   I1.kept (t':=tk) fun b o e=>Heap.get?_push_of_some _ e,Xrh _ lo c (Builtin.Range.rangeSize lo hi c).toNat,?_,fun b hb=>?_,q⟩
 · have e1:lo+((0:Nat):Int)*c=lo:=by simp
   have e2:(((Builtin.Range.rangeSize lo hi c).toNat:Nat):Int)-((0:Nat):Int)=Builtin.Range.rangeSize lo hi c:=by omega
   show IsRangeIter _ _ (lo+((0:Nat):Int)*c) ((((Builtin.Range.rangeSize lo hi c).toNat:Nat):Int)-((0:Nat):Int)) c
   rw[e1,e2]
   exact Heap.get?_push_size _ rfl
 · have e:b=(s.heap.push { cls:=.type "range",data:=.fields #[.int lo t,.int hi u,.int c v] }).objs.size:=by simpa using hb
   subst e
   exact I1.fpOk (Nat.le_refl _) (I1.hok.fresh (Nat.le_refl _))
theorem Xkl {a b c:Expr}{ta:TA}{p pos:Pos}(hg:Gl X "range")(hm:X.mg "range"=none)(ha:PA X [a,b,c] ta)(hs:starEach [a,b,c] X.env=[(false,eval a X.env),(false,eval b X.env),(false,eval c X.env)]:=by rfl)
   (hs2:starEach [b,c] X.env=[(false,eval b X.env),(false,eval c X.env)]:=by rfl):PI X tg (.Call (.Name "range" p) [a,b,c] [] pos) (XGn ta):=by
 intro pins s σ H R I h
 refine Call_ (Xjq I hg hm PyProof.Rows.boot_range (PyProof.Rows.callWith_type1 (thn (ha pos pins s σ H _ I h) fun us s1 ⟨vs,H1,I1,r1,q1⟩=>?_) (by rw[hs,hs2]) (by rw[hs2];rfl)))
 obtain⟨i,j,c,e,⟨q1,q2,q3,q4,q5,q6⟩,q⟩:=q1
 subst e
 cases r1 with
 | cons r rr =>
   cases rr with
   | cons r' rr =>
     cases rr with
     | cons r'' rr =>
       cases rr
       obtain⟨t,rfl⟩:=r
       obtain⟨t',rfl⟩:=r'
       obtain⟨t'',rfl⟩:=r''
       exact call_range_3 (by omega) (XBk I1 q1 q2 q3 q4 q5 q6 q) (Or.inl (PyProof.noPylong_small (by omega)))
theorem Xre (hc:X.calm=true):Xhs X (.builtin "any") (fun vs H Q=>∃p,∃bs:List Bool,vs=[.ref p]∧H p=some (.lst (bs.map V.bl))∧Q (.bl (bs.any id)) H):=by
 intro pins s σ H vs us' Q I r h
 obtain⟨p,bs,rfl,hp,q⟩:=h
 obtain⟨u,rfl,rx⟩:∃u,us'=[u]∧RelV (.ref p) u:=by
   cases r with
   | cons a b=>cases b;exact⟨_,rfl,a⟩
 cases rx
 obtain⟨its,r1,p1,_⟩:=I.list (SqL.of hp)
 have l1:=r1.length
 rw[List.length_map] at l1
 have lt:p<s.heap.objs.size:=by obtain⟨_,e,_⟩:=p1.isList;exact Heap.lt_size e
 refine call_any_walk (wpAny_pyIter_list p1.isList ?_)
 refine⟨s.heap.objs.size,[s.heap.objs.size,p],[s.heap.objs.size],its.toArray.size,fun i v=>its.toArray[i]?=some v,_,fun i=>bs.getD i false,rfl,Walks.list (A:=X.A.in1) (I.ok.hd hc) _ p (Nat.ne_of_lt lt) its.toArray,
   ⟨⟨_,Heap.get?_push_size _ rfl,rfl,rfl⟩,p1.isList.push _⟩,?_,?_⟩
 · intro i v s' Q' E' hv hq
   rw[List.getElem?_toArray] at hv
   have hi:i<bs.length:=by have:=(List.getElem?_eq_some_iff.mp hv).1;omega
   obtain⟨u1,g1,q1⟩:=r1.get (i:=i) (x:=V.bl bs[i]) (by simp [hi])
   cases q1
   rw[hv] at g1
   cases g1
   have e:bs.getD i false=bs[i]:=by simp [hi]
   have hq2:Q' (bs.getD i false) s':=hq
   rw[e] at hq2
   exact wpAny_pure hq2
 · intro h' tk kk
   have e:(List.range its.toArray.size).any (fun i=>bs.getD i false)=bs.any id:=by
     rw[List.size_toArray,←l1,Bool.eq_iff_iff,List.any_eq_true,List.any_eq_true]
     constructor
     · rintro⟨i,hi,h⟩
       have hi':=List.mem_range.mp hi
       exact⟨bs[i],List.getElem_mem hi',by simpa [hi'] using h⟩
     · rintro⟨b,hb,h⟩
       obtain⟨i,hi,rfl⟩:=List.mem_iff_getElem.mp hb
       exact⟨i,List.mem_range.mpr hi,by simpa [hi] using h⟩
   rw[e]
   refine⟨.bl _,H,?_,rfl,q⟩
   refine I.kept (t':=tk) fun b o e=>kk b o (fun z=>?_) (Heap.get?_push_of_some _ e)
   have:=Heap.lt_size e
   have z':b=s.heap.objs.size:=by simpa using z
   rw[z'] at this
   exact Nat.lt_irrefl _ this
end
theorem Xmy {lo c:Int}{n:Nat}{g:TG}{tb:TS}{D:Ends}{σ:L2.St}{H:Hp}(Pv:Nat→L2.St→Hp→Prop)(h0:Pv 0 σ H)
   (hs:∀i σ H,i<n→Pv i σ H→g (.int (lo+i*c)) σ H fun σ2 H2=>tb { D with nx:=Pv (i+1),ct:=Pv (i+1),bk:=D.nx } σ2 H2) (hd:∀σ H,Pv n σ H→D.nx σ H) :
   ∃W:Nat→Nat→L2.St→Hp→Prop,(∃m,W 0 m σ H)∧∀i m σ H,W i m σ H →
     ((Its lo c n).stop i H∧D.nx σ H)∨((Its lo c n).go i H∧∃N:L2.St→Hp→Prop,(∀σ' H',N σ' H'→∃m',m'<m∧W (i+1) m' σ' H')∧∀x H',(Its lo c n).yld i H x H'→g x σ H' fun σ2 H2=>tb { D with nx:=N,ct:=N,bk:=D.nx } σ2 H2):=by
 refine⟨fun i m σ H=>m=n-i∧i≤n∧Pv i σ H,⟨n,by simp,Nat.zero_le _,h0⟩,?_⟩
 rintro i m σ H ⟨rfl,hi,p⟩
 by_cases hlt:i<n
 · refine .inr ⟨hlt,Pv (i+1),fun σ' H' p'=>⟨n-(i+1),by omega,rfl,hlt,p'⟩,fun x H' y=>?_⟩
   obtain⟨e,y⟩:=y
   subst e y
   exact hs i σ _ hlt p
 · have e:i=n:=by omega
   subst e
   exact .inl ⟨Nat.le_refl _,hd σ H p⟩
theorem XIi {ta:TA}{σ:L2.St}{H:Hp}{R:It→Hp→Prop}(h:ta σ H fun vs H1=>∃i j c:Int,vs=[.int i,.int j,.int c]∧(0≤i∧i≤4000∧0≤j∧j≤4000∧1≤c∧c≤4000)∧R (Its i c (Builtin.Range.rangeSize i j c).toNat) H1):XGn ta σ H R:=h
theorem Xlu {H:Hp}{Q:VK}{lo:Int}{n k:Nat}{fs:L2.St}{g:TG}{tt:TT}{te:TE}(Pv:Addr→Nat→List V→Hp→Prop)(h0:∀D,H D=none→Pv D 0 [] (upd H D (.lst [])))
   (hs:∀D i ys H2,H D=none→i<n→Pv D i ys H2→∀τ:L2.St,τ.length=k→g (.int (lo+i)) (τ++fs) H2 fun σ1 H4=>(∃τ':L2.St,τ'.length=k∧σ1=τ'++fs)∧tt σ1 H4 fun b H5 =>
     if b=true then te σ1 H5 fun y H6=>H6 D=some (.lst ys)∧ys.length<sizeLine∧Nx n Pv D i (ys++[y]) (upd H6 D (.lst (ys++[y]))) else Nx n Pv D i ys H5)
   (hd:∀D ys H2,H D=none→Pv D n ys H2→Q (.ref D) H2):Xrc k fs (Itr lo n) g tt te Q H:=by
 intro D hD
 refine⟨fun i m ys H2=>m=n-i∧i≤n∧Pv D i ys H2,⟨_,rfl,Nat.zero_le _,h0 D hD⟩,?_⟩
 rintro i m ys H2 ⟨rfl,hi,p⟩
 by_cases hlt:i<n
 · refine .inr ⟨hlt,fun x H3 y τ hτ=>?_⟩
   obtain⟨e,y⟩:=y
   subst e y
   exact hs D i ys _ hD hlt p τ hτ
 · have e:i=n:=by omega
   subst e
   exact .inl ⟨Nat.le_refl _,hd D ys H2 hD p⟩
end Stow
set_option Elab.async false
set_option linter.all false
set_option maxRecDepth 100000
set_option maxHeartbeats 4000000
namespace Stow
open PySem L2 PyProof.Rows
section
variable {prog:Program}{w:World}{A:Around}{R:Result→Shared→Prop}{I:Addr}{fp wr:List Addr}{n:Nat}{P:Nat→Value→Prop}{St:Nat→Heap→Prop}{kw:List (Str×Value)}
end
section
variable {prog:Program}{w:World}{A:Around}{E:Value→Shared→Prop}{s:Shared}
end
section
variable {X:Cx}
end
end Stow
namespace Stow
open PySem L2 PyProof.Rows
section
variable {K:PySem.W.Frag}{σ:L2.St}{H:Hp}{Q:VK}
end
def Xnt (H:Hp)(v:V)(o:Option (List Int)):Prop:=match o with
 | none=>v = .non
 | some x=>∃t,v = .ref t∧H t=some (.tup (x.map V.int))
theorem Xnt.same {H H':Hp}{v:V}{o:Option (List Int)}(h:Xnt H v o)(s:Same H H'):Xnt H' v o:=by
 cases o with
 | none=>exact h
 | some x=>obtain⟨t,e1,e2⟩:=h;exact⟨t,e1,s t _ e2⟩
theorem Xnt.mono {H H':Hp}{v:V}{o:Option (List Int)}(h:Xnt H v o)(k:∀b xs,H b=some (.tup xs)→H' b=some (.tup xs)):Xnt H' v o:=by
 cases o with
 | none=>exact h
 | some x=>obtain⟨t,e1,e2⟩:=h;exact⟨t,e1,k t _ e2⟩
end Stow
namespace Stow
open PySem L2 PyProof.Rows
theorem Xbi.new {x t:Addr}{H H':Hp}{o:HO}(s:Xbi x H H')(ht:H' t=none):Xbi x H (upd H' t o):=fun b o' n h=>look_put ht (s b o' n h)
theorem Xbi.tups {x:Addr}{H H':Hp}{l us:List V}{xs:List (List V)}(s:Xbi x H H')(hx:H x=some (.lst l))(h:Xdd H us xs):Xdd H' us xs:=h.mono fun b ys e=>s b _ (fun z=>by rw[z,hx] at e;cases e) e
end Stow
set_option Elab.async false
set_option linter.all false
set_option maxRecDepth 100000
set_option maxHeartbeats 4000000
namespace Stow
open PySem L2 PyProof.Rows
end Stow
namespace Stow
open PySem L2 PyProof.Rows
theorem Xft.app {X Y:List Pc}(hX:Xft X)(hY:Xft Y)(hj:∀x y,X.getLast?=some x→Y[0]?=some y→x.v=true∨y.v=true):Xft (X++Y):=fun j y z h1 h2=>by
 by_cases e1:j+1<X.length
 · rw[List.getElem?_append_left (by omega)] at h1
   rw[List.getElem?_append_left e1] at h2
   exact hX j y z h1 h2
 · by_cases e2:j+1=X.length
   · rw[List.getElem?_append_left (by omega)] at h1
     rw[List.getElem?_append_right (by omega),show j+1-X.length=0 by omega] at h2
     refine hj y z ?_ h2
     rw[List.getLast?_eq_getElem?,show X.length-1=j by omega]
     exact h1
   · rw[List.getElem?_append_right (by omega)] at h1 h2
     rw[show j+1-X.length=(j-X.length)+1 by omega] at h2
     exact hY _ y z h1 h2
theorem Xft.left {X Y:List Pc}(h:Xft (X++Y)):Xft X:=fun j y z h1 h2=>by
 have l1:=(List.getElem?_eq_some_iff.mp h1).1
 have l2:=(List.getElem?_eq_some_iff.mp h2).1
 exact h j y z (by rw[List.getElem?_append_left l1];exact h1) (by rw[List.getElem?_append_left l2];exact h2)
theorem Xft.right {X Y:List Pc}(h:Xft (X++Y)):Xft Y:=fun j y z h1 h2=>h (X.length+j) y z (by rw[List.getElem?_append_right (by omega),show X.length+j-X.length=j by omega];exact h1) (by rw[List.getElem?_append_right (by omega),show X.length+j+1-X.length=j+1 by omega];exact h2)
theorem Xih:∀{A B:List Pc} {s e:Int},Xaq s (A++B) e→∃m,Xaq s A m∧Xaq m B e
 | [],B,s,e,c=>⟨s,rfl,c⟩
 | z::r,B,s,e,c=>by
   obtain⟨h1,h2,h3,h4⟩:=c
   obtain⟨m,g1,g2⟩:=Xih h4
   exact⟨m,⟨h1,h2,h3,g1⟩,g2⟩
end Stow
set_option Elab.async false
set_option linter.all false
set_option maxRecDepth 100000
set_option maxHeartbeats 4000000
namespace Stow
open PySem L2 PyProof.Rows
theorem Xcj {ps:List Pc}{s e p:Int}{y z:Pc}(c:Xaq s ps e)(hy:y∈ps)(hz:z∈ps)(h1:y.a≤p)(h2:p<y.a+y.l)(h3:z.a≤p)(h4:p<z.a+z.l):y=z:=by
 obtain⟨i,hi⟩:=List.getElem?_of_mem hy
 obtain⟨j,hj⟩:=List.getElem?_of_mem hz
 rcases Nat.lt_trichotomy i j with g | g | g
 · exfalso
   obtain⟨ds,rs,e1,e2,c1,c2⟩:=Xet c hj
   subst e1 e2
   rw[List.getElem?_append_left (by omega)] at hi
   have:=(c1.mem y (List.mem_of_getElem? hi)).2.2.2
   omega
 · subst g
   exact Option.some.inj (hi.symm.trans hj)
 · exfalso
   obtain⟨ds,rs,e1,e2,c1,c2⟩:=Xet c hi
   subst e1 e2
   rw[List.getElem?_append_left (by omega)] at hj
   have:=(c1.mem z (List.mem_of_getElem? hj)).2.2.2
   omega
def carI (cs:List Int)(s g c:Nat):List Int:=cs.take g++(cs.drop s).take c++cs.drop (g+c)
theorem Xtk {cs:List Int}{s g c:Nat}(h1:s+c≤cs.length)(h2:g+c≤cs.length):(carI cs s g c).length=cs.length:=by
 unfold carI
 simp
 omega
theorem Xvh {cs:List Int}{s g c j:Nat}(h1:s+c≤cs.length)(h2:g+c≤cs.length)(h:j<g∨g+c≤j):(carI cs s g c)[j]?=cs[j]?:=by
 unfold carI
 have l1:(cs.take g).length=g:=by rw[List.length_take];omega
 have l2:((cs.drop s).take c).length=c:=by rw[List.length_take,List.length_drop];omega
 rcases h with h | h
 · rw[List.append_assoc,List.getElem?_append_left (by omega),List.getElem?_take,if_pos h]
 · rw[List.getElem?_append_right (by rw[List.length_append];omega),List.length_append,l1,l2,List.getElem?_drop,show g+c+(j-(g+c))=j by omega]
theorem Xlt {cs:List Int}{ps:List Pc}{z:Pc}{s c n:Nat}(hc:Xaq 0 ps n)(hn:cs.length=n)(m:Xbb cs ps)(hz:z∈ps)(hv:z.v=true)(h1:s+c≤n)(h2:(c:Int)≤z.l-2):Xbb (carI cs s (z.a+1).toNat c) ps:=fun p hp=>by
 obtain⟨z0,z1,z3,z4⟩:=hc.mem z hz
 have z3:=z3 hv
 obtain⟨p0,p1,p3,p4⟩:=hc.mem p hp
 obtain⟨m1,m2⟩:=m p hp
 have h2':(z.a+1).toNat+c≤cs.length:=by omega
 have out:∀j:Int,0≤j→(j≤z.a∨z.a+z.l-1≤j)→(carI cs s (z.a+1).toNat c)[j.toNat]?=cs[j.toNat]?:=fun j j0 hj=>Xvh (by omega) h2' (by omega)
 by_cases e:p=z
 · subst e
   exact⟨by rw[out _ p0 (.inl (Int.le_refl _))];exact m1,by rw[out _ (by omega) (.inr (Int.le_refl _))];exact m2⟩
 · have far:p.a+p.l≤z.a∨z.a+z.l≤p.a:=by
     rcases Int.lt_or_le p.a z.a with h | h
     · left
       rcases Int.lt_or_le z.a (p.a+p.l) with g | g
       · exact absurd (Xcj hc hp hz (Int.le_of_lt h) g (Int.le_refl _) (by omega)) e
       · exact g
     · right
       rcases Int.lt_or_le p.a (z.a+z.l) with g | g
       · exact absurd (Xcj hc hp hz (Int.le_refl _) (by omega) h g) e
       · exact g
   exact⟨by rw[out _ p0 (by omega)];exact m1,by rw[out _ (by omega) (by omega)];exact m2⟩
theorem Xng {n d:Nat}{k:Int}(h0:0≤k)(h:k≤n):HT.sIx n d (some k)=k.toNat:=by
 have:=HT.sIx_nat n d k.toNat
 rw[Int.toNat_of_nonneg h0] at this
 rw[this]
 omega
theorem XAx {ns:List Int}{k:Int}(h0:0≤k)(h:k≤ns.length):cutI ns none (some k)=ns.take k.toNat:=by
 unfold cutI
 rw[Xng h0 h,HT.sIx_none]
 rfl
theorem Xui {ns:List Int}{k l:Int}(h0:0≤k)(h1:0≤l)(h:k+l≤ns.length):cutI ns (some k) (some (k+l))=(ns.drop k.toNat).take l.toNat:=by
 unfold cutI
 rw[Xng h0 (by omega),Xng (by omega) h,show (k+l).toNat-k.toNat=l.toNat by omega]
theorem Xpl {ns:List Int}{k:Int}(h0:0≤k)(h:k≤ns.length):cutI ns (some k) none=ns.drop k.toNat:=by
 unfold cutI
 rw[Xng h0 h,HT.sIx_none]
 exact List.take_of_length_le (by rw[List.length_drop];omega)
section
variable {X:Cx}{e:Expr}{t:TX}{epos:Pos}
end
end Stow
set_option Elab.async false
set_option linter.all false
set_option maxRecDepth 100000
set_option maxHeartbeats 4000000
namespace Stow
open PySem L2 PyProof.Rows
theorem Xcn {n m:Nat}(h:n+64<m):n+1<m:=by omega
theorem XHg {H:Hp}{a:Addr}{o:Obj}{kvs:List (Key×V)}{k:Key}(e:H a=some (.frz o (.dK kvs))):DGet H a (kV k) (valV kvs k):=.inl ⟨kvs,k,.inr ⟨o,e⟩,rfl,rfl⟩
def Itd (d:Addr)(o:Obj)(kvs:List (Key×V)):It :=
 ⟨fun i H=>H d=some (.frz o (.dK kvs))∧∃k v,kvs[i]?=some (k,v),fun i H x H'=>H'=H∧∃k v,kvs[i]?=some (k,v)∧x=kV k,fun i H=>H d=some (.frz o (.dK kvs))∧kvs.length≤i⟩
theorem Xnp {P:Program}{w:World}{H:Hp}{h:Heap}{d:Addr}{o:Obj}{kvs:List (Key×V)}{es:Array DictEntry}{ep:Nat}(ok:HOk P w H h)(e:H d=some (.frz o (.dK kvs)))(ho:o.data = .dict es ep) :
   ∃vs,KV kvs vs∧h.DictAt (Xas P w) d vs ep:=by
 obtain⟨h1,_,_,vs,r,o',es',ep',g1,g2,g3,g4⟩:=(show Xbq P w H h d (.frz o (.dK kvs)) from ok d _ e)
 rw[h1] at g1
 cases g1
 rw[ho] at g3
 cases g3
 exact⟨vs,r,o,es,h1,g2,ho,g4⟩
theorem Xfw {α β:Type}{F:α→β→Prop}:∀{xs:List α} {us:List β} {i:Nat} {x:α},Paired F xs us→xs[i]?=some x→∃u,us[i]?=some u∧F x u
 | _,_,_,_,.nil,e=>by simp at e
 | _,_,0,_,.cons r _,e=>by simp at e;subst e;exact⟨_,rfl,r⟩
 | _,_,i+1,x,.cons _ t,e=>by
   obtain⟨u,h1,h2⟩:=Xfw (i:=i) (x:=x) t (by simpa using e)
   exact⟨u,by simpa using h1,h2⟩
theorem Xvs {kvs:List (Key×V)}{vs:List (Key×Value)}(r:KV kvs vs){i:Nat}{k:Key}{v:V}(e:kvs[i]?=some (k,v)):∃u,vs[i]?=some (k,u):=by
 obtain⟨⟨k',u⟩,hq,h1,_⟩:=Xfw (show Paired _ kvs vs from r) e
 have h1:k=k':=h1
 subst h1
 exact⟨u,hq⟩
theorem Xls {P:Program}{w:World}{k:Key}{u:Value}(h:(Xas P w).is k u=true):RelV (kV k) u:=by
 rcases Xbl (show Xlc k u=true from h) with ⟨i,t,rfl,rfl⟩ | ⟨x,t,rfl,rfl⟩
 · exact⟨t,rfl⟩
 · exact⟨t,rfl⟩
theorem Xqb {P:Program}{w:World}{K:PySem.W.Frag}{tg:Expr}(d it:Addr)(o:Obj)(kvs:List (Key×V)){es:Array DictEntry}{ep:Nat}(ho:o.data = .dict es ep) :
   Turn P w K tg (Itd d o kvs) [it] it (fun i h=>h.IsKeyIter it d i kvs.length ep) where
 mem:=by simp
 obj:=fun i h st b hb=>by
   have e:b=it:=by simpa using hb
   subst e
   obtain⟨o,e,c,d⟩:=st
   exact⟨o,e,fun v z=>by rw[d] at z;cases z⟩
 keep:=fun i h h' st k=>st.at fun o e=>k it (by simp) o e
 item:=by
   intro X hP hw hK hc i pins s σ H E I hf st hg
   subst hP hw hK
   obtain⟨hd,k,v,hx⟩:=hg
   obtain⟨vs,r,m⟩:=Xnp I.hok hd ho
   obtain⟨u,hu⟩:=Xvs r hx
   have hl:=KV.length r
   obtain⟨f0,f1,f2,f3,f4,f5⟩:=hf it (by simp)
   have st:s.heap.IsKeyIter it d i vs.length ep:=hl▸st
   refine wpAny_pyNext_dict_item st m hu fun key h' hkey st' sb=>?_
   have I1:Inv X pins σ H { s with heap:=h' }:=I.turned (t':=s.toks) (fun b o hb e=>(sb.2 b hb).trans e) f0 f1 f3 f4 f5
   have st':h'.IsKeyIter it d (i+1) kvs.length ep:=hl▸st'
   obtain⟨o2,e2,c2,d2⟩:=id st'
   exact⟨key,rfl,Xuu (s:={ s with heap:=h' }) e2 c2 d2 (by decide) ⟨kV k,H,I1,Xls hkey,⟨rfl,k,v,hx,rfl⟩,st',fun b hb=>(hf b hb).1⟩⟩
 done:=by
   intro X hP hw hK hc i pins s σ H E I hf st hg
   subst hP hw hK
   obtain⟨hd,hx⟩:=hg
   obtain⟨vs,r,m⟩:=Xnp I.hok hd ho
   have hl:=KV.length r
   have st:s.heap.IsKeyIter it d i vs.length ep:=hl▸st
   obtain⟨f0,f1,f2,f3,f4,f5⟩:=hf it (by simp)
   exact wpAny_pyNext_dict_end (I.ok.hd hc) st m (List.getElem?_eq_none (by omega)) fun h' eb=>⟨rfl,I.turned (t':=s.toks) (fun b o hb e=>eb b o hb e) f0 f1 f3 f4 f5⟩
 self:=fun _ _ _ _ _ st h=>wpAny_pyIter_keyiter st h
section
variable {X:Cx}{pins:List (Addr×Obj)}{σ:L2.St}{H:Hp}{s:Shared}{d:Addr}{kvs:List (Key×V)}{o:Obj}
theorem Xvp (I:Inv X pins σ H s)(e:H d=some (.dK kvs)):∃(o:Obj) (es:Array DictEntry) (ep:Nat) (vs:List (Key×Value)),o.data = .dict es ep∧(d==sysModules)=false∧KV kvs vs∧s.heap.DictAt (Xas X.prog X.w) d vs ep∧Inv X pins σ (upd H d (.frz o (.dK kvs))) s:=by
 obtain⟨z,y,vs,r,o,es,ep,g1,g2,g3,g4⟩:=(show Xbq X.prog X.w H s.heap d (.dK kvs) from I.hok d _ e)
 refine⟨o,es,ep,vs,g3,y,r,⟨o,es,g1,g2,g3,g4⟩,?_⟩
 exact I.write (x:=d) (e:=d) (h':=s.heap) (t':=s.toks) (by rw[e];exact trivial) (.inl rfl) (fun _ _ _ q=>q) ⟨o,g1⟩ ⟨g1,z,y,vs,r,o,es,ep,g1,g2,g3,g4⟩
theorem thaw (I:Inv X pins σ H s)(nf:∀ob u,X.H₀ d≠some (.frz ob u))(e:H d=some (.frz o (.dK kvs))):Inv X pins σ (upd H d (.dK kvs)) s:=by
 have nn:∀b,H b=none→b≠d:=fun b n z=>by rw[z,e] at n;cases n
 have nu:∀b u,H b=some u→(∀ob w,u≠.frz ob w)→b≠d:=fun b u q hn z=>by
   rw[z,e] at q
   exact hn _ _ (Option.some.inj q).symm
 refine⟨I.ok,I.os,I.bare,⟨I.base.keep,I.base.slot,fun b o q n hx=>?_,I.base.there,fun b xs q=>?_,fun b ob u q=>?_,fun b ps q=>?_⟩,I.loc,I.cell,?_,fun x c q=>?_,fun p hp=>?_,fun b u q=>?_,I.len⟩
 · have:=I.base.free b o q n hx
   rw[Xah (nn b this)]
   exact this
 · have:=I.base.tups b xs q
   rw[Xah (nu b _ this fun _ _ z=>by cases z)]
   exact this
 · rw[Xah (fun z=>nf ob u (by rw[←z];exact q))]
   exact I.base.frzs b ob u q
 · obtain⟨more,this⟩:=I.base.tbls b ps q
   rw[Xah (nu b _ this fun _ _ z=>by cases z)]
   exact⟨more,this⟩
 · rw[Xah (nn _ I.free)]
   exact I.free
 · have:=I.freeC x c q
   rw[Xah (nn c this)]
   exact this
 · obtain⟨h1,h2,h3⟩:=I.pin p hp
   exact⟨h1,by rw[Xah (nn _ h2)];exact h2,h3⟩
 · by_cases hb:b=d
   · subst hb
     rw[upd_same] at q
     cases q
     exact(show Xbq X.prog X.w H s.heap b (.frz o (.dK kvs)) from I.hok b _ e).2
   · rw[Xah hb] at q
     refine(I.hok b u q).stay (fun _ _ _ g=>g) (fun c g=>?_) fun c xs g=>?_
     · rw[Xah (nu c _ g fun _ _ z=>by cases z)]
       exact g
     · rw[Xah (nu c _ g fun _ _ z=>by cases z)]
       exact g
end
section
variable {X:Cx}{tg:Expr}
def XJh (NF:Addr→Prop)(tl:TE):TI:=fun σ H R=>tl σ H fun x H1=>∃d kvs,x = .ref d∧H1 d=some (.dK kvs)∧∀o,NF d→R (Itd d o kvs) (upd H1 d (.frz o (.dK kvs)))
theorem XBf {l:Expr}{tl:TE}(hl:PE X l tl):PI X tg l (XJh (fun d=>∀ob u,X.H₀ d≠some (.frz ob u)) tl):=by
 intro pins s σ H R I h
 refine thn (hl pins s σ H _ I h) fun v s1 ⟨x,H1,I1,r1,q1⟩=>?_
 obtain⟨d,kvs,e,hd,q⟩:=q1
 subst e
 cases r1
 obtain⟨o,es,ep,vs,g2,y,kvl,m,I2⟩:=Xvp I1 hd
 have nf:∀ob u,X.H₀ d≠some (.frz ob u):=fun ob u z=>by
   have:=I1.base.frzs d ob u z
   rw[hd] at this
   cases this
 refine wpAny_pyIter_dict y m ?_
 refine⟨s1.heap.objs.size,[s1.heap.objs.size],_,_,_,rfl,I2.kept (t':=s1.toks) fun b o e=>Heap.get?_push_of_some _ e,Xqb d _ o kvs g2,?_,fun b hb=>?_,q o nf⟩
 · refine⟨_,Heap.get?_push_size _ rfl,rfl,?_⟩
   rw[KV.length kvl]
   rfl
 have e:b=s1.heap.objs.size:=by simpa using hb
 subst e
 exact I2.fpOk (Nat.le_refl _) (I2.hok.fresh (Nat.le_refl _))
def XEz (tl:TE)(g:TG)(tb:TS):TS:=fun D σ H=>∀NF:Addr→Prop,tFor (XJh NF tl) g tb { D with nx:=fun σ' H'=>∃d o kvs,NF d∧H' d=some (.frz o (.dK kvs))∧D.nx σ' (upd H' d (.dK kvs)) } σ H
theorem Xyy {iter:Expr}{body:List Stmt}{tl:TE}{g:TG}{tb:TS}{pos:Pos}(hp:PassesOwn (model X.prog X.w) X.A X.env X.xe)(hc:X.calm=true)(hl:PE X iter tl)(hg:PG X tg g)(hb:PSs X body tb)
   (hs:∀x,foldedSetIterable iter X.env x=pure x:=by intro _;rfl):PS X (.For tg iter body [] pos) (XEz tl g tb):=by
 intro pins s σ H D I h
 refine thn (ps_for hp hc (XBf hl) hg hb hs pins s σ H _ I (h _)) fun f s' q=>?_
 cases f with
 | next =>
   obtain⟨σ',H',I',d,o,kvs,nf,e,q⟩:=q
   exact⟨σ',_,thaw I' nf e,q⟩
 | brk=>exact q
 | cont=>exact q
 | ret v=>exact q
end
section
variable {K:PySem.W.Frag}{σ:L2.St}{H:Hp}{Q:VK}{D:Ends}
theorem r_forD {tl:TE}{g:TG}{tb:TS}(h:∀NF:Addr→Prop,tl σ H fun x H1=>∃d kvs,x = .ref d∧H1 d=some (.dK kvs)∧∀o,NF d→∃W:Nat→Nat→L2.St→Hp→Prop,(∃m,W 0 m σ (upd H1 d (.frz o (.dK kvs))))∧∀i m σ H,W i m σ H →
   ((Itd d o kvs).stop i H∧(∃d o kvs,NF d∧H d=some (.frz o (.dK kvs))∧D.nx σ (upd H d (.dK kvs))))∨((Itd d o kvs).go i H∧∃N:L2.St→Hp→Prop,(∀σ' H',N σ' H'→∃m',m'<m∧W (i+1) m' σ' H')∧∀x H',(Itd d o kvs).yld i H x H'→g x σ H' fun σ2 H2=>tb { D with nx:=N,ct:=N,bk:=fun σ' H'=>∃d o kvs,NF d∧H' d=some (.frz o (.dK kvs))∧D.nx σ' (upd H' d (.dK kvs)) } σ2 H2)):XEz tl g tb D σ H:=h
theorem Xuq {d:Addr}{o:Obj}{kvs:List (Key×V)}{NF:Addr→Prop}{g:TG}{tb:TS}(nf:NF d)(Pv:Nat→L2.St→Hp→Prop)(h0:Pv 0 σ H)(hl:∀i σ H,Pv i σ H→H d=some (.frz o (.dK kvs)))
   (hs:∀i k v σ H,kvs[i]?=some (k,v)→Pv i σ H→g (kV k) σ H fun σ2 H2=>tb { D with nx:=Pv (i+1),ct:=Pv (i+1),bk:=fun σ' H'=>∃d o kvs,NF d∧H' d=some (.frz o (.dK kvs))∧D.nx σ' (upd H' d (.dK kvs)) } σ2 H2)
   (hd:∀σ H,Pv kvs.length σ H→D.nx σ (upd H d (.dK kvs))) :
   ∃W:Nat→Nat→L2.St→Hp→Prop,(∃m,W 0 m σ H)∧∀i m σ H,W i m σ H →
   ((Itd d o kvs).stop i H∧(∃d o kvs,NF d∧H d=some (.frz o (.dK kvs))∧D.nx σ (upd H d (.dK kvs))))∨((Itd d o kvs).go i H∧∃N:L2.St→Hp→Prop,(∀σ' H',N σ' H'→∃m',m'<m∧W (i+1) m' σ' H')∧∀x H',(Itd d o kvs).yld i H x H'→g x σ H' fun σ2 H2=>tb { D with nx:=N,ct:=N,bk:=fun σ' H'=>∃d o kvs,NF d∧H' d=some (.frz o (.dK kvs))∧D.nx σ' (upd H' d (.dK kvs)) } σ2 H2):=by
 refine⟨fun i m σ H=>m=kvs.length-i∧i≤kvs.length∧Pv i σ H,⟨kvs.length,by simp,Nat.zero_le _,h0⟩,?_⟩
 rintro i m σ H ⟨rfl,hi,p⟩
 have q:=hl i σ H p
 by_cases hlt:i<kvs.length
 · obtain⟨k,v,ekv⟩:∃k v,kvs[i]?=some (k,v):=⟨kvs[i].1,kvs[i].2,by simp [hlt]⟩
   refine .inr ⟨⟨q,k,v,ekv⟩,Pv (i+1),fun σ' H' p'=>⟨kvs.length-(i+1),by omega,rfl,hlt,p'⟩,fun x H' y=>?_⟩
   obtain⟨e,k',v',e',ex⟩:=y
   subst e ex
   exact hs i k' v' σ _ e' p
 · have e:i=kvs.length:=by omega
   subst e
   exact .inl ⟨⟨q,Nat.le_refl _⟩,d,o,kvs,nf,q,hd σ H p⟩
theorem r_dget {td ty:TE}(h:td σ H fun x H1=>ty σ H1 fun y H2=>∃a v,x = .ref a∧DGet H2 a y (some v)∧Q v H2):XIv td ty σ H Q:=h
theorem r_dput {td ty tv:TE}(h:tv σ H fun v H1=>td σ H1 fun x H2=>ty σ H2 fun y H3=>∃a H4,x = .ref a∧DPut H3 a y v H4∧D.nx σ H4):XKt td ty tv D σ H:=h
theorem r_dnew (h:∀p,H p=none→Q (.ref p) (upd H p (.dK []))):Xwx σ H Q:=h
theorem r_tyD {p:Addr}{kvs:List (Key×V)}{P:Prop}(h:H p=some (.dK kvs))(q:P):tyV K "dict" (.ref p) H∧P:=⟨.inr (.inr (.inl ⟨rfl,.inl ⟨_,h⟩⟩)),q⟩
end
def Xpp:V→List V→Hp→VK→Prop:=fun x vs H Q=>∃a kvs,x = .ref a∧vs=[]∧H a=some (.dK kvs)∧Q .non (upd H a (.dK []))
theorem Xrv {X:Cx}:MtM X "dict.clear" Xpp:=by
 intro pins s σ H x vs v us Q I rx rv h
 obtain⟨a,kvs,rfl,rfl,hH,q⟩:=h
 cases rx
 have hus:=rv.zero
 subst hus
 exact Xzi I hH fun s' I'=>⟨.non,_,I',rfl,q⟩
theorem Xvm {H:Hp}{Q:VK}{a:Addr}{kvs:List (Key×V)}(h:H a=some (.dK kvs))(q:Q .non (upd H a (.dK []))):Xpp (.ref a) [] H Q:=⟨a,kvs,rfl,rfl,h,q⟩
theorem Xuy {kvs:List (Key×V)}{k:Key}{v:V}{p:Key×V}(h:p∈putK kvs k v):p=(k,v)∨(p∈kvs∧p.1≠k):=by
 unfold putK at h
 split at h
 · obtain⟨q,hq,e⟩:=List.mem_map.mp h
   by_cases hk:q.1=k
   · rw[if_pos hk] at e
     left
     rw[←e,hk]
   · rw[if_neg hk] at e
     subst e
     exact .inr ⟨hq,hk⟩
 · rename_i hn
   rcases List.mem_append.mp h with g | g
   · refine .inr ⟨g,fun z=>hn ?_⟩
     exact List.any_eq_true.mpr ⟨p,g,decide_eq_true z⟩
   · exact .inl (List.mem_singleton.mp g)
end Stow
namespace Stow
open PySem L2 PyProof.Rows
inductive W4
 | first | best | next | likes
def XGw (P:Program)(w:World)(K:PySem.W.Frag)(mg:Str→Option Value)(base:Heap)(ok:W4→Prop)(C:W4→Addr)(m:Str)(j:Nat)(ps:List Str)(dvs:List V)(sp:W4→Sp):Prop:=∀i,ok i→Methx P w K mg base (C i) m j ps dvs (sp i)
def Xtp (P:Program)(w:World)(K:PySem.W.Frag)(mg:Str→Option Value)(base:Heap)(C:W4→Addr)(m:Str)(j:Nat)(ps:List Str)(dvs:List V)(sp:W4→Sp):Prop:=∀i,Methx P w K mg base (C i) m j ps dvs (sp i)
structure MethFD (P:Program)(w:World)(K:PySem.W.Frag)(mg:Str→Option Value)(base:Heap)(C:W4→Addr)(m:Str)(j:Nat)(ps:List Str)(dvs:List V)(sp:W4→Sp):Prop where
 all:Xtp P w K mg base C m j ps [] sp
 less:Xtp P w K mg base C m j ps dvs sp
section
variable {P:Program}{w:World}{K:PySem.W.Frag}{mg:Str→Option Value}{base:Heap}{C:W4→Addr}{m:Str}{j k:Nat}{ps:List Str}{dvs:List V}{sp:W4→Sp}{ok ok':W4→Prop}{f:Addr}{fd:FuncData}{ds:List Value}
theorem XGw.made (F:FnOk P w K mg base (CXe P w) j f fd ps (fun vs H Q E=>∃i,ok i∧sp i vs H Q E))(M:∀i,ok i→Meth K (C i) m f)(b:Xci K fd ps [])(c:∀i,Cls K (C i)):XGw P w K mg base ok C m j ps [] sp :=
 fun i hi=>⟨⟨f,fd,[],F.imp fun _ _ _ _ h=>⟨i,hi,h⟩,M i hi,b,.nil⟩,c i⟩
theorem Xtp.made (F:FnOk P w K mg base (CXe P w) j f fd ps (fun vs H Q E=>∃i,sp i vs H Q E))(M:∀i,Meth K (C i) m f)(b:Xci K fd ps [])(c:∀i,Cls K (C i)):Xtp P w K mg base C m j ps [] sp :=
 fun i=>⟨⟨f,fd,[],F.imp fun _ _ _ _ h=>⟨i,h⟩,M i,b,.nil⟩,c i⟩
theorem MethFD.made (F:FnOk P w K mg base (CXe P w) j f fd ps (fun vs H Q E=>∃i,sp i vs H Q E))(M:∀i,Meth K (C i) m f)(b:Xci K fd ps [])(b':Xci K fd ps ds)(v:Vals dvs ds)(c:∀i,Cls K (C i)):MethFD P w K mg base C m j ps dvs sp :=
 ⟨fun i=>⟨⟨f,fd,[],F.imp fun _ _ _ _ h=>⟨i,h⟩,M i,b,.nil⟩,c i⟩,fun i=>⟨⟨f,fd,ds,F.imp fun _ _ _ _ h=>⟨i,h⟩,M i,b',v⟩,c i⟩⟩
theorem Methx.up {C₀:Addr}{sp₀:Sp}(D:Methx P w K mg base C₀ m j ps dvs sp₀)(h:j≤k):Methx P w K mg base C₀ m k ps dvs sp₀:=by
 obtain⟨f,fd,ds,F,M,b,v⟩:=D.ex
 exact⟨⟨f,fd,ds,F.mono h,M,b,v⟩,D.cl⟩
end
section
variable {X:Cx}{j k:Nat}{C:W4→Addr}{ps:List Str}{sp:W4→Sp}{dvs:List V}{m:Str}{pos apos:Pos}{e o:Expr}{es:List Expr}{to:TE}{t:TA}{E:XK}
end
section
variable {K:PySem.W.Frag}{σ:L2.St}{H:Hp}{Q:VK}{EX:XK}{C:W4→Addr}{m:Str}{sp:W4→Sp}{E:XK}{ta:TE}{t:TA}{dvs:List V}
end
theorem decS {i j:Str}:decide (V.str i=V.str j)=decide (i=j):=by
 rw[Xlq,Bool.eq_iff_iff]
 simp
section
variable {H:Hp}{Q:VK}
theorem r_eqSS {i:Str}(h:Q (.bl true) H):rEq (.str i) (.str i) H Q:=⟨rfl,by rw[decide_eq_true rfl];exact h⟩
theorem r_eqSt {i j:Str}(h:Q (.bl (decide (i=j))) H):rEq (.str i) (.str j) H Q:=⟨rfl,by rw[decS];exact h⟩
end
end Stow
namespace Stow
open PySem L2 PyProof.Rows
theorem Xsj:∀{xs:List V} {us:List Value},us.length=xs.length→(∀(j:Nat) (v:V) (u:Value),xs[j]?=some v→us[j]?=some u→RelV v u)→Vals xs us
 | [],[],_,_=>.nil
 | x::xs,u::us,hl,h=>.cons (h 0 x u rfl rfl) (Xsj (by simpa using hl) fun j v u' h1 h2=>h (j+1) v u' (by simpa using h1) (by simpa using h2))
section
variable {X:Cx}{a:Expr}{ta:TE}
theorem Xjn (ha:PE X a ta)(he:∀whole,isTrue a X.env whole=(do let v ←whole;standAt a.pos;holding [v] (truthy v))) :
   PT X a (fun σ H Q=>ta σ H fun x H'=>∃p,∃kvs:List (Key×V),x = .ref p∧H' p=some (.dK kvs)∧Q (!kvs.isEmpty) H'):=by
 intro pins s σ H Q I h
 refine isTrue_plain (thn (ha pins s σ H _ I h) fun v s1 ⟨x,H1,I1,r1,p,kvs,ex,e,q1⟩=>?_) (he _)
 subst ex
 obtain rfl:v=Value.ref p:=r1
 exact Xyv I1 (.inl e) fun s' I'=>⟨H1,I',q1⟩
end
section
variable {K:PySem.W.Frag}{σ:L2.St}{H:Hp}{Q:VK}
theorem r_dIn {ty td:TE}(h:ty σ H fun y H1=>td σ H1 fun x H2=>∃a o,x = .ref a∧DGet H2 a y o∧Q (.bl o.isSome) H2):tDIn ty td σ H Q:=h
theorem r_dPop {td ty:TE}(h:td σ H fun x H1=>∃a,x = .ref a∧IsD H1 a∧ty σ H1 fun y H2=>∃kvs k v,H2 a=some (.dK kvs)∧y=kV k∧valV kvs k=some v∧Q v (upd H2 a (.dK (Xbz kvs k)))):Xwl td ty σ H Q:=h
end
end Stow
namespace Stow
def Inn (z:Pc)(i:Nat):Prop:=z.a+1≤i∧(i:Int)<z.a+z.l-1
theorem apart {ps:List Pc}{s e:Int}{y z:Pc}{i:Int}(c:Xaq s ps e)(hy:y∈ps)(hz:z∈ps)(hne:y≠z)(h1:z.a≤i)(h2:i<z.a+z.l):i<y.a∨y.a+y.l≤i:=by
 rcases Int.lt_or_le i y.a with g | g
 · exact .inl g
 · rcases Int.lt_or_le i (y.a+y.l) with g2 | g2
   · exact absurd (Xcj c hy hz g g2 h1 h2) hne
   · exact .inr g2
theorem XCo {cs:List Int}{s g c j:Nat}(h1:s+c≤cs.length)(h2:g+c≤cs.length)(hj:j<c):(carI cs s g c)[g+j]?=cs[s+j]?:=by
 unfold carI
 have lt:(cs.take g).length=g:=by rw[List.length_take];omega
 have lm:((cs.drop s).take c).length=c:=by rw[List.length_take,List.length_drop];omega
 rw[List.append_assoc,List.getElem?_append_right (by omega),lt,List.getElem?_append_left (by omega),show g+j-g=j by omega,List.getElem?_take,if_pos hj,List.getElem?_drop]
theorem Xuo {cs:List Int}{s g c j:Nat}(h1:s+c≤cs.length)(h2:g+c≤cs.length)(hj:j<g∨g+c≤j):(carI cs s g c)[j]?=cs[j]?:=by
 unfold carI
 have lt:(cs.take g).length=g:=by rw[List.length_take];omega
 have lm:((cs.drop s).take c).length=c:=by rw[List.length_take,List.length_drop];omega
 rcases hj with hj | hj
 · rw[List.append_assoc,List.getElem?_append_left (by omega),List.getElem?_take,if_pos hj]
 · rw[List.getElem?_append_right (by rw[List.length_append];omega),List.getElem?_drop,List.length_append,lt,lm]
   congr 1
   omega
end Stow
set_option Elab.async false
set_option linter.all false
set_option maxRecDepth 100000
set_option maxHeartbeats 4000000
namespace Stow
structure Sf where
 n:Int
 b:List Bool
def slP (n:Int):Int→List Bool→List Pc
 | _,[]=>[]
 | A,v::r=>⟨A,n,v⟩::slP n (A+n) r
def shP (s A:Int)(f:Sf):List Pc:=slP f.n A f.b++fr (A+f.n*(f.b.length:Int)) (A+s)
def alP (s:Int):Int→List Sf→List Pc
 | _,[]=>[]
 | A,f::r=>shP s A f++alP s (A+s) r
def SfW (s:Int)(f:Sf):Prop:=(f.n=0∧f.b=[])∨(3≤f.n∧f.n≤s∧f.n*(f.b.length:Int)≤s∧s<f.n*(f.b.length:Int)+f.n)
def SfOk (s:Int)(f:Sf):Prop:=SfW s f∧(f.n≠0→true∈f.b)
theorem Xax (n:Int)(m:Nat):n*((m+1:Nat):Int)=n*(m:Int)+n:=by
 rw[Int.natCast_add,Int.mul_add]
 simp
theorem Xlw (n:Int):∀(b c:List Bool) (A:Int),slP n A (b++c)=slP n A b++slP n (A+n*(b.length:Int)) c
 | [],c,A=>by simp [slP]
 | v::r,c,A=>by
   have e:=Xax n r.length
   show (⟨A,n,v⟩:Pc)::slP n (A+n) (r++c)=(⟨A,n,v⟩:Pc)::(slP n (A+n) r++slP n (A+n*((r.length+1:Nat):Int)) c)
   rw[Xlw n r c (A+n),e,show A+n+n*(r.length:Int)=A+(n*(r.length:Int)+n) by omega]
theorem Xkr {n:Int}(h:3≤n):∀(b:List Bool) (A:Int),Xaq A (slP n A b) (A+n*(b.length:Int))
 | [],A=>by show A=_;simp
 | v::r,A=>by
   have e:=Xax n r.length
   refine⟨rfl,by show 1≤n;omega,fun _=>h,?_⟩
   have:=Xkr h r (A+n)
   rw[show A+n+n*(r.length:Int)=A+n*((r.length+1:Nat):Int) by omega] at this
   exact this
theorem Xdp {s A:Int}{f:Sf}(h1:1≤s)(w:SfW s f):Xaq A (shP s A f) (A+s):=by
 rcases w with ⟨e1,e2⟩ | ⟨h3,_,h4,_⟩
 · unfold shP
   rw[e1,e2]
   show Xaq A (fr (A+0*((0:Nat):Int)) (A+s)) (A+s)
   rw[Int.zero_mul,Int.add_zero]
   exact Xmk (by omega)
 · exact(Xkr h3 f.b A).app (Xmk (by omega))
theorem Xdt {s:Int}(h1:1≤s):∀(fs:List Sf) (A:Int),(∀f∈fs,SfW s f)→Xaq A (alP s A fs) (A+s*(fs.length:Int))
 | [],A,_=>by show A=_;simp
 | f::r,A,w=>by
   have e:=Xax s r.length
   have:=Xdt h1 r (A+s) fun g hg=>w g (List.mem_cons_of_mem _ hg)
   rw[show A+s+s*(r.length:Int)=A+s*((r.length+1:Nat):Int) by omega] at this
   exact(Xdp h1 (w f List.mem_cons_self)).app this
theorem Xjb (s:Int):∀(b c:List Sf) (A:Int),alP s A (b++c)=alP s A b++alP s (A+s*(b.length:Int)) c
 | [],c,A=>by simp [alP]
 | f::r,c,A=>by
   have e:=Xax s r.length
   show shP s A f++alP s (A+s) (r++c)=(shP s A f++alP s (A+s) r)++alP s (A+s*((r.length+1:Nat):Int)) c
   rw[Xjb s r c (A+s),e,show A+s+s*(r.length:Int)=A+(s*(r.length:Int)+s) by omega,List.append_assoc]
theorem Xej {α:Type}{xs:List α}{j:Nat}{x:α}(h:xs[j]?=some x):xs=xs.take j++x::xs.drop (j+1)∧(xs.take j).length=j∧∀y,xs.set j y=xs.take j++y::xs.drop (j+1):=by
 obtain⟨hj,hx⟩:=List.getElem?_eq_some_iff.mp h
 have e:xs=xs.take j++x::xs.drop (j+1):=by
   rw[←hx,←List.drop_eq_getElem_cons hj,List.take_append_drop]
 have l:(xs.take j).length=j:=by rw[List.length_take];omega
 refine⟨e,l,fun y=>?_⟩
 have:(xs.take j++x::xs.drop (j+1)).set j y=xs.take j++y::xs.drop (j+1):=by
   rw[List.set_append_right _ _ (by omega),l,Nat.sub_self,List.set_cons_zero]
 rw[←e] at this
 exact this
theorem Xfx {α:Type}{xs:List α}{j:Nat}{x:α}(h:xs[j]?=some x):xs.set j x=xs:=by
 obtain⟨e,_,g⟩:=Xej h
 rw[g x]
 exact e.symm
theorem Xdy {s:Int}{fs:List Sf}{j:Nat}{f:Sf}(h1:1≤s)(w:∀f∈fs,SfW s f)(h:fs[j]?=some f):∃ds rs,(∀g,alP s 0 (fs.set j g)=ds++(shP s (s*(j:Int)) g++rs))∧Xaq 0 ds (s*(j:Int))∧Xaq (s*(j:Int)+s) rs (s*(fs.length:Int)):=by
 obtain⟨e,l,g⟩:=Xej h
 have hj:j<fs.length:=(List.getElem?_eq_some_iff.mp h).1
 refine⟨alP s 0 (fs.take j),alP s (s*(j:Int)+s) (fs.drop (j+1)),fun y=>?_,?_,?_⟩
 · rw[g y,Xjb,l,Int.zero_add]
   rfl
 · have:=Xdt h1 (fs.take j) 0 fun f hf=>w f (List.mem_of_mem_take hf)
   rw[l,Int.zero_add] at this
   exact this
 · have:=Xdt h1 (fs.drop (j+1)) (s*(j:Int)+s) fun f hf=>w f (List.mem_of_mem_drop hf)
   rw[List.length_drop] at this
   have e2:s*(j:Int)+s+s*((fs.length-(j+1):Nat):Int)=s*(fs.length:Int):=by
     rw[←Xax,←Int.mul_add,←Int.natCast_add,show j+1+(fs.length-(j+1))=fs.length by omega]
   rw[e2] at this
   exact this
theorem Xez {s:Int}{fs:List Sf}{j:Nat}{f:Sf}(h:fs[j]?=some f):alP s 0 (fs.set j f)=alP s 0 fs:=by rw[Xfx h]
theorem Xji {n A:Int}{b:List Bool}{i:Nat}{v0:Bool}(h:b[i]?=some v0):∃ds rs,∀v,slP n A (b.set i v)=ds++⟨A+n*(i:Int),n,v⟩::rs:=by
 obtain⟨_,l,g⟩:=Xej h
 refine⟨slP n A (b.take i),slP n (A+n*(i:Int)+n) (b.drop (i+1)),fun v=>?_⟩
 rw[g v,Xlw,l]
 rfl
theorem XAq {s:Int}{fs:List Sf}{j i:Nat}{n:Int}{b:List Bool}{v0:Bool}(h1:1≤s)(w:∀f∈fs,SfW s f)(h:fs[j]?=some ⟨n,b⟩)(hb:b[i]?=some v0):∃ds rs,∀v,alP s 0 (fs.set j ⟨n,b.set i v⟩)=ds++⟨s*(j:Int)+n*(i:Int),n,v⟩::rs:=by
 obtain⟨ds,rs,e,_,_⟩:=Xdy h1 w h
 obtain⟨d2,r2,e2⟩:=Xji (n:=n) (A:=s*(j:Int)) hb
 refine⟨ds++d2,r2++fr (s*(j:Int)+n*(b.length:Int)) (s*(j:Int)+s)++rs,fun v=>?_⟩
 rw[e ⟨n,b.set i v⟩]
 unfold shP
 show ds++((slP n (s*(j:Int)) (b.set i v)++fr (s*(j:Int)+n*((b.set i v).length:Int)) (s*(j:Int)+s))++rs)=_
 rw[e2 v,List.length_set]
 simp [List.append_assoc]
theorem Xeh {s:Int}{fs:List Sf}{j i:Nat}{n:Int}{b:List Bool}{v0:Bool}(h:fs[j]?=some ⟨n,b⟩)(hb:b[i]?=some v0):alP s 0 (fs.set j ⟨n,b.set i v0⟩)=alP s 0 fs:=by rw[Xfx hb,Xfx h]
theorem XKj {s:Int}{fs:List Sf}{j:Nat}{g:Sf}(w:∀f∈fs,SfW s f)(hg:SfW s g):∀f∈fs.set j g,SfW s f:=fun f hf=>by
 rcases List.mem_or_eq_of_mem_set hf with h | h
 · exact w f h
 · rw[h];exact hg
theorem Xjk {s:Int}{n:Int}{b:List Bool}{i:Nat}{v:Bool}(w:SfW s ⟨n,b⟩)(hb:i<b.length):SfW s ⟨n,b.set i v⟩:=by
 rcases w with ⟨e1,e2⟩ | h
 · have e2:b=[]:=e2
   rw[e2] at hb
   exact absurd hb (Nat.not_lt_zero _)
 · right
   show 3≤n∧n≤s∧n*((b.set i v).length:Int)≤s∧s<n*((b.set i v).length:Int)+n
   rw[List.length_set]
   exact h
theorem Xfc {s:Int}{fs:List Sf}{cs:List Int}{j i:Nat}{n:Int}{b:List Bool}{v0 v:Bool}(h1:1≤s)(w:∀f∈fs,SfW s f)(h:fs[j]?=some ⟨n,b⟩)(hb:b[i]?=some v0)(hl:(cs.length:Int)=s*(fs.length:Int))(m:Xbb cs (alP s 0 fs)) :
   0≤s*(j:Int)+n*(i:Int)∧3≤n∧s*(j:Int)+n*(i:Int)+n≤cs.length∧(⟨s*(j:Int)+n*(i:Int),n,v0⟩:Pc)∈alP s 0 fs∧Xbb (Xcr cs (s*(j:Int)+n*(i:Int)) n v) (alP s 0 (fs.set j ⟨n,b.set i v⟩)):=by
 obtain⟨ds,rs,e⟩:=XAq h1 w h hb
 have c:=Xdt h1 fs 0 w
 rw[Int.zero_add,←hl,←Xeh h hb,e v0] at c
 rw[←Xeh h hb,e v0] at m
 have hib:i<b.length:=(List.getElem?_eq_some_iff.mp hb).1
 have n3:3≤n:=by
   rcases w _ (List.mem_of_getElem? h) with ⟨_,e2⟩ | g
   · have e2:b=[]:=e2
     rw[e2] at hib
     exact absurd hib (Nat.not_lt_zero _)
   · exact g.1
 have hm:=c.mem ⟨s*(j:Int)+n*(i:Int),n,v0⟩ (List.mem_append_right _ List.mem_cons_self)
 obtain⟨k,c1,c2⟩:=Xih c
 obtain⟨ea,_,_,c3⟩:=c2
 have ea:s*(j:Int)+n*(i:Int)=k:=ea
 have c3:Xaq (k+n) rs cs.length:=c3
 refine⟨hm.1,n3,hm.2.2.2,?_,?_⟩
 · rw[←Xeh h hb,e v0]
   exact List.mem_append_right _ List.mem_cons_self
 rw[e v,ea]
 refine Xbb.lay (by omega) (by omega) (by have:=hm.2.2.2;show k+n≤cs.length;rw[←ea];exact this) (c1.endBy (Int.le_refl 0)) c3.fromOn (m.sub fun p hp=>?_)
 rcases List.mem_append.mp hp with g | g
 · exact List.mem_append_left _ g
 · exact List.mem_append_right _ (List.mem_cons_of_mem _ g)
theorem Xcp {s A:Int}(h1:1≤s):shP s A ⟨0,[]⟩=[⟨A,s,false⟩]:=by
 unfold shP
 show []++fr (A+0*((0:Nat):Int)) (A+s)=_
 rw[Int.zero_mul,Int.add_zero,List.nil_append]
 unfold fr
 rw[if_neg (by omega),show A+s-A=s by omega]
theorem Xkn {s:Int}{fs:List Sf}{cs:List Int}{j:Nat}{f:Sf}(h1:1≤s)(w:∀f∈fs,SfW s f)(h:fs[j]?=some f)(hl:(cs.length:Int)=s*(fs.length:Int))(m:Xbb cs (alP s 0 fs)) :
   0≤s*(j:Int)∧s*(j:Int)+s≤cs.length∧Xbb (Xcr cs (s*(j:Int)) s false) (alP s 0 (fs.set j ⟨0,[]⟩)):=by
 obtain⟨ds,rs,e,c1,c2⟩:=Xdy h1 w h
 have l1:=c1.le
 have l2:=c2.le
 rw[←Xez h,e f] at m
 refine⟨by omega,by omega,?_⟩
 rw[e,Xcp h1]
 exact Xbb.lay (by omega) h1 (by omega) (c1.endBy (Int.le_refl 0)) c2.fromOn (m.sub fun p hp=>by
   rcases List.mem_append.mp hp with g | g
   · exact List.mem_append_left _ g
   · exact List.mem_append_right _ (List.mem_append_right _ g))
def ctP (A e k:Int)(i:Nat):List Pc:=(List.range i).map fun j:Nat=>⟨A+k*(j:Int),min k (e-(A+k*(j:Int))),false⟩
theorem Xgj (A e k:Int)(i:Nat):ctP A e k (i+1)=ctP A e k i++[⟨A+k*(i:Int),min k (e-(A+k*(i:Int))),false⟩]:=by
 unfold ctP
 rw[List.range_succ,List.map_append]
 rfl
theorem Xxg (k A:Int)(i:Nat):slP k A (List.replicate (i+1) false)=slP k A (List.replicate i false)++[⟨A+k*(i:Int),k,false⟩]:=by
 rw[List.replicate_succ',Xlw,List.length_replicate]
 rfl
theorem Xip {A s k:Int}(h1:1≤k):∀i:Nat,k*(i:Int)≤s→ctP A (A+s) k i=slP k A (List.replicate i false)
 | 0,_=>rfl
 | i+1,h=>by
   rw[Xax] at h
   rw[Xgj,Xxg,Xip h1 i (by omega),show min k (A+s-(A+k*(i:Int)))=k by omega]
theorem Xxu {A s k:Int}{n q:Nat}(h1:1≤k)(hq1:k*(q:Int)≤s)(hq2:s<k*(q:Int)+k)(hn:n=q+(if k*(q:Int)=s then 0 else 1)):ctP A (A+s) k n=shP s A ⟨k,List.replicate q false⟩:=by
 unfold shP
 show _=slP k A (List.replicate q false)++fr (A+k*((List.replicate q false).length:Int)) (A+s)
 rw[List.length_replicate]
 unfold fr
 by_cases e:k*(q:Int)=s
 · rw[if_pos e,Nat.add_zero] at hn
   rw[hn,Xip h1 q hq1,if_pos (by omega),List.append_nil]
 · rw[if_neg e] at hn
   rw[hn,Xgj,Xip h1 q hq1,if_neg (by omega),show min k (A+s-(A+k*(q:Int)))=A+s-(A+k*(q:Int)) by omega]
theorem Xmj {A e k:Int}(h0:0≤A)(h1:1≤k):∀i:Nat,(∀j:Nat,j<i→A+k*(j:Int)<e)→Xfv (ctP A e k i) (A+k*(i:Int))
 | 0,_=>fun p hp=>by cases hp
 | i+1,h=>fun p hp=>by
   rw[Xgj] at hp
   have e1:=Xax k i
   have k0:0≤k*(i:Int):=Int.mul_nonneg (by omega) (by omega)
   rcases List.mem_append.mp hp with g | g
   · have:=Xmj h0 h1 i (fun j hj=>h j (by omega)) p g
     omega
   · rw[List.mem_singleton.mp g]
     have:=h i (by omega)
     show 0≤A+k*(i:Int)∧1≤min k (e-(A+k*(i:Int)))∧A+k*(i:Int)+min k (e-(A+k*(i:Int)))≤A+k*((i+1:Nat):Int)
     omega
theorem Xzg {cs:List Int}{ds rs:List Pc}{A e k:Int}{i:Nat}(h0:0≤A)(h1:1≤k)(hd:Xfv ds A)(hr:Xkf rs e)(hl:e≤cs.length)(hi:∀j:Nat,j<i+1→A+k*(j:Int)<e)(m:Xbb cs (ds++ctP A e k i++rs)) :
   0≤A+k*(i:Int)∧1≤min k (e-(A+k*(i:Int)))∧A+k*(i:Int)+min k (e-(A+k*(i:Int)))≤cs.length∧Xbb (Xcr cs (A+k*(i:Int)) (min k (e-(A+k*(i:Int)))) false) (ds++ctP A e k (i+1)++rs):=by
 have k0:0≤k*(i:Int):=Int.mul_nonneg (by omega) (by omega)
 have hii:=hi i (by omega)
 refine⟨by omega,by omega,by omega,?_⟩
 rw[Xgj,←List.append_assoc,List.append_assoc _ [_] rs]
 exact Xbb.lay (by omega) (by omega) (by omega) ((hd.mono (by omega)).app (Xmj h0 h1 i fun j hj=>hi j (by omega))) (fun p hp=>by have:=hr p hp;omega) m
end Stow
namespace Stow
def fitF (ps:List Pc)(k:Int):List Int:=(ps.filter fun z=>!z.v&&decide (z.l=k)).map (·.a)
def Xep (cs:List Int)(ps:List Pc)(k s:Int):List Int:=(fitF ps k).filter fun a=>decide (cs.getD (a-a%s).toNat 0/2=k)
theorem Xfe (p q:List Pc)(k:Int):fitF (p++q) k=fitF p k++fitF q k:=by unfold fitF;rw[List.filter_append,List.map_append]
theorem Xgv (cs:List Int)(p q:List Pc)(k s:Int):Xep cs (p++q) k s=Xep cs p k s++Xep cs q k s:=by unfold Xep;rw[Xfe,List.filter_append]
theorem Xjs {ps:List Pc}{k:Int}{i:Nat}(h:i<ps.length):fitF (ps.take (i+1)) k=fitF (ps.take i) k++(if (!ps[i].v&&decide (ps[i].l=k))=true then [ps[i].a] else []):=by
 unfold fitF
 rw[List.take_add_one,List.getElem?_eq_getElem h,List.filter_append,List.map_append]
 congr 1
 simp only [Option.toList_some,List.filter_cons,List.filter_nil]
 split <;> rfl
theorem Xjj {ps:List Pc}{k a:Int}(h:a∈fitF ps k):∃z∈ps,z.v=false∧z.l=k∧z.a=a:=by
 unfold fitF at h
 obtain⟨z,hz,e⟩:=List.mem_map.mp h
 obtain⟨h1,h2⟩:=List.mem_filter.mp hz
 obtain⟨h3,h4⟩:=Bool.and_eq_true_iff.mp h2
 exact⟨z,h1,by simpa using h3,of_decide_eq_true h4,e⟩
theorem Xkg {ps:List Pc}{k:Int}(h:∀z∈ps,z.v=false→z.l≠k):fitF ps k=[]:=by
 cases e:fitF ps k with
 | nil=>rfl
 | cons a r =>
   obtain⟨z,h1,h2,h3,_⟩:=Xjj (show a∈fitF ps k by rw[e];exact List.mem_cons_self)
   exact absurd h3 (h z h1 h2)
theorem XAw {ps:List Pc}{k e:Int}{a:Int}(c:Xaq 0 ps e)(h:a∈fitF ps k):0≤a∧a<e:=by
 obtain⟨z,hz,_,_,rfl⟩:=Xjj h
 obtain⟨h1,h2,_,h3⟩:=c.mem z hz
 omega
theorem Xut {a s:Int}(h:0≤a)(hs:1≤s):0≤a-a%s∧a-a%s≤a:=by
 have h1:=Int.emod_nonneg a (show s≠0 by omega)
 have h2:=Int.mul_ediv_add_emod a s
 have h3:0≤s*(a/s):=Int.mul_nonneg (by omega) (Int.ediv_nonneg h (by omega))
 omega
theorem Xgi {a s:Int}{j:Nat}(h1:s*(j:Int)≤a)(h2:a<s*(j:Int)+s):a-a%s=s*(j:Int)∧a/s=(j:Int)∧a%s=a-s*(j:Int):=by
 have hs:0<s:=by omega
 have e:a%s=a-s*(j:Int):=by
   have:=Int.add_mul_emod_self_left (a-s*(j:Int)) s (j:Int)
   rw[Int.sub_add_cancel] at this
   rw[this]
   exact Int.emod_eq_of_lt (by omega) (by omega)
 refine⟨by omega,?_,e⟩
 have h3:=Int.mul_ediv_add_emod a s
 rw[e] at h3
 have h4:s*(a/s)=s*(j:Int):=by omega
 exact Int.eq_of_mul_eq_mul_left (by omega) h4
theorem Xkz {n:Int}:∀{b:List Bool} {A:Int} {z:Pc},z∈slP n A b→z.l=n∧z.v∈b
 | v::r,A,z,h=>by
   rcases List.mem_cons.mp h with e | g
   · rw[e]
     exact⟨rfl,List.mem_cons_self⟩
   · obtain⟨h1,h2⟩:=Xkz g
     exact⟨h1,List.mem_cons_of_mem _ h2⟩
theorem Xjv {b e:Int}{z:Pc}(h:z∈fr b e):z.a=b∧z.l=e-b∧z.v=false:=by
 unfold fr at h
 split at h
 · cases h
 · rw[List.mem_singleton.mp h]
   exact⟨rfl,rfl,rfl⟩
def flS (s:Int)(f:Sf):Int:=if f.n=0 then s else f.n
theorem Xkw {s A:Int}{f:Sf}(h1:1≤s)(w:SfW s f):∃v r,shP s A f=⟨A,flS s f,v⟩::r:=by
 rcases w with ⟨e1,e2⟩ | ⟨h3,hn,h4,h5⟩
 · obtain⟨n,b⟩:=f
   have e1:n=0:=e1
   have e2:b=[]:=e2
   subst e1 e2
   exact⟨false,[],by rw[Xcp h1];rfl⟩
 · obtain⟨n,b⟩:=f
   cases b with
   | nil =>
     have h5:s<n*((0:Nat):Int)+n:=h5
     have hn:n≤s:=hn
     simp at h5
     omega
   | cons v r =>
     have h3:3≤n:=h3
     refine⟨v,slP n (A+n) r++fr (A+n*(((v::r).length:Nat):Int)) (A+s),?_⟩
     unfold flS
     rw[if_neg (show n≠0 by omega)]
     rfl
theorem Xhb {s k:Int}{f:Sf}{cs:List Int}{j:Nat}(h1:1≤s)(w:SfW s f)(m:Xbb cs (shP s (s*(j:Int)) f)):Xep cs (shP s (s*(j:Int)) f) k s=if flS s f=k then fitF (shP s (s*(j:Int)) f) k else []:=by
 obtain⟨v,r,e⟩:=Xkw (A:=s*(j:Int)) h1 w
 have hm:cs[(s*(j:Int)).toNat]?=some (mkOf (flS s f) v):=(m ⟨s*(j:Int),flS s f,v⟩ (by rw[e];exact List.mem_cons_self)).1
 have c:=Xdp (A:=s*(j:Int)) h1 w
 have hd:∀a∈fitF (shP s (s*(j:Int)) f) k,cs.getD (a-a%s).toNat 0/2=flS s f:=fun a ha=>by
   obtain⟨z,hz,_,_,rfl⟩:=Xjj ha
   obtain⟨c1,c2,_,c3⟩:=c.mem z hz
   rw[(Xgi c1 (by omega)).1,Xev hm]
   exact Xhm _ _
 unfold Xep
 by_cases g:flS s f=k
 · rw[if_pos g]
   exact List.filter_eq_self.mpr fun a ha=>decide_eq_true (by rw[hd a ha];exact g)
 · rw[if_neg g]
   exact List.filter_eq_nil_iff.mpr fun a ha h=>g (by rw[←hd a ha];exact of_decide_eq_true h)
theorem Xog {s k:Int}{f:Sf}{cs:List Int}{j:Nat}(h1:1≤s)(w:SfW s f)(m:Xbb cs (shP s (s*(j:Int)) f))(hk:¬(f.n=k∧false∈f.b))(h0:¬(k=s∧f.n=0))(k1:1≤k):Xep cs (shP s (s*(j:Int)) f) k s=[]:=by
 rw[Xhb h1 w m]
 split
 · rename_i g
   refine Xkg fun z hz hv hl=>?_
   unfold flS at g
   rcases w with ⟨e1,e2⟩ | ⟨h3,_,h4,h5⟩
   · rw[if_pos e1] at g
     exact h0 ⟨g.symm,e1⟩
   · rw[if_neg (by omega)] at g
     unfold shP at hz
     rcases List.mem_append.mp hz with q | q
     · obtain⟨_,q2⟩:=Xkz q
       rw[hv] at q2
       exact hk ⟨g,q2⟩
     · obtain⟨_,q2,_⟩:=Xjv q
       omega
 · rfl
theorem Xij {s k:Int}{cs:List Int}(h1:1≤s)(k1:1≤k):∀{fs:List Sf} {j:Nat},(∀f∈fs,SfW s f)→Xbb cs (alP s (s*(j:Int)) fs)→(∀f∈fs,¬(f.n=k∧false∈f.b)∧¬(k=s∧f.n=0))→Xep cs (alP s (s*(j:Int)) fs) k s=[]
 | [],_,_,_,_=>rfl
 | f::r,j,w,m,h=>by
   have m:Xbb cs (shP s (s*(j:Int)) f++alP s (s*(j:Int)+s) r):=m
   show Xep cs (shP s (s*(j:Int)) f++alP s (s*(j:Int)+s) r) k s=[]
   obtain⟨g1,g2⟩:=h f List.mem_cons_self
   rw[Xgv,Xog h1 (w f List.mem_cons_self) (m.sub fun p hp=>List.mem_append_left _ hp) g1 g2 k1,←Xax,List.nil_append]
   exact Xij h1 k1 (fun g hg=>w g (List.mem_cons_of_mem _ hg)) (by rw[Xax];exact m.sub fun p hp=>List.mem_append_right _ hp) fun g hg=>h g (List.mem_cons_of_mem _ hg)
theorem Xqm {k:Int}:∀{b:List Bool} {A:Int} {i:Nat},b[i]?=some false→(∀i':Nat,i'<i→b[i']?≠some false)→∃r,fitF (slP k A b) k=(A+k*(i:Int))::r
 | v::r,A,0,h,_=>by
   have e:v=false:=Option.some.inj h
   subst e
   refine⟨fitF (slP k (A+k) r) k,?_⟩
   show ((⟨A,k,false⟩::slP k (A+k) r).filter fun z=>!z.v&&decide (z.l=k)).map (·.a)=_
   rw[List.filter_cons,if_pos (by simp)]
   simp [fitF]
 | v::r,A,i+1,h,g=>by
   have e:v=true:=by
     cases v with
     | true=>rfl
     | false=>exact absurd rfl (g 0 (Nat.succ_pos _))
   subst e
   obtain⟨q,hq⟩:=Xqm (k:=k) (b:=r) (A:=A+k) (i:=i) h fun i' hi=>g (i'+1) (by omega)
   refine⟨q,?_⟩
   show ((⟨A,k,true⟩::slP k (A+k) r).filter fun z=>!z.v&&decide (z.l=k)).map (·.a)=_
   rw[List.filter_cons,if_neg (by simp)]
   rw[Xax,show A+(k*(i:Int)+k)=A+k+k*(i:Int) by omega]
   exact hq
theorem Xqv {s k:Int}{cs:List Int}{fs:List Sf}{j i:Nat}{b:List Bool}(h1:1≤s)(k3:3≤k)(w:∀f∈fs,SfW s f)(m:Xbb cs (alP s 0 fs))(h:fs[j]?=some ⟨k,b⟩)(hb:b[i]?=some false)(hi:∀i':Nat,i'<i→b[i']?≠some false)
   (hj:∀(j':Nat) (f:Sf),j'<j→fs[j']?=some f→¬(f.n=k∧false∈f.b)∧¬(k=s∧f.n=0)):∃r,Xep cs (alP s 0 fs) k s=(s*(j:Int)+k*(i:Int))::r:=by
 obtain⟨e,l,_⟩:=Xej h
 have wj:=w _ (List.mem_of_getElem? h)
 have ea:alP s 0 fs=alP s 0 (fs.take j)++(shP s (s*(j:Int)) ⟨k,b⟩++alP s (s*(j:Int)+s) (fs.drop (j+1))):=by
   have:=congrArg (alP s 0) e
   rw[Xjb,l,Int.zero_add] at this
   exact this
 rw[ea] at m ⊢
 have n1:Xep cs (alP s 0 (fs.take j)) k s=[]:=by
   have:=Xij (cs:=cs) (j:=0) h1 (by omega) (fs:=fs.take j) (k:=k) (fun f hf=>w f (List.mem_of_mem_take hf)) (by rw[show s*((0:Nat):Int)=0 by simp];exact m.sub fun p hp=>List.mem_append_left _ hp) fun f hf=>by
     obtain⟨j',hj'⟩:=List.getElem?_of_mem hf
     have hl:j'<j:=by
       have:=(List.getElem?_eq_some_iff.mp hj').1
       omega
     rw[List.getElem?_take_of_lt hl] at hj'
     exact hj j' f hl hj'
   rw[show s*((0:Nat):Int)=0 by simp] at this
   exact this
 obtain⟨r,hr⟩:=Xqm (k:=k) (A:=s*(j:Int)) hb hi
 rw[Xgv,n1,Xgv,Xhb h1 wj (m.sub fun p hp=>List.mem_append_right _ (List.mem_append_left _ hp)),if_pos (show flS s ⟨k,b⟩=k by unfold flS;rw[if_neg (show k≠0 by omega)])]
 refine⟨r++fitF (fr (s*(j:Int)+k*(b.length:Int)) (s*(j:Int)+s)) k++Xep cs (alP s (s*(j:Int)+s) (fs.drop (j+1))) k s,?_⟩
 unfold shP
 rw[Xfe]
 show []++((fitF (slP k (s*(j:Int)) b) k++fitF (fr (s*(j:Int)+k*(b.length:Int)) (s*(j:Int)+s)) k)++_)=_
 rw[hr]
 simp [List.append_assoc]
theorem Xgs {s A:Int}{f:Sf}(h1:1≤s)(o:SfOk s f):fitF (shP s A f) s=if f.n=0 then [A] else []:=by
 obtain⟨w,t⟩:=o
 rcases w with ⟨e1,e2⟩ | ⟨h3,hn,h4,h5⟩
 · obtain⟨n,b⟩:=f
   have e1:n=0:=e1
   have e2:b=[]:=e2
   subst e1 e2
   rw[Xcp h1,if_pos rfl]
   unfold fitF
   rw[List.filter_cons,if_pos (by simp)]
   rfl
 · have h0:f.n≠0:=by omega
   rw[if_neg h0]
   refine Xkg fun z hz hv hl=>?_
   unfold shP at hz
   have tt:=t h0
   have hlen:1≤f.b.length:=by
     rcases hb:f.b with _ | ⟨v,r⟩
     · rw[hb] at tt;cases tt
     · simp
   rcases List.mem_append.mp hz with q | q
   · obtain⟨q1,q2⟩:=Xkz q
     have hns:f.n=s:=by omega
     rw[hns] at h4
     have hl1:f.b.length≤1:=by
       refine Nat.le_of_not_lt fun h=>?_
       have:s*(2:Int)≤s*(f.b.length:Int):=Int.mul_le_mul_of_nonneg_left (by omega) (by omega)
       omega
     rcases hb:f.b with _ | ⟨v,r⟩
     · rw[hb] at tt;cases tt
     · rw[hb,List.length_cons] at hl1
       have hr:r=[]:=List.length_eq_zero_iff.mp (by omega)
       rw[hb,hr] at tt q2
       have e1:=List.mem_singleton.mp tt
       have e2:=List.mem_singleton.mp q2
       rw[hv,←e1] at e2
       cases e2
   · obtain⟨_,q2,_⟩:=Xjv q
     have:f.n*(1:Int)≤f.n*(f.b.length:Int):=Int.mul_le_mul_of_nonneg_left (by omega) (by omega)
     omega
theorem Xmh {s:Int}(h1:1≤s):∀{fs:List Sf} {A:Int},(∀f∈fs,SfOk s f)→(∀f∈fs,f.n≠0)→fitF (alP s A fs) s=[]
 | [],_,_,_=>rfl
 | f::r,A,o,h=>by
   show fitF (shP s A f++alP s (A+s) r) s=[]
   rw[Xfe,Xgs h1 (o f List.mem_cons_self),if_neg (h f List.mem_cons_self),List.nil_append]
   exact Xmh h1 (fun g hg=>o g (List.mem_cons_of_mem _ hg)) fun g hg=>h g (List.mem_cons_of_mem _ hg)
theorem Xts {s:Int}{fs:List Sf}{j:Nat}{f:Sf}(h1:1≤s)(o:∀f∈fs,SfOk s f)(h:fs[j]?=some f)(h0:f.n=0)(hj:∀(j':Nat) (f:Sf),j'<j→fs[j']?=some f→f.n≠0):∃r,fitF (alP s 0 fs) s=(s*(j:Int))::r:=by
 obtain⟨e,l,_⟩:=Xej h
 have ea:alP s 0 fs=alP s 0 (fs.take j)++(shP s (s*(j:Int)) f++alP s (s*(j:Int)+s) (fs.drop (j+1))):=by
   have:=congrArg (alP s 0) e
   rw[Xjb,l,Int.zero_add] at this
   exact this
 have n1:fitF (alP s 0 (fs.take j)) s=[]:=Xmh h1 (fun f hf=>o f (List.mem_of_mem_take hf)) fun f hf=>by
   obtain⟨j',hj'⟩:=List.getElem?_of_mem hf
   have hl:j'<j:=by
     have:=(List.getElem?_eq_some_iff.mp hj').1
     omega
   rw[List.getElem?_take_of_lt hl] at hj'
   exact hj j' f hl hj'
 rw[ea,Xfe,n1,Xfe,Xgs h1 (o f (List.mem_of_getElem? h)),if_pos h0]
 exact⟨_,rfl⟩
def NoGr (s k:Int)(fs:List Sf):Prop:=(∀f∈fs,¬(f.n=k∧false∈f.b))∧(s<k∨∀f∈fs,f.n≠0)
def Gs (s k:Int)(fs:List Sf)(j i:Nat)(b:List Bool)(fs1:List Sf):Prop :=
 fs1[j]?=some ⟨k,b⟩∧b[i]?=some false∧(∀i':Nat,i'<i→b[i']?≠some false)∧(∀(j':Nat) (f:Sf),j'<j→fs[j']?=some f→¬(f.n=k∧false∈f.b)) ∧
 (fs1=fs∨((∀f∈fs,¬(f.n=k∧false∈f.b))∧k≤s∧i=0∧b=List.replicate (s/k).toNat false∧(∃f,fs[j]?=some f∧f.n=0)∧(∀(j':Nat) (f:Sf),j'<j→fs[j']?=some f→f.n≠0)∧fs1=fs.set j ⟨k,b⟩))
theorem Xfq {s k:Int}(h1:1≤k)(h2:k≤s):k*((s/k).toNat:Int)≤s∧s<k*((s/k).toNat:Int)+k∧1≤(s/k).toNat:=by
 have a1:=Int.mul_ediv_add_emod s k
 have a2:=Int.emod_nonneg s (show k≠0 by omega)
 have a3:=Int.emod_lt_of_pos s (show 0<k by omega)
 have a4:1≤s/k:=Int.le_ediv_of_mul_le (by omega) (by omega)
 have a5:((s/k).toNat:Int)=s/k:=Int.toNat_of_nonneg (by omega)
 rw[a5]
 omega
theorem Xow {s k:Int}{f:Sf}(h1:1≤s)(o:SfOk s f)(hk:f.n=k)(ks:k=s):false ∉ f.b:=fun hf=>by
 have h:=Xgs (A:=0) h1 o
 obtain⟨w,t⟩:=o
 rcases w with ⟨e1,e2⟩ | ⟨h3,hn,h4,h5⟩
 · rw[e2] at hf;cases hf
 · rw[if_neg (by omega)] at h
   obtain⟨i,hi⟩:=List.getElem?_of_mem hf
   have hm:(⟨0+f.n*(i:Int),f.n,false⟩:Pc)∈slP f.n 0 f.b:=by
     obtain⟨ds,rs,e⟩:=Xji (n:=f.n) (A:=0) hi
     have:=e false
     rw[Xfx hi] at this
     rw[this]
     exact List.mem_append_right _ List.mem_cons_self
   have:(0+f.n*(i:Int))∈fitF (shP s 0 f) s:=by
     unfold fitF shP
     exact List.mem_map.mpr ⟨_,List.mem_filter.mpr ⟨List.mem_append_left _ hm,by simp;omega⟩,rfl⟩
   rw[h] at this
   cases this
theorem Gs.W {s k:Int}{fs fs1:List Sf}{j i:Nat}{b:List Bool}(g:Gs s k fs j i b fs1)(k3:3≤k)(o:∀f∈fs,SfOk s f):∀f∈fs1,SfW s f:=by
 obtain⟨_,_,_,_,e | ⟨_,ks,_,eb,_,_,e⟩⟩:=g
 · rw[e]
   exact fun f hf=>(o f hf).1
 · rw[e]
   obtain⟨d1,d2,_⟩:=Xfq (show 1≤k by omega) ks
   refine XKj (fun f hf=>(o f hf).1) (.inr ⟨k3,ks,?_,?_⟩)
   · show k*(b.length:Int)≤s
     rw[eb,List.length_replicate]
     exact d1
   · show s<k*(b.length:Int)+k
     rw[eb,List.length_replicate]
     exact d2
theorem Gs.slot {s k:Int}{fs fs1:List Sf}{cs:List Int}{j i:Nat}{b:List Bool}(g:Gs s k fs j i b fs1)(h1:1≤s)(k3:3≤k)(o:∀f∈fs,SfOk s f)(m:Xbb cs (alP s 0 fs1)):∃r,Xep cs (alP s 0 fs1) k s=(s*(j:Int)+k*(i:Int))::r:=by
 have w:=g.W k3 o
 obtain⟨g1,g2,g3,g4,g5⟩:=g
 refine Xqv h1 k3 w m g1 g2 g3 fun j' f hj' hf=>?_
 rcases g5 with e | ⟨g6,ks,_,eb,_,g7,e⟩
 · rw[e] at hf
   refine⟨g4 j' f hj' hf,fun h=>?_⟩
   rw[e] at g1
   exact Xow h1 (o _ (List.mem_of_getElem? g1)) rfl h.1 (List.mem_of_getElem? g2)
 · rw[e,List.getElem?_set_ne (by omega)] at hf
   exact⟨g4 j' f hj' hf,fun h=>g7 j' f hj' hf h.2⟩
theorem Gs.ok {s k:Int}{fs fs1:List Sf}{j i:Nat}{b:List Bool}(g:Gs s k fs j i b fs1)(k3:3≤k)(o:∀f∈fs,SfOk s f):∀f∈fs1.set j ⟨k,b.set i true⟩,SfOk s f:=fun f hf=>by
 have w:=g.W k3 o
 have hib:i<b.length:=(List.getElem?_eq_some_iff.mp g.2.1).1
 rcases List.mem_or_eq_of_mem_set hf with h | h
 · obtain⟨g1,g2,g3,g4,g5⟩:=g
   rcases g5 with e | ⟨g6,ks,i0,eb,_,g7,e⟩
   · rw[e] at h
     exact o f h
   · rw[e] at hf
     rw[List.set_set] at hf
     rcases List.mem_or_eq_of_mem_set hf with h | h
     · exact o f h
     · rw[h]
       exact⟨Xjk (w _ (List.mem_of_getElem? g1)) hib,fun _=>List.mem_of_getElem? (List.getElem?_set_self hib)⟩
 · rw[h]
   exact⟨Xjk (w _ (List.mem_of_getElem? g.1)) hib,fun _=>List.mem_of_getElem? (List.getElem?_set_self hib)⟩
end Stow
namespace Stow
open PySem L2 PyProof.Rows
theorem XIo (b:List Bool):(b.map V.bl).all Xdb=true:=List.all_eq_true.mpr fun u hu=>by
 obtain⟨v,_,rfl⟩:=List.mem_map.mp hu
 rfl
theorem XFo (v:Bool):∀b:List Bool,inV (.bl v) (b.map V.bl)=decide (v∈b)
 | []=>by simp [inV]
 | u::r=>by
   have ih:=XFo v r
   unfold inV at ih ⊢
   rw[List.map_cons,List.any_cons,ih]
   show (eqV (.bl u) (.bl v)||decide (v∈r))=_
   have:eqV (.bl u) (.bl v)=decide (v=u):=by cases u <;> cases v <;> rfl
   rw[this]
   simp
theorem XAh {s:Int}{fs:List Sf}{j:Nat}{f:Sf}(h1:1≤s)(w:∀f∈fs,SfW s f)(h:fs[j]?=some f):((alP s 0 fs).any fun z=>decide (z.a-z.a%s=s*(j:Int))&&z.v)=f.b.any id:=by
 obtain⟨ds,rs,e,c1,c2⟩:=Xdy h1 w h
 have c:=Xdp (A:=s*(j:Int)) h1 (w f (List.mem_of_getElem? h))
 have hp:∀{a:Int},a-a%s≤a∧a-s<a-a%s:=fun {a}=>by
   have:=Int.emod_nonneg a (show s≠0 by omega)
   have:=Int.emod_lt_of_pos a (show 0<s by omega)
   omega
 rw[←Xez h,e f,List.any_append,List.any_append]
 have d1:(ds.any fun z=>decide (z.a-z.a%s=s*(j:Int))&&z.v)=false:=List.any_eq_false.mpr fun z hz=>by
   have:=c1.mem z hz
   have:=@hp z.a
   rw[decide_eq_false (by omega)]
   simp
 have d2:(rs.any fun z=>decide (z.a-z.a%s=s*(j:Int))&&z.v)=false:=List.any_eq_false.mpr fun z hz=>by
   have:=c2.mem z hz
   have:=@hp z.a
   rw[decide_eq_false (by omega)]
   simp
 have d3:∀z∈shP s (s*(j:Int)) f,decide (z.a-z.a%s=s*(j:Int))=true:=fun z hz=>by
   obtain⟨q1,q2,_,q3⟩:=c.mem z hz
   exact decide_eq_true (Xgi q1 (by omega)).1
 rw[d1,d2,Bool.false_or,Bool.or_false]
 have hs:∀(b:List Bool) (A:Int),(slP f.n A b).any (fun z=>z.v)=b.any id:=fun b=>by
   induction b with
   | nil=>intro A;rfl
   | cons v r ih =>
     intro A
     show ((⟨A,f.n,v⟩:Pc)::slP f.n (A+f.n) r).any (fun z=>z.v)=_
     rw[List.any_cons,ih,List.any_cons]
     rfl
 have e1:((shP s (s*(j:Int)) f).any fun z=>decide (z.a-z.a%s=s*(j:Int))&&z.v)=(shP s (s*(j:Int)) f).any fun z=>z.v:=by
   rw[Bool.eq_iff_iff,List.any_eq_true,List.any_eq_true]
   constructor
   · rintro⟨z,hz,g⟩
     exact⟨z,hz,(Bool.and_eq_true_iff.mp g).2⟩
   · rintro⟨z,hz,g⟩
     exact⟨z,hz,Bool.and_eq_true_iff.mpr ⟨d3 z hz,g⟩⟩
 rw[e1]
 unfold shP
 rw[List.any_append,hs,show (fr (s*(j:Int)+f.n*(f.b.length:Int)) (s*(j:Int)+s)).any (fun z=>z.v)=false from List.any_eq_false.mpr fun z hz=>by rw[(Xjv hz).2.2];simp,Bool.or_false]
def giv (fs:List Sf)(j i:Nat)(n:Int)(b:List Bool):List Sf:=if (b.set i false).any id=true then fs.set j ⟨n,b.set i false⟩ else fs.set j ⟨0,[]⟩
theorem Xlv (fs:List Sf)(j i:Nat)(n:Int)(b:List Bool):(giv fs j i n b).length=fs.length:=by unfold giv;split <;> exact List.length_set
theorem Xwg {s:Int}{fs:List Sf}{j i:Nat}{n:Int}{b:List Bool}(o:∀f∈fs,SfOk s f)(h:fs[j]?=some ⟨n,b⟩)(hi:i<b.length):∀f∈giv fs j i n b,SfOk s f:=fun f hf=>by
 unfold giv at hf
 split at hf
 · rename_i g
   rcases List.mem_or_eq_of_mem_set hf with h' | h'
   · exact o f h'
   · rw[h']
     refine⟨Xjk (o _ (List.mem_of_getElem? h)).1 hi,fun _=>?_⟩
     obtain⟨x,hx,gx⟩:=List.any_eq_true.mp g
     have gx:x=true:=gx
     rw[gx] at hx
     exact hx
 · rcases List.mem_or_eq_of_mem_set hf with h' | h'
   · exact o f h'
   · rw[h']
     exact⟨.inl ⟨rfl,rfl⟩,fun h0=>absurd rfl h0⟩
end Stow
set_option Elab.async false
set_option linter.all false
set_option maxRecDepth 100000
set_option maxHeartbeats 4000000
namespace Stow
open PySem L2 PyProof.Rows
open PySem L2 PyProof.Rows
def eqP (y z:Pc):Bool:=decide (y.a=z.a∧y.l=z.l∧y.v=z.v)
theorem Xly {y z:Pc}:eqP y z=true↔y=z:=by
 unfold eqP
 rw[decide_eq_true_iff]
 constructor
 · rintro⟨h1,h2,h3⟩
   obtain⟨a,l,v⟩:=y
   obtain⟨a',l',v'⟩:=z
   simp only at h1 h2 h3
   rw[h1,h2,h3]
 · rintro rfl
   exact⟨rfl,rfl,rfl⟩
theorem XBj (y z:Pc):eqVs [.int y.a,.int y.l,.bl y.v] [.int z.a,.int z.l,.bl z.v]=eqP y z:=by
 rw[Bool.eq_iff_iff,Xly]
 constructor
 · intro h
   unfold eqVs at h
   have h:=List.all_eq_true.mp (Bool.and_eq_true_iff.mp h).1
   have h0:=h 0 (by simp)
   have h1:=h 1 (by simp)
   have h2:=h 2 (by simp)
   have e0:y.a=z.a:=by
     have:decide (y.a=z.a)=true:=h0
     simpa using this
   have e1:y.l=z.l:=by
     have:decide (y.l=z.l)=true:=h1
     simpa using this
   have e2:y.v=z.v:=by
     have g:eqV (.bl y.v) (.bl z.v)=true:=h2
     cases hy:y.v <;> cases hz:z.v <;> rw[hy,hz] at g <;> first | rfl | cases g
   exact Xly.mp (by unfold eqP;exact decide_eq_true ⟨e0,e1,e2⟩)
 · rintro rfl
   exact Xgz rfl
theorem Xyd {X:Cx}(hu:X.A.units+64<cLine):OpR X (compareOp .Eq) (fun x y H Q=>∃a b us,x = .ref a∧y = .ref b∧H a=some (.lst us)∧H b=some (.lst [])∧Q (.bl us.isEmpty) H):=by
 intro pins s σ H x y v u Q I rx ry h
 obtain⟨a,b,us,rfl,rfl,ha,hb,q⟩:=h
 cases rx
 cases ry
 obtain⟨its,r1,p1,_⟩:=I.list (SqL.of ha)
 obtain⟨its2,r2,p2,_⟩:=I.list (SqL.of hb)
 have l1:=r1.length
 have l2:=r2.length
 have key:SeqAt.RcAt X.A s (.ref a) (.ref b) us.isEmpty:=by
   cases us with
   | nil =>
     have:=SeqAt.RcAt.lists (A:=X.A) (s:=s) (e:=fun _=>true) p1.isList p2.isList (by rw[List.size_toArray,List.size_toArray];omega) (by omega) fun j h1 h2=>by
       rw[List.size_toArray] at h1
       rw[List.length_nil] at l1
       omega
     have e:((List.range its.toArray.size).all (fun _=>true))=true:=by simp
     rw[e] at this
     exact this
   | cons c r =>
     rw[List.length_cons] at l1
     rw[List.length_nil] at l2
     exact SeqAt.RcAt.lists_lengths p1.isList p2.isList (by rw[List.size_toArray,List.size_toArray];simp;omega) (by omega)
 exact key _ _ _ _ ⟨.bl _,H,I,rfl,q⟩
end Stow
namespace Stow
open PySem L2 PyProof.Rows
theorem Xek:∀{us:List Value} {ns:List Int},IntsAre us ns→Vals (ns.map V.int) us
 | _,_,.nil=>.nil
 | _,_,.cons n t h=>.cons ⟨t,rfl⟩ (Xek h)
theorem Xcq {X:Cx}(hc:X.calm=true):Xhs X (.builtin "sorted") (fun xs H Q=>∃d,∃kvs:List (Key×V),∃ns:List Int,xs=[.ref d]∧H d=some (.dK kvs)∧kvs.map (·.1)=ns.map Sum.inl∧ns.length<64∧∀D (ms:List Int),H D=none→ms.Perm ns→ms.Pairwise (·≤·)→Q (.ref D) (upd H D (.lst (ms.map V.int)))):=by
 intro pins s σ H xs us Q I r h
 obtain⟨d,kvs,ns,rfl,e,ek,h64,q⟩:=h
 obtain⟨u,rfl,rx⟩:=Xsm r
 cases rx
 obtain⟨hz,lo,vs,rk,hd⟩:=Xoi I.hok e
 obtain⟨ep,hat⟩:=hd.dictAt
 have hlen:=KV.length rk
 have hkl:kvs.length=ns.length:=by
   have:=congrArg List.length ek
   rwa [List.length_map,List.length_map] at this
 have ekv:(kvs.map fun kv=>kV kv.1)=ns.map V.int:=by
   have:(kvs.map fun kv=>kV kv.1)=(kvs.map (·.1)).map kV:=by rw[List.map_map];rfl
   rw[this,ek,List.map_map]
   rfl
 refine Calls.call_function_entry kind_sorted plain_sorted entry_sorted (args_sorted1 _) ?_
 unfold Builtin.«sorted»
 refine wpAny_bind (m:=checkCount "sorted" 1 1 _) (wpAny_pure ?_)
 refine wpAny_bind (PySem.W.kdu_collect (A:=X.A.in1) (PySem.W.kdl_dict (knd:=Xas X.prog X.w) (kvs:=vs) (ep:=ep) lo) (I.ok.hd hc) hat (by rw[←hlen];exact hz) fun h' tk acc hk hacc=>?_)
 have hv:Vals (kvs.map fun kv=>kV kv.1) acc.toList:=Xsj (by rw[List.length_map,Array.length_toList,hacc.1,hlen]) fun j v u h1 h2=>by
   obtain⟨k,x,hx,hkk⟩:=hacc.2 j u (by rw[←Array.getElem?_toList];exact h2)
   rw[List.getElem?_map] at h1
   obtain⟨kv,hkv,rfl⟩:=Option.map_eq_some_iff.mp h1
   obtain⟨u',hu'⟩:=Xvs rk (i:=j) (k:=kv.1) (v:=kv.2) (by rw[hkv])
   rw[hu'] at hx
   cases hx
   exact Xls hkk
 rw[ekv] at hv
 have hal:acc.toList.length=ns.length:=by rw[←hv.length,List.length_map]
 refine wpAny_bind (wpAny_newList ?_ (by rw[hal,sizeLine_eq];omega))
 have hoL:(h'.push (seqObj "list" acc.toList.toArray 0)).get? h'.objs.size=some (seqObj "list" acc.toList.toArray 0):=Heap.get?_push_size _ rfl
 refine wpAny_bind (wpAny_holding (wpAny_call_entry slot_list_sort (s:={ s with heap:=h'.push (seqObj "list" acc.toList.toArray 0),toks:=tk }) ⟨_,hoL,rfl⟩ entry_list_sort (list_sort_tree hoL (Xds hv) (by omega) fun out ns' a1 a2 a3=>⟨_,rfl,?_⟩) (args_list_sort _)))
 obtain⟨c,hc'⟩:=sortedHeap_at (out:=out) hoL
 have kp:∀b o,h'.get? b=some o→(sortedHeap (h'.push (seqObj "list" acc.toList.toArray 0)) h'.objs.size acc.toList out).get? b=some o:=fun b o hb'=>by
   have hlt:=Heap.lt_size hb'
   have e1:=size_push' h' (seqObj "list" acc.toList.toArray 0)
   rw[sortedHeap_old (Nat.ne_of_lt hlt) (by rw[e1];exact Nat.lt_succ_of_lt hlt),Heap.get?_push_ne _ _ _ (Nat.ne_of_lt hlt)]
   exact hb'
 have I2:Inv X pins σ H { s with heap:=h',toks:=tk }:=I.kept (t':=tk) hk
 exact wpAny_pure ⟨_,rfl,.ref h'.objs.size,_,I2.laid (t':=tk) kp (Nat.le_refl _) (show Xbq X.prog X.w _ _ _ (.lst (ns'.map V.int)) from ⟨by rw[List.length_map,a2.length_eq,←hkl];exact hz,out.toList,c,Xek a1,by rw[Array.toArray_toList];exact hc'⟩),rfl,q _ ns' (I2.hok.fresh (Nat.le_refl _)) a2 a3⟩
def XDl:V→List V→Hp→VK→Prop:=fun x vs H Q=>∃d,∃kvs:List (Key×V),x = .ref d∧vs=[]∧H d=some (.dK kvs)∧∀v,H v=none→Q (.ref v) (upd H v (.ext fun h=>h.IsItemsView v d))
theorem Xuz {X:Cx}:MtM X "dict.items" XDl:=by
 intro pins s σ H x vs v us Q I rx rv h
 obtain⟨a,kvs,rfl,rfl,e,q⟩:=h
 cases rx
 have hus:=rv.zero
 subst hus
 obtain⟨z,lo,ws,rel,dd⟩:=Xoi I.hok e
 refine call_meetsIn PySem.F.slot_dict_items dd.typeIs PySem.F.entry_dict_items (PySem.F.args_dict_items_1 _) (meets_dict_items (Xas X.prog X.w) a lo) ⟨⟨ws,dd⟩,?_⟩
 have hg:(s.heap.push { cls:=.type "dict_items",data:=.fields #[.ref a] }).get? s.heap.objs.size=some { cls:=.type "dict_items",data:=.fields #[.ref a] }:=Heap.get?_push_size _ rfl
 exact⟨.ref s.heap.objs.size,_,I.laid (t':=s.toks) (fun b u q=>Heap.get?_push_of_some _ q) (Nat.le_refl _) (show Xbq X.prog X.w _ _ _ (.ext fun h=>h.IsItemsView s.heap.objs.size a) from ⟨⟨_,hg,rfl,rfl⟩,⟨_,hg⟩,fun h1 h2 ⟨o,ho,r⟩ k=>⟨o,k o ho,r⟩⟩),rfl,q _ (I.hok.fresh (Nat.le_refl _))⟩
def Iti (d:Addr)(o:Obj)(kvs:List (Key×V)):It :=
 ⟨fun i H=>H d=some (.frz o (.dK kvs))∧∃k v,kvs[i]?=some (k,v),fun i H x H'=>∃k v t,kvs[i]?=some (k,v)∧x = .ref t∧H t=none∧H'=upd H t (.tup [kV k,v]),fun i H=>H d=some (.frz o (.dK kvs))∧kvs.length≤i⟩
theorem Xxq {kvs:List (Key×V)}{vs:List (Key×Value)}(r:KV kvs vs){i:Nat}{k:Key}{v:V}(e:kvs[i]?=some (k,v)):∃u,vs[i]?=some (k,u)∧RelV v u:=by
 obtain⟨⟨k',u⟩,hq,h1,h2⟩:=Xfw (show Paired _ kvs vs from r) e
 have h1:k=k':=h1
 subst h1
 exact⟨u,hq,h2⟩
theorem Xjo {H:Hp}{t b:Addr}{o:HO}(n:t≠b)(h:H b=none):upd H t o b=none:=by rw[Xah (Ne.symm n)];exact h
theorem Xnq {P:Program}{w:World}{K:PySem.W.Frag}{elts:List Expr}{x1:Nat}{pos:Pos}(d it:Addr)(o:Obj)(kvs:List (Key×V)){es:Array DictEntry}{ep:Nat}(ho:o.data = .dict es ep) :
   Turn P w K (.Tuple elts x1 pos) (Iti d o kvs) [it] it (fun i h=>∃ok ov,IsItemIter h it d i kvs.length ep ok ov) where
 mem:=by simp
 obj:=fun i h st b hb=>by
   have e:b=it:=by simpa using hb
   subst e
   obtain⟨ok,ov,st⟩:=st
   exact⟨_,st,fun v z=>by cases z⟩
 keep:=fun i h h' ⟨ok,ov,st⟩ k=>⟨ok,ov,k it (by simp) _ st⟩
 item:=by
   intro X hP hw hK hc i pins s σ H E I hf st hg
   subst hP hw hK
   obtain⟨ok,ov,st⟩:=st
   obtain⟨hd,k,v,hx⟩:=hg
   obtain⟨vs,r,m⟩:=Xnp I.hok hd ho
   obtain⟨u,hu,ru⟩:=Xxq r hx
   have hl:=KV.length r
   obtain⟨f0,f1,f2,f3,f4,f5⟩:=hf it (by simp)
   have st:IsItemIter s.heap it d i vs.length ep ok ov:=hl▸st
   refine wpAny_pyNext_items_item st m hu fun key h' hkey st' ht hsz kp=>⟨_,rfl,?_⟩
   refine wpAny_letOwnedTupleGo_items (s:={ s with heap:=h' }) st' fun h2 st2 sb=>?_
   have kp2:∀b o,b≠it→s.heap.get? b=some o→h2.get? b=some o:=fun b o hb e=>(sb.2 b hb).trans (kp b o hb e)
   have hti:s.heap.objs.size≠it:=fun e=>absurd (Heap.lt_size st) (by rw[e];exact Nat.lt_irrefl _)
   have ht2:h2.get? s.heap.objs.size=some { cls:=.type "tuple",data:=.seq #[key,u] }:=(sb.2 _ hti).trans ht
   have nt:H s.heap.objs.size=none:=I.hok.fresh (Nat.le_refl _)
   have hg:(s.heap.push { cls:=.type "tuple",data:=.seq #[key,u] }).get? s.heap.objs.size=some { cls:=.type "tuple",data:=.seq #[key,u] }:=Heap.get?_push_size _ rfl
   have Ia:Inv X pins σ (upd H s.heap.objs.size (.tup [kV k,v])) { s with heap:=s.heap.push { cls:=.type "tuple",data:=.seq #[key,u] } }:=I.laid (t':=s.toks) (fun b u q=>Heap.get?_push_of_some _ q) (Nat.le_refl _) (show Xbq X.prog X.w _ _ _ (.tup [kV k,v]) from ⟨by show 2≤sizeLine;decide,[key,u],.cons (Xls hkey) (.cons ru .nil),_,hg,rfl,0,rfl⟩)
   have Ib:Inv X pins σ (upd H s.heap.objs.size (.tup [kV k,v])) { s with heap:=h2 }:=Ia.turned (t':=s.toks) (fun b o hb e=>by
     by_cases g:b=s.heap.objs.size
     · rw[g] at e ⊢
       have e:(s.heap.push { cls:=.type "tuple",data:=.seq #[key,u] }).get? s.heap.objs.size=some o:=e
       rw[hg] at e
       rw[ht2]
       exact e
     · have e:(s.heap.push { cls:=.type "tuple",data:=.seq #[key,u] }).get? b=some o:=e
       rw[Heap.get?_push_ne _ _ _ g] at e
       exact kp2 b o hb e) (Xjo hti f0) f1 f3 f4 f5
   refine⟨.ref s.heap.objs.size,_,Ib,rfl,⟨k,v,_,hx,rfl,nt,rfl⟩,⟨key,u,hl▸st2⟩,fun b hb=>?_⟩
   have e:b=it:=by simpa using hb
   subst e
   exact Xjo hti f0
 done:=by
   intro X hP hw hK hc i pins s σ H E I hf st hg
   subst hP hw hK
   obtain⟨ok,ov,st⟩:=st
   obtain⟨hd,hx⟩:=hg
   obtain⟨vs,r,m⟩:=Xnp I.hok hd ho
   have hl:=KV.length r
   have st:IsItemIter s.heap it d i vs.length ep ok ov:=hl▸st
   obtain⟨f0,f1,f2,f3,f4,f5⟩:=hf it (by simp)
   exact wpAny_pyNext_items_end (I.ok.hd hc) st m (List.getElem?_eq_none (by omega)) fun h' eb=>⟨rfl,I.turned (t':=s.toks) (fun b o hb e=>eb b o hb e) f0 f1 f3 f4 f5⟩
 self:=fun _ _ _ _ _ ⟨ok,ov,st⟩ h=>PySem.W.kcp_self st h
section
variable {X:Cx}
def Xvz (NF:Addr→Prop)(tl:TE):TI:=fun σ H R=>tl σ H fun x H1=>∃v d kvs,x = .ref v∧H1 v=some (.ext fun h=>h.IsItemsView v d)∧H1 d=some (.dK kvs)∧∀o,NF d→R (Iti d o kvs) (upd H1 d (.frz o (.dK kvs)))
theorem Xtz {elts:List Expr}{x1:Nat}{pos:Pos}{l:Expr}{tl:TE}(hl:PE X l tl):PI X (.Tuple elts x1 pos) l (Xvz (fun d=>∀ob u,X.H₀ d≠some (.frz ob u)) tl):=by
 intro pins s σ H R I h
 refine thn (hl pins s σ H _ I h) fun vv s1 ⟨x,H1,I1,r1,q1⟩=>?_
 obtain⟨v,d,kvs,e,hv,hd,q⟩:=q1
 subst e
 cases r1
 obtain⟨o,es,ep,vs,g2,y,kvl,m,I2⟩:=Xvp I1 hd
 have nf:∀ob u,X.H₀ d≠some (.frz ob u):=fun ob u z=>by
   have:=I1.base.frzs d ob u z
   rw[hd] at this
   cases this
 have hview:s1.heap.IsItemsView v d:=(show Xbq X.prog X.w H1 s1.heap v (.ext fun h=>h.IsItemsView v d) from I1.hok v _ hv).1
 refine wpAny_pyIter_items hview m ?_
 refine⟨s1.heap.objs.size,[s1.heap.objs.size],_,_,_,rfl,I2.kept (t':=s1.toks) fun b o e=>Heap.get?_push_of_some _ e,Xnq d _ o kvs g2,⟨.none,.none,?_⟩,fun b hb=>?_,q o nf⟩
 · rw[KV.length kvl]
   exact Heap.get?_push_size _ rfl
 have e:b=s1.heap.objs.size:=by simpa using hb
 subst e
 exact I2.fpOk (Nat.le_refl _) (I2.hok.fresh (Nat.le_refl _))
def XJo (tl:TE)(g:TG)(tb:TS):TS:=fun D σ H=>∀NF:Addr→Prop,tFor (Xvz NF tl) g tb { D with nx:=fun σ' H'=>∃d o kvs,NF d∧H' d=some (.frz o (.dK kvs))∧D.nx σ' (upd H' d (.dK kvs)) } σ H
theorem Xyk {elts:List Expr}{x1:Nat}{ps:Pos}{iter:Expr}{body:List Stmt}{tl:TE}{g:TG}{tb:TS}{pos:Pos}(hp:PassesOwn (model X.prog X.w) X.A X.env X.xe)(hc:X.calm=true)(hl:PE X iter tl)(hg:PG X (.Tuple elts x1 ps) g)(hb:PSs X body tb)
   (hs:∀x,foldedSetIterable iter X.env x=pure x:=by intro _;rfl):PS X (.For (.Tuple elts x1 ps) iter body [] pos) (XJo tl g tb):=by
 intro pins s σ H D I h
 refine thn (L2.ps_for hp hc (Xtz hl) hg hb hs pins s σ H _ I (h _)) fun f s' q=>?_
 cases f with
 | next =>
   obtain⟨σ',H',I',d,o,kvs,nf,e,q⟩:=q
   exact⟨σ',_,thaw I' nf e,q⟩
 | brk=>exact q
 | cont=>exact q
 | ret v=>exact q
end
section
variable {K:PySem.W.Frag}{σ:L2.St}{H:Hp}{Q:VK}{D:Ends}
theorem r_forI {tl:TE}{g:TG}{tb:TS}(h:∀NF:Addr→Prop,tl σ H fun x H1=>∃v d kvs,x = .ref v∧H1 v=some (.ext fun h=>h.IsItemsView v d)∧H1 d=some (.dK kvs)∧∀o,NF d→∃W:Nat→Nat→L2.St→Hp→Prop,(∃m,W 0 m σ (upd H1 d (.frz o (.dK kvs))))∧∀i m σ H,W i m σ H →
   ((Iti d o kvs).stop i H∧(∃d o kvs,NF d∧H d=some (.frz o (.dK kvs))∧D.nx σ (upd H d (.dK kvs))))∨((Iti d o kvs).go i H∧∃N:L2.St→Hp→Prop,(∀σ' H',N σ' H'→∃m',m'<m∧W (i+1) m' σ' H')∧∀x H',(Iti d o kvs).yld i H x H'→g x σ H' fun σ2 H2=>tb { D with nx:=N,ct:=N,bk:=fun σ' H'=>∃d o kvs,NF d∧H' d=some (.frz o (.dK kvs))∧D.nx σ' (upd H' d (.dK kvs)) } σ2 H2)):XJo tl g tb D σ H:=h
theorem Xqy {d:Addr}{o:Obj}{kvs:List (Key×V)}{NF:Addr→Prop}{g:TG}{tb:TS}(nf:NF d)(Pv:Nat→L2.St→Hp→Prop)(h0:Pv 0 σ H)(hl:∀i σ H,Pv i σ H→H d=some (.frz o (.dK kvs)))
   (hs:∀i k v t σ H,kvs[i]?=some (k,v)→Pv i σ H→H t=none→g (.ref t) σ (upd H t (.tup [kV k,v])) fun σ2 H2=>tb { D with nx:=Pv (i+1),ct:=Pv (i+1),bk:=fun σ' H'=>∃d o kvs,NF d∧H' d=some (.frz o (.dK kvs))∧D.nx σ' (upd H' d (.dK kvs)) } σ2 H2)
   (hd:∀σ H,Pv kvs.length σ H→D.nx σ (upd H d (.dK kvs))) :
   ∃W:Nat→Nat→L2.St→Hp→Prop,(∃m,W 0 m σ H)∧∀i m σ H,W i m σ H →
   ((Iti d o kvs).stop i H∧(∃d o kvs,NF d∧H d=some (.frz o (.dK kvs))∧D.nx σ (upd H d (.dK kvs))))∨((Iti d o kvs).go i H∧∃N:L2.St→Hp→Prop,(∀σ' H',N σ' H'→∃m',m'<m∧W (i+1) m' σ' H')∧∀x H',(Iti d o kvs).yld i H x H'→g x σ H' fun σ2 H2=>tb { D with nx:=N,ct:=N,bk:=fun σ' H'=>∃d o kvs,NF d∧H' d=some (.frz o (.dK kvs))∧D.nx σ' (upd H' d (.dK kvs)) } σ2 H2):=by
 refine⟨fun i m σ H=>m=kvs.length-i∧i≤kvs.length∧Pv i σ H,⟨kvs.length,by simp,Nat.zero_le _,h0⟩,?_⟩
 rintro i m σ H ⟨rfl,hi,p⟩
 have q:=hl i σ H p
 by_cases hlt:i<kvs.length
 · obtain⟨k,v,ekv⟩:∃k v,kvs[i]?=some (k,v):=⟨kvs[i].1,kvs[i].2,by simp [hlt]⟩
   refine .inr ⟨⟨q,k,v,ekv⟩,Pv (i+1),fun σ' H' p'=>⟨kvs.length-(i+1),by omega,rfl,hlt,p'⟩,fun x H' y=>?_⟩
   obtain⟨k',v',t,e',ex,ht,eH⟩:=y
   subst ex eH
   exact hs i k' v' t σ _ e' p ht
 · have e:i=kvs.length:=by omega
   subst e
   exact .inl ⟨⟨q,Nat.le_refl _⟩,d,o,kvs,nf,q,hd σ H p⟩
end
theorem Xlk:entryFor table "dict.update.loop"=some Builtin.«dict.update.loop»:=entryFor_of_fast (by kernel_rfl)
theorem Xeu:plainId "dict.update.loop"=true:=by decide +kernel
theorem Xhn:typeLookup (.type "list") "keys"=pure none:=am_miss_of_fast (by decide +kernel)
theorem Xjr {prog:Program}{w:World}{A:Around}{E:Value→Shared→Prop}{s:Shared}{a:Addr}{xs:Array Value}{k:Nat}{Q:Option Value→Shared→Prop}
   (hx:s.heap.get? a=some { cls:=.type "list",data:=.seq xs k }) (hA:A.handled=none)
   (h:∀h' tk,(∀b o,s.heap.get? b=some o→h'.get? b=some o)→Q none { s with heap:=h',toks:=tk }) :
   wpAny (model prog w) A (getAttr? (.ref a) "keys") Q E s:=by
 obtain⟨hp,g,d,tk,os⟩:=s
 have hT:∀tk',(⟨hp,g,d,tk',os⟩:Shared).TypeIs (.ref a) "list":=fun _=>⟨_,hx,rfl⟩
 have f1:=sub_AttributeError
 have f3:=F.slot_list_getattribute.lookup
 have f4:=F.slot_list_getattribute.bind (.ref a)
 have f5:=am_list_getattr_none
 unfold getAttr? getAttrBy? getAttrBy
 repeat (any_goals (first | assumption | exact hT _ | ((with_reducible show wpAny _ _ (call (Value.builtin "list.__getattribute__") _ _) _ _ _);refine call_meets F.slot_list_getattribute (hT _) am_entry_list_getattribute (F.args_list_getattribute_2 _ _) (meets_getattribute_miss_list a xs k #[] "keys" _ Xhn (by decide +kernel)) ⟨hx,hA,fun h' tk' e hx'=>?_⟩) | wp_step))
 obtain⟨t',u',he⟩:=hx'.there
 show wpAny _ _ (getattributeRaised _ _ _ _ _ _ _) _ _ _
 unfold getattributeRaised
 repeat (any_goals (first | assumption | wp_step))
 exact h _ _ hx'.keeps
section
variable {prog:Program}{w:World}{A:Around}{E:Value→Shared→Prop}{d it l:Addr}{items:Array Value}{ps:List (Key×Value)}
theorem Xjp {R:Result→Shared→Prop}(hA:A.handled=none)(hdl:d≠it)(hll:l≠it)(hdd:l≠d)(hz:ps.length≤sizeLine)(hn:(ps.map (·.1)).Nodup)(hps:items.size=ps.length):∀(n i:Nat) (s:Shared),ps.length-i=n→i≤ps.length →
   s.heap.IsListIter it l i→s.heap.IsList l items→s.heap.DictOf (Xas prog w) d (ps.take i) →
   (∀(j:Nat) (q:Key×Value),ps[j]?=some q→∃(t:Addr) (key:Value),items[j]?=some (Value.ref t)∧t≠it∧t≠d∧s.heap.IsTuple t #[key,q.2]∧(Xas prog w).is q.1 key=true) →
   (∀h' tk,(∀b o,b≠it→b≠d→s.heap.get? b=some o→h'.get? b=some o)→h'.DictOf (Xas prog w) d ps→R (.ok (.ret .none)) { s with heap:=h',toks:=tk }) →
   codeAny (model prog w) A (.builtin "dict.update.loop" ⟨[.ref d,.ref it,rawInt i,.none],[]⟩) R s
 | n,i,s,e,hi,hit,hl,hd,tups,q=>by
   refine codeAny_builtin Xlk ?_
   rw[Around.under_plainId Xeu _]
   unfold Builtin.«dict.update.loop»
   refine wpAny_bind ?_
   by_cases hlt:i<ps.length
   · obtain⟨q0,hq0⟩:∃q0,ps[i]?=some q0:=⟨_,List.getElem?_eq_getElem hlt⟩
     obtain⟨t,key,hti,tn1,tn2,ht,hk⟩:=tups i q0 hq0
     refine wpAny_pyNext_list_item hit hl hti fun h1 st1 sb1=>?_
     have tup1:∀(j:Nat) (q:Key×Value),ps[j]?=some q→∃(t:Addr) (key:Value),items[j]?=some (Value.ref t)∧t≠it∧t≠d∧h1.IsTuple t #[key,q.2]∧(Xas prog w).is q.1 key=true:=fun j q hq=>by
       obtain⟨t,key,g1,g2,g3,⟨o,g4,g5⟩,g6⟩:=tups j q hq
       exact⟨t,key,g1,g2,g3,⟨o,(sb1.2 t g2).trans g4,g5⟩,g6⟩
     have hd1:h1.DictOf (Xas prog w) d (ps.take i):=hd.sameBut sb1 hdl
     have hl1:h1.IsList l items:=by
       obtain⟨o,g1,g2⟩:=hl
       exact⟨o,(sb1.2 l hll).trans g1,g2⟩
     have ht1:h1.IsTuple t #[key,q0.2]:=by
       obtain⟨o,g1,g2⟩:=ht
       exact⟨o,(sb1.2 t tn1).trans g1,g2⟩
     obtain⟨ot,ho,hoc,m,hod⟩:=ht1
     refine wpAny_bind (wpAny_holding (wpAny_bind (wpAny_tryCatch ?_)))
     unfold Builtin.Dict.pairItems
     refine wpAny_bind (wpAny_typeOf (T:="tuple") ⟨_,ho,hoc⟩ ?_)
     rw[if_pos (by decide)]
     refine wpAny_bind (wpAny_seqItems (s:={ s with heap:=h1 }) ho hod (wpAny_pure ?_))
     show wpAny _ _ (holding [key,q0.2] (dictSet d key q0.2)) _ _ _
     have hlen:(ps.take i).length≤sizeLine:=by rw[List.length_take];omega
     refine wpAny_holding (wpAny_dictSet_pairs (s:={ s with heap:=h1 }) hk hd1 (fun h2 hd2 sb2=>?_) hlen)
     have est:stored (ps.take i) q0.1 q0.2=ps.take (i+1):=by
       unfold stored
       rw[if_neg,List.take_add_one,hq0]
       · rfl
       · intro h
         obtain⟨kv,g1,g2⟩:=List.any_eq_true.mp h
         obtain⟨j,hj,ej⟩:=List.mem_take_iff_getElem.mp g1
         have:=(List.getElem?_inj (i:=j) (j:=i) (by rw[List.length_map];omega) hn).mp (by rw[List.getElem?_map,List.getElem?_map,hq0,List.getElem?_eq_getElem (by omega),ej];show some kv.1=some q0.1;rw[of_decide_eq_true g2])
         omega
     rw[est] at hd2
     refine wpAny_pure ⟨plainId_quiet Xeu _,?_⟩
     have kp:∀b o,b≠it→b≠d→s.heap.get? b=some o→h2.get? b=some o:=fun b o n1 n2 g=>(sb2.2 b n2).trans ((sb1.2 b n1).trans g)
     have:=Xjp (R:=R) hA hdl hll hdd hz hn hps (ps.length-(i+1)) (i+1) { s with heap:=h2,toks:=s.toks+1 } rfl hlt (by
       obtain⟨o,g1,g2⟩:=st1
       exact⟨o,(sb2.2 it (Ne.symm hdl)).trans g1,g2⟩) (by
       obtain⟨o,g1,g2⟩:=hl1
       exact⟨o,(sb2.2 l hdd).trans g1,g2⟩) hd2 (fun j q hq=>by
       obtain⟨t,key,g1,g2,g3,⟨o,g4,g5⟩,g6⟩:=tup1 j q hq
       exact⟨t,key,g1,g2,g3,⟨o,(sb2.2 t g3).trans g4,g5⟩,g6⟩) (fun h' tk k3 hd3=>q h' tk (fun b o n1 n2 g=>k3 b o n1 n2 (kp b o n1 n2 g)) hd3)
     exact this
   · have ei:i=ps.length:=by omega
     refine wpAny_pyNext_list_end hA hit hl (Array.getElem?_eq_none (by omega)) fun h1 eb=>?_
     show wpAny _ _ (Builtin.Dict.addKeywords d [] >>= _) _ _ _
     refine wpAny_bind (wpAny_pure (wpAny_pure ?_))
     rw[ei,List.take_length] at hd
     exact q h1 s.toks (fun b o n1 _ g=>eb b o n1 g) (hd.extBut eb hdl)
termination_by n i=>n
decreasing_by omega
end
theorem Xmi {F:Nat→Key×V→Value→Prop}:∀(ps:List (Key×V)) (n:Nat),(∀(j:Nat) (q:Key×V),ps[j]?=some q→∃u,RelV q.2 u∧F (n+j) q u)→∃pv:List (Key×Value),KV ps pv∧∀(j:Nat) (q':Key×Value),pv[j]?=some q'→∃q,ps[j]?=some q∧q'.1=q.1∧F (n+j) q q'.2
 | [],_,_=>⟨[],.nil,fun j q' h=>by simp at h⟩
 | p::r,n,h=>by
   obtain⟨u,hu,hF⟩:=h 0 p rfl
   obtain⟨pv,hkv,hp⟩:=Xmi r (n+1) fun j q hq=>by
     obtain⟨u',h1,h2⟩:=h (j+1) q (by simpa using hq)
     exact⟨u',h1,by rw[show n+1+j=n+(j+1) by omega];exact h2⟩
   refine⟨(p.1,u)::pv,.cons ⟨rfl,hu⟩ hkv,fun j q' hq=>?_⟩
   cases j with
   | zero =>
     have e:(p.1,u)=q':=by simpa using hq
     subst e
     exact⟨p,rfl,rfl,hF⟩
   | succ j =>
     obtain⟨q,g1,g2,g3⟩:=hp j q' (by simpa using hq)
     exact⟨q,by simpa using g1,g2,by rw[show n+(j+1)=n+1+j by omega];exact g3⟩
theorem Xrk:∀{ps:List (Key×V)} {pv:List (Key×Value)},KV ps pv→pv.map (·.1)=ps.map (·.1)
 | _,_,.nil=>rfl
 | _,_,.cons h t=>by rw[List.map_cons,List.map_cons,Xrk t,h.1]
theorem Xoa {X:Cx}(hc:X.calm=true):Xhs X (.type "dict") (fun xs H Q=>∃l,∃us:List V,∃ps:List (Key×V),xs=[.ref l]∧H l=some (.lst us)∧us.length=ps.length∧(∀(j:Nat) (q:Key×V),ps[j]?=some q→∃t,us[j]?=some (.ref t)∧H t=some (.tup [kV q.1,q.2]))∧(ps.map (·.1)).Nodup∧ps.length≤sizeLine∧∀D,H D=none→Q (.ref D) (upd H D (.dK ps))):=by
 intro pins s σ H xs us Q I r h
 obtain⟨l,vs,ps,rfl,hl,hlen,tups,hn,hz,q⟩:=h
 obtain⟨u,rfl,rx⟩:=Xsm r
 cases rx
 obtain⟨hzl,its,nn,r1,p1⟩:=(show Xbq X.prog X.w H s.heap l (.lst vs) from I.hok l _ hl)
 have hil:=r1.length
 obtain⟨pv,hkv,hpv⟩:=Xmi (F:=fun j q u=>∃t key,its[j]?=some (Value.ref t)∧s.heap.IsTuple t #[key,u]∧(Xas X.prog X.w).is q.1 key=true) ps 0 fun j q hq=>by
   obtain⟨t,g1,g2⟩:=tups j q hq
   obtain⟨u1,g3,g4⟩:=r1.get g1
   cases g4
   obtain⟨its2,r2,p2,_⟩:=I.tuple (SqT.of g2)
   obtain⟨key,v1,rfl,ra,rb⟩:=XBz r2
   exact⟨v1,rb,t,key,by rw[Nat.zero_add];exact g3,p2,Xlx ra⟩
 have hkl:=KV.length hkv
 have hkeys:=Xrk hkv
 have lt:∀{b o},s.heap.get? b=some o→b≠s.heap.objs.size:=fun h e=>absurd (Heap.lt_size h) (by rw[e];exact Nat.lt_irrefl _)
 refine callType_codes (Q₁:=fun obj s₁=>obj = .ref s.heap.objs.size∧s₁={ s with heap:=s.heap.push { cls:=.type "dict",data:=.dict #[] } }) F.kt_called_dict (F.kt_typeCall_dict_1 _) F.entry_dict_init (kt_code_dict_new _ ⟨rfl,rfl⟩) ?_
 rintro obj s₁ ⟨rfl,rfl⟩
 have hnew:(s.heap.push { cls:=.type "dict",data:=.dict #[] }).DictOf (Xas X.prog X.w) s.heap.objs.size []:=Heap.DictOf.new s.heap
 have p2:(s.heap.push { cls:=.type "dict",data:=.dict #[] }).get? l=some { cls:=.type "list",data:=.seq its.toArray nn }:=Heap.get?_push_of_some _ p1
 refine⟨hnew.typeIs,F.args_dict_init_2 _ _,?_⟩
 unfold Builtin.«dict.__init__»
 refine wpAny_bind ?_
 unfold Builtin.Dict.selfAndRest
 refine wpAny_bind (wpAny_notOrdered_dict hnew.typeIs ?_)
 show wpAny _ _ (pure (s.heap.objs.size,[Value.ref l])) _ _ _
 refine wpAny_pure ?_
 show wpAny _ _ (Builtin.Dict.updateFrom "dict.__init__" s.heap.objs.size (.ref l) [] .none) _ _ _
 unfold Builtin.Dict.updateFrom
 refine wpAny_bind (wpAny_typeOf (T:="list") ⟨_,p2,rfl⟩ ?_)
 rw[if_pos (by decide)]
 refine wpAny_bind (Xjr p2 (I.ok.hd hc) fun h1 tk k1=>?_)
 rw[if_pos (by rfl)]
 refine wpAny_bind (wpAny_rule ?_)
 have p3:=k1 l _ p2
 refine wpAny_bind (wpAny_pyIter_list (items:=its.toArray) ⟨_,p3,rfl,_,rfl⟩ ?_)
 have hd1:h1.DictOf (Xas X.prog X.w) s.heap.objs.size []:=by
   obtain⟨o,es,ep,g1,g2⟩:=hnew
   exact⟨o,es,ep,k1 _ _ g1,g2⟩
 have hdi:s.heap.objs.size≠h1.objs.size:=fun e=>by
   obtain⟨o,es,ep,g1,g2⟩:=hd1
   exact absurd (Heap.lt_size g1) (by rw[e];exact Nat.lt_irrefl _)
 have hli:l≠h1.objs.size:=fun e=>absurd (Heap.lt_size p3) (by rw[e];exact Nat.lt_irrefl _)
 refine wpAny_pure ⟨plainId_quiet Xeu _,?_⟩
 have key:∀R:Result→Shared→Prop,(∀h' tk',(∀b o,s.heap.get? b=some o→h'.get? b=some o)→h'.DictOf (Xas X.prog X.w) s.heap.objs.size pv→R (.ok (.ret .none)) { s with heap:=h',toks:=tk' }) →
     codeAny (model X.prog X.w) X.A.in1 (.builtin "dict.update.loop" ⟨[.ref s.heap.objs.size,.ref h1.objs.size,rawInt ((0:Nat):Int),.none],[]⟩) R { s with heap:=h1.push { cls:=.type "list_iterator",data:=.fields #[.ref l,.int 0 0] },toks:=tk }:=fun R hR=>by
   refine Xjp (A:=X.A.in1) (d:=s.heap.objs.size) (it:=h1.objs.size) (l:=l) (items:=its.toArray) (ps:=pv) (I.ok.hd hc) hdi hli (lt p1) (by omega) (by rw[hkeys];exact hn) (by rw[List.size_toArray];omega) pv.length 0 { s with heap:=h1.push { cls:=.type "list_iterator",data:=.fields #[.ref l,.int 0 0] },toks:=tk } rfl (Nat.zero_le _) ⟨_,Heap.get?_push_size _ rfl,rfl,rfl⟩ ⟨_,Heap.get?_push_of_some _ p3,rfl,_,rfl⟩ (hd1.push _) (fun j q' hq=>?_) fun h' tk' k3 hd3=>hR h' tk' (fun b o hb=>?_) hd3
   · obtain⟨q,g0,e1,t,key,g1,⟨o,g2,g4⟩,g3⟩:=hpv j q' hq
     have g2':=k1 t o (Heap.get?_push_of_some _ g2)
     refine⟨t,key,by rw[Nat.zero_add] at g1;rw[List.getElem?_toArray];exact g1,fun e=>absurd (Heap.lt_size g2') (by rw[e];exact Nat.lt_irrefl _),lt g2,⟨o,Heap.get?_push_of_some _ g2',g4⟩,by rw[e1];exact g3⟩
   · have g:=k1 b o (Heap.get?_push_of_some _ hb)
     exact k3 b o (fun e=>absurd (Heap.lt_size g) (by rw[e];exact Nat.lt_irrefl _)) (lt hb) (Heap.get?_push_of_some _ g)
 have hsys:(s.heap.objs.size==sysModules)=false:=beq_eq_false_iff_ne.mpr (fun e=>absurd I.big (by rw[e];exact Nat.lt_irrefl _))
 exact key _ fun h' tk' kp hd3=>⟨rfl,.ref s.heap.objs.size,_,I.laid (t':=tk') kp (Nat.le_refl _) (show Xbq X.prog X.w _ _ _ (.dK ps) from ⟨hz,hsys,pv,hkv,hd3⟩),rfl,q _ (I.hok.fresh (Nat.le_refl _))⟩
theorem r_chain {σ:L2.St}{H:Hp}{Q:VK}{r r':R2}{ta tb tc:TE}(h:ta σ H fun x H1=>tb σ H1 fun y H2=>r x y H2 fun z H3=>∃k,z = .bl k∧(if k=true then tc σ H3 fun w' H4=>r' y w' H4 Q else Q (.bl false) H3)):Xvu r r' ta tb tc σ H Q:=h
end Stow
namespace Stow
open PySem L2 PyProof.Rows
theorem Xjm {α:Type}[DecidableEq α]:∀(l m:List α),l.Nodup→(∀x∈l,x∈m)→l.length≤m.length
 | [],_,_,_=>Nat.zero_le _
 | x::r,m,hn,h=>by
   obtain⟨h1,h2⟩:=List.nodup_cons.mp hn
   have hx:=h x List.mem_cons_self
   have ih:=Xjm r (m.erase x) h2 fun y hy=>(List.mem_erase_of_ne (fun e=>h1 (by rw[←e];exact hy))).mpr (h y (List.mem_cons_of_mem _ hy))
   rw[List.length_erase_of_mem hx] at ih
   have:0<m.length:=List.length_pos_of_mem hx
   rw[List.length_cons]
   omega
theorem Xeq:∀{ps:List Pc} {s e:Int},Xaq s ps e→(ps.map fun z=>z.a).Nodup
 | [],_,_,_=>List.nodup_nil
 | p::r,s,e,c=>by
   obtain⟨h0,h1,_,h3⟩:=c
   rw[List.map_cons]
   refine List.nodup_cons.mpr ⟨fun h=>?_,Xeq h3⟩
   obtain⟨y,hy,ey⟩:=List.mem_map.mp h
   have:=h3.mem y hy
   have ey:y.a=p.a:=ey
   omega
theorem Xcu {α β:Type}{f:α→β}{g:α→Bool}:∀{l:List α},(l.map f).Nodup→((l.filter g).map f).Nodup
 | [],_=>List.nodup_nil
 | x::r,h=>by
   rw[List.map_cons] at h
   obtain⟨h1,h2⟩:=List.nodup_cons.mp h
   have ih:=Xcu (g:=g) h2
   rw[List.filter_cons]
   split
   · rw[List.map_cons]
     refine List.nodup_cons.mpr ⟨fun h=>h1 ?_,ih⟩
     obtain⟨y,hy,ey⟩:=List.mem_map.mp h
     exact List.mem_map.mpr ⟨y,(List.mem_filter.mp hy).1,ey⟩
   · exact ih
theorem Xcg {α β:Type}{f:α→β}(hf:∀x y,f x=f y→x=y):∀{l:List α},l.Nodup→(l.map f).Nodup
 | [],_=>List.nodup_nil
 | x::r,h=>by
   obtain⟨h1,h2⟩:=List.nodup_cons.mp h
   rw[List.map_cons]
   refine List.nodup_cons.mpr ⟨fun g=>h1 ?_,Xcg hf h2⟩
   obtain⟨y,hy,ey⟩:=List.mem_map.mp g
   rw[hf x y ey.symm]
   exact hy
theorem Xqd {ps:List Pc}{n:Int}{kvs:List (Key×V)}(c:Xaq 0 ps n)(nd:(kvs.map (·.1)).Nodup)(h1:∀kv∈kvs,∃z∈ps,z.v=true∧kv.1 = .inl (z.a+1))(h2:∀z∈ps,z.v=true→∃kv∈kvs,kv.1 = .inl (z.a+1)):(ps.filter fun z=>z.v).length=kvs.length:=by
 have n1:(((ps.filter fun z=>z.v).map fun z=>z.a).map fun a:Int=>(Sum.inl (a+1):Key)).Nodup:=Xcg (fun x y e=>by have:=Sum.inl.inj e;omega) (Xcu (Xeq c))
 have le1:=Xjm _ (kvs.map (·.1)) n1 fun k hk=>by
   obtain⟨a,ha,rfl⟩:=List.mem_map.mp hk
   obtain⟨z,hz,rfl⟩:=List.mem_map.mp ha
   obtain⟨hz1,hz2⟩:=List.mem_filter.mp hz
   obtain⟨kv,hkv,e⟩:=h2 z hz1 hz2
   exact List.mem_map.mpr ⟨kv,hkv,e⟩
 have le2:=Xjm _ (((ps.filter fun z=>z.v).map fun z=>z.a).map fun a:Int=>(Sum.inl (a+1):Key)) nd fun k hk=>by
   obtain⟨kv,hkv,rfl⟩:=List.mem_map.mp hk
   obtain⟨z,hz,hv,e⟩:=h1 kv hkv
   exact List.mem_map.mpr ⟨z.a,List.mem_map.mpr ⟨z,List.mem_filter.mpr ⟨hz,hv⟩,rfl⟩,e.symm⟩
 rw[List.length_map,List.length_map,List.length_map] at le1
 rw[List.length_map,List.length_map,List.length_map] at le2
 omega
end Stow
namespace Stow
open PySem L2 PyProof.Rows
theorem Xmd {b:List Bool}(h:false∈b):∃i,b[i]?=some false∧∀i':Nat,i'<i→b[i']?≠some false:=by
 induction b with
 | nil=>cases h
 | cons v r ih =>
   cases v with
   | false=>exact⟨0,rfl,fun i' hi=>absurd hi (Nat.not_lt_zero _)⟩
   | true =>
     have:false∈r:=by
       rcases List.mem_cons.mp h with e | e
       · cases e
       · exact e
     obtain⟨i,h1,h2⟩:=ih this
     refine⟨i+1,h1,fun i' hi=>?_⟩
     cases i' with
     | zero=>intro e;cases e
     | succ i'=>exact h2 i' (by omega)
theorem Xey {n:Int}:∀{b:List Bool} {A:Int} {z:Pc},z∈slP n A b→∃i:Nat,b[i]?=some z.v∧z=⟨A+n*(i:Int),n,z.v⟩
 | v::r,A,z,h=>by
   rcases List.mem_cons.mp h with e | g
   · rw[e]
     exact⟨0,rfl,by simp⟩
   · obtain⟨i,h1,h2⟩:=Xey g
     exact⟨i+1,h1,by rw[Xax];rw[h2];congr 1;show A+n+n*(i:Int)=A+(n*(i:Int)+n);omega⟩
theorem Xfz {s:Int}:∀{fs:List Sf} {j0:Nat} {z:Pc},z∈alP s (s*(j0:Int)) fs→∃(j:Nat) (f:Sf),fs[j]?=some f∧z∈shP s (s*((j0+j:Nat):Int)) f
 | f::r,j0,z,h=>by
   have h:z∈shP s (s*(j0:Int)) f++alP s (s*(j0:Int)+s) r:=h
   rcases List.mem_append.mp h with g | g
   · exact⟨0,f,rfl,g⟩
   · rw[←Xax] at g
     obtain⟨j,f',h1,h2⟩:=Xfz g
     exact⟨j+1,f',h1,by rw[show j0+(j+1)=j0+1+j by omega];exact h2⟩
theorem Xgb {s:Int}{fs:List Sf}{j:Nat}{f:Sf}{z:Pc}(h1:1≤s)(w:∀f∈fs,SfW s f)(h:fs[j]?=some f)(hz:z∈shP s (s*(j:Int)) f):z∈alP s 0 fs:=by
 obtain⟨ds,rs,e,_⟩:=Xdy h1 w h
 rw[←Xez h,e f]
 exact List.mem_append_right _ (List.mem_append_left _ hz)
theorem XFg {s:Int}{fs:List Sf}{z:Pc}(h:z∈alP s 0 fs):∃(j:Nat) (f:Sf),fs[j]?=some f∧z∈shP s (s*(j:Int)) f:=by
 obtain⟨j,f,h1,h2⟩:=Xfz (j0:=0) (by rw[show s*((0:Nat):Int)=0 by simp];exact h)
 rw[Nat.zero_add] at h2
 exact⟨j,f,h1,h2⟩
theorem Xte {s A:Int}{f:Sf}{z:Pc}(h:z∈shP s A f)(hv:z.v=true):∃i:Nat,f.b[i]?=some true∧z=⟨A+f.n*(i:Int),f.n,true⟩:=by
 unfold shP at h
 rcases List.mem_append.mp h with g | g
 · obtain⟨i,h1,h2⟩:=Xey g
   rw[hv] at h1 h2
   exact⟨i,h1,h2⟩
 · rw[(Xjv g).2.2] at hv
   cases hv
theorem Xpe {s A n:Int}{b:List Bool}{i:Nat}{v:Bool}(h:b[i]?=some v):(⟨A+n*(i:Int),n,v⟩:Pc)∈shP s A ⟨n,b⟩:=by
 obtain⟨d2,r2,e2⟩:=Xji (n:=n) (A:=A) h
 have:=e2 v
 rw[Xfx h] at this
 unfold shP
 show _∈slP n A b++_
 rw[this]
 exact List.mem_append_left _ (List.mem_append_right _ List.mem_cons_self)
theorem Xrs {s n:Int}{fs:List Sf}{j i:Nat}{b:List Bool}{v:Bool}(hs:1≤s)(W:∀f∈fs,SfW s f)(hj:fs[j]?=some ⟨n,b⟩)(hi:b[i]?=some v):3≤n∧s*(j:Int)+n*(i:Int)+n≤s*(j:Int)+s∧s*(j:Int)+n*(i:Int)-(s*(j:Int)+n*(i:Int))%s=s*(j:Int)∧(s*(j:Int)+n*(i:Int))/s=(j:Int)∧(s*(j:Int)+n*(i:Int))%s/n=(i:Int):=by
 have hib:i<b.length:=(List.getElem?_eq_some_iff.mp hi).1
 have n3:3≤n:=by
   rcases W _ (List.mem_of_getElem? hj) with ⟨_,e2⟩ | g
   · have e2:b=[]:=e2
     rw[e2] at hib
     exact absurd hib (Nat.not_lt_zero _)
   · exact g.1
 have hm:(⟨s*(j:Int)+n*(i:Int),n,v⟩:Pc)∈shP s (s*(j:Int)) ⟨n,b⟩:=by
   obtain⟨d2,r2,e2⟩:=Xji (n:=n) (A:=s*(j:Int)) hi
   have:=e2 v
   rw[Xfx hi] at this
   unfold shP
   show _∈slP n (s*(j:Int)) b++_
   rw[this]
   exact List.mem_append_left _ (List.mem_append_right _ List.mem_cons_self)
 obtain⟨q1,_,_,q4⟩:=(Xdp (A:=s*(j:Int)) hs (W _ (List.mem_of_getElem? hj))).mem _ hm
 have q1:s*(j:Int)≤s*(j:Int)+n*(i:Int):=q1
 have q4:s*(j:Int)+n*(i:Int)+n≤s*(j:Int)+s:=q4
 obtain⟨r1,r2,r3⟩:=Xgi (j:=j) q1 (by omega)
 refine⟨n3,q4,r1,r2,?_⟩
 rw[r3,show s*(j:Int)+n*(i:Int)-s*(j:Int)=n*(i:Int) by omega]
 exact Int.mul_ediv_cancel_left _ (by omega)
theorem Xaz {s n:Int}{fs:List Sf}{j i:Nat}{b:List Bool}{v:Bool}(hs:1≤s)(W:∀f∈fs,SfW s f)(hj:fs[j]?=some ⟨n,b⟩)(hi:b[i]?=some v):s*(j:Int)≤s*(j:Int)+n*(i:Int)∧s*(j:Int)+n*(i:Int)+n≤s*(j:Int)+s∧(s*(j:Int)+n*(i:Int))/s=(j:Int)∧3≤n:=by
 obtain⟨q1,q2,_,q4,_⟩:=Xrs hs W hj hi
 have:=Int.mul_nonneg (show 0≤n by omega) (show (0:Int)≤(i:Int) by omega)
 exact⟨by omega,q2,q4,q1⟩
theorem Xee {s:Int}{fs:List Sf}{z:Pc}(h:z∈alP s 0 fs)(hv:z.v=true):∃(j i:Nat) (n:Int) (b:List Bool),fs[j]?=some ⟨n,b⟩∧b[i]?=some true∧z=⟨s*(j:Int)+n*(i:Int),n,true⟩:=by
 obtain⟨j,⟨n,b⟩,h1,h2⟩:=XFg h
 obtain⟨i,h3,h4⟩:=Xte h2 hv
 exact⟨j,i,n,b,h1,h3,h4⟩
theorem Xbv {s n:Int}{fs:List Sf}{j i:Nat}{b:List Bool}{v:Bool}(h1:1≤s)(w:∀f∈fs,SfW s f)(h:fs[j]?=some ⟨n,b⟩)(hb:b[i]?=some v):(⟨s*(j:Int)+n*(i:Int),n,v⟩:Pc)∈alP s 0 fs:=Xgb h1 w h (Xpe hb)
theorem set_getElem? {α:Type}{xs:List α}{j j':Nat}{x y:α}(h:(xs.set j x)[j']?=some y):(j=j'∧x=y)∨(j≠j'∧xs[j']?=some y):=by
 by_cases e:j=j'
 · subst e
   have hl:j<xs.length:=by
     have:=(List.getElem?_eq_some_iff.mp h).1
     rwa [List.length_set] at this
   rw[List.getElem?_set_self hl] at h
   exact .inl ⟨rfl,Option.some.inj h⟩
 · rw[List.getElem?_set_ne e] at h
   exact .inr ⟨e,h⟩
theorem Gs.fs1 {s k n:Int}{fs fs1:List Sf}{j i j1 i1:Nat}{b b1:List Bool}(g:Gs s k fs j i b fs1)(h:fs[j1]?=some ⟨n,b1⟩)(hb:b1[i1]?=some true)(W:∀f∈fs,SfW s f):fs1[j1]?=some ⟨n,b1⟩:=by
 obtain⟨_,_,_,_,e | ⟨_,_,_,_,⟨f0,c8,c9⟩,_,e⟩⟩:=g
 · rw[e];exact h
 · rw[e,List.getElem?_set_ne]
   · exact h
   · intro w
     rw[w,h] at c8
     have e0:=Option.some.inj c8
     rw[←e0] at c9
     have c9:n=0:=c9
     rcases W _ (List.mem_of_getElem? h) with ⟨_,e2⟩ | ⟨h3,_⟩
     · have e2:b1=[]:=e2
       rw[e2] at hb
       simp at hb
     · have h3:3≤n:=h3
       omega
theorem Gs.parts {s k:Int}{fs fs1:List Sf}{j i:Nat}{b:List Bool}(g:Gs s k fs j i b fs1)(h1:1≤s)(k3:3≤k)(o:∀f∈fs,SfOk s f) :
   (∀y∈alP s 0 fs,y.v=true→y∈alP s 0 fs1∧y∈alP s 0 (fs1.set j ⟨k,b.set i true⟩))∧((⟨s*(j:Int)+k*(i:Int),k,true⟩:Pc)∈alP s 0 (fs1.set j ⟨k,b.set i true⟩))∧((⟨s*(j:Int)+k*(i:Int),k,false⟩:Pc)∈alP s 0 fs1) ∧
   ∀y∈alP s 0 (fs1.set j ⟨k,b.set i true⟩),y.v=true→y=⟨s*(j:Int)+k*(i:Int),k,true⟩∨y∈alP s 0 fs:=by
 have W:∀f∈fs,SfW s f:=fun f hf=>(o f hf).1
 have W1:=g.W k3 o
 have W2:∀f∈fs1.set j ⟨k,b.set i true⟩,SfW s f:=fun f hf=>(g.ok k3 o f hf).1
 have hjl:j<fs1.length:=(List.getElem?_eq_some_iff.mp g.1).1
 have hil:i<b.length:=(List.getElem?_eq_some_iff.mp g.2.1).1
 refine⟨fun y hy hv=>?_,Xbv h1 W2 (List.getElem?_set_self hjl) (List.getElem?_set_self hil),Xbv h1 W1 g.1 g.2.1,fun y hy hv=>?_⟩
 · obtain⟨j1,i1,n,b1,e1,e2,rfl⟩:=Xee hy hv
   have f1:=g.fs1 e1 e2 W
   refine⟨Xbv h1 W1 f1 e2,?_⟩
   by_cases e:j=j1
   · subst e
     rw[g.1] at f1
     have e3:=Option.some.inj f1
     have en:k=n:=congrArg Sf.n e3
     have eb:b=b1:=congrArg Sf.b e3
     subst en eb
     refine Xbv h1 W2 (List.getElem?_set_self hjl) (i:=i1) ?_
     rw[List.getElem?_set_ne]
     · exact e2
     · intro w
       rw[←w,g.2.1] at e2
       cases e2
   · exact Xbv h1 W2 (by rw[List.getElem?_set_ne e];exact f1) e2
 · obtain⟨j1,i1,n,b1,e1,e2,rfl⟩:=Xee hy hv
   have back:∀{j1 i1:Nat} {n:Int} {b1:List Bool},fs1[j1]?=some ⟨n,b1⟩→b1[i1]?=some true→(⟨s*(j1:Int)+n*(i1:Int),n,true⟩:Pc)∈alP s 0 fs:=fun {j1 i1 n b1} h hb=>by
     obtain⟨_,_,_,_,e | ⟨_,_,_,eb,_,_,e⟩⟩:=g
     · rw[e] at h;exact Xbv h1 W h hb
     · rw[e] at h
       rcases set_getElem? h with ⟨_,e4⟩ | ⟨_,e4⟩
       · have:b=b1:=congrArg Sf.b e4
         rw[←this,eb] at hb
         have:=List.mem_of_getElem? hb
         rw[List.mem_replicate] at this
         exact absurd this.2 (by decide)
       · exact Xbv h1 W e4 hb
   rcases set_getElem? e1 with ⟨ej,e3⟩ | ⟨ej,e3⟩
   · subst ej
     have en:k=n:=congrArg Sf.n e3
     have eb:b.set i true=b1:=congrArg Sf.b e3
     subst en eb
     rcases set_getElem? e2 with ⟨ei,_⟩ | ⟨ei,e4⟩
     · subst ei
       exact .inl rfl
     · exact .inr (back g.1 e4)
   · exact .inr (back e3 e2)
theorem Xgm {s n:Int}{fs:List Sf}{j i:Nat}{b:List Bool}(h1:1≤s)(o:∀f∈fs,SfOk s f)(h:fs[j]?=some ⟨n,b⟩)(hi:b[i]?=some true) :
   (∀y∈alP s 0 fs,y.v=true→y≠⟨s*(j:Int)+n*(i:Int),n,true⟩→y∈alP s 0 (giv fs j i n b)) ∧
   (∀y∈alP s 0 (giv fs j i n b),y.v=true→y∈alP s 0 fs∧y≠⟨s*(j:Int)+n*(i:Int),n,true⟩) ∧
   ((b.set i false).any id=false→∀y∈alP s 0 fs,y.v=true→y≠⟨s*(j:Int)+n*(i:Int),n,true⟩→y.a+y.l≤s*(j:Int)∨s*(j:Int)+s≤y.a):=by
 have W:∀f∈fs,SfW s f:=fun f hf=>(o f hf).1
 have hjl:j<fs.length:=(List.getElem?_eq_some_iff.mp h).1
 have hil:i<b.length:=(List.getElem?_eq_some_iff.mp hi).1
 have W2:∀f∈giv fs j i n b,SfW s f:=fun f hf=>(Xwg o h hil f hf).1
 have n3:3≤n:=by
   rcases W _ (List.mem_of_getElem? h) with ⟨_,e2⟩ | g
   · have e2:b=[]:=e2
     rw[e2] at hil
     exact absurd hil (Nat.not_lt_zero _)
   · exact g.1
 have nolive:(b.set i false).any id=false→∀i1,i≠i1→b[i1]?≠some true:=fun hb i1 hne e=>by
   have:true∈b.set i false:=List.mem_of_getElem? (i:=i1) (by rw[List.getElem?_set_ne hne];exact e)
   exact absurd (List.any_eq_true.mpr ⟨true,this,rfl⟩) (by rw[hb];exact Bool.false_ne_true)
 refine⟨fun y hy hv hne=>?_,fun y hy hv=>?_,fun hb y hy hv hne=>?_⟩
 · obtain⟨j1,i1,n1,b1,e1,e2,rfl⟩:=Xee hy hv
   by_cases e:j=j1
   · subst e
     rw[h] at e1
     have e3:=Option.some.inj e1
     have en:n=n1:=congrArg Sf.n e3
     have eb:b=b1:=congrArg Sf.b e3
     subst en eb
     have hii:i≠i1:=fun w=>hne (by rw[w])
     have e4:(b.set i false)[i1]?=some true:=by rw[List.getElem?_set_ne hii];exact e2
     refine Xbv h1 W2 (b:=b.set i false) ?_ e4
     unfold giv
     rw[if_pos (List.any_eq_true.mpr ⟨true,List.mem_of_getElem? e4,rfl⟩)]
     exact List.getElem?_set_self hjl
   · refine Xbv h1 W2 ?_ e2
     unfold giv
     split <;> (rw[List.getElem?_set_ne e];exact e1)
 · obtain⟨j1,i1,n1,b1,e1,e2,rfl⟩:=Xee hy hv
   unfold giv at e1
   split at e1
   · rcases set_getElem? e1 with ⟨ej,e3⟩ | ⟨ej,e3⟩
     · subst ej
       have en:n=n1:=congrArg Sf.n e3
       have eb:b.set i false=b1:=congrArg Sf.b e3
       subst en eb
       rcases set_getElem? e2 with ⟨_,e4⟩ | ⟨ei,e4⟩
       · cases e4
       · refine⟨Xbv h1 W h e4,fun w=>ei ?_⟩
         have:=(Pc.mk.inj w).1
         have h5:n*(i1:Int)=n*(i:Int):=by omega
         have:=Int.eq_of_mul_eq_mul_left (show n≠0 by omega) h5
         omega
     · refine⟨Xbv h1 W e3 e2,fun w=>ej ?_⟩
       have hc:=Xdt h1 fs 0 W
       obtain⟨_,_,q2,_⟩:=Xaz h1 W h hi
       obtain⟨_,_,q3,_⟩:=Xaz h1 W e3 e2
       have:=(Pc.mk.inj w).1
       rw[this,q2] at q3
       omega
   · rcases set_getElem? e1 with ⟨ej,e3⟩ | ⟨ej,e3⟩
     · have:([]:List Bool)=b1:=congrArg Sf.b e3
       rw[←this] at e2
       simp at e2
     · refine⟨Xbv h1 W e3 e2,fun w=>ej ?_⟩
       obtain⟨_,_,q2,_⟩:=Xaz h1 W h hi
       obtain⟨_,_,q3,_⟩:=Xaz h1 W e3 e2
       have:=(Pc.mk.inj w).1
       rw[this,q2] at q3
       omega
 · obtain⟨j1,i1,n1,b1,e1,e2,rfl⟩:=Xee hy hv
   by_cases e:j=j1
   · subst e
     rw[h] at e1
     have e3:=Option.some.inj e1
     have en:n=n1:=congrArg Sf.n e3
     have eb:b=b1:=congrArg Sf.b e3
     subst en eb
     exact absurd e2 (nolive hb i1 (fun w=>hne (by rw[w])))
   · obtain⟨a1,a2,a3,_⟩:=Xaz h1 W e1 e2
     show s*(j1:Int)+n1*(i1:Int)+n1≤s*(j:Int)∨s*(j:Int)+s≤s*(j1:Int)+n1*(i1:Int)
     rcases Nat.lt_or_gt_of_ne e with g | g
     · have:=Int.mul_le_mul_of_nonneg_left (show ((j+1:Nat):Int)≤(j1:Int) by omega) (show 0≤s by omega)
       rw[Xax] at this
       omega
     · have:=Int.mul_le_mul_of_nonneg_left (show ((j1+1:Nat):Int)≤(j:Int) by omega) (show 0≤s by omega)
       rw[Xax] at this
       omega
end Stow
namespace Stow
open PySem L2 PyProof.Rows
def TsAt (H:Hp)(us:List V)(xss:List (List V)):Prop:=us.length=xss.length∧∀(i:Nat) (xs:List V),xss[i]?=some xs→∃t,us[i]?=some (.ref t)∧H t=some (.tup xs)
def eqTs (xss yss:List (List V)):Bool:=decide (xss.length=yss.length)&&(List.range xss.length).all fun j=>eqVs (xss.getD j []) (yss.getD j [])
theorem Xke {xss:List (List V)}(hf:∀xs∈xss,xs.all Xdb=true):eqTs xss xss=true:=by
 unfold eqTs
 rw[decide_eq_true rfl,Bool.true_and,List.all_eq_true]
 intro j hj
 have hj:j<xss.length:=List.mem_range.mp hj
 exact Xgz (hf _ (by rw[List.getD_eq_getElem?_getD,List.getElem?_eq_getElem hj];exact List.getElem_mem hj))
theorem Xmv {xss yss:List (List V)}(h:xss.length≠yss.length):eqTs xss yss=false:=by
 unfold eqTs
 rw[decide_eq_false h,Bool.false_and]
theorem Xqn {X:Cx}(hu:X.A.units+64<cLine):OpR X (compareOp .Eq) (fun x y H Q=>∃a b us ws xss yss,x = .ref a∧y = .ref b∧H a=some (.lst us)∧H b=some (.lst ws)∧TsAt H us xss∧TsAt H ws yss∧(∀xs∈xss,xs.all Xdb=true)∧(∀ys∈yss,ys.all Xdb=true)∧Q (.bl (eqTs xss yss)) H):=by
 intro pins s σ H x y v u Q I rx ry h
 obtain⟨a,b,us,ws,xss,yss,rfl,rfl,ha,hb,pu,pw,f1,f2,q⟩:=h
 cases rx
 cases ry
 obtain⟨its,r1,p1,_⟩:=I.list (SqL.of ha)
 obtain⟨its2,r2,p2,_⟩:=I.list (SqL.of hb)
 have l1:=r1.length
 have l2:=r2.length
 have m1:=pu.1
 have m2:=pw.1
 have key:SeqAt.RcAt X.A s (.ref a) (.ref b) (eqTs xss yss):=by
   by_cases hlen:xss.length=yss.length
   · have:=SeqAt.RcAt.lists (A:=X.A) (s:=s) (e:=fun j=>eqVs (xss.getD j []) (yss.getD j [])) p1.isList p2.isList (by rw[List.size_toArray,List.size_toArray];omega) (by omega) fun j h1 h2=>by
       rw[List.size_toArray] at h1 h2
       have hj:j<xss.length:=by omega
       have hj2:j<yss.length:=by omega
       obtain⟨t1,e1,g1⟩:=pu.2 j xss[j] (by simp [hj])
       obtain⟨t2,e2,g2⟩:=pw.2 j yss[j] (by simp [hj2])
       obtain⟨u1,k1,q1⟩:=r1.get e1
       obtain⟨u2,k2,q2⟩:=r2.get e2
       cases q1
       cases q2
       obtain⟨_,k1⟩:=List.getElem?_eq_some_iff.mp k1
       obtain⟨_,k2⟩:=List.getElem?_eq_some_iff.mp k2
       have ex:xss.getD j []=xss[j]:=by simp [hj]
       have ey:yss.getD j []=yss[j]:=by simp [hj2]
       have z:SeqAt.EqAt X.A.in1 s (.ref t1) (.ref t2) (eqVs xss[j] yss[j]):=by
         by_cases e:t1=t2
         · subst e
           rw[g1] at g2
           rw[←HO.tup.inj (Option.some.inj g2),Xgz (f1 _ (List.getElem_mem hj))]
           exact SeqAt.EqAt.same _
         · exact SeqAt.EqAt.of_refs e (Xzx (A:=X.A.in1) (by show X.A.units+1<cLine;omega) I (SqT.of g1) (SqT.of g2) (f1 _ (List.getElem_mem hj)) (f2 _ (List.getElem_mem hj2)))
       rw[←ex,←ey,←k1,←k2] at z
       simpa using z
     have e:eqTs xss yss=(List.range its.toArray.size).all fun j=>eqVs (xss.getD j []) (yss.getD j []):=by
       unfold eqTs
       rw[decide_eq_true hlen,Bool.true_and,List.size_toArray,←l1,m1]
     rw[e]
     exact this
   · rw[Xmv hlen]
     exact SeqAt.RcAt.lists_lengths p1.isList p2.isList (by rw[List.size_toArray,List.size_toArray];simp;omega) (by omega)
 exact key _ _ _ _ ⟨.bl _,H,I,rfl,q⟩
def pcV (z:Pc):List V:=[.int z.a,.int z.l,.bl z.v]
theorem Xjf (ps:List Pc):∀xs∈ps.map pcV,xs.all Xdb=true:=fun xs h=>by
 obtain⟨z,_,rfl⟩:=List.mem_map.mp h
 rfl
theorem Xbk.ts {H:Hp}{us:List V}{ps:List Pc}(h:Xbk H us ps):TsAt H us (ps.map pcV):=⟨by rw[List.length_map];exact h.1,fun i xs hx=>by
 rw[List.getElem?_map] at hx
 obtain⟨z,h1,rfl⟩:=Option.map_eq_some_iff.mp hx
 exact h.2 i z h1⟩
theorem Xyt {ps:List Pc}{z:Pc}(hv:z.v=false)(h:∃y∈ps,y.v=true):eqTs (ps.map pcV) ([z].map pcV)=false:=by
 by_cases e:ps.length=1
 · match ps,e with
   | [y],_ =>
     obtain⟨y',hy,hv'⟩:=h
     rw[List.mem_singleton.mp hy] at hv'
     have:eqTs ([y].map pcV) ([z].map pcV)=(true&&(eqVs (pcV y) (pcV z)&&true)):=rfl
     rw[this]
     have h2:eqVs (pcV y) (pcV z)=eqP y z:=XBj y z
     rw[h2]
     cases g:eqP y z with
     | false=>rfl
     | true =>
       rw[Xly.mp g,hv] at hv'
       cases hv'
 · exact Xmv (by rw[List.length_map];exact e)
def prV (p:Int×Int):List V:=[.int p.1,.int p.2]
theorem Xjc (qs:List (Int×Int)):∀xs∈qs.map prV,xs.all Xdb=true:=fun xs h=>by
 obtain⟨z,_,rfl⟩:=List.mem_map.mp h
 rfl
theorem TsAt.snoc {H H':Hp}{us:List V}{xss:List (List V)}{t:Addr}{xs:List V}(h:TsAt H us xss)(k:∀b ws,H b=some (.tup ws)→H' b=some (.tup ws))(ht:H' t=some (.tup xs)):TsAt H' (us++[.ref t]) (xss++[xs]):=by
 refine⟨by rw[List.length_append,List.length_append,h.1];rfl,fun j q' hq=>?_⟩
 rcases Nat.lt_trichotomy j xss.length with g | g | g
 · rw[List.getElem?_append_left g] at hq
   obtain⟨t',h1,h2⟩:=h.2 j q' hq
   exact⟨t',by rw[List.getElem?_append_left (by rw[h.1];exact g)];exact h1,k _ _ h2⟩
 · subst g
   rw[List.getElem?_append_right (Nat.le_refl _),Nat.sub_self] at hq
   have e:xs=q':=Option.some.inj hq
   subst e
   exact⟨t,by rw[List.getElem?_append_right (by rw[h.1];exact Nat.le_refl _),h.1,Nat.sub_self];rfl,ht⟩
 · rw[List.getElem?_eq_none (by rw[List.length_append,List.length_singleton];omega)] at hq
   cases hq
theorem TsAt.same {H H':Hp}{us:List V}{xss:List (List V)}(h:TsAt H us xss)(s:Same H H'):TsAt H' us xss:=⟨h.1,fun i xs hx=>let ⟨t,h1,h2⟩:=h.2 i xs hx;⟨t,h1,s t _ h2⟩⟩
theorem Xjd {ps:List Pc}{n:Int}{y z:Pc}{m:Nat}(c:Xaq 0 ps n)(hy:y∈ps)(hz:z∈ps)(hne:y≠z)(hm:Inn y m):(m:Int)<z.a∨z.a+z.l≤m:=by
 obtain⟨m1,m2⟩:=hm
 by_cases h:(m:Int)<z.a
 · exact .inl h
 · by_cases h2:z.a+z.l≤m
   · exact .inr h2
   · exact absurd (Xcj c hy hz (p:=(m:Int)) (by omega) (by omega) (by omega) (by omega)) hne
theorem Xgr {α:Type}(p:α→Prop)[DecidablePred p]:∀xs:List α,(∀x∈xs,¬p x)∨∃(j:Nat) (x:α),xs[j]?=some x∧p x∧∀(j':Nat) (x':α),j'<j→xs[j']?=some x'→¬p x'
 | []=>.inl fun x h=>by cases h
 | x::r=>by
   by_cases e:p x
   · exact .inr ⟨0,x,rfl,e,fun j' _ h=>absurd h (Nat.not_lt_zero _)⟩
   · rcases Xgr p r with h | ⟨j,y,h1,h2,h3⟩
     · refine .inl fun y hy=>?_
       rcases List.mem_cons.mp hy with g | g
       · rw[g];exact e
       · exact h y g
     · refine .inr ⟨j+1,y,h1,h2,fun j' x' hj hx=>?_⟩
       cases j' with
       | zero =>
         have:x=x':=by simpa using hx
         rw[←this];exact e
       | succ j'=>exact h3 j' x' (by omega) (by simpa using hx)
theorem XIj {s k:Int}{fs:List Sf}(k3:3≤k):NoGr s k fs∨∃(j i:Nat) (b:List Bool) (fs1:List Sf),Gs s k fs j i b fs1:=by
 rcases Xgr (fun f:Sf=>f.n=k∧false∈f.b) fs with hno | ⟨j,f,hj,⟨hn,hf⟩,hm⟩
 · by_cases ks:k≤s
   · rcases Xgr (fun f:Sf=>f.n=0) fs with h0 | ⟨j,f,hj,h0,hm⟩
     · exact .inl ⟨hno,.inr h0⟩
     · obtain⟨_,_,d3⟩:=Xfq (show 1≤k by omega) ks
       have hjl:j<fs.length:=(List.getElem?_eq_some_iff.mp hj).1
       refine .inr ⟨j,0,List.replicate (s/k).toNat false,fs.set j ⟨k,List.replicate (s/k).toNat false⟩,List.getElem?_set_self hjl,?_,fun i' h=>absurd h (Nat.not_lt_zero _),fun j' f' _ hf'=>hno f' (List.mem_of_getElem? hf'),.inr ⟨hno,ks,rfl,rfl,⟨f,hj,h0⟩,hm,rfl⟩⟩
       rw[List.getElem?_replicate,if_pos (by omega)]
   · exact .inl ⟨hno,.inl (by omega)⟩
 · obtain⟨i,h1,h2⟩:=Xmd hf
   obtain⟨n,b⟩:=f
   have hn:n=k:=hn
   subst hn
   exact .inr ⟨j,i,b,fs,hj,h1,h2,hm,.inl rfl⟩
def cutS (ps:List Pc)(s k:Int):List Int:=(ps.filter fun z=>z.v&&decide (z.l=k)).map fun z=>z.a/s
def CanZ (ps:List Pc)(s k:Int)(z:Pc):Prop:=z.v=false∧((k≤s∧z.a%s=0∧z.l=s)∨(z.l=k∧z.a/s∈cutS ps s k))
theorem Xie {s k:Int}{fs:List Sf}{j:Nat}(h1:1≤s)(W:∀f∈fs,SfW s f):((j:Int)∈cutS (alP s 0 fs) s k)↔∃b,fs[j]?=some ⟨k,b⟩∧true∈b:=by
 constructor
 · intro h
   obtain⟨y,h2,h3⟩:=List.mem_map.mp h
   obtain⟨h4,h5⟩:=List.mem_filter.mp h2
   obtain⟨hv,hl⟩:=Bool.and_eq_true_iff.mp h5
   have hl:y.l=k:=of_decide_eq_true hl
   obtain⟨j1,i1,n,b,e1,e2,rfl⟩:=Xee h4 hv
   obtain⟨_,_,q3,_⟩:=Xaz h1 W e1 e2
   have h3:(s*(j1:Int)+n*(i1:Int))/s=(j:Int):=h3
   have hl:n=k:=hl
   rw[q3] at h3
   have:j1=j:=by omega
   subst this hl
   exact⟨b,e1,List.mem_of_getElem? e2⟩
 · rintro⟨b,h2,h3⟩
   obtain⟨i,hi⟩:=List.getElem?_of_mem h3
   obtain⟨_,_,q3,_⟩:=Xaz h1 W h2 hi
   exact List.mem_map.mpr ⟨_,List.mem_filter.mpr ⟨Xbv h1 W h2 hi,by show (true&&decide (k=k))=true;rw[decide_eq_true rfl];rfl⟩,q3⟩
theorem Xyr {s A:Int}{f:Sf}{z:Pc}(h1:1≤s)(w:SfW s f)(h:z∈shP s A f)(hv:z.v=false):(f.n=0∧z=⟨A,s,false⟩)∨(3≤f.n∧((∃i:Nat,f.b[i]?=some false∧z=⟨A+f.n*(i:Int),f.n,false⟩)∨(z.l=s-f.n*(f.b.length:Int)∧z.l<f.n))):=by
 rcases w with ⟨e1,e2⟩ | ⟨h3,h4,h5,h6⟩
 · obtain⟨n,b⟩:=f
   have e1:n=0:=e1
   have e2:b=[]:=e2
   subst e1 e2
   rw[Xcp h1] at h
   exact .inl ⟨rfl,List.mem_singleton.mp h⟩
 · refine .inr ⟨h3,?_⟩
   unfold shP at h
   rcases List.mem_append.mp h with g | g
   · obtain⟨i,h7,h8⟩:=Xey g
     rw[hv] at h7 h8
     exact .inl ⟨i,h7,h8⟩
   · have:=(Xjv g).2.1
     exact .inr ⟨by omega,by omega⟩
theorem XJr {s k:Int}{fs:List Sf}(h1:1≤s)(k3:3≤k)(o:∀f∈fs,SfOk s f)(g:NoGr s k fs):∀z∈alP s 0 fs,¬CanZ (alP s 0 fs) s k z:=by
 have W:∀f∈fs,SfW s f:=fun f hf=>(o f hf).1
 rintro z hz ⟨hv,hcase⟩
 obtain⟨j,f,hj,hzs⟩:=XFg hz
 have hfm:=List.mem_of_getElem? hj
 have hc:=Xdp (A:=s*(j:Int)) h1 (W f hfm)
 obtain⟨z0,z1,_,z4⟩:=hc.mem z hzs
 obtain⟨_,r2,_⟩:=Xgi (j:=j) z0 (by omega)
 rw[r2,Xie h1 W] at hcase
 have pos:f.n≠0→1≤f.b.length:=fun h0=>List.length_pos_of_mem ((o f hfm).2 h0)
 rcases Xyr h1 (W f hfm) hzs hv with ⟨e0,ez⟩ | ⟨n3,⟨i,hi,ez⟩ | ⟨hl,hlt⟩⟩
 · rcases hcase with ⟨ks,_,_⟩ | ⟨_,b,hb,ht⟩
   · rcases g.2 with g | g
     · omega
     · exact g f hfm e0
   · rw[hj] at hb
     have:=Option.some.inj hb
     rw[this] at e0
     have e0:k=0:=e0
     omega
 · have hf:false∈f.b:=List.mem_of_getElem? hi
   have el:z.l=f.n:=by rw[ez]
   rcases hcase with ⟨_,_,hs⟩ | ⟨hk,_⟩
   · exact Xow h1 (o f hfm) rfl (by omega) hf
   · exact g.1 f hfm ⟨by omega,hf⟩
 · have hp:=pos (by omega)
   have hm:=Int.mul_le_mul_of_nonneg_left (show (1:Int)≤(f.b.length:Int) by omega) (show 0≤f.n by omega)
   rcases hcase with ⟨_,_,hs⟩ | ⟨hk,b,hb,ht⟩
   · omega
   · rw[hj] at hb
     have:=Option.some.inj hb
     have e:f.n=k:=by rw[this]
     omega
theorem XCd {s k:Int}{fs fs1:List Sf}{j i:Nat}{b:List Bool}(h1:1≤s)(k3:3≤k)(o:∀f∈fs,SfOk s f)(g:Gs s k fs j i b fs1):∃z∈alP s 0 fs,CanZ (alP s 0 fs) s k z:=by
 have W:∀f∈fs,SfW s f:=fun f hf=>(o f hf).1
 obtain⟨g1,g2,_,_,e | ⟨_,ks,_,_,⟨f0,c8,c9⟩,_,e⟩⟩:=g
 · rw[e] at g1
   obtain⟨_,_,q3,_⟩:=Xaz h1 W g1 g2
   refine⟨_,Xbv h1 W g1 g2,rfl,.inr ⟨rfl,?_⟩⟩
   show (s*(j:Int)+k*(i:Int))/s∈_
   rw[q3,Xie h1 W]
   exact⟨b,g1,(o _ (List.mem_of_getElem? g1)).2 (by show k≠0;omega)⟩
 · refine⟨⟨s*(j:Int),s,false⟩,Xgb h1 W c8 ?_,rfl,.inl ⟨ks,Int.mul_emod_right _ _,rfl⟩⟩
   rcases W _ (List.mem_of_getElem? c8) with ⟨e1,e2⟩ | ⟨h3,_⟩
   · obtain⟨n,b'⟩:=f0
     have e1:n=0:=e1
     have e2:b'=[]:=e2
     subst e1 e2
     rw[Xcp h1]
     exact List.mem_singleton.mpr rfl
   · omega
theorem Xjz {s:Int}{fs:List Sf}{j:Nat}{f:Sf}(h1:1≤s)(w:∀f∈fs,SfW s f)(h:fs[j]?=some f):(alP s 0 fs).filter (fun z=>decide (s*(j:Int)≤z.a∧z.a<s*(j:Int)+s))=shP s (s*(j:Int)) f:=by
 obtain⟨ds,rs,e,c1,c2⟩:=Xdy h1 w h
 rw[←Xez h,e f,List.filter_append,List.filter_append]
 have n1:ds.filter (fun z=>decide (s*(j:Int)≤z.a∧z.a<s*(j:Int)+s))=[]:=List.filter_eq_nil_iff.mpr fun z hz=>by
   obtain⟨_,z1,_,z4⟩:=c1.mem z hz
   simp;omega
 have n2:rs.filter (fun z=>decide (s*(j:Int)≤z.a∧z.a<s*(j:Int)+s))=[]:=List.filter_eq_nil_iff.mpr fun z hz=>by
   obtain⟨z0,_,_,_⟩:=c2.mem z hz
   simp;omega
 have n3:(shP s (s*(j:Int)) f).filter (fun z=>decide (s*(j:Int)≤z.a∧z.a<s*(j:Int)+s))=shP s (s*(j:Int)) f:=List.filter_eq_self.mpr fun z hz=>by
   obtain⟨z0,z1,_,z4⟩:=(Xdp (A:=s*(j:Int)) h1 (w f (List.mem_of_getElem? h))).mem z hz
   exact decide_eq_true ⟨z0,by omega⟩
 rw[n1,n2,n3,List.nil_append,List.append_nil]
def dueP (A n:Int)(m:Nat):List (Int×Int):=(List.range m).map fun i:Nat=>(A+n*(i:Int),n)
theorem Xqh (A n:Int)(m:Nat):dueP A n (m+1)=dueP A n m++[(A+n*(m:Int),n)]:=by
 unfold dueP
 rw[List.range_succ,List.map_append]
 rfl
theorem Xos (n:Int)(b:List Bool):∀A:Int,(slP n A b).map (fun z=>(z.a,z.l))=dueP A n b.length:=by
 induction b with
 | nil=>intro A;rfl
 | cons v r ih =>
   intro A
   show (A,n)::(slP n (A+n) r).map (fun z=>(z.a,z.l))=_
   rw[ih (A+n)]
   unfold dueP
   rw[List.length_cons,List.range_succ_eq_map,List.map_cons,List.map_map]
   congr 1
   · simp
   · refine List.map_congr_left fun i _=>?_
     show (A+n+n*(i:Int),n)=(A+n*((i+1:Nat):Int),n)
     rw[Xax]
     congr 1
     omega
theorem Xnd {s A:Int}{f:Sf}(w:SfW s f)(h0:f.n≠0):3≤f.n∧s/f.n=(f.b.length:Int)∧s%f.n=s-f.n*(f.b.length:Int)∧(shP s A f).map (fun z=>(z.a,z.l))=dueP A f.n f.b.length++(if 0<s%f.n then [(A+s-s%f.n,s%f.n)] else []):=by
 rcases w with ⟨e1,_⟩ | ⟨h3,h4,h5,h6⟩
 · exact absurd e1 h0
 have q1:s/f.n=(f.b.length:Int):=by
   have:s=(s-f.n*(f.b.length:Int))+f.n*(f.b.length:Int):=by omega
   rw[this,Int.add_mul_ediv_left _ _ (by omega),Int.ediv_eq_zero_of_lt (by omega) (by omega)]
   omega
 have q2:s%f.n=s-f.n*(f.b.length:Int):=by rw[Int.emod_def,q1]
 refine⟨h3,q1,q2,?_⟩
 unfold shP
 rw[List.map_append,Xos,q2]
 congr 1
 unfold fr
 by_cases e:A+f.n*(f.b.length:Int)=A+s
 · rw[if_pos e,if_neg (by omega)];rfl
 · rw[if_neg e,if_pos (by omega)]
   show [(A+f.n*(f.b.length:Int),A+s-(A+f.n*(f.b.length:Int)))]=_
   rw[show A+s-(A+f.n*(f.b.length:Int))=s-f.n*(f.b.length:Int) by omega,show A+f.n*(f.b.length:Int)=A+s-(s-f.n*(f.b.length:Int)) by omega]
end Stow
local macro_rules
 | `(tactic| walk_at "set")=>`(tactic| first
   | exact Stow.set0_c
   | exact Stow.set0_1
   | exact Stow.set0_0
   | ((refine Stow.setS_c (r:=?r) ?h);(case h=>walk_at "set"))
   | ((refine Stow.setS_1 (r:=?r) ?h);(case h=>walk_at "set"))
   | ((refine Stow.setS_0 (r:=?r) ?h);(case h=>walk_at "set")))
local macro_rules
 | `(tactic| walk_at "look")=>`(tactic| first
   | with_reducible assumption
   | exact L2.upd_same
   | ((with_reducible refine Stow.look_ne ?a ?b);(case a=>(first | assumption | exact Ne.symm (by assumption)));(case b=>walk_at "look"))
   | ((with_reducible refine Stow.look_put ?a ?b);(case a=>(first | assumption | walk_at "look"));(case b=>walk_at "look"))
   | ((with_reducible refine Stow.look_tup (ys:=?ys) ?a ?b);(case a=>walk_at "look");(case b=>walk_at "look"))
   | assumption)
local macro_rules
 | `(tactic| walk_at "seq")=>`(tactic| first
   | with_reducible assumption
   | exact L2.SqL.of (by walk_at "look")
   | ((with_reducible refine Stow.seq_put ?a ?b);(case a=>assumption);(case b=>walk_at "seq"))
   | assumption)
local macro_rules
 | `(tactic| walk_at "num")=>`(tactic| first | assumption | omega | (simp only [List.length_map,List.length_set,List.length_append,List.length_cons,List.length_nil] <;> omega))
local macro_rules
 | `(tactic| walk_at "size")=>`(tactic| first | exact Stow.small4000 (by first | omega | (simp only [List.length_map,List.length_set,List.length_append,List.length_cons,List.length_nil] <;> omega)))
local macro_rules
 | `(tactic| walk_at "side")=>`(tactic| first
   | (show (0:Int)<_;first | decide | omega)
   | (show (0:Int)≤_;first | decide | omega)
   | exact Or.inr ⟨by decide,by decide⟩
   | exact Or.inl ⟨by decide,by decide⟩
   | exact⟨by decide,by decide⟩
   | exact⟨by decide,by decide,by decide⟩
   | exact⟨by decide,by decide,by assumption⟩
   | exact⟨by decide,by decide,by omega⟩
   | exact⟨by omega,by omega,by decide⟩
   | exact Or.inr ⟨by omega,by omega⟩
   | exact Or.inl ⟨by omega,by omega⟩
   | exact⟨by omega,by omega⟩)
local macro_rules
 | `(tactic| walk_at "ty")=>`(tactic| first | exact L2.TyOf.int _ | exact L2.TyOf.bl _ | exact L2.TyOf.non | ((refine L2.TyOf.lst (xs:=?xs) ?h);(case h=>walk_at "look")) | ((refine L2.TyOf.tup (xs:=?xs) ?h);(case h=>walk_at "look")) | exact L2.TyOf.str _)
local macro_rules
 | `(tactic| walk_at "kit")=>`(tactic| first | exact Stow.kit_ii | exact Stow.kit_ib | exact Stow.kit_bb | exact Stow.kit_ll | exact Stow.kit_tt)
local macro_rules
 | `(tactic| walk_at "sp")=>`(tactic| fail "no promise")
local macro_rules
 | `(tactic| walk_at "st")=>`(tactic| first
   | ((with_reducible refine Stow.r_var (v:=?v) ?e ?_);(case e=>exact rfl))
   | (with_reducible refine Stow.r_seq ?_)
   | (with_reducible refine Stow.r_chain ?_)
   | (with_reducible refine Stow.r_nx ?_)
   | (with_reducible refine Stow.r_asg ?_)
   | ((with_reducible refine Stow.r_gnameN (σ':=?s) ?e ?_);(case e=>with_reducible (walk_at "set")))
   | (with_reducible refine Stow.r_gname ?_)
   | (with_reducible refine Stow.r_op ?_)
   | (with_reducible refine Stow.r_cons ?_)
   | (with_reducible refine Stow.r_nil ?_)
   | (with_reducible refine Stow.r_c ?_)
   | (with_reducible refine Stow.r_rI0 ?_)
   | (with_reducible refine Stow.r_call ?_)
   | (with_reducible refine Stow.r_cb ?_)
   | (with_reducible refine Stow.r_test ?_)
   | (with_reducible refine Stow.r_tB ?_)
   | (with_reducible refine Stow.r_bl ?_)
   | (with_reducible refine Stow.r_ifS ?_)
   | (with_reducible refine Stow.r_ret ?_)
   | (with_reducible refine Stow.r_rt ?_)
   | (with_reducible refine Stow.r_drop ?_)
   | (with_reducible refine Stow.r_next ?_)
   | (with_reducible refine Stow.r_not ?_)
   | (with_reducible refine Stow.r_and ?_)
   | (with_reducible refine Stow.r_or ?_)
   | (with_reducible refine Stow.r_andV ?_)
   | (with_reducible refine Stow.r_orV ?_)
   | (with_reducible refine Stow.r_notV ?_)
   | (with_reducible refine Stow.r_ifE ?_)
   | (with_reducible refine Stow.r_ifN ?_)
   | (with_reducible refine Stow.r_eqI ?_)
   | (with_reducible refine Stow.r_neI ?_)
   | (with_reducible refine Stow.r_isN ?_)
   | (with_reducible refine Stow.r_int ?_)
   | (with_reducible refine Stow.r_eqB ?_)
   | (with_reducible refine Stow.r_neB ?_)
   | (with_reducible refine Stow.r_tup ?_)
   | (with_reducible refine Stow.r_lst ?_)
   | (with_reducible refine Stow.r_bm ?_)
   | (with_reducible refine Stow.r_bm0 ?_)
   | (with_reducible refine Stow.r_sl ?_)
   | (with_reducible refine Stow.r_part ?_)
   | (with_reducible refine Stow.r_nopart ?_)
   | (with_reducible refine Stow.r_un ?_)
   | (with_reducible refine Stow.r_rU ?_)
   | (with_reducible refine Stow.r_intB ?_)
   | (with_reducible refine Stow.r_intI ?_)
   | (with_reducible refine Stow.r_truB ?_)
   | (with_reducible refine Stow.r_gsub ?_)
   | (with_reducible refine Stow.r_retN ?_)
   | (with_reducible refine Stow.r_ct ?_)
   | (with_reducible refine Stow.r_bk ?_)
   | (with_reducible refine Stow.r_break ?_)
   | (with_reducible refine Stow.r_cont ?_)
   | (with_reducible refine L2.iteT ?_)
   | (with_reducible refine L2.iteF ?_)
   | ((with_reducible refine Stow.r_rI ?c ?_);(case c=>walk_at "side"))
   | ((with_reducible refine Stow.r_tyL (xs:=?xs) ?h ?_);(case h=>walk_at "look"))
   | ((with_reducible refine Stow.r_appendI (ns:=?ns) ?h ?z ?_);(case h=>walk_at "look");(case z=>walk_at "size"))
   | ((with_reducible refine Stow.r_append (xs:=?xs) ?h ?z ?_);(case h=>walk_at "look");(case z=>walk_at "size"))
   | ((with_reducible refine Stow.r_gtup (xs:=?xs) ?h ?l ?_);(case h=>walk_at "look");(case l=>exact rfl))
   | (with_reducible refine Stow.r_gcons ?_)
   | (with_reducible refine Stow.r_gnil ?_)
   | ((with_reducible refine Stow.r_ixI (ns:=?ns) ?h ?a ?b ?_);(case h=>walk_at "seq");(case a=>walk_at "num");(case b=>walk_at "num"))
   | ((with_reducible refine Stow.r_ixT (xs:=?xs) (v:=?v) ?h ?e ?_);(case h=>walk_at "look");(case e=>exact rfl))
   | ((with_reducible refine Stow.r_setI (ns:=?ns) ?h ?a ?b ?_);(case h=>walk_at "look");(case a=>walk_at "num");(case b=>walk_at "num"))
   | ((with_reducible refine Stow.r_sllG (ns:=?ns) ?h ?_);(case h=>walk_at "seq"))
   | ((with_reducible refine Stow.r_sll (xs:=?xs) ?h ?_);(case h=>walk_at "seq"))
   | ((with_reducible refine Stow.r_lenI (ns:=?ns) ?h ?_);(case h=>walk_at "seq");(try rw[List.length_map]))
   | ((with_reducible refine Stow.r_lenL (xs:=?xs) ?h ?_);(case h=>walk_at "look"))
   | ((with_reducible refine Stow.r_lenT (xs:=?xs) ?h ?_);(case h=>walk_at "look"))
   | ((with_reducible refine Stow.r_listI (xs:=?xs) ?h ?_);(case h=>walk_at "seq"))
   | ((with_reducible refine Stow.r_isi (t:=?t) (b:=?b) ?y ?e ?_);(case y=>walk_at "ty");(case e=>walk_at "kit"))
   | ((with_reducible refine Stow.r_new ?h ?_);(case h=>(first | exact Nat.zero_le _ | simp)))
   | ((with_reducible refine Stow.r_truL (xs:=?xs) ?h ?_);(case h=>walk_at "seq"))
   | ((with_reducible refine Stow.r_ifdT ?c ?_);(case c=>(first | omega | exact rfl)))
   | ((with_reducible refine Stow.r_ifdF ?c ?_);(case c=>(first | omega | (intro h;cases h;done))))
   | (with_reducible refine Stow.r_raise ?_)
   | (with_reducible refine Stow.r_raiseI ?_)
   | (with_reducible refine Stow.r_tryAs ?_)
   | (with_reducible refine Stow.r_try ?_)
   | (with_reducible refine Stow.r_fldX ?_)
   | (with_reducible refine Stow.r_for ?_)
   | (with_reducible refine Stow.r_iL ?_)
   | (with_reducible refine Stow.r_iR1 ?_)
   | (with_reducible refine Stow.r_iR2 ?_)
   | (with_reducible refine Stow.r_comp ?_)
   | ((with_reducible refine Stow.r_isiX (C:=?C) (od:=?od) (b:=?b) ?h ?z ?e ?_);(case h=>walk_at "look");(case z=>assumption);(case e=>assumption))
   | ((with_reducible refine Stow.r_isiN (C:=?C) (od:=?od) (b:=?b) ?h ?z ?n ?e ?_);(case h=>walk_at "look");(case z=>assumption);(case n=>exact fun z=>nomatch z);(case e=>assumption))
   | (with_reducible refine Stow.r_makeX ?_)
   | (with_reducible refine Stow.r_makeI ?_)
   | (with_reducible refine Stow.r_fldN ?_)
   | ((with_reducible refine Stow.r_catG (xs:=?xs) (zs:=?zs) ?h ?g ?z ?_);(case h=>walk_at "look");(case g=>walk_at "look");(case z=>walk_at "num"))
   | ((with_reducible refine Stow.r_cat (xs:=?xs) (zs:=?zs) ?h ?g ?z ?_);(case h=>walk_at "look");(case g=>walk_at "look");(case z=>(refine Nat.le_of_lt (L2.small1000 ?_);first | omega | simp)))
   | ((with_reducible refine Stow.r_slS ?h ?_);(case h=>decide))
   | (with_reducible refine Stow.r_max ?_)
   | (with_reducible refine Stow.r_fld ?_)
   | ((with_reducible refine Stow.r_at (C:=?C) (dx:=?dx) (fs:=?fs) (v:=?v) ?h ?c ?n ?l ?_);(case h=>walk_at "look");(case c=>assumption);(case n=>assumption);(case l=>exact rfl))
   | (with_reducible refine Stow.r_sfld ?_)
   | ((with_reducible refine Stow.r_sat (C:=?C) (dx:=?dx) (fs:=?fs) ?h ?c ?n ?l ?_);(case h=>walk_at "look");(case c=>assumption);(case n=>assumption);(case l=>(first | decide | simp)))
   | (with_reducible refine Stow.r_meth ?_)
   | ((with_reducible refine Stow.r_mat (dx:=?dx) (fs:=?fs) ?h ?l ?_);(case h=>walk_at "look");(case l=>exact rfl))
   | (with_reducible refine Stow.r_make ?_)
   | (with_reducible refine Stow.r_compG ?_)
   | ((with_reducible refine Stow.r_isiO (C:=?C) (dx:=?dx) (fs:=?fs) (b:=?b) ?h ?z ?e ?_);(case h=>walk_at "look");(case z=>assumption);(case e=>assumption))
   | (with_reducible refine Stow.r_tryE ?_)
   | (with_reducible refine Stow.r_tryA ?_)
   | (with_reducible refine Stow.r_xCall ?_)
   | (with_reducible refine Stow.r_tryS ?_)
   | (with_reducible refine Stow.r_xSet ?_)
   | (with_reducible refine Stow.r_xIf ?_)
   | (with_reducible refine Stow.r_xMeth ?_)
   | (with_reducible refine Stow.r_xMethD ?_)
   | (with_reducible refine Stow.r_xMake ?_)
   | (with_reducible refine Stow.r_methD ?_)
   | (with_reducible refine Stow.r_isB ?_)
   | ((with_reducible refine Stow.r_notIn (xs:=?xs) ?h ?f ?g ?_);(case h=>walk_at "look");(case f=>exact rfl);(case g=>exact rfl))
   | walk_at "sp")
local macro_rules
 | `(tactic| walk_at "go")=>`(tactic| repeat walk_at "st")
local macro_rules
 | `(tactic| walk_at "len")=>`(tactic| first
   | (rintro⟨e,_⟩;exact congrArg List.length e)
   | (rintro⟨_,e,_⟩;exact congrArg List.length e)
   | (rintro⟨_,_,e,_⟩;exact congrArg List.length e)
   | (rintro⟨_,_,_,e,_⟩;exact congrArg List.length e)
   | (rintro⟨_,_,_,_,e,_⟩;exact congrArg List.length e)
   | (rintro⟨_,_,_,_,_,e,_⟩;exact congrArg List.length e)
   | (rintro⟨_,_,_,_,_,_,e,_⟩;exact congrArg List.length e)
   | (rintro⟨_,_,_,_,_,_,_,e,_⟩;exact congrArg List.length e)
   | (rintro⟨_,_,_,_,_,_,_,_,e,_⟩;exact congrArg List.length e)
   | (rintro⟨_,_,_,_,_,_,_,_,_,e,_⟩;exact congrArg List.length e)
   | (rintro⟨_,_,_,_,_,_,_,_,_,_,e,_⟩;exact congrArg List.length e)
   | (rintro⟨_,_,_,_,_,_,_,_,_,_,_,e,_⟩;exact congrArg List.length e)
   | (rintro⟨_,_,_,_,_,_,_,_,_,_,_,_,e,_⟩;exact congrArg List.length e)
   | (rintro⟨_,_,_,_,_,_,_,_,_,_,_,_,_,e,_⟩;exact congrArg List.length e)
   | (rintro⟨_,_,_,_,_,_,_,_,_,_,_,_,_,_,e,_⟩;exact congrArg List.length e)
   | (rintro⟨_,_,_,_,_,_,_,_,_,_,_,_,_,_,_,e,_⟩;exact congrArg List.length e)
   | (rintro⟨_,_,_,_,_,_,_,_,_,_,_,_,_,_,_,_,e,_⟩;exact congrArg List.length e)
   | (rintro⟨_,_,_,_,_,_,_,_,_,_,_,_,_,_,_,_,_,e,_⟩;exact congrArg List.length e))
local macro_rules
 | `(tactic| walk_at "gs")=>`(tactic| repeat (first | (with_reducible refine Stow.r_nx ?_) | ((fail_if_success (with_reducible refine Stow.r_isIf ?_));walk_at "st")))
local macro_rules
 | `(tactic| walk_at "ga")=>`(tactic| repeat ((fail_if_success (with_reducible refine Stow.r_isAnd ?_));(fail_if_success (with_reducible refine Stow.r_isOr ?_));walk_at "st"))
local macro_rules
 | `(tactic| walk_at "ge")=>`(tactic| repeat (first | (with_reducible refine Stow.r_nx ?_) | ((fail_if_success (with_reducible refine Stow.r_isSeq ?_));walk_at "st")))
local macro_rules
 | `(tactic| walk_at "g1")=>`(tactic| ((with_reducible refine Stow.r_seq ?_);walk_at "ge"))
local macro_rules
 | `(tactic| walk_at "st")=>`(tactic| first
   | (with_reducible refine Stow.r_dget ?_)
   | (with_reducible refine Stow.r_dput ?_)
   | (with_reducible refine Stow.r_forD ?_)
   | (with_reducible refine Stow.r_forI ?_)
   | (with_reducible refine Stow.r_dnew ?_)
   | (with_reducible refine Stow.r_xExp ?_)
   | ((with_reducible refine Stow.r_tyD (kvs:=?kvs) ?h ?_);(case h=>walk_at "look")))
local macro_rules
 | `(tactic| walk_at "st")=>`(tactic| first
   | (with_reducible refine Stow.r_dIn ?_)
   | (with_reducible refine Stow.r_dPop ?_)
   | ((with_reducible refine Stow.r_truD (kvs:=?kvs) ?h ?_);(case h=>walk_at "look"))
   | (with_reducible refine Stow.r_eqSS ?_)
   | (with_reducible refine Stow.r_neSS ?_)
   | (with_reducible refine Stow.r_eqSt ?_)
   | (with_reducible refine Stow.r_neSt ?_)
   | (with_reducible refine Stow.r_methF ?_)
   | (with_reducible refine Stow.r_methFD ?_)
   | (with_reducible refine Stow.r_xMethF ?_)
   | (with_reducible refine Stow.r_xMethFD ?_)
   | ((with_reducible refine Stow.r_matF (i:=?i) (dx:=?dx) (fs:=?fs) ?h ?l ?_);(case h=>walk_at "look");(case l=>(first | exact Stow.fsF_none (by decide) (by decide) | exact rfl)))
   | ((with_reducible refine Stow.r_at (C:=?C) (dx:=?dx) (fs:=?fs) (v:=?v) ?h ?c ?n ?l ?_);(case h=>walk_at "look");(case c=>assumption);(case n=>assumption);(case l=>exact Stow.fsF_cells))
   | ((with_reducible refine Stow.r_sat (C:=?C) (dx:=?dx) (fs:=?fs) ?h ?c ?n ?l ?_);(case h=>walk_at "look");(case c=>assumption);(case n=>assumption);(case l=>exact Stow.fsF_few)))
local macro_rules
 | `(tactic| walk_at "sp")=>`(tactic| first
   | (with_reducible refine Stow.i_long ?_)
   | (with_reducible refine Stow.i_live ?_)
   | (with_reducible refine Stow.i_whole ?_)
   | ((with_reducible refine Stow.i_cell (ns:=?ns) ?h ?a ?_);(case h=>walk_at "seq");(case a=>walk_at "nn"))
   | ((with_reducible refine Stow.i_can (ns:=?ns) ?h ?a ?b ?_);(case h=>walk_at "seq");(case a=>walk_at "num");(case b=>walk_at "num"))
   | ((with_reducible refine Stow.i_bad (ns:=?ns) ?h ?a ?b ?_);(case h=>walk_at "seq");(case a=>walk_at "num");(case b=>walk_at "num")))
local macro_rules
 | `(tactic| walk_at "nn")=>`(tactic| first | decide | omega | exact Int.emod_nonneg _ (by decide) | exact Int.emod_nonneg _ (by omega))
--GEN
namespace Stow
open PySem L2 PyProof.Rows
theorem fS {N Q:List Str}{sc:Scope}(a:sc.kind = .function:=by rfl)(b:sc.isCoroutine=false:=by rfl)(c:sc.isGenerator=false:=by rfl)(d:N.Nodup:=by decide +kernel)(e:N.take Q.length=Q:=by rfl)(f:∀x∈Q,sc.names.lookup x=some .local∨sc.names.lookup x=some .cell:=by decide +kernel)(g:∀y∈sc.names,y.2≠.free:=by decide +kernel):FnScope N Q sc:=⟨a,b,c,d,e,f,g⟩
abbrev Xta:Stmt:=top 11
theorem XIc:FnScope ["count","bound"] ["count","bound"] (Xad Xta):=fS
abbrev BiS (x q:Str)(s:Stmt)(ps:List Str):Prop:=∀(kV doc pm:Value) (an:Option Addr) (cdv ct:Value) (us:List Value),us.length=ps.length→bindArgs (PySem.W.fnOf x q (Xbh s) (Xay s) (Xad s) .none kV doc pm an cdv ct) ⟨us,[]⟩=pure (ps.zip us)
theorem XGp:BiS "check_ask" "check_ask" Xta ["count","bound"]:=fun _ _ _ _ _ _ us hl=>match us,hl with | [_,_],_=>rfl
abbrev s_Z3:Stmt:=top 12
theorem XMj:FnScope ["count","bound"] ["count","bound"] (Xad s_Z3):=fS
theorem XLz:BiS "check_plain_ask" "check_plain_ask" s_Z3 ["count","bound"]:=fun _ _ _ _ _ _ us hl=>match us,hl with | [_,_],_=>rfl
abbrev Xqu:Stmt:=top 14
theorem XFu:FnScope ["long","live"] ["long","live"] (Xad Xqu):=fS
theorem XFc:BiS "mark_of" "mark_of" Xqu ["long","live"]:=fun _ _ _ _ _ _ us hl=>match us,hl with | [_,_],_=>rfl
abbrev Xrd:Stmt:=top 15
theorem XIm:FnScope ["number"] ["number"] (Xad Xrd):=fS
theorem XHn:BiS "long_of" "long_of" Xrd ["number"]:=fun _ _ _ _ _ _ us hl=>match us,hl with | [_],_=>rfl
abbrev Xqg:Stmt:=top 16
theorem XGz:FnScope ["number"] ["number"] (Xad Xqg):=fS
theorem XIu:BiS "live_of" "live_of" Xqg ["number"]:=fun _ _ _ _ _ _ us hl=>match us,hl with | [_],_=>rfl
abbrev Xpi:Stmt:=top 19
theorem Xwy:FnScope ["cells","at","long"] ["cells","at"] (Xad Xpi):=fS
theorem XEh:BiS "can_begin" "can_begin" Xpi ["cells","at"]:=fun _ _ _ _ _ _ us hl=>match us,hl with | [_,_],_=>rfl
abbrev s_Z8:Stmt:=top 20
theorem XJl:FnScope ["cells","at","last"] ["cells","at"] (Xad s_Z8):=fS
theorem XLy:BiS "bad_of_piece" "bad_of_piece" s_Z8 ["cells","at"]:=fun _ _ _ _ _ _ us hl=>match us,hl with | [_,_],_=>rfl
abbrev Xsp:Stmt:=top 21
theorem Xic:FnScope ["cells","pieces","at","bad","long"] ["cells"] (Xad Xsp):=fS
theorem XFq:BiS "looked" "looked" Xsp ["cells"]:=fun _ _ _ _ _ _ us hl=>match us,hl with | [_],_=>rfl
abbrev Xqe:Stmt:=top 22
theorem Xwq:FnScope ["count","cells"] ["count"] (Xad Xqe):=fS
theorem XIa:BiS "fresh_room" "fresh_room" Xqe ["count"]:=fun _ _ _ _ _ _ us hl=>match us,hl with | [_],_=>rfl
abbrev Xoz:Stmt:=top 24
theorem Xvo:FnScope ["cells","at","long","live","row"] ["cells","at","long","live"] (Xad Xoz):=fS
theorem XHh:BiS "laid" "laid" Xoz ["cells","at","long","live"]:=fun _ _ _ _ _ _ us hl=>match us,hl with | [_,_,_,_],_=>rfl
abbrev Xpq:Stmt:=top 25
theorem Xxb:FnScope ["cells","at","piece"] ["cells","at"] (Xad Xpq):=fS
theorem XHu:BiS "piece_at" "piece_at" Xpq ["cells","at"]:=fun _ _ _ _ _ _ us hl=>match us,hl with | [_,_],_=>rfl
abbrev Xrn:Stmt:=top 26
theorem Xwv:FnScope ["cells","at","piece"] ["cells","at"] (Xad Xrn):=fS
theorem XHi:BiS "live_at" "live_at" Xrn ["cells","at"]:=fun _ _ _ _ _ _ us hl=>match us,hl with | [_,_],_=>rfl
abbrev Xqs:Stmt:=top 27
theorem Xvw:FnScope ["cells","source","goal","count","row"] ["cells","source","goal","count"] (Xad Xqs):=fS
theorem XKg:BiS "carried" "carried" Xqs ["cells","source","goal","count"]:=fun _ _ _ _ _ _ us hl=>match us,hl with | [_,_,_,_],_=>rfl
abbrev Xqa:Stmt:=top 31
theorem XDc:FnScope ["size","shelf"] ["size","shelf"] (Xad Xqa):=fS
theorem XKs:BiS "all_whole" "all_whole" Xqa ["size","shelf"]:=fun _ _ _ _ _ _ us hl=>match us,hl with | [_,_],_=>rfl
abbrev Xsn:Stmt:=top 32
theorem XEu:FnScope ["at","shelf"] ["at","shelf"] (Xad Xsn):=fS
theorem XDy:BiS "begin_of" "begin_of" Xsn ["at","shelf"]:=fun _ _ _ _ _ _ us hl=>match us,hl with | [_,_],_=>rfl
abbrev Xrw:Stmt:=top 33
theorem XHw:FnScope ["cells","shelf"] ["cells","shelf"] (Xad Xrw):=fS
theorem XEi:BiS "whole_ones" "whole_ones" Xrw ["cells","shelf"]:=fun _ _ _ _ _ _ us hl=>match us,hl with | [_,_],_=>rfl
abbrev Xsy:Stmt:=top 34
theorem Xxa:FnScope ["cells","shelf","size","fit"] ["cells","shelf","size"] (Xad Xsy):=fS
theorem XGc:BiS "free_slots" "free_slots" Xsy ["cells","shelf","size"]:=fun _ _ _ _ _ _ us hl=>match us,hl with | [_,_,_],_=>rfl
abbrev Xsd:Stmt:=top 35
theorem Xkc:FnScope ["cells","begin","shelf","size","row","end","at"] ["cells","begin","shelf","size"] (Xad Xsd):=fS
theorem XKn:BiS "cut_for" "cut_for" Xsd ["cells","begin","shelf","size"]:=fun _ _ _ _ _ _ us hl=>match us,hl with | [_,_,_,_],_=>rfl
abbrev Xql:Stmt:=top 36
theorem Xwz:FnScope ["cells","shelf","size","begins"] ["cells","shelf","size"] (Xad Xql):=fS
theorem XKv:BiS "with_slot" "with_slot" Xql ["cells","shelf","size"]:=fun _ _ _ _ _ _ us hl=>match us,hl with | [_,_,_],_=>rfl
abbrev Xsz:Stmt:=top 37
theorem XLd:FnScope ["cells","begin","shelf"] ["cells","begin","shelf"] (Xad Xsz):=fS
theorem XEc:BiS "has_live" "has_live" Xsz ["cells","begin","shelf"]:=fun _ _ _ _ _ _ us hl=>match us,hl with | [_,_,_],_=>rfl
abbrev Xrb:Stmt:=top 40
theorem XHx:FnScope ["_law_script","_law_k"] ["_law_script","_law_k"] (Xad Xrb):=fS
theorem XCw:BiS "_law_cell_at" "_law_cell_at" Xrb ["_law_script","_law_k"]:=fun _ _ _ _ _ _ us hl=>match us,hl with | [_,_],_=>rfl
abbrev Xsl:Stmt:=top 41
theorem XKx:FnScope ["_law_found"] ["_law_found"] (Xad Xsl):=fS
theorem XIq:BiS "_law_whole" "_law_whole" Xsl ["_law_found"]:=fun _ _ _ _ _ _ us hl=>match us,hl with | [_],_=>rfl
abbrev Xqx:Stmt:=top 42
theorem Xhy:FnScope ["_law_cells","_law_told_here","_law_at","_law_long","_law_live"] ["_law_cells"] (Xad Xqx):=fS
theorem XEa:BiS "_law_walk" "_law_walk" Xqx ["_law_cells"]:=fun _ _ _ _ _ _ us hl=>match us,hl with | [_],_=>rfl
abbrev Xon:Stmt:=top 43
theorem XDb:FnScope ["_law_cell"] ["_law_cell"] (Xad Xon):=fS
theorem XIy:BiS "_law_number" "_law_number" Xon ["_law_cell"]:=fun _ _ _ _ _ _ us hl=>match us,hl with | [_],_=>rfl
abbrev s_Z7:Stmt:=top 44
theorem XCh:FnScope ["_law_some","_law_at","_law_shelf","_law_need","_law_due"] ["_law_some","_law_at","_law_shelf"] (Xad s_Z7):=fS
theorem XOw:BiS "_law_shelf_good" "_law_shelf_good" s_Z7 ["_law_some","_law_at","_law_shelf"]:=fun _ _ _ _ _ _ us hl=>match us,hl with | [_,_,_],_=>rfl
abbrev Xor:Stmt:=top 45
theorem Xga:FnScope ["_law_keeper","_law_held","_law_shelf","_law_cells","_law_pieces","_law_at","_law_longs","_law_place","_law_k","_law_number_here"] ["_law_keeper","_law_held","_law_shelf"] (Xad Xor):=fS
theorem XIr:BiS "_law_good" "_law_good" Xor ["_law_keeper","_law_held","_law_shelf"]:=fun _ _ _ _ _ _ us hl=>match us,hl with | [_,_,_],_=>rfl
abbrev Xou:Stmt:=top 46
theorem Xgw:FnScope ["_law_keeper","_law_held","_law_cell","_law_places","_law_place","_law_known","_law_many","_law_k","_law_found"] ["_law_keeper","_law_held","_law_cell"] (Xad Xou):=fS
theorem XGi:BiS "_law_told" "_law_told" Xou ["_law_keeper","_law_held","_law_cell"]:=fun _ _ _ _ _ _ us hl=>match us,hl with | [_,_,_],_=>rfl
abbrev Xqc:Stmt:=top 47
theorem Xko:FnScope ["_law_pieces","_law_shelf","_law_need","_law_cut","_law_at","_law_long","_law_live"] ["_law_pieces","_law_shelf","_law_need"] (Xad Xqc):=fS
theorem XIh:BiS "_law_can" "_law_can" Xqc ["_law_pieces","_law_shelf","_law_need"]:=fun _ _ _ _ _ _ us hl=>match us,hl with | [_,_,_],_=>rfl
abbrev Xpn:Stmt:=top 48
theorem Xhz:FnScope ["_law_keeper","_law_held","_law_count","_law_can_here","_law_before","_law_word","_law_place"] ["_law_keeper","_law_held","_law_count","_law_can_here"] (Xad Xpn):=fS
theorem XDe:BiS "_law_asked" "_law_asked" Xpn ["_law_keeper","_law_held","_law_count","_law_can_here"]:=fun _ _ _ _ _ _ us hl=>match us,hl with | [_,_,_,_],_=>rfl
abbrev Xpj:Stmt:=top 49
theorem Xig:FnScope ["_law_keeper","_law_held","_law_place","_law_count","_law_can_here","_law_before","_law_word","_law_goal"] ["_law_keeper","_law_held","_law_place","_law_count","_law_can_here"] (Xad Xpj):=fS
theorem XJw:BiS "_law_grown" "_law_grown" Xpj ["_law_keeper","_law_held","_law_place","_law_count","_law_can_here"]:=fun _ _ _ _ _ _ us hl=>match us,hl with | [_,_,_,_,_],_=>rfl
abbrev Xrm:Stmt:=top 50
theorem Xhh:FnScope ["_law_keeper","_law_held","_law_pieces","_law_cell","_law_shelf","_law_count","_law_can_here","_law_way","_law_places","_law_place","_law_k"] ["_law_keeper","_law_held","_law_pieces","_law_cell","_law_shelf"] (Xad Xrm):=fS
theorem XFh:BiS "_law_step" "_law_step" Xrm ["_law_keeper","_law_held","_law_pieces","_law_cell","_law_shelf"]:=fun _ _ _ _ _ _ us hl=>match us,hl with | [_,_,_,_,_],_=>rfl
abbrev Xli:Stmt:=top 51
theorem Xgc:FnScope ["_law_script","_law_shelf","_law_keeper","_law_held","_law_pieces","_law_cell"] ["_law_script"] (Xad Xli):=fS
theorem XPa:BiS "law" "law" Xli ["_law_script"]:=fun _ _ _ _ _ _ us hl=>match us,hl with | [_],_=>rfl
abbrev Xcx:Stmt:=Xak (top 3) 0
theorem Xho:FnScope ["self","cell"] ["self","cell"] (Xad Xcx):=fS
theorem Xhr:BiS "__init__" "Broken.__init__" Xcx ["self","cell"]:=fun _ _ _ _ _ _ us hl=>match us,hl with | [_,_],_=>rfl
abbrev Xcz:Stmt:=Xak (top 29) 0
theorem Xhq:FnScope ["self","size"] ["self","size"] (Xad Xcz):=fS
theorem Xht:BiS "__init__" "Keeper.__init__" Xcz ["self","size"]:=fun _ _ _ _ _ _ us hl=>match us,hl with | [_,_],_=>rfl
abbrev s_Z2:Stmt:=Xak (top 29) 11
theorem XNm:FnScope ["self","cells"] ["self","cells"] (Xad s_Z2):=fS
theorem XMt:BiS "room_begin" "Keeper.room_begin" s_Z2 ["self","cells"]:=fun _ _ _ _ _ _ us hl=>match us,hl with | [_,_],_=>rfl
abbrev Xua:Stmt:=Xak (top 29) 3
theorem XFi:FnScope ["self","cells"] ["self","cells"] (Xad Xua):=fS
theorem XJc:BiS "lay" "Keeper.lay" Xua ["self","cells"]:=fun _ _ _ _ _ _ us hl=>match us,hl with | [_,_],_=>rfl
abbrev s_Z5:Stmt:=Xak (top 29) 2
theorem XNo:FnScope ["self"] ["self"] (Xad s_Z5):=fS
theorem XNy:BiS "pieces" "Keeper.pieces" s_Z5 ["self"]:=fun _ _ _ _ _ _ us hl=>match us,hl with | [_],_=>rfl
abbrev s_Z9:Stmt:=Xak (top 29) 1
theorem XNt:FnScope ["self"] ["self"] (Xad s_Z9):=fS
theorem XOz:BiS "cells" "Keeper.cells" s_Z9 ["self"]:=fun _ _ _ _ _ _ us hl=>match us,hl with | [_],_=>rfl
abbrev Xtx:Stmt:=Xak (top 29) 5
theorem Xmr:FnScope ["self","place","at","long","live"] ["self","place"] (Xad Xtx):=fS
theorem XJm:BiS "many" "Keeper.many" Xtx ["self","place"]:=fun _ _ _ _ _ _ us hl=>match us,hl with | [_,_],_=>rfl
abbrev Xcl:Stmt:=Xak (top 38) 0
theorem Xec:FnScope ["self","size","shelf","cells"] ["self","size","shelf"] (Xad Xcl):=fS
theorem Xgy:BiS "__init__" "Shelves.__init__" Xcl ["self","size","shelf"]:=fun _ _ _ _ _ _ us hl=>match us,hl with | [_,_,_],_=>rfl
abbrev s_Z4:Stmt:=Xak (top 38) 1
theorem XNh:FnScope ["self"] ["self"] (Xad s_Z4):=fS
theorem XOv:BiS "clear" "Shelves.clear" s_Z4 ["self"]:=fun _ _ _ _ _ _ us hl=>match us,hl with | [_],_=>rfl
abbrev Xio:Stmt:=Xak (top 38) 2
theorem Xnk:FnScope ["self","count","bound","size","cells","at"] ["self","count","bound"] (Xad Xio):=fS
theorem XLb (T:Addr)(d1:Value)(kV doc pm:Value)(an:Option Addr)(cdv ct:Value)(us:List Value)(hl:us.length=["self","count","bound"].length):∃k:Option (Array Value)→Sem (List (Str×Value)),bindArgs (PySem.W.fnOf "ask" "Shelves.ask" (Xbh Xio) (Xay Xio) (Xad Xio) (.ref T) kV doc pm an cdv ct) ⟨us,[]⟩=seqItems? (.ref T) >>= k∧k (some [d1].toArray)=pure ((["self","count","bound"]:List Str).zip us):=match us,hl with | [_,_,_],_=>⟨_,rfl,rfl⟩
theorem XDu (T:Addr)(d1:Value)(kV doc pm:Value)(an:Option Addr)(cdv ct:Value)(us:List Value)(hl:(us++[d1]).length=["self","count","bound"].length):∃k:Option (Array Value)→Sem (List (Str×Value)),bindArgs (PySem.W.fnOf "ask" "Shelves.ask" (Xbh Xio) (Xay Xio) (Xad Xio) (.ref T) kV doc pm an cdv ct) ⟨us,[]⟩=seqItems? (.ref T) >>= k∧k (some [d1].toArray)=pure ((["self","count","bound"]:List Str).zip (us++[d1])):=match us,(show us.length=2 by simpa using hl) with | [_,_],_=>⟨_,rfl,rfl⟩
abbrev s_Z6:Stmt:=Xak (top 38) 3
theorem Xvd:FnScope ["self","place","cells","begin"] ["self","place"] (Xad s_Z6):=fS
theorem XOk:BiS "give" "Shelves.give" s_Z6 ["self","place"]:=fun _ _ _ _ _ _ us hl=>match us,hl with | [_,_],_=>rfl
abbrev s_Z1:Stmt:=Xak (top 29) 13
theorem XFv:FnScope ["self","place","count","bound","goal"] ["self","place","count","bound"] (Xad s_Z1):=fS
theorem XLu:BiS "room_moved" "Keeper.room_moved" s_Z1 ["self","place","count","bound"]:=fun _ _ _ _ _ _ us hl=>match us,hl with | [_,_,_,_],_=>rfl
abbrev Xii:Stmt:=Xak (top 29) 10
theorem Xww:FnScope ["self","place","count","bound","had"] ["self","place","count","bound"] (Xad Xii):=fS
theorem XFp (T:Addr)(d1:Value)(kV doc pm:Value)(an:Option Addr)(cdv ct:Value)(us:List Value)(hl:us.length=["self","place","count","bound"].length):∃k:Option (Array Value)→Sem (List (Str×Value)),bindArgs (PySem.W.fnOf "grow" "Keeper.grow" (Xbh Xii) (Xay Xii) (Xad Xii) (.ref T) kV doc pm an cdv ct) ⟨us,[]⟩=seqItems? (.ref T) >>= k∧k (some [d1].toArray)=pure ((["self","place","count","bound"]:List Str).zip us):=match us,hl with | [_,_,_,_],_=>⟨_,rfl,rfl⟩
theorem XDo (T:Addr)(d1:Value)(kV doc pm:Value)(an:Option Addr)(cdv ct:Value)(us:List Value)(hl:(us++[d1]).length=["self","place","count","bound"].length):∃k:Option (Array Value)→Sem (List (Str×Value)),bindArgs (PySem.W.fnOf "grow" "Keeper.grow" (Xbh Xii) (Xay Xii) (Xad Xii) (.ref T) kV doc pm an cdv ct) ⟨us,[]⟩=seqItems? (.ref T) >>= k∧k (some [d1].toArray)=pure ((["self","place","count","bound"]:List Str).zip (us++[d1])):=match us,(show us.length=3 by simpa using hl) with | [_,_,_],_=>⟨_,rfl,rfl⟩
abbrev s_Z0:Stmt:=Xak (top 29) 12
theorem XJu:FnScope ["self","place","k","many"] ["self","place","k"] (Xad s_Z0):=fS
theorem XOg:BiS "room_cell_of" "Keeper.room_cell_of" s_Z0 ["self","place","k"]:=fun _ _ _ _ _ _ us hl=>match us,hl with | [_,_,_],_=>rfl
abbrev Xvb:Stmt:=Xak (top 29) 7
theorem Xwb:FnScope ["self","place","k","number","cell"] ["self","place","k","number"] (Xad Xvb):=fS
theorem XCt:BiS "put" "Keeper.put" Xvb ["self","place","k","number"]:=fun _ _ _ _ _ _ us hl=>match us,hl with | [_,_,_,_],_=>rfl
abbrev Xuh:Stmt:=Xak (top 29) 6
theorem XCr:FnScope ["self","place","k"] ["self","place","k"] (Xad Xuh):=fS
theorem XFb:BiS "get" "Keeper.get" Xuh ["self","place","k"]:=fun _ _ _ _ _ _ us hl=>match us,hl with | [_,_,_],_=>rfl
structure Txt (K:PySem.W.Frag)(mg:Str→Option Value)(Y0 Y8 Y4 Y2 Y6 Y9 Y1 Y7 Y5 Y3:Addr)(W0_:Tok)(W1_:Tok):Prop where
 n_any:mg "any"=none
 n_bool:mg "bool"=none
 n_dict:mg "dict"=none
 n_int:mg "int"=none
 n_isinstance:mg "isinstance"=none
 n_len:mg "len"=none
 n_list:mg "list"=none
 n_min:mg "min"=none
 n_range:mg "range"=none
 n_sorted:mg "sorted"=none
 n_tuple:mg "tuple"=none
 g_LEAST_LIVE:mg "LEAST_LIVE"=some (.int 3 W0_)
 g_MARKS:mg "MARKS"=some (.int 2 W1_)
 c_StowError:mg "StowError"=some (.ref Y0)
 c_NoSize:mg "NoSize"=some (.ref Y8)
 c_Broken:mg "Broken"=some (.ref Y4)
 c_NoPiece:mg "NoPiece"=some (.ref Y2)
 c_NoCell:mg "NoCell"=some (.ref Y6)
 c_NoAsk:mg "NoAsk"=some (.ref Y9)
 c_NoBound:mg "NoBound"=some (.ref Y1)
 c_NoRoom:mg "NoRoom"=some (.ref Y7)
 c_Keeper:mg "Keeper"=some (.ref Y5)
 c_Shelves:mg "Shelves"=some (.ref Y3)
 s_Broken:XSet K Y4 "cell"
 x_NoSize:XCls K mg "NoSize" Y8
 x_NoPiece:XCls K mg "NoPiece" Y2
 x_NoRoom:XCls K mg "NoRoom" Y7
 cl_Shelves:Cls K Y3
 na_Shelves_room_cells:Xde K Y3 "room_cells"
 na_Shelves_shelf:Xde K Y3 "shelf"
 f_NoRoom_NoRoom:Fits K Y7 Y7 true
def Xsb:Sp:=fun vs H Q _=>∃(n:Int) (v:Bool),vs=[.int n,.bl v]∧n.natAbs<2^220∧Q (.int (n*2+if v then 1 else 0)) H
section
variable {P:Program}{w:World}{base:Heap}{K:PySem.W.Frag}{mg:Str→Option Value}{Y0 Y8 Y4 Y2 Y6 Y9 Y1 Y7 Y5 Y3:Addr}{W0_:Tok}{W1_:Tok}
theorem XMr (S:Src K mg "mark_of" Xqu)(T:Txt K mg Y0 Y8 Y4 Y2 Y6 Y9 Y1 Y7 Y5 Y3 W0_ W1_) :Defx P w K mg base "mark_of" 1 ["long","live"] (Xsb):=by
 refine S.okx XFu XFc (fun vs H Q E h=>by revert h;walk_at "len") (fun f cdv A outer s H vs Q E hr h=>?_)
 refine⟨_,PSs.nox (Xab (Xbc (Xcd (pv 1) (fun _=>rfl)) (Xac (Xai (Xan XNi (Xan Xps (pv 0) Xaf) Xaf))) Xal) (Xac (Xai (Xan Xps (pv 0) Xaf)))),?_⟩
 obtain⟨n,v,rfl,hn,q⟩:=h
 walk_at "go"
 refine Xhl (fun hv=>?_) (fun hv=>?_)
 · walk_at "go"
   rw[two1,Xqw]
   subst hv
   exact q
 · walk_at "go"
   rw[two1]
   subst hv
   rw[if_neg Bool.false_ne_true,Int.add_zero] at q
   exact q
theorem XNd (S:Src K mg "long_of" Xrd)(T:Txt K mg Y0 Y8 Y4 Y2 Y6 Y9 Y1 Y7 Y5 Y3 W0_ W1_) :Defx P w K mg base "long_of" 1 ["number"] (Xhu):=by
 refine S.okx XIm XHn (fun vs H Q E h=>by revert h;walk_at "len") (fun f cdv A outer s H vs Q E hr h=>?_)
 refine⟨_,PSs.nox (Xac (Xai (Xan XDk (pv 0) Xaf))),?_⟩
 obtain⟨n,rfl,q⟩:=h
 walk_at "go"
 rw[two1]
 exact q
theorem XMi (S:Src K mg "live_of" Xqg)(T:Txt K mg Y0 Y8 Y4 Y2 Y6 Y9 Y1 Y7 Y5 Y3 W0_ W1_) :Defx P w K mg base "live_of" 1 ["number"] (Xnf):=by
 refine S.okx XGz XIu (fun vs H Q E h=>by revert h;walk_at "len") (fun f cdv A outer s H vs Q E hr h=>?_)
 refine⟨_,PSs.nox (Xac (Xai (Xcv Xed (Xan XKa (pv 0) Xaf) Xaf (Xam _)))),?_⟩
 obtain⟨n,rfl,q⟩:=h
 walk_at "go"
 rw[Xvf]
 exact q
theorem XNr (S:Src K mg "can_begin" Xpi)(T:Txt K mg Y0 Y8 Y4 Y2 Y6 Y9 Y1 Y7 Y5 Y3 W0_ W1_)(D_Z34:Defx P w K mg base "long_of" 1 ["number"] (Xhu))(D_Z37:Defx P w K mg base "live_of" 1 ["number"] (Xnf)):Defx P w K mg base "can_begin" 2 ["cells","at"] (Xyz K):=by
 refine S.okx Xwy XEh (fun vs H Q E h=>by revert h;walk_at "len") (fun f cdv A outer s H vs Q E hr h=>?_)
 refine⟨_,PSs.nox (Xab (Xao (i:=2) Xwy.nd rfl (Or.inl rfl) (Xag D_Z34 hr (by rfl) (Xaa (Xbd Xba (pv 0) (pv 1) (fun _ _=>rfl)) Xae))) (Xab (Xbc (PW.pt (Xeb (Xaj Xeg (pv 2) Xaf (Xam _)) (Xda (Xaj Xrf (Xan Xbo (pv 1) (pv 2)) (Xat Xav (by rfl) T.n_len PySem.boot_len (Xaa (pv 0) Xae)) (Xam _))))) (Xac (Xai Xck)) Xal) (Xac (Xai (XMe (Xcv Xyn (pv 2) (Xiz (v:=.int 3) (by rfl) T.g_LEAST_LIVE ⟨_,rfl⟩) (Xam _)) (Xkv (Xnn (Xag D_Z37 hr (by rfl) (Xaa (Xbd Xba (pv 0) (pv 1) (fun _ _=>rfl)) Xae))))))))),?_⟩
 obtain⟨a,ns,k,rfl,hS,h0,h1,q⟩:=h
 have q':∀c,Xbm ns k=c→Q (.bl c) H:=fun c e=>e▸q
 walk_at "go"
 refine Xby (fun hc=>?_) (fun hc=>?_)
 · walk_at "go"
   exact q' false (by unfold Xbm;rw[if_pos (Or.inl hc)])
 · walk_at "go"
   refine Xby (fun hd=>?_) (fun hd=>?_)
   · walk_at "go"
     exact q' false (by unfold Xbm;rw[if_pos (Or.inr hd)])
   · walk_at "go"
     have ec:Xbm ns k=(decide (3≤ns.getD k.toNat 0/2)||!decide (ns.getD k.toNat 0%2=1)):=by
       unfold Xbm
       rw[if_neg (by omega)]
     refine Xhl (fun he=>?_) (fun he=>?_)
     · walk_at "go"
       exact q' true (by rw[ec,he,Bool.true_or])
     · walk_at "go"
       exact q' _ (by rw[ec,he,Bool.false_or])
theorem d_Z8 (S:Src K mg "bad_of_piece" s_Z8)(T:Txt K mg Y0 Y8 Y4 Y2 Y6 Y9 Y1 Y7 Y5 Y3 W0_ W1_)(D_Z34:Defx P w K mg base "long_of" 1 ["number"] (Xhu))(D_Z23:Defx P w K mg base "can_begin" 2 ["cells","at"] (Xyz K)):Defx P w K mg base "bad_of_piece" 3 ["cells","at"] (XCa K):=by
 refine S.okx XJl XLy (fun vs H Q E h=>by revert h;walk_at "len") (fun f cdv A outer s H vs Q E hr h=>?_)
 refine⟨_,PSs.nox (Xab (Xbc (Xbu (Xdz (Xag D_Z23 hr (by rfl) (Xaa (pv 0) (Xaa (pv 1) Xae))))) (Xac (Xai (pv 1))) Xal) (Xab (Xao (i:=2) XJl.nd rfl (Or.inl rfl) (Xan Xdf (Xan Xbo (pv 1) (Xag D_Z34 hr (by rfl) (Xaa (Xbd Xba (pv 0) (pv 1) (fun _ _=>rfl)) Xae))) Xaf)) (Xab (Xbc (Xaj Xim (Xbd Xba (pv 0) (pv 2) (fun _ _=>rfl)) (Xbd Xba (pv 0) (pv 1) (fun _ _=>rfl)) (Xam _)) (Xac (Xai (pv 2))) Xal) (Xac (Xai Xcm))))),?_⟩
 obtain⟨a,ns,k,rfl,hS,h0,h1,q⟩:=h
 have q':∀c,Xdi ns k=c→Q (optV c) H:=fun c e=>e▸q
 walk_at "go"
 refine Xhl (fun hc=>?_) (fun hc=>?_)
 · obtain⟨b1,b2,_⟩:=(Xgd ns k).mp hc
   walk_at "go"
   refine Xby (fun hd=>?_) (fun hd=>?_)
   · walk_at "go"
     exact q' none (Xuj hc hd)
   · walk_at "go"
     exact q' (some _) (Xue hc hd)
 · walk_at "go"
   exact q' (some k) (XEm hc)
theorem Xvj {P:Program}{w:World}{base:Heap}{K:PySem.W.Frag}{mg:Str→Option Value}{Y4 Y0:Addr}{fI:Addr}{fd:FuncData}(F:Fun K "__init__" "Broken.__init__" Xcx fI fd)(XI:XIni K mg "Broken" Y4 Y0 fI)(Z:XSet K Y4 "cell"):DefI P w K mg base "Broken" Y4 Y0 1 ["self","cell"] (Xtb Y4 "cell"):=by
 refine⟨fI,fd,XI,Xbx F Xho (fun vs H Q E h=>?_) (fun cdv A outer s H vs Q E hr h=>?_),F.binds Xhr⟩
 · obtain⟨y,v,rfl,_⟩:=h
   rfl
 · obtain⟨y,v,rfl,hy,q⟩:=h
   exact⟨_,PSs.nox (Xac (Xzf (pv 0) (pv 1))),_,rfl,_,rfl,y,_,rfl,hy,Z,fun dx hd=>q dx hd⟩
def LkW (H:Hp)(a p:Addr)(ns:List Int)(m:Nat)(σ:L2.St)(H':Hp):Prop :=
 ∃(ds:List Pc) (us:List V) (k:Int) (x y:Option V),σ=[some (.ref a),some (.ref p),some (.int k),x,y]∧m=(ns.length-k).toNat∧0≤k∧k≤ns.length∧(ds.length:Int)≤k∧WPre ns ds k∧Same H H'∧H' p=some (.lst us)∧Xbk H' us ds
theorem XMy (S:Src K mg "looked" Xsp)(T:Txt K mg Y0 Y8 Y4 Y2 Y6 Y9 Y1 Y7 Y5 Y3 W0_ W1_)(D_Z34:Defx P w K mg base "long_of" 1 ["number"] (Xhu))(D_Z37:Defx P w K mg base "live_of" 1 ["number"] (Xnf))(D_Z8:Defx P w K mg base "bad_of_piece" 3 ["cells","at"] (XCa K))(D_Broken:DefI P w K mg base "Broken" Y4 Y0 1 ["self","cell"] (Xtb Y4 "cell")):Defx P w K mg base "looked" 4 ["cells"] (Xdu K Y4):=by
 refine S.okx Xic XFq (fun vs H Q E h=>by revert h;walk_at "len") (fun f cdv A outer s H vs Q E hr h=>?_)
 refine⟨_,(Xab (Xao (i:=1) Xic.nd rfl (Or.inl rfl) (Xgx Xae)) (Xab (Xao (i:=2) Xic.nd rfl (Or.inl rfl) Xaf) (Xab (Xnc PassesOwn.leaving (Xaj Xeg (pv 2) (Xat Xav (by rfl) T.n_len PySem.boot_len (Xaa (pv 0) Xae)) (Xam _)) (Xab (Xao (i:=3) Xic.nd rfl (Or.inl rfl) (Xag D_Z8 hr (by rfl) (Xaa (pv 0) (Xaa (pv 2) Xae)))) (Xab (Xbc (Xaj Xxf (pv 3) Xcm (Xam _)) (Xac (Xoq D_Broken hr rfl (Xaa (pv 3) Xae))) Xal) (Xab (Xao (i:=4) Xic.nd rfl (Or.inl rfl) (Xag D_Z34 hr (by rfl) (Xaa (Xbd Xba (pv 0) (pv 2) (fun _ _=>rfl)) Xae))) (Xab (Xbw (XAg PySem.F.plainAttrs_list PySem.F.slot_list_append PySem.F.type_list_append Xfm (pv 1) (Xaa (Xfn (Xaa (pv 2) (Xaa (pv 4) (Xaa (Xag D_Z37 hr (by rfl) (Xaa (Xbd Xba (pv 0) (pv 2) (fun _ _=>rfl)) Xae)) Xae)))) Xae))) (Xac (Xao (i:=2) Xic.nd rfl (Or.inl rfl) (Xan Xbo (pv 2) (pv 4))))))))) (Xac (Xai (pv 1)))))),?_⟩
 obtain⟨a,ns,rfl,hS,hz,qe,q⟩:=h
 walk_at "go"
 intro p hp
 walk_at "go"
 refine⟨LkW H a p ns,⟨_,[],[],0,none,none,rfl,rfl,by omega,by omega,by decide,WPre.nil ns,Same.new hp,upd_same,Xbk.nil⟩,?_⟩
 rintro m σ H' ⟨ds,us,k,x,y,rfl,rfl,h0,hkl,hdl,w,s1,hp',pa⟩
 have hul:=pa.1
 have hS':SqL K H' a (ns.map V.int):=s1.seq hS
 walk_at "go"
 refine Xby (fun hlt=>?_) (fun hlt=>?_)
 · refine⟨fun σ' H''=>∃m',m'<(ns.length-k).toNat∧LkW H a p ns m' σ' H'',fun σ' H'' hw=>hw,?_⟩
   walk_at "go"
   cases hb:Xdi ns k with
   | some b =>
     walk_at "go"
     refine XHs (fun dx hd=>?_)
     exact qe b (by rw[w.bad hlt hb]) dx _ (s1.put (s1.free hd)) upd_same
   | none =>
     obtain⟨b1,b2,b3⟩:=Xsk hb
     walk_at "go"
     intro t ht
     have hpt:p≠t:=Xap hp' ht
     walk_at "go"
     obtain⟨g1,g2⟩:=Xbk.push (z:=pcAt ns k) pa hp' ht
     dsimp only [pcAt] at g1 g2
     refine⟨_,?_,ds++[pcAt ns k],us++[.ref t],k+ns.getD k.toNat 0/2,_,_,rfl,rfl,by omega,by omega,?_,w.step hlt hb,(s1.put (s1.free ht)).put hp,g1,g2⟩
     · omega
     · rw[List.length_append,List.length_singleton]
       omega
 · walk_at "go"
   exact q (by rw[w.fin hlt]) p us H' hp s1 hp' (by rw[w.fin hlt];exact pa)
def Xdr (n:Int):List Int:=Xcr (List.replicate n.toNat 0) 0 n false
theorem Xdm {n:Int}(h:0≤n):((Xdr n).length:Int)=n:=by
 unfold Xdr
 rw[Xdo,List.length_replicate]
 omega
theorem Xtr (n:Nat):(List.replicate n [V.int 0]).flatten=(List.replicate n (0:Int)).map V.int:=by
 induction n with
 | zero=>rfl
 | succ n ih=>rw[List.replicate_succ,List.flatten_cons,ih,List.replicate_succ,List.map_cons];rfl
def Xlm (C:Addr):Sp:=fun vs H Q E=>∃n:Int,vs=[.int n]∧n≤4000∧(n<1→E (.ref C) none H)∧(1≤n→∀(p:Addr) (H':Hp),H p=none→Same H H'→H' p=some (.lst ((Xdr n).map V.int))→Q (.ref p) H')
theorem XMh (S:Src K mg "fresh_room" Xqe)(T:Txt K mg Y0 Y8 Y4 Y2 Y6 Y9 Y1 Y7 Y5 Y3 W0_ W1_)(D_Z33:Defx P w K mg base "mark_of" 1 ["long","live"] (Xsb)):Defx P w K mg base "fresh_room" 2 ["count"] (Xlm Y8):=by
 refine S.okx Xwq XIa (fun vs H Q E h=>by revert h;walk_at "len") (fun f cdv A outer s H vs Q E hr h=>?_)
 refine⟨_,(Xab (Xbc (Xaj Xeg (pv 0) Xaf (Xam _)) (Xac (Xfk T.x_NoSize hr.hd rfl (Xaa Xef Xae))) Xal) (Xab (Xao (i:=1) Xwq.nd rfl (Or.inl rfl) (Xan Xvq (Xgx (Xaa Xaf Xae)) (pv 0))) (Xab (Xhx (Xag D_Z33 hr (by rfl) (Xaa (pv 0) (Xaa Xck Xae))) (Xkt (pv 1) Xaf Xfj)) (Xab (Xhx (Xag D_Z33 hr (by rfl) (Xaa (pv 0) (Xaa Xck Xae))) (Xkt (pv 1) (Xan Xdf (pv 0) Xaf) Xfj)) (Xac (Xai (pv 1))))))),?_⟩
 obtain⟨n,rfl,h4,qe,q⟩:=h
 walk_at "go"
 refine Xby (fun hc=>?_) (fun hc=>?_)
 · walk_at "go"
   exact qe hc
 · have hn:n.natAbs<2^220:=Nat.lt_of_le_of_lt (show n.natAbs≤4000 by omega) (by decide)
   walk_at "go"
   intro l hl
   walk_at "go"
   refine⟨l,n,_,rfl,rfl,upd_same,by omega,by omega,(by show 1*n.toNat≤sizeLine;exact Nat.le_of_lt (small4000 (by omega))),fun p hp=>?_⟩
   rw[Xtr]
   have np:=(Same.new hl).free hp
   have s1:Same H (upd (upd H l (.lst [.int 0])) p (.lst ((List.replicate n.toNat (0:Int)).map V.int))):=(Same.new hl).put np
   have e1:upd (upd H l (.lst [.int 0])) p (.lst ((List.replicate n.toNat (0:Int)).map V.int)) p=some (.lst ((List.replicate n.toNat (0:Int)).map V.int)):=upd_same
   generalize upd (upd H l (.lst [.int 0])) p (.lst ((List.replicate n.toNat (0:Int)).map V.int))=H1 at s1 e1 ⊢
   have hlr:(List.replicate n.toNat (0:Int)).length=n.toNat:=List.length_replicate
   walk_at "go"
   refine⟨n,false,rfl,hn,?_⟩
   walk_at "go"
   refine⟨n,false,rfl,hn,?_⟩
   walk_at "go"
   refine q (by omega) p _ np ((s1.put np).put np) ?_
   unfold Xdr Xcr
   rw[show (0:Int)+n-1=n-1 by omega]
   exact upd_same
def Xni (K:PySem.W.Frag):Sp:=fun vs H Q _=>∃(a:Addr) (cs:List Int) (k l:Int) (v:Bool),vs=[.ref a,.int k,.int l,.bl v]∧SqL K H a (cs.map V.int)∧cs.length≤4000∧0≤k∧1≤l∧k+l≤cs.length ∧
 ∀(p:Addr) (H':Hp),H p=none→Same H H'→H' p=some (.lst ((Xcr cs k l v).map V.int))→Q (.ref p) H'
theorem XLw (S:Src K mg "laid" Xoz)(T:Txt K mg Y0 Y8 Y4 Y2 Y6 Y9 Y1 Y7 Y5 Y3 W0_ W1_)(D_Z33:Defx P w K mg base "mark_of" 1 ["long","live"] (Xsb)):Defx P w K mg base "laid" 2 ["cells","at","long","live"] (Xni K):=by
 refine S.okx Xvo XHh (fun vs H Q E h=>by revert h;walk_at "len") (fun f cdv A outer s H vs Q E hr h=>?_)
 refine⟨_,PSs.nox (Xab (Xao (i:=4) Xvo.nd rfl (Or.inl rfl) (Xdn Xco (by rfl) T.n_list PyProof.Rows.boot_list (Xaa (pv 0) Xae))) (Xab (Xhx (Xag D_Z33 hr (by rfl) (Xaa (pv 2) (Xaa (pv 3) Xae))) (Xkt (pv 4) (pv 1) Xfj)) (Xab (Xhx (Xag D_Z33 hr (by rfl) (Xaa (pv 2) (Xaa (pv 3) Xae))) (Xkt (pv 4) (Xan Xdf (Xan Xbo (pv 1) (pv 2)) Xaf) Xfj)) (Xac (Xai (pv 4)))))),?_⟩
 obtain⟨a,cs,k,l,v,rfl,hS,hz,h0,h1,hl,q⟩:=h
 have hn:l.natAbs<2^220:=Nat.lt_of_le_of_lt (show l.natAbs≤4000 by omega) (by decide)
 walk_at "go"
 intro p hp
 walk_at "go"
 refine⟨l,v,rfl,hn,?_⟩
 walk_at "go"
 refine⟨l,v,rfl,hn,?_⟩
 walk_at "go"
 refine q p _ hp (((Same.new hp).put hp).put hp) upd_same
def Xka (K:PySem.W.Frag)(C:Addr):Sp:=fun vs H Q E=>∃(a:Addr) (cs:List Int) (ps:List Pc) (k:Int),vs=[.ref a,.int k]∧SqL K H a (cs.map V.int)∧cs.length≤4000∧Xch cs 0=(ps,none) ∧
 (∀z∈ps,z.a=k→∀(t:Addr) (H':Hp),Same H H'→H' t=some (.tup [.int z.a,.int z.l,.bl z.v])→Q (.ref t) H') ∧
 ((∀z∈ps,z.a≠k)→∀(H':Hp),Same H H'→E (.ref C) none H')
def PaW (f0 f1:Option V)(H1:Hp)(ps:List Pc)(k:Int)(i:Nat)(σ:L2.St)(H':Hp):Prop:=H1=H'∧∃x2:Option V,σ=[f0,f1,x2]∧∀z∈ps.take i,z.a≠k
theorem XNe (S:Src K mg "piece_at" Xpq)(T:Txt K mg Y0 Y8 Y4 Y2 Y6 Y9 Y1 Y7 Y5 Y3 W0_ W1_)(D_Z46:Defx P w K mg base "looked" 4 ["cells"] (Xdu K Y4)):Defx P w K mg base "piece_at" 5 ["cells","at"] (Xka K Y2):=by
 refine S.okx Xxb XHu (fun vs H Q E h=>by revert h;walk_at "len") (fun f cdv A outer s H vs Q E hr h=>?_)
 refine⟨_,(Xab (ps_for PassesOwn.leaving rfl (Xct (Xiq D_Z46 hr (by rfl) (Xaa (pv 0) Xae))) (Xau (i:=2) Xxb.nd rfl (Or.inl rfl)) (Xac (Xbc (Xaj Xed (Xbd Xdc (pv 2) Xaf (fun _ _=>rfl)) (pv 1) (Xam _)) (Xac (Xai (pv 2))) Xal))) (Xac (Xfk T.x_NoPiece hr.hd rfl (Xaa Xef Xae)))),?_⟩
 obtain⟨a,cs,ps,k,rfl,hS,hz,hw,q,qe⟩:=h
 walk_at "go"
 refine⟨a,cs,rfl,hS,hz,(fun c hc=>by rw[hw] at hc;cases hc),fun _ lp us H1 nlp s1 hlp pa=>?_⟩
 have pa:Xbk H1 us ps:=by rw[hw] at pa;exact pa
 have hul:=pa.1
 refine⟨lp,rfl,⟨_,SqL.of hlp⟩,Xiy (K:=K) (a:=lp) (xs:=us) (PaW (some (.ref a)) (some (.int k)) H1 ps k) ⟨rfl,none,rfl,fun z hz=>by cases hz⟩ (fun i σ H2 _ ⟨h,_⟩=>h▸SqL.of hlp) ?_ ?_⟩
 · rintro i y σ H2 hi ⟨rfl,x2,rfl,hq⟩
   have hil:i<us.length:=(List.getElem?_eq_some_iff.mp hi).1
   have hip:i<ps.length:=by omega
   obtain⟨t,et,hT⟩:=pa.2 i ps[i] (by simp [hip])
   have ey:y = .ref t:=Option.some.inj (hi.symm.trans et)
   subst ey
   walk_at "go"
   refine Xby (fun hk=>?_) (fun hk=>?_)
   · walk_at "go"
     exact q ps[i] (by simp) hk t _ s1 hT
   · walk_at "go"
     refine⟨rfl,_,rfl,fun z hz=>?_⟩
     rw[List.take_add_one,List.getElem?_eq_getElem hip] at hz
     rcases List.mem_append.mp hz with h | h
     · exact hq z h
     · have:z=ps[i]:=by simpa using h
       rw[this];exact hk
 · rintro σ H2 ⟨rfl,x2,rfl,hq⟩
   rw[List.take_of_length_le (by omega)] at hq
   walk_at "go"
   exact qe hq _ s1
def Xqr (K:PySem.W.Frag)(C:Addr)(v:Bool):Sp:=fun vs H Q E=>∃(a:Addr) (cs:List Int) (ps:List Pc) (k:Int),vs=[.ref a,.int k]∧SqL K H a (cs.map V.int)∧cs.length≤4000∧Xch cs 0=(ps,none)∧Xaq 0 ps cs.length ∧
 (∀z∈ps,z.a=k→z.v=v→∀(t:Addr) (H':Hp),Same H H'→H' t=some (.tup [.int z.a,.int z.l,.bl z.v])→Q (.ref t) H') ∧
 ((∀z∈ps,z.a=k→z.v≠v)→∀(H':Hp),Same H H'→E (.ref C) none H')
theorem XMm (S:Src K mg "live_at" Xrn)(T:Txt K mg Y0 Y8 Y4 Y2 Y6 Y9 Y1 Y7 Y5 Y3 W0_ W1_)(D_Z28:Defx P w K mg base "piece_at" 5 ["cells","at"] (Xka K Y2)):Defx P w K mg base "live_at" 6 ["cells","at"] (Xqr K Y2 true):=by
 refine S.okx Xwv XHi (fun vs H Q E h=>by revert h;walk_at "len") (fun f cdv A outer s H vs Q E hr h=>?_)
 refine⟨_,(Xab (Xao (i:=2) Xwv.nd rfl (Or.inl rfl) (Xiq D_Z28 hr (by rfl) (Xaa (pv 0) (Xaa (pv 1) Xae)))) (Xab (Xbc (Xbu (Xcd (Xbd Xdc (pv 2) Xaf (fun _ _=>rfl)) (fun _=>rfl))) (Xac (Xfk T.x_NoPiece hr.hd rfl (Xaa Xef Xae))) Xal) (Xac (Xai (pv 2))))),?_⟩
 obtain⟨a,cs,ps,k,rfl,hS,hz,hw,hc,q,qe⟩:=h
 walk_at "go"
 refine⟨a,cs,ps,k,rfl,hS,hz,hw,fun z hm hk t H1 s1 ht=>?_,fun hn H1 s1=>qe (fun z hz hk=>absurd hk (hn z hz)) _ s1⟩
 walk_at "go"
 refine Xhl (fun hv=>?_) (fun hv=>?_)
 · walk_at "go"
   exact q z hm hk hv t _ s1 ht
 · walk_at "go"
   refine qe (fun y hy hk2=>?_) _ s1
   rw[Xbt hc hy hm (by omega),hv]
   exact fun z=>nomatch z
def spMk (C:Addr):Sp:=fun vs H Q _=>∃(x dx:Addr) (n:Int),vs=[.ref x,.int n]∧H x=some (.ins C dx [])∧1≤n∧n≤4000 ∧
 ∀(a:Addr) (H':Hp),H a=none→Xbi x H H'→H' x=some (.ins C dx [("room_cells",.ref a)])→H' a=some (.lst ((Xdr n).map V.int))→Q .non H'
def Xpb (K:PySem.W.Frag)(C:Addr):Sp:=fun vs H Q _=>∃(sh:Int) (x h dx a:Addr) (cs:List Int),vs=[.ref x,.ref h]∧H x=some (.ins C dx [("room_cells",.ref a),("shelf",.int sh)])∧SqL K H h (cs.map V.int) ∧
 ∀(a':Addr) (H':Hp),H a'=none→Xbi x H H'→H' x=some (.ins C dx [("room_cells",.ref a'),("shelf",.int sh)])→H' a'=some (.lst (cs.map V.int))→Q .non H'
def Xsv (K:PySem.W.Frag)(C:Addr):Sp:=fun vs H Q _=>∃(sh:Int) (x h dx a:Addr) (cs0 cs:List Int) (ps:List Pc),vs=[.ref x,.ref h]∧H x=some (.ins C dx [("room_cells",.ref a),("shelf",.int sh)])∧H a=some (.lst (cs0.map V.int))∧cs.length=cs0.length∧SqL K H h (cs.map V.int)∧cs.length≤4000∧Xch cs 0=(ps,none) ∧
 ∀(a':Addr) (H':Hp),H a'=none→Xbi x H H'→H' x=some (.ins C dx [("room_cells",.ref a'),("shelf",.int sh)])→H' a'=some (.lst (cs.map V.int))→Q .non H'
def Xrg (C:Addr):Sp:=fun vs H Q _=>∃(sh:Int) (x dx a:Addr) (cs:List Int) (ps:List Pc),vs=[.ref x]∧H x=some (.ins C dx [("room_cells",.ref a),("shelf",.int sh)])∧H a=some (.lst (cs.map V.int))∧cs.length≤4000∧Xch cs 0=(ps,none) ∧
 ∀(p:Addr) (us:List V) (H':Hp),H p=none→Same H H'→H' p=some (.lst us)→Xbk H' us ps→Q (.ref p) H'
def Xdv (C:Addr):Sp:=fun vs H Q _=>∃(sh:Int) (x dx a:Addr) (cs:List Int),vs=[.ref x]∧H x=some (.ins C dx [("room_cells",.ref a),("shelf",.int sh)])∧H a=some (.lst (cs.map V.int)) ∧
 ∀(p:Addr) (H':Hp),H p=none→Same H H'→H' p=some (.lst (cs.map V.int))→Q (.ref p) H'
def Xia (C:Addr):Sp:=fun vs H Q _=>∃(sh:Int) (x dx a:Addr) (cs:List Int) (ps:List Pc) (z:Pc),vs=[.ref x,.int (z.a+1)]∧H x=some (.ins C dx [("room_cells",.ref a),("shelf",.int sh)])∧H a=some (.lst (cs.map V.int))∧cs.length≤4000∧Xch cs 0=(ps,none)∧Xaq 0 ps cs.length∧z∈ps∧z.v=true ∧
 ∀(H':Hp),Same H H'→Q (.int (z.l-2)) H'
theorem XOb {f₀:Addr}{fd₀:FuncData}(F:Fun K "__init__" "Keeper.__init__" Xcz f₀ fd₀)(M:ClsM K Y5 "__init__" f₀)(T:Txt K mg Y0 Y8 Y4 Y2 Y6 Y9 Y1 Y7 Y5 Y3 W0_ W1_)(D_Z17:Defx P w K mg base "fresh_room" 2 ["count"] (Xlm Y8)):Basex P w K mg base "Keeper" "__init__" 3 ["self","size"] (spMk Y3):=by
 refine⟨⟨Y5,f₀,fd₀,Xbx F Xhq (fun vs H Q E h=>by revert h;walk_at "len") (fun cdv A outer s H vs Q E hr h=>?_),M,F.binds Xht,T.c_Keeper⟩⟩
 refine⟨_,PSs.nox (Xac (Xmz (pv 0) (Xag D_Z17 hr (by rfl) (Xaa (pv 1) Xae)) rfl)),?_⟩
 obtain⟨x,dx,n,rfl,hx,h1,h4,q⟩:=h
 have cl:=T.cl_Shelves
 have na:=T.na_Shelves_room_cells
 walk_at "go"
 refine⟨n,rfl,h4,fun z=>absurd z (by omega),fun _ p H1 np s1 hp=>?_⟩
 have hx1:=s1 x _ hx
 have hne:p≠x:=fun z=>by rw[z,hx] at np;cases np
 walk_at "go"
 exact q p _ np (Xbi.of s1).put upd_same (look_ne hne hp)
theorem XLn {f₀:Addr}{fd₀:FuncData}(F:Fun K "room_begin" "Keeper.room_begin" s_Z2 f₀ fd₀)(M:Meth K Y3 "room_begin" f₀)(T:Txt K mg Y0 Y8 Y4 Y2 Y6 Y9 Y1 Y7 Y5 Y3 W0_ W1_) :Methx P w K mg base Y3 "room_begin" 1 ["self","cells"] [] (Xpb K Y3):=by
 refine⟨⟨f₀,fd₀,[],Xbx F XNm (fun vs H Q E h=>by revert h;walk_at "len") (fun cdv A outer s H vs Q E hr h=>?_),M,F.binds XMt,.nil⟩,T.cl_Shelves⟩
 refine⟨_,PSs.nox (Xac (Xmz (pv 0) (Xdn Xco (by rfl) T.n_list PyProof.Rows.boot_list (Xaa (pv 1) Xae)) rfl)),?_⟩
 obtain⟨sh,x,h,dx,a,cs,rfl,hx,hS,q⟩:=h
 have cl:=T.cl_Shelves
 have na:=T.na_Shelves_room_cells
 walk_at "go"
 intro p np
 have s1:Same H (upd H p (.lst (cs.map V.int))):=Same.new np
 have hx1:=s1 x _ hx
 have hp:upd H p (.lst (cs.map V.int)) p=some (.lst (cs.map V.int)):=upd_same
 have hne:p≠x:=fun z=>by rw[z,hx] at np;cases np
 generalize upd H p (.lst (cs.map V.int))=H1 at s1 hx1 hp ⊢
 walk_at "go"
 exact q p _ np (Xbi.of s1).put upd_same (look_ne hne hp)
theorem XLt {f₀:Addr}{fd₀:FuncData}(F:Fun K "lay" "Keeper.lay" Xua f₀ fd₀)(M:Meth K Y3 "lay" f₀)(T:Txt K mg Y0 Y8 Y4 Y2 Y6 Y9 Y1 Y7 Y5 Y3 W0_ W1_)(D_Z46:Defx P w K mg base "looked" 4 ["cells"] (Xdu K Y4))(D_Z15:Methx P w K mg base Y3 "room_begin" 1 ["self","cells"] [] (Xpb K Y3)):Methx P w K mg base Y3 "lay" 5 ["self","cells"] [] (Xsv K Y3):=by
 refine⟨⟨f₀,fd₀,[],Xbx F XFi (fun vs H Q E h=>by revert h;walk_at "len") (fun cdv A outer s H vs Q E hr h=>?_),M,F.binds XJc,.nil⟩,T.cl_Shelves⟩
 refine⟨_,PSs.nox (Xab (Xbc (Xaj Xim (Xat Xav (by rfl) T.n_len PySem.boot_len (Xaa (pv 1) Xae)) (Xat Xav (by rfl) T.n_len PySem.boot_len (Xaa (Xdq (pv 0) rfl) Xae)) (Xam _)) (Xac Xge) Xal) (Xab (Xbw (Xag D_Z46 hr (by rfl) (Xaa (pv 1) Xae))) (Xac (Xbw (Xbg D_Z15 Xaw hr (pv 0) (Xaa (pv 1) Xae)))))),?_⟩
 obtain⟨sh,x,h,dx,a,cs0,cs,ps,rfl,hx,ha,hl,hS,hz,hw,q⟩:=h
 have cl:=T.cl_Shelves
 have na:=T.na_Shelves_room_cells
 walk_at "go"
 refine⟨h,cs,rfl,hS,hz,(fun c hc=>by rw[hw] at hc;cases hc),fun _ lp us H1 nlp s1 hlp pa=>?_⟩
 have hx1:=s1 x _ hx
 walk_at "go"
 refine⟨sh,x,h,dx,a,cs,rfl,hx1,s1.seq hS,fun a' H2 na2 k2 hx2 ha2=>?_⟩
 walk_at "go"
 exact q a' H2 (s1.free na2) ((Xbi.of s1).trans k2) hx2 ha2
theorem XOt {f₀:Addr}{fd₀:FuncData}(F:Fun K "pieces" "Keeper.pieces" s_Z5 f₀ fd₀)(M:Meth K Y3 "pieces" f₀)(T:Txt K mg Y0 Y8 Y4 Y2 Y6 Y9 Y1 Y7 Y5 Y3 W0_ W1_)(D_Z46:Defx P w K mg base "looked" 4 ["cells"] (Xdu K Y4)):Methx P w K mg base Y3 "pieces" 5 ["self"] [] (Xrg Y3):=by
 refine⟨⟨f₀,fd₀,[],Xbx F XNo (fun vs H Q E h=>by revert h;walk_at "len") (fun cdv A outer s H vs Q E hr h=>?_),M,F.binds XNy,.nil⟩,T.cl_Shelves⟩
 refine⟨_,PSs.nox (Xac (Xai (Xag D_Z46 hr (by rfl) (Xaa (Xdq (pv 0) rfl) Xae)))),?_⟩
 obtain⟨sh,x,dx,a,cs,ps,rfl,hx,ha,hz,hw,q⟩:=h
 have cl:=T.cl_Shelves
 have na:=T.na_Shelves_room_cells
 walk_at "go"
 refine⟨a,cs,rfl,SqL.of ha,hz,(fun c hc=>by rw[hw] at hc;cases hc),fun _ lp us H1 nlp s1 hlp pa=>?_⟩
 walk_at "go"
 exact q lp us H1 nlp s1 hlp (by rw[hw] at pa;exact pa)
theorem XMu {f₀:Addr}{fd₀:FuncData}(F:Fun K "cells" "Keeper.cells" s_Z9 f₀ fd₀)(M:Meth K Y3 "cells" f₀)(T:Txt K mg Y0 Y8 Y4 Y2 Y6 Y9 Y1 Y7 Y5 Y3 W0_ W1_) :Methx P w K mg base Y3 "cells" 1 ["self"] [] (Xdv Y3):=by
 refine⟨⟨f₀,fd₀,[],Xbx F XNt (fun vs H Q E h=>by revert h;walk_at "len") (fun cdv A outer s H vs Q E hr h=>?_),M,F.binds XOz,.nil⟩,T.cl_Shelves⟩
 refine⟨_,PSs.nox (Xac (Xai (Xdn Xco (by rfl) T.n_list PyProof.Rows.boot_list (Xaa (Xdq (pv 0) rfl) Xae)))),?_⟩
 obtain⟨sh,x,dx,a,cs,rfl,hx,ha,q⟩:=h
 have cl:=T.cl_Shelves
 have na:=T.na_Shelves_room_cells
 walk_at "go"
 intro p np
 walk_at "go"
 exact q p _ np (Same.new np) upd_same
theorem XOm {f₀:Addr}{fd₀:FuncData}(F:Fun K "many" "Keeper.many" Xtx f₀ fd₀)(M:Meth K Y3 "many" f₀)(T:Txt K mg Y0 Y8 Y4 Y2 Y6 Y9 Y1 Y7 Y5 Y3 W0_ W1_)(D_Z38:Defx P w K mg base "live_at" 6 ["cells","at"] (Xqr K Y2 true)):Methx P w K mg base Y3 "many" 7 ["self","place"] [] (Xia Y3):=by
 refine⟨⟨f₀,fd₀,[],Xbx F Xmr (fun vs H Q E h=>by revert h;walk_at "len") (fun cdv A outer s H vs Q E hr h=>?_),M,F.binds XJm,.nil⟩,T.cl_Shelves⟩
 refine⟨_,PSs.nox (Xab (Xhx (Xag D_Z38 hr (by rfl) (Xaa (Xdq (pv 0) rfl) (Xaa (Xan Xdf (pv 1) Xaf) Xae))) (Xmx rfl (Xbj (Xau (i:=2) Xmr.nd rfl (Or.inl rfl)) (Xbj (Xau (i:=3) Xmr.nd rfl (Or.inl rfl)) (Xbj (Xau (i:=4) Xmr.nd rfl (Or.inl rfl)) Xfu))))) (Xac (Xai (Xan Xdf (pv 3) (Xiz (v:=.int 2) (by rfl) T.g_MARKS ⟨_,rfl⟩))))),?_⟩
 obtain⟨sh,x,dx,a,cs,ps,z,rfl,hx,ha,hz,hw,hc,hm,hv,q⟩:=h
 have cl:=T.cl_Shelves
 have na:=T.na_Shelves_room_cells
 walk_at "go"
 refine⟨a,cs,ps,z.a,by rw[Int.add_sub_cancel],SqL.of ha,hz,hw,hc,fun y hy hk hv' t H1 s1 ht=>?_,fun hn=>absurd hv (hn z hm rfl)⟩
 have ey:=Xbt hc hy hm (by omega)
 subst ey
 walk_at "go"
 exact q _ s1
def Xpz (K:PySem.W.Frag):Sp:=fun vs H Q _=>∃(a:Addr) (cs:List Int) (s g c:Int),vs=[.ref a,.int s,.int g,.int c]∧SqL K H a (cs.map V.int)∧cs.length≤1200∧0≤s∧0≤g∧0≤c∧s+c≤cs.length∧g+c≤cs.length ∧
 ∀(p:Addr) (H':Hp),H p=none→Same H H'→H' p=some (.lst ((carI cs s.toNat g.toNat c.toNat).map V.int))→Q (.ref p) H'
theorem XNu (S:Src K mg "carried" Xqs)(T:Txt K mg Y0 Y8 Y4 Y2 Y6 Y9 Y1 Y7 Y5 Y3 W0_ W1_) :Defx P w K mg base "carried" 1 ["cells","source","goal","count"] (Xpz K):=by
 refine S.okx Xvw XKg (fun vs H Q E h=>by revert h;walk_at "len") (fun f cdv A outer s H vs Q E hr h=>?_)
 refine⟨_,PSs.nox (Xab (Xao (i:=4) Xvw.nd rfl (Or.inl rfl) (Xdn Xco (by rfl) T.n_list PyProof.Rows.boot_list (Xaa (pv 0) Xae))) (Xac (Xai (Xan Xwo (Xan Xwo (Xgh Xir (pv 4) Xpo (Xfs (pv 2))) (Xgh Xir (pv 4) (Xfs (pv 1)) (Xfs (Xan Xbo (pv 1) (pv 3))))) (Xgh Xir (pv 4) (Xfs (Xan Xbo (pv 2) (pv 3))) Xpo))))),?_⟩
 obtain⟨a,cs,s,g,c,rfl,hS,hz,h0,h1,h2,h3,h4,q⟩:=h
 have n1:=Xiw cs none (some g)
 have n2:=Xiw cs (some s) (some (s+c))
 have n3:=Xiw cs (some (g+c)) none
 walk_at "go"
 intro p0 m0
 have s0:Same H (upd H p0 (.lst (cs.map V.int))):=Same.new m0
 have e0:upd H p0 (.lst (cs.map V.int)) p0=some (.lst (cs.map V.int)):=upd_same
 generalize upd H p0 (.lst (cs.map V.int))=H0 at s0 e0 ⊢
 have hS0:SqL K H0 p0 (cs.map V.int):=SqL.of e0
 clear hS
 walk_at "go"
 intro p1 H1 m1 s1 hh1
 have hS1:=s1.seq hS0
 walk_at "go"
 intro p2 H2 m2 s2 hh2
 have h1':=s2 p1 _ hh1
 have hS2:=s2.seq hS1
 walk_at "go"
 intro p3 H3 m3 s3 hh3
 have hS3:=s3.seq hS2
 walk_at "go"
 intro p4 H4 m4 s4 hh4
 have h3':=s4 p3 _ hh3
 have n4:(cutI cs none (some g)++cutI cs (some s) (some (s+c))).length+(cutI cs (some (g+c)) none).length≤4000:=by rw[List.length_append];omega
 walk_at "go"
 intro p5 H5 m5 s5 h5
 walk_at "go"
 have s14:=(((s0.trans s1).trans s2).trans s3).trans s4
 refine q p5 H5 (s14.free m5) (s14.trans s5) ?_
 rw[h5,XAx h1 (by omega),Xui h0 h2 h3,Xpl (by omega) h4]
 unfold carI
 rw[show (g+c).toNat=g.toNat+c.toNat by omega]
def Xrp:Sp:=fun vs H Q _=>∃c b:Int,vs=[.int c,.int b]∧1≤c∧1≤b∧Q .non H
theorem XNf (S:Src K mg "check_ask" Xta)(T:Txt K mg Y0 Y8 Y4 Y2 Y6 Y9 Y1 Y7 Y5 Y3 W0_ W1_) :Defx P w K mg base "check_ask" 1 ["count","bound"] (Xrp):=by
 refine S.okx XIc XGp (fun vs H Q E h=>by revert h;walk_at "len") (fun f cdv A outer s H vs Q E hr h=>?_)
 refine⟨_,PSs.nox (Xac (Xbc (PW.pt (Xeb (Xaj Xeg (pv 0) Xaf (Xam _)) (Xda (Xaj Xeg (pv 1) Xaf (Xam _))))) (Xac Xge) Xal)),?_⟩
 obtain⟨c,b,rfl,h1,h2,q⟩:=h
 walk_at "go"
 exact q
def Xiu:Sp:=fun vs H Q _=>∃c:Int,vs=[.int c,.int 1]∧1≤c∧Q .non H
theorem d_Z3 (S:Src K mg "check_plain_ask" s_Z3)(T:Txt K mg Y0 Y8 Y4 Y2 Y6 Y9 Y1 Y7 Y5 Y3 W0_ W1_)(D_Z24:Defx P w K mg base "check_ask" 1 ["count","bound"] (Xrp)):Defx P w K mg base "check_plain_ask" 2 ["count","bound"] (Xiu):=by
 refine S.okx XMj XLz (fun vs H Q E h=>by revert h;walk_at "len") (fun f cdv A outer s H vs Q E hr h=>?_)
 refine⟨_,PSs.nox (Xab (Xbw (Xag D_Z24 hr (by rfl) (Xaa (pv 0) (Xaa (pv 1) Xae)))) (Xac (Xbc (Xaj Xim (pv 1) Xaf (Xam _)) (Xac Xge) Xal))),?_⟩
 obtain⟨c,rfl,h1,q⟩:=h
 walk_at "go"
 refine⟨c,1,rfl,h1,by decide,?_⟩
 walk_at "go"
 exact q
/-! shelves -/
def rep1 (s:Int)(m:Nat):List Int:=(List.replicate m (Xdr s)).flatten
theorem Xgu {s:Int}(h:1≤s):Xbb (Xdr s) [⟨0,s,false⟩]:=by
 unfold Xdr
 exact Xbb.lay (ds:=[]) (rs:=[]) (by omega) h (by rw[List.length_replicate];omega) (fun p hp=>by cases hp) (fun p hp=>by cases hp) (Xbb.nil _)
theorem Xix {s:Int}(h:1≤s)(m:Nat):((rep1 s m).length:Int)=s*(m:Int):=(Xfi h (Xdm (by omega)) (Xgu h) m).2
theorem Xkq {s:Int}(h:1≤s)(m:Nat):Xch (rep1 s m) 0=(Xcf s 0 m,none):=by
 obtain⟨h1,h2⟩:=Xfi h (Xdm (by omega)) (Xgu h) m
 have c:=Xdj h m 0
 rw[show s*((0:Nat):Int)=0 by simp,Nat.zero_add] at c
 exact Xar (by unfold rep1;rw[h2];exact c) h1
theorem Xpv (one:List Int):∀m:Nat,(List.replicate m (one.map V.int)).flatten=((List.replicate m one).flatten).map V.int
 | 0=>rfl
 | m+1=>by rw[List.replicate_succ,List.flatten_cons,Xpv one m,List.replicate_succ,List.flatten_cons,List.map_append]
def Xox (C:Addr):Sp:=fun vs H Q E=>∃(z s:Int),vs=[.int z,.int s]∧z≤4000∧s≤4000∧((z<1∨s<1∨(1≤s∧z%s≠0))→E (.ref C) none H) ∧
 (∀m:Nat,1≤s→1≤m→z=s*(m:Int)→∀(p:Addr) (H':Hp),H p=none→Same H H'→H' p=some (.lst ((rep1 s m).map V.int))→Q (.ref p) H')
theorem XOd (S:Src K mg "all_whole" Xqa)(T:Txt K mg Y0 Y8 Y4 Y2 Y6 Y9 Y1 Y7 Y5 Y3 W0_ W1_)(D_Z17:Defx P w K mg base "fresh_room" 2 ["count"] (Xlm Y8)):Defx P w K mg base "all_whole" 3 ["size","shelf"] (Xox Y8):=by
 refine S.okx XDc XKs (fun vs H Q E h=>by revert h;walk_at "len") (fun f cdv A outer s H vs Q E hr h=>?_)
 refine⟨_,(Xab (Xbc (PW.pt (Xeb (Xaj Xeg (pv 0) Xaf (Xam _)) (Xeb (Xaj Xeg (pv 1) Xaf (Xam _)) (Xda (Xaj Xim (Xan Xbn (pv 0) (pv 1)) Xaf (Xam _)))))) (Xac (Xfk T.x_NoSize hr.hd rfl (Xaa Xef Xae))) Xal) (Xac (Xai (Xan Xvq (Xiq D_Z17 hr (by rfl) (Xaa (pv 1) Xae)) (Xan Xdw (pv 0) (pv 1)))))),?_⟩
 obtain⟨z,s,rfl,hz,hs,qe,q⟩:=h
 walk_at "go"
 refine Xby (fun h1=>?_) (fun h1=>?_)
 · walk_at "go"
   exact qe (.inl h1)
 · walk_at "go"
   refine Xby (fun h2=>?_) (fun h2=>?_)
   · walk_at "go"
     exact qe (.inr (.inl h2))
   · walk_at "go"
     refine Xby (fun h3=>?_) (fun h3=>?_)
     · walk_at "go"
       obtain⟨m,em⟩:∃m:Nat,z=s*(m:Int):=⟨(z/s).toNat,by
         have h4:=Int.mul_ediv_add_emod z s
         have h5:0≤z/s:=Int.ediv_nonneg (by omega) (by omega)
         rw[Int.toNat_of_nonneg h5]
         omega⟩
       have m1:1≤m:=by
         cases m with
         | zero=>simp at em;omega
         | succ m=>omega
       have ed:z/s=(m:Int):=by rw[em];exact Int.mul_ediv_cancel_left _ (by omega)
       refine⟨s,rfl,hs,fun z=>absurd z (by omega),fun _ p1 H1 np s1 hp=>?_⟩
       walk_at "go"
       rw[ed]
       have hf:=Xdm (n:=s) (by omega)
       have hm4:(m:Int)≤4000:=by
         have h6:=Int.mul_le_mul_of_nonneg_right (show (1:Int)≤s by omega) (show (0:Int)≤(m:Int) by omega)
         omega
       have hsz:(Xdr s).length*m≤4000:=by
         have e2:(((Xdr s).length*m:Nat):Int)=z:=by rw[Int.natCast_mul,hf,em]
         omega
       refine⟨p1,(m:Int),_,rfl,rfl,hp,by omega,by omega,(by show ((Xdr s).map V.int).length*(m:Int).toNat≤sizeLine;rw[List.length_map,Int.toNat_natCast];exact Nat.le_of_lt (small4000 hsz)),fun p2 np2=>?_⟩
       rw[Int.toNat_natCast,Xpv]
       walk_at "go"
       exact q m (by omega) m1 em p2 _ (s1.free np2) (s1.put (s1.free np2)) upd_same
     · walk_at "go"
       exact qe (.inr (.inr ⟨by omega,h3⟩))
def Xun:Sp:=fun vs H Q _=>∃(a s:Int),vs=[.int a,.int s]∧1≤s∧Q (.int (a-a%s)) H
theorem XNa (S:Src K mg "begin_of" Xsn)(T:Txt K mg Y0 Y8 Y4 Y2 Y6 Y9 Y1 Y7 Y5 Y3 W0_ W1_) :Defx P w K mg base "begin_of" 1 ["at","shelf"] (Xun):=by
 refine S.okx XEu XDy (fun vs H Q E h=>by revert h;walk_at "len") (fun f cdv A outer s H vs Q E hr h=>?_)
 refine⟨_,PSs.nox (Xac (Xai (Xan Xdf (pv 0) (Xan Xbn (pv 0) (pv 1))))),?_⟩
 obtain⟨a,s,rfl,hs,q⟩:=h
 walk_at "go"
 exact q
theorem XOx {A s k:Int}(h1:1≤k)(h2:k≤s):(Builtin.Range.rangeSize A (A+s) k).toNat=(s/k).toNat+(if k*((s/k).toNat:Int)=s then 0 else 1):=by
 have h3:=Int.mul_ediv_add_emod s k
 have h4:=Int.emod_nonneg s (show k≠0 by omega)
 have h5:=Int.emod_lt_of_pos s (show 0<k by omega)
 have h6:1≤s/k:=(Int.le_ediv_iff_mul_le (by omega)).mpr (by omega)
 have e:((s/k).toNat:Int)=s/k:=Int.toNat_of_nonneg (by omega)
 rw[e]
 unfold Builtin.Range.rangeSize
 rw[if_pos (by omega),if_pos (by omega),show A+s-A-1=s-1 by omega]
 split
 · rename_i h
   have:(s-1)/k=s/k-1:=by
     have:s-1=(k-1)+k*(s/k-1):=by rw[Int.mul_sub];omega
     rw[this,Int.add_mul_ediv_left _ _ (by omega),Int.ediv_eq_zero_of_lt (by omega) (by omega)]
     omega
   rw[this]
   omega
 · rename_i h
   have:(s-1)/k=s/k:=by
     have:s-1=(s%k-1)+k*(s/k):=by omega
     rw[this,Int.add_mul_ediv_left _ _ (by omega),Int.ediv_eq_zero_of_lt (by omega) (by omega)]
     omega
   rw[this]
   omega
theorem Xsx {s:Int}(h:1≤s):∀(m j:Nat),alP s (s*(j:Int)) (List.replicate m ⟨0,[]⟩)=Xcf s j m
 | 0,j=>rfl
 | m+1,j=>by
   rw[Xfl,List.replicate_succ]
   show shP s (s*(j:Int)) ⟨0,[]⟩++alP s (s*(j:Int)+s) (List.replicate m ⟨0,[]⟩)=_
   rw[Xcp h,←Xax,Xsx h m (j+1)]
   rfl
structure ShS (C x dx a:Addr)(s:Int)(fs:List Sf)(cs:List Int)(H:Hp):Prop where
 hx:H x=some (.ins C dx [("room_cells",.ref a),("shelf",.int s)])
 ha:H a=some (.lst (cs.map V.int))
 hl:(cs.length:Int)=s*(fs.length:Int)
 hz:cs.length≤1200
 hs:1≤s
 ok:∀f∈fs,SfOk s f
 mm:Xbb cs (alP s 0 fs)
theorem Xcy {s:Int}{fs:List Sf}{cs:List Int}(hs:1≤s)(w:∀f∈fs,SfW s f)(hl:(cs.length:Int)=s*(fs.length:Int)):Xaq 0 (alP s 0 fs) cs.length:=by
 have:=Xdt hs fs 0 w
 rw[Int.zero_add,←hl] at this
 exact this
theorem ShS.ch {C x dx a:Addr}{s:Int}{fs:List Sf}{cs:List Int}{H:Hp}(S:ShS C x dx a s fs cs H):Xaq 0 (alP s 0 fs) cs.length:=Xcy S.hs (fun f hf=>(S.ok f hf).1) S.hl
theorem ShS.same {C x dx a:Addr}{s:Int}{fs:List Sf}{cs:List Int}{H H':Hp}(S:ShS C x dx a s fs cs H)(t:Same H H'):ShS C x dx a s fs cs H':=⟨t x _ S.hx,t a _ S.ha,S.hl,S.hz,S.hs,S.ok,S.mm⟩
def FtW (H1:Hp)(ps:List Pc)(k:Int)(D:Addr)(i:Nat)(ys:List V)(H2:Hp):Prop:=Same H1 H2∧H2 D=some (.lst ys)∧H1 D=none∧ys=(fitF (ps.take i) k).map V.int∧ys.length≤i
def Xmw (K:PySem.W.Frag):Sp:=fun vs H Q _=>∃(c:Addr) (cs:List Int) (ps:List Pc) (k:Int),vs=[.ref c,.int k]∧SqL K H c (cs.map V.int)∧cs.length≤4000∧Xch cs 0=(ps,none)∧ps.length≤4000 ∧
 ∀(p:Addr) (H':Hp),H p=none→Same H H'→H' p=some (.lst ((fitF ps k).map V.int))→Q (.ref p) H'
theorem XNz (S:Src K mg "whole_ones" Xrw)(T:Txt K mg Y0 Y8 Y4 Y2 Y6 Y9 Y1 Y7 Y5 Y3 W0_ W1_)(D_Z46:Defx P w K mg base "looked" 4 ["cells"] (Xdu K Y4)):Defx P w K mg base "whole_ones" 5 ["cells","shelf"] (Xmw K):=by
 refine S.okx XHw XEi (fun vs H Q E h=>by revert h;walk_at "len") (fun f cdv A outer s H vs Q E hr h=>?_)
 refine⟨_,PSs.nox (Xac (Xai (Xfd ["at","long","live"] ["shelf"] [1] rfl (Xct (Xag D_Z46 hr (by rfl) (Xaa (pv 0) Xae))) (fun cl C s₀ H₀ ex=>(Xky (K:=K) (n:=3) rfl rfl (Xbj (Xau (i:=0) (show ((["at","long","live"]:List Str)++(["shelf"]:List Str)).Nodup by decide +kernel) rfl (Or.inl rfl)) (Xbj (Xau (i:=1) (show ((["at","long","live"]:List Str)++(["shelf"]:List Str)).Nodup by decide +kernel) rfl (Or.inl rfl)) (Xbj (Xau (i:=2) (show ((["at","long","live"]:List Str)++(["shelf"]:List Str)).Nodup by decide +kernel) rfl (Or.inl rfl)) Xfu))))) (fun cl C s₀ H₀ ex=>(Xes (PW.pt (Xfo (Xbu (Xfa (K:=K) rfl (pv 2) (fun _=>rfl))) (Xfp (Xaj Xed (pv 1) (pv 3) (Xam _))))))) (fun cl C s₀ H₀ ex=>(pv 0)) (Xhw rfl rfl rfl) (Xnm (n:="shelf") (by decide +kernel) rfl) (fun y h=>Xbp (by decide +kernel) h)))),?_⟩
 obtain⟨c,cs,ps,k,rfl,hS,hz,hw,hpz,q⟩:=h
 walk_at "go"
 refine⟨c,cs,rfl,hS,hz,(fun c hc=>by rw[hw] at hc;cases hc),fun _ lp us H1 nlp s1 hlp pa=>?_⟩
 have pa:Xbk H1 us ps:=by rw[hw] at pa;exact pa
 have hul:=pa.1
 walk_at "go"
 refine⟨lp,rfl,⟨_,SqL.of hlp⟩,Xbr (K:=K) (a:=lp) (xs:=us) (FtW H1 ps k) (fun D hD=>⟨Same.new hD,upd_same,hD,rfl,Nat.le_refl _⟩) (fun D i ys H2 _ h=>SqL.of (h.1 lp _ hlp)) ?_ ?_⟩
 · rintro D i y ys H2 hD hi ⟨s2,hD2,_,ey,hyl⟩ τ hτ
   have hil:i<us.length:=(List.getElem?_eq_some_iff.mp hi).1
   have hip:i<ps.length:=by omega
   obtain⟨t,et,hT⟩:=pa.2 i ps[i] (by simp [hip])
   have ey2:y = .ref t:=Option.some.inj (hi.symm.trans et)
   subst ey2
   have hT2:=s2 t _ hT
   have ef:=Xjs (k:=k) hip
   generalize ps[i]=z at hT2 ef
   match τ,hτ with
   | [τ0,τ1,τ2],_ =>
     walk_at "go"
     refine⟨⟨[_,_,_],rfl,rfl⟩,?_⟩
     walk_at "go"
     refine Xhl (fun hv=>?_) (fun hv=>?_)
     · walk_at "go"
       rw[hv] at ef
       refine Xdl hil ⟨s2,hD2,hD,?_,by omega⟩
       rw[ey,ef]
       simp
     · walk_at "go"
       rw[hv] at ef
       refine Xby (fun hl=>?_) (fun hl=>?_)
       · walk_at "go"
         rw[if_pos (by simp [hl])] at ef
         refine⟨hD2,small4000 (by omega),Xdl hil ⟨s2.put hD,upd_same,hD,?_,by rw[List.length_append,List.length_singleton];omega⟩⟩
         rw[ey,ef,List.map_append]
         rfl
       · walk_at "go"
         rw[if_neg (by simp [hl])] at ef
         exact Xdl hil ⟨s2,hD2,hD,by rw[ey,ef,List.append_nil],by omega⟩
 · rintro D ys H2 hD ⟨s2,hD2,_,ey,hyl⟩
   rw[List.take_of_length_le (by omega)] at ey
   walk_at "go"
   exact q D H2 (s1.free hD) (s1.trans s2) (by rw[hD2,ey])
def SlW (H1:Hp)(cs:List Int)(xs:List Int)(k s:Int)(D:Addr)(i:Nat)(ys:List V)(H2:Hp):Prop:=Same H1 H2∧H2 D=some (.lst ys)∧H1 D=none∧ys=((xs.take i).filter fun a=>decide (cs.getD (a-a%s).toNat 0/2=k)).map V.int∧ys.length≤i
def Xmg (K:PySem.W.Frag):Sp:=fun vs H Q _=>∃(c:Addr) (cs:List Int) (ps:List Pc) (s k:Int),vs=[.ref c,.int s,.int k]∧SqL K H c (cs.map V.int)∧cs.length≤4000∧Xch cs 0=(ps,none)∧ps.length≤4000∧Xaq 0 ps cs.length∧1≤s ∧
 ∀(p:Addr) (H':Hp),H p=none→Same H H'→H' p=some (.lst ((Xep cs ps k s).map V.int))→Q (.ref p) H'
theorem XMk (S:Src K mg "free_slots" Xsy)(T:Txt K mg Y0 Y8 Y4 Y2 Y6 Y9 Y1 Y7 Y5 Y3 W0_ W1_)(D_Z46:Defx P w K mg base "looked" 4 ["cells"] (Xdu K Y4))(D_Z27:Defx P w K mg base "begin_of" 1 ["at","shelf"] (Xun))(D_Z34:Defx P w K mg base "long_of" 1 ["number"] (Xhu)):Defx P w K mg base "free_slots" 5 ["cells","shelf","size"] (Xmg K):=by
 refine S.okx Xxa XGc (fun vs H Q E h=>by revert h;walk_at "len") (fun f cdv A outer s H vs Q E hr h=>?_)
 refine⟨_,PSs.nox (Xab (Xer (i:=3) ["at","long","live"] ["size"] [2] Xxa.nd rfl (Or.inl rfl) rfl (Xct (Xag D_Z46 hr (by rfl) (Xaa (pv 0) Xae))) (fun cl C s₀ H₀ ex=>(Xky (K:=K) (n:=3) rfl rfl (Xbj (Xau (i:=0) (show ((["at","long","live"]:List Str)++(["size"]:List Str)).Nodup by decide +kernel) rfl (Or.inl rfl)) (Xbj (Xau (i:=1) (show ((["at","long","live"]:List Str)++(["size"]:List Str)).Nodup by decide +kernel) rfl (Or.inl rfl)) (Xbj (Xau (i:=2) (show ((["at","long","live"]:List Str)++(["size"]:List Str)).Nodup by decide +kernel) rfl (Or.inl rfl)) Xfu))))) (fun cl C s₀ H₀ ex=>(Xes (PW.pt (Xfo (Xbu (Xfa (K:=K) rfl (pv 2) (fun _=>rfl))) (Xfp (Xaj Xed (pv 1) (pv 3) (Xam _))))))) (fun cl C s₀ H₀ ex=>(pv 0)) (Xhw rfl rfl rfl) (Xnm (n:="size") (by decide +kernel) rfl) (fun y h=>Xbp (by decide +kernel) h)) (Xac (Xai (Xfd ["at"] ["size","cells","shelf"] [2,0,1] rfl (Xct (pv 3)) (fun cl C s₀ H₀ ex=>(Xau (i:=0) (show ((["at"]:List Str)++(["size","cells","shelf"]:List Str)).Nodup by decide +kernel) rfl (Or.inl rfl))) (fun cl C s₀ H₀ ex=>(Xes (Xaj Xed (Xag D_Z34 hr (by rfl) (Xaa (Xbd (Xuf (K:=K) rfl) (pv 2) (Xag D_Z27 hr (by rfl) (Xaa (pv 0) (Xaa (pv 3) Xae))) (fun _ _=>rfl)) Xae)) (pv 1) (Xam _)))) (fun cl C s₀ H₀ ex=>(pv 0)) (Xkd rfl rfl rfl rfl rfl rfl rfl rfl rfl) (Xoe (n:="size") (m:="cells") (o:="shelf") (by decide +kernel) rfl rfl rfl) (fun y h=>Xbp (by decide +kernel) h))))),?_⟩
 obtain⟨c,cs,ps,s,k,rfl,hS,hz,hw,hpz,hc,hs,q⟩:=h
 walk_at "go"
 refine⟨c,cs,rfl,hS,hz,(fun c hc=>by rw[hw] at hc;cases hc),fun _ lp us H1 nlp s1 hlp pa=>?_⟩
 have pa:Xbk H1 us ps:=by rw[hw] at pa;exact pa
 have hul:=pa.1
 walk_at "go"
 refine⟨lp,rfl,⟨_,SqL.of hlp⟩,Xbr (K:=K) (a:=lp) (xs:=us) (FtW H1 ps k) (fun D hD=>⟨Same.new hD,upd_same,hD,rfl,Nat.le_refl _⟩) (fun D i ys H2 _ h=>SqL.of (h.1 lp _ hlp)) ?_ ?_⟩
 · rintro D i y ys H2 hD hi ⟨s2,hD2,_,ey,hyl⟩ τ hτ
   have hil:i<us.length:=(List.getElem?_eq_some_iff.mp hi).1
   have hip:i<ps.length:=by omega
   obtain⟨t,et,hT⟩:=pa.2 i ps[i] (by simp [hip])
   have ey2:y = .ref t:=Option.some.inj (hi.symm.trans et)
   subst ey2
   have hT2:=s2 t _ hT
   have ef:=Xjs (k:=k) hip
   generalize ps[i]=z at hT2 ef
   match τ,hτ with
   | [τ0,τ1,τ2],_ =>
     walk_at "go"
     refine⟨⟨[_,_,_],rfl,rfl⟩,?_⟩
     walk_at "go"
     refine Xhl (fun hv=>?_) (fun hv=>?_)
     · walk_at "go"
       rw[hv] at ef
       refine Xdl hil ⟨s2,hD2,hD,?_,by omega⟩
       rw[ey,ef]
       simp
     · walk_at "go"
       rw[hv] at ef
       refine Xby (fun hl=>?_) (fun hl=>?_)
       · walk_at "go"
         rw[if_pos (by simp [hl])] at ef
         refine⟨hD2,small4000 (by omega),Xdl hil ⟨s2.put hD,upd_same,hD,?_,by rw[List.length_append,List.length_singleton];omega⟩⟩
         rw[ey,ef,List.map_append]
         rfl
       · walk_at "go"
         rw[if_neg (by simp [hl])] at ef
         exact Xdl hil ⟨s2,hD2,hD,by rw[ey,ef,List.append_nil],by omega⟩
 · rintro D ys H2 hD ⟨s2,hD2,_,ey,hyl⟩
   rw[List.take_of_length_le (by omega)] at ey
   subst ey
   rw[List.length_map] at hyl
   have hS2:=(s1.trans s2).seq hS
   have hfi:∀a∈fitF ps k,0≤a∧a<cs.length:=fun a h=>XAw hc h
   have hsl:Xep cs ps k s=(fitF ps k).filter fun a=>decide (cs.getD (a-a%s).toNat 0/2=k):=rfl
   generalize fitF ps k=xs at hD2 hyl hfi hsl
   walk_at "go"
   refine⟨D,rfl,⟨_,SqL.of hD2⟩,Xbr (K:=K) (a:=D) (xs:=xs.map V.int) (SlW H2 cs xs k s) (fun D' hD'=>⟨Same.new hD',upd_same,hD',rfl,Nat.le_refl _⟩) (fun D' i ys H3 _ h=>SqL.of (h.1 D _ hD2)) ?_ ?_⟩
   · rintro D' i y ys H3 hD' hi ⟨s3,hD3,_,ey,hyl2⟩ τ hτ
     obtain⟨a,ea,rfl⟩:∃a,xs[i]?=some a∧y = .int a:=by
       rw[List.getElem?_map] at hi
       obtain⟨a,h1,h2⟩:=Option.map_eq_some_iff.mp hi
       exact⟨a,h1,h2.symm⟩
     have hil:i<xs.length:=(List.getElem?_eq_some_iff.mp ea).1
     have hil2:i<(xs.map V.int).length:=by rw[List.length_map];exact hil
     obtain⟨a0,a1⟩:=hfi a (List.mem_of_getElem? ea)
     obtain⟨b0,b1⟩:=Xut a0 hs
     have hS3:=s3.seq hS2
     have et:xs.take (i+1)=xs.take i++[a]:=by rw[List.take_add_one,ea];rfl
     match τ,hτ with
     | [τ0],_ =>
       walk_at "go"
       refine⟨⟨[_],rfl,rfl⟩,?_⟩
       walk_at "go"
       refine⟨a,s,rfl,hs,?_⟩
       walk_at "go"
       refine Xby (fun hl=>?_) (fun hl=>?_)
       · walk_at "go"
         refine⟨hD3,small4000 (by omega),Xdl hil2 ⟨s3.put hD',upd_same,hD',?_,by rw[List.length_append,List.length_singleton];omega⟩⟩
         rw[et,List.filter_append,List.map_append,ey,show ([a].filter fun a=>decide (cs.getD (a-a%s).toNat 0/2=k))=[a] by rw[List.filter_cons,if_pos (decide_eq_true hl)];rfl]
         rfl
       · walk_at "go"
         refine Xdl hil2 ⟨s3,hD3,hD',?_,by omega⟩
         rw[et,List.filter_append,List.map_append,ey,show ([a].filter fun a=>decide (cs.getD (a-a%s).toNat 0/2=k))=[] by rw[List.filter_cons,if_neg (fun z=>hl (of_decide_eq_true z))];rfl]
         simp
   · rintro D' ys H3 hD' ⟨s3,hD3,_,ey,hyl2⟩
     rw[List.length_map,List.take_of_length_le (Nat.le_refl _),←hsl] at ey
     walk_at "go"
     exact q D' H3 ((s1.trans s2).free hD') ((s1.trans s2).trans s3) (by rw[hD3,ey])
def Xvx (K:PySem.W.Frag):Sp:=fun vs H Q _=>∃(c:Addr) (cs:List Int) (A s k:Int) (ds rs:List Pc),vs=[.ref c,.int A,.int s,.int k]∧SqL K H c (cs.map V.int)∧cs.length≤1200∧0≤A∧A+s≤cs.length∧1≤k∧k≤s∧Xfv ds A∧Xkf rs (A+s)∧Xbb cs (ds++rs) ∧
 ∀(p:Addr) (cs':List Int) (H':Hp),H p=none→Same H H'→H' p=some (.lst (cs'.map V.int))→cs'.length=cs.length→Xbb cs' (ds++(shP s A ⟨k,List.replicate (s/k).toNat false⟩++rs))→(∀m:Nat,(m:Int)<A∨A+s≤m→cs'[m]?=cs[m]?)→Q (.ref p) H'
def CfW (c:Addr)(A s k:Int)(ds rs:List Pc)(cs:List Int)(H:Hp)(i:Nat)(σ:L2.St)(H':Hp):Prop :=
 ∃(r:Addr) (cs':List Int) (x6:Option V),σ=[some (.ref c),some (.int A),some (.int s),some (.int k),some (.ref r),some (.int (A+s)),x6]∧Same H H'∧H r=none∧H' r=some (.lst (cs'.map V.int))∧cs'.length=cs.length∧Xbb cs' (ds++ctP A (A+s) k i++rs)∧∀m:Nat,(m:Int)<A∨A+s≤m→cs'[m]?=cs[m]?
theorem XNp (S:Src K mg "cut_for" Xsd)(T:Txt K mg Y0 Y8 Y4 Y2 Y6 Y9 Y1 Y7 Y5 Y3 W0_ W1_)(D_Z51:Defx P w K mg base "laid" 2 ["cells","at","long","live"] (Xni K)):Defx P w K mg base "cut_for" 3 ["cells","begin","shelf","size"] (Xvx K):=by
 refine S.okx Xkc XKn (fun vs H Q E h=>by revert h;walk_at "len") (fun f cdv A outer s H vs Q E hr h=>?_)
 refine⟨_,PSs.nox (Xab (Xao (i:=4) Xkc.nd rfl (Or.inl rfl) (Xdn Xco (by rfl) T.n_list PyProof.Rows.boot_list (Xaa (pv 0) Xae))) (Xab (Xao (i:=5) Xkc.nd rfl (Or.inl rfl) (Xan Xbo (pv 1) (pv 2))) (Xab (ps_for PassesOwn.never rfl (Xkl (by rfl) T.n_range (Xaa (pv 1) (Xaa (pv 5) (Xaa (pv 3) Xae)))) (Xau (i:=6) Xkc.nd rfl (Or.inl rfl)) (Xac (Xao (i:=4) Xkc.nd rfl (Or.inl rfl) (Xag D_Z51 hr (by rfl) (Xaa (pv 4) (Xaa (pv 6) (Xaa (Xat (Xju rfl) (by rfl) T.n_min PyProof.Rows.boot_min (Xaa (pv 3) (Xaa (Xan Xdf (pv 5) (pv 6)) Xae))) (Xaa Xck Xae)))))))) (Xac (Xai (pv 4)))))),?_⟩
 obtain⟨c,cs,A,s,k,ds,rs,rfl,hS,hz,h0,hl,h1,h2,hd,hr,mk,q⟩:=h
 obtain⟨d1,d2,d3⟩:=Xfq h1 h2
 have ht:=XOx (A:=A) h1 h2
 walk_at "go"
 intro r nr
 walk_at "go"
 refine XIi ?_
 walk_at "go"
 refine⟨A,A+s,k,rfl,⟨by omega,by omega,by omega,by omega,by omega,by omega⟩,?_⟩
 rw[ht]
 refine Xmy (CfW c A s k ds rs cs H) ⟨r,cs,none,rfl,Same.new nr,nr,upd_same,rfl,(by show Xbb cs (ds++[]++rs);rw[List.append_nil];exact mk),fun _ _=>rfl⟩ ?_ ?_
 · rintro i σ H2 hi ⟨r2,cs2,x6,rfl,s2,nr2,hr2,hl2,mk2,ho2⟩
   have hlt:∀j:Nat,j<i+1→A+k*(j:Int)<A+s:=fun j hj=>by
     by_cases e:k*((s/k).toNat:Int)=s
     · rw[if_pos e] at hi
       have:=Int.mul_le_mul_of_nonneg_left (show ((j:Int)+1)≤((s/k).toNat:Int) by omega) (show 0≤k by omega)
       rw[Int.mul_add,Int.mul_one] at this
       omega
     · rw[if_neg e] at hi
       have:=Int.mul_le_mul_of_nonneg_left (show (j:Int)≤((s/k).toNat:Int) by omega) (show 0≤k by omega)
       omega
   obtain⟨l0,l1,l2,mk3⟩:=Xzg h0 h1 hd hr (by omega) hlt mk2
   have ei:A+(i:Int)*k=A+k*(i:Int):=by rw[Int.mul_comm]
   have hbA:A≤A+k*(i:Int):=by
     have:=Int.mul_nonneg (show 0≤k by omega) (show (0:Int)≤(i:Int) by omega)
     omega
   have hbE:A+k*(i:Int)+min k (A+s-(A+k*(i:Int)))≤A+s:=by omega
   rw[ei]
   have el:(if A+s-(A+k*(i:Int))<k then A+s-(A+k*(i:Int)) else k)=min k (A+s-(A+k*(i:Int))):=by omega
   walk_at "go"
   rw[el]
   generalize min k (A+s-(A+k*(i:Int)))=l at l1 l2 mk3 hbE ⊢
   generalize A+k*(i:Int)=b at l0 l2 mk3 hbA hbE ⊢
   walk_at "go"
   refine⟨r2,cs2,b,l,false,rfl,SqL.of hr2,by omega,l0,l1,by omega,fun p H3 np s3 hp=>?_⟩
   walk_at "go"
   exact⟨p,_,_,rfl,s2.trans s3,s2.free np,hp,(by rw[Xdo];exact hl2),mk3,fun m hm=>by rw[Xce l0 l1 (by omega)];exact ho2 m hm⟩
 · rintro σ H2 ⟨r2,cs2,x6,rfl,s2,nr2,hr2,hl2,mk2,ho2⟩
   walk_at "go"
   refine q r2 cs2 H2 nr2 s2 hr2 hl2 ?_ ho2
   rw[Xxu (q:=(s/k).toNat) h1 d1 d2 rfl,List.append_assoc] at mk2
   exact mk2
def Xwf (K:PySem.W.Frag)(CN:Addr):Sp:=fun vs H Q E=>∃(c:Addr) (cs:List Int) (s k:Int) (fs:List Sf),vs=[.ref c,.int s,.int k]∧SqL K H c (cs.map V.int)∧cs.length≤1200∧(cs.length:Int)=s*(fs.length:Int)∧1≤s∧3≤k∧(∀f∈fs,SfOk s f)∧Xbb cs (alP s 0 fs) ∧
 ((NoGr s k fs∧∀(H':Hp),Same H H'→E (.ref CN) none H') ∨
 (∃(j i:Nat) (b:List Bool) (fs1:List Sf),Gs s k fs j i b fs1∧∀(p:Addr) (cs':List Int) (H':Hp),Same H H'→SqL K H' p (cs'.map V.int)→cs'.length=cs.length→fs1.length=fs.length→Xbb cs' (alP s 0 fs1)→(∀y∈alP s 0 fs,y.v=true→∀m:Nat,Inn y m→cs'[m]?=cs[m]?)→Q (.ref p) H'))
theorem XMb (S:Src K mg "with_slot" Xql)(T:Txt K mg Y0 Y8 Y4 Y2 Y6 Y9 Y1 Y7 Y5 Y3 W0_ W1_)(D_Z21:Defx P w K mg base "free_slots" 5 ["cells","shelf","size"] (Xmg K))(D_Z16:Defx P w K mg base "whole_ones" 5 ["cells","shelf"] (Xmw K))(D_Z40:Defx P w K mg base "cut_for" 3 ["cells","begin","shelf","size"] (Xvx K)):Defx P w K mg base "with_slot" 6 ["cells","shelf","size"] (Xwf K Y7):=by
 refine S.okx Xwz XKv (fun vs H Q E h=>by revert h;walk_at "len") (fun f cdv A outer s H vs Q E hr h=>?_)
 refine⟨_,(Xab (Xbc (Xcd (Xag D_Z21 hr (by rfl) (Xaa (pv 0) (Xaa (pv 1) (Xaa (pv 2) Xae)))) (fun _=>rfl)) (Xac (Xai (pv 0))) Xal) (Xab (Xao (i:=3) Xwz.nd rfl (Or.inl rfl) (Xag D_Z16 hr (by rfl) (Xaa (pv 0) (Xaa (pv 1) Xae)))) (Xab (Xbc (PW.pt (Xeb (Xaj Xrf (pv 2) (pv 1) (Xam _)) (Xda (Xbu (Xcd (pv 3) (fun _=>rfl)))))) (Xac (Xfk T.x_NoRoom hr.hd rfl (Xaa Xef Xae))) Xal) (Xac (Xai (Xag D_Z40 hr (by rfl) (Xaa (pv 0) (Xaa (Xbd Xba (pv 3) Xaf (fun _ _=>rfl)) (Xaa (pv 1) (Xaa (pv 2) Xae)))))))))),?_⟩
 obtain⟨c,cs,s,k,fs,rfl,hS,hz,hl,hs,hk,ok,mk,hq⟩:=h
 have W:∀f∈fs,SfW s f:=fun f hf=>(ok f hf).1
 have ch:=Xcy hs W hl
 have hw:=Xar ch mk
 have hle:=ch.le
 walk_at "go"
 refine⟨c,cs,_,s,k,rfl,hS,by omega,hw,by omega,ch,hs,fun p H1 np s1 hp=>?_⟩
 have hS1:=s1.seq hS
 have none1:(∀f∈fs,¬(f.n=k∧false∈f.b))→¬(k=s∧∃f∈fs,f.n=0)→Xep cs (alP s 0 fs) k s=[]:=fun g1 g2=>by
   have:=Xij (cs:=cs) (fs:=fs) (j:=0) hs (show 1≤k by omega) W (by rw[show s*((0:Nat):Int)=0 by simp];exact mk) (fun f hf=>⟨g1 f hf,fun h=>g2 ⟨h.1,f,hf,h.2⟩⟩)
   rw[show s*((0:Nat):Int)=0 by simp] at this
   exact this
 rcases hq with ⟨⟨g1,g2⟩,qe⟩ | ⟨j,i,b,fs1,G,q⟩
 · have esl:=none1 g1 (by
     rintro⟨e,f,hf,e0⟩
     rcases g2 with g2 | g2
     · omega
     · exact g2 f hf e0)
   rw[esl,List.map_nil] at hp
   walk_at "go"
   refine iteT ?_
   walk_at "go"
   refine⟨c,cs,_,s,rfl,hS1,by omega,hw,by omega,fun p2 H2 np2 s2 hp2=>?_⟩
   walk_at "go"
   refine Xby (fun hlt=>?_) (fun hlt=>?_)
   · walk_at "go"
     exact qe H2 (s1.trans s2)
   · have ef:=Xmh (A:=0) hs ok (g2.resolve_left (by omega))
     rw[ef,List.map_nil] at hp2
     walk_at "go"
     refine iteT ?_
     walk_at "go"
     exact qe H2 (s1.trans s2)
 · obtain⟨c1,c2,c3,c4,c5⟩:=id G
   rcases c5 with e | ⟨c6,ks,i0,eb,⟨f0,c8,c9⟩,c10,e⟩
   · obtain⟨ys,esl⟩:=G.slot (cs:=cs) hs hk ok (by rw[e];exact mk)
     rw[e] at esl
     rw[esl,List.map_cons] at hp
     walk_at "go"
     refine iteF ?_
     walk_at "go"
     exact q c cs H1 s1 hS1 rfl (by rw[e]) (by rw[e];exact mk) (fun _ _ _ _ _=>rfl)
   · have ln:fs1.length=fs.length:=by rw[e];exact List.length_set
     by_cases hsk:k=s
     · have e1:(s/s).toNat=1:=by rw[Int.ediv_self (by omega)];rfl
       have ea:alP s 0 fs1=alP s 0 fs:=by
         obtain⟨ds,rs,e3,_,_⟩:=Xdy hs W c8
         have e4:=e3 f0
         rw[Xez c8] at e4
         rw[e,e3,e4,eb,hsk,e1]
         have hf0:f0=⟨0,[]⟩:=by
           rcases(ok f0 (List.mem_of_getElem? c8)).1 with ⟨z1,z2⟩ | ⟨z3,_⟩
           · obtain⟨n0,b0⟩:=f0
             have z1:n0=0:=z1
             have z2:b0=[]:=z2
             rw[z1,z2]
           · omega
         rw[hf0,Xcp hs]
         unfold shP fr
         show ds++((⟨s*(j:Int),s,false⟩::slP s (s*(j:Int)+s) []++if s*(j:Int)+s*((1:Nat):Int)=s*(j:Int)+s then [] else [⟨s*(j:Int)+s*((1:Nat):Int),_,false⟩])++rs)=_
         rw[if_pos (by simp)]
         rfl
       obtain⟨ys,esl⟩:=G.slot (cs:=cs) hs hk ok (by rw[ea];exact mk)
       rw[ea] at esl
       rw[esl,List.map_cons] at hp
       walk_at "go"
       refine iteF ?_
       walk_at "go"
       exact q c cs H1 s1 hS1 rfl ln (by rw[ea];exact mk) (fun _ _ _ _ _=>rfl)
     · have esl:=none1 c6 (fun h=>hsk h.1)
       rw[esl,List.map_nil] at hp
       walk_at "go"
       refine iteT ?_
       walk_at "go"
       refine⟨c,cs,_,s,rfl,hS1,by omega,hw,by omega,fun p2 H2 np2 s2 hp2=>?_⟩
       obtain⟨zs,ef⟩:=Xts hs ok c8 c9 c10
       rw[ef,List.map_cons] at hp2
       have hS2:=s2.seq hS1
       walk_at "go"
       refine iteF ?_
       walk_at "go"
       refine Xva (v:=V.int (s*(j:Int))) (SqL.of hp2) (show atI (V.int _::_) ((0:Nat):Int)=some (V.int _) from Xgn rfl) ?_
       walk_at "go"
       obtain⟨ds,rs,e3,k1,k2⟩:=Xdy hs W c8
       have l1:=k1.le
       have l2:=k2.le
       have mk2:=mk
       rw[←Xez c8,e3 f0] at mk2
       refine⟨c,cs,s*(j:Int),s,k,ds,rs,rfl,hS2,hz,by omega,by omega,by omega,by omega,k1.endBy (Int.le_refl 0),k2.fromOn,mk2.sub (fun p hp=>?_),fun p3 cs' H3 np3 s3 hp3 hl3 mk3 ho3=>?_⟩
       · rcases List.mem_append.mp hp with g | g
         · exact List.mem_append_left _ g
         · exact List.mem_append_right _ (List.mem_append_right _ g)
       walk_at "go"
       refine q p3 cs' H3 ((s1.trans s2).trans s3) (SqL.of hp3) hl3 ln (by rw[e,e3,eb];exact mk3) (fun y hy hv m hm=>ho3 m ?_)
       obtain⟨m1,m2⟩:=hm
       rw[←Xez c8,e3 f0] at hy
       rcases List.mem_append.mp hy with g | g
       · have:=(k1.mem y g).2.2.2
         omega
       · rcases List.mem_append.mp g with g | g
         · obtain⟨i1,g1,_⟩:=Xte g hv
           rcases W f0 (List.mem_of_getElem? c8) with ⟨_,z2⟩ | ⟨z3,_⟩
           · rw[z2] at g1
             simp at g1
           · omega
         · have:=(k2.mem y g).1
           omega
def HvW (H1:Hp)(B s:Int)(ps:List Pc)(D:Addr)(i:Nat)(ys:List V)(H2:Hp):Prop:=Same H1 H2∧H2 D=some (.lst ys)∧H1 D=none∧ys.length≤i∧∃bs:List Bool,ys=bs.map V.bl∧bs.any id=(ps.take i).any fun z=>decide (z.a-z.a%s=B)&&z.v
def XHe (K:PySem.W.Frag):Sp:=fun vs H Q _=>∃(c:Addr) (cs:List Int) (ps:List Pc) (b s:Int),vs=[.ref c,.int b,.int s]∧SqL K H c (cs.map V.int)∧cs.length≤4000∧Xch cs 0=(ps,none)∧ps.length≤4000∧1≤s∧∀(H':Hp),Same H H'→Q (.bl (ps.any fun z=>decide (z.a-z.a%s=b)&&z.v)) H'
theorem XOe (S:Src K mg "has_live" Xsz)(T:Txt K mg Y0 Y8 Y4 Y2 Y6 Y9 Y1 Y7 Y5 Y3 W0_ W1_)(D_Z46:Defx P w K mg base "looked" 4 ["cells"] (Xdu K Y4))(D_Z27:Defx P w K mg base "begin_of" 1 ["at","shelf"] (Xun)):Defx P w K mg base "has_live" 5 ["cells","begin","shelf"] (XHe K):=by
 refine S.okx XLd XEc (fun vs H Q E h=>by revert h;walk_at "len") (fun f cdv A outer s H vs Q E hr h=>?_)
 refine⟨_,PSs.nox (Xac (Xai (Xat (Xre rfl) (by rfl) T.n_any PyProof.Rows.boot_any (Xaa (Xfd ["at","long","live"] ["begin","shelf"] [1,2] rfl (Xct (Xag D_Z46 hr (by rfl) (Xaa (pv 0) Xae))) (fun cl C s₀ H₀ ex=>(Xky (K:=K) (n:=3) rfl rfl (Xbj (Xau (i:=0) (show ((["at","long","live"]:List Str)++(["begin","shelf"]:List Str)).Nodup by decide +kernel) rfl (Or.inl rfl)) (Xbj (Xau (i:=1) (show ((["at","long","live"]:List Str)++(["begin","shelf"]:List Str)).Nodup by decide +kernel) rfl (Or.inl rfl)) (Xbj (Xau (i:=2) (show ((["at","long","live"]:List Str)++(["begin","shelf"]:List Str)).Nodup by decide +kernel) rfl (Or.inl rfl)) Xfu))))) (fun cl C s₀ H₀ ex=>(Xes (Xaj Xed (Xag D_Z27 hr (by rfl) (Xaa (pv 0) (Xaa (pv 4) Xae))) (pv 3) (Xam _)))) (fun cl C s₀ H₀ ex=>(pv 2)) (Xeo rfl rfl rfl rfl rfl rfl) (Xgk (n:="begin") (m:="shelf") (by decide +kernel) rfl rfl) (fun y h=>Xbp (by decide +kernel) h)) Xae)))),?_⟩
 obtain⟨c,cs,ps,b,s,rfl,hS,hz,hw,hpz,hs,q⟩:=h
 walk_at "go"
 refine⟨c,cs,rfl,hS,hz,(fun c hc=>by rw[hw] at hc;cases hc),fun _ lp us H1 nlp s1 hlp pa=>?_⟩
 have pa:Xbk H1 us ps:=by rw[hw] at pa;exact pa
 have hul:=pa.1
 walk_at "go"
 refine⟨lp,rfl,⟨_,SqL.of hlp⟩,Xbr (K:=K) (a:=lp) (xs:=us) (HvW H1 b s ps) (fun D hD=>⟨Same.new hD,upd_same,hD,Nat.le_refl _,[],rfl,rfl⟩) (fun D i ys H2 _ h=>SqL.of (h.1 lp _ hlp)) ?_ ?_⟩
 · rintro D i y ys H2 hD hi ⟨s2,hD2,_,hyl,bs,ey,eb⟩ τ hτ
   have hil:i<us.length:=(List.getElem?_eq_some_iff.mp hi).1
   have hip:i<ps.length:=by omega
   obtain⟨t,et,hT⟩:=pa.2 i ps[i] (by simp [hip])
   have ey2:y = .ref t:=Option.some.inj (hi.symm.trans et)
   subst ey2
   have hT2:=s2 t _ hT
   have etk:ps.take (i+1)=ps.take i++[ps[i]]:=by rw[List.take_add_one,List.getElem?_eq_getElem hip];rfl
   generalize ps[i]=z at hT2 etk
   match τ,hτ with
   | [τ0,τ1,τ2],_ =>
     walk_at "go"
     refine⟨⟨[_,_,_],rfl,rfl⟩,?_⟩
     walk_at "go"
     refine⟨z.a,s,rfl,hs,?_⟩
     walk_at "go"
     refine Xby (fun hl=>?_) (fun hl=>?_)
     · walk_at "go"
       refine⟨hD2,small4000 (by omega),Xdl hil ⟨s2.put hD,upd_same,hD,by rw[List.length_append,List.length_singleton];omega,bs++[z.v],by rw[ey,List.map_append];rfl,?_⟩⟩
       rw[etk,List.any_append,List.any_append,eb,List.any_cons,List.any_nil,List.any_cons,List.any_nil,decide_eq_true hl]
       simp
     · walk_at "go"
       refine Xdl hil ⟨s2,hD2,hD,by omega,bs,ey,?_⟩
       rw[etk,List.any_append,eb,List.any_cons,List.any_nil,decide_eq_false hl]
       simp
 · rintro D ys H2 hD ⟨s2,hD2,_,hyl,bs,ey,eb⟩
   subst ey
   rw[List.take_of_length_le (by omega)] at eb
   walk_at "go"
   refine⟨D,bs,rfl,hD2,?_⟩
   rw[eb]
   walk_at "go"
   exact q _ (s1.trans s2)
def XHz (C:Addr):Sp:=fun vs H Q E=>∃(x dx:Addr) (s:Int) (m:Nat),vs=[.ref x,.int (s*(m:Int)),.int s]∧H x=some (.ins C dx [])∧s*(m:Int)≤1200∧1≤s∧1≤m ∧
 (∀(a:Addr) (H':Hp),Xbi x H H'→ShS C x dx a s (List.replicate m ⟨0,[]⟩) (rep1 s m) H'→Q .non H')
theorem Xwn {s:Int}(h:1≤s)(m:Nat):((rep1 s m).length:Int)=s*((List.replicate m (⟨0,[]⟩:Sf)).length:Int)∧(∀f∈List.replicate m (⟨0,[]⟩:Sf),SfOk s f)∧Xbb (rep1 s m) (alP s 0 (List.replicate m ⟨0,[]⟩)):=by
 refine⟨by rw[List.length_replicate];exact Xix h m,fun f hf=>?_,?_⟩
 · rw[(List.mem_replicate.mp hf).2]
   exact⟨.inl ⟨rfl,rfl⟩,fun h0=>absurd rfl h0⟩
 · have:=Xsx h m 0
   rw[show s*((0:Nat):Int)=0 by simp] at this
   rw[this]
   exact(Xfi h (Xdm (by omega)) (Xgu h) m).1
theorem Xqz {f₀:Addr}{fd₀:FuncData}(F:Fun K "__init__" "Shelves.__init__" Xcl f₀ fd₀)(M:Mk K Y3 f₀)(T:Txt K mg Y0 Y8 Y4 Y2 Y6 Y9 Y1 Y7 Y5 Y3 W0_ W1_)(D_Z22:Defx P w K mg base "all_whole" 3 ["size","shelf"] (Xox Y8))(D_Z36:Basex P w K mg base "Keeper" "__init__" 3 ["self","size"] (spMk Y3))(D_lay:Methx P w K mg base Y3 "lay" 5 ["self","cells"] [] (Xsv K Y3)):Makex P w K mg base "Shelves" Y3 6 ["self","size","shelf"] [] (XHz Y3):=by
 refine⟨⟨f₀,fd₀,[],Xbx F Xec (fun vs H Q E h=>by revert h;walk_at "len") (fun cdv A outer s H vs Q E hr h=>?_),M,F.binds Xgy,.nil⟩,T.c_Shelves⟩
 refine⟨_,PSs.nox (Xab (Xao (i:=3) Xec.nd rfl (Or.inl rfl) (Xag D_Z22 hr (by rfl) (Xaa (pv 1) (Xaa (pv 2) Xae)))) (Xab (Xbw (Xup D_Z36 Xaw hr (by rfl) (Xaa (pv 0) (Xaa (pv 1) Xae)))) (Xab (Xmz (pv 0) (pv 2) rfl) (Xac (Xbw (Xbg D_lay Xaw hr (pv 0) (Xaa (pv 3) Xae))))))),?_⟩
 obtain⟨x,dx,s,m,rfl,hx,hz,h1,m1,q⟩:=h
 have cl:=T.cl_Shelves
 have na:=T.na_Shelves_room_cells
 have nb:=T.na_Shelves_shelf
 have z1:s≤s*(m:Int):=by
   have:=Int.mul_le_mul_of_nonneg_left (show (1:Int)≤(m:Int) by omega) (show 0≤s by omega)
   omega
 have em:(s*(m:Int))%s=0:=Int.mul_emod_right _ _
 generalize ez:s*(m:Int)=z at hz z1 em
 walk_at "go"
 refine⟨z,s,rfl,by omega,by omega,fun h=>absurd h (by omega),fun m' _ _ e p H1 np s1 hp=>?_⟩
 have emm:m'=m:=by
   have:=Int.eq_of_mul_eq_mul_left (show s≠0 by omega) (e.symm.trans ez.symm)
   omega
 subst emm
 have hx1:=s1 x _ hx
 have hpx:p≠x:=fun w=>by rw[w,hx] at np;cases np
 walk_at "go"
 refine⟨x,dx,z,rfl,hx1,by omega,by omega,fun a H2 na2 k2 hx2 ha2=>?_⟩
 have hp2:=k2 p _ hpx hp
 have hax:a≠x:=fun w=>by rw[w,hx1] at na2;cases na2
 have e1:=Xix h1 m'
 have hl1:(rep1 s m').length=(Xdr z).length:=by
   have e2:=Xdm (n:=z) (by omega)
   omega
 walk_at "go"
 refine⟨s,x,p,dx,a,Xdr z,rep1 s m',_,rfl,upd_same,look_ne hax ha2,hl1,SqL.of (look_ne hpx hp2),by omega,Xkq h1 m',fun a' H4 na4 k4 hx4 ha4=>?_⟩
 walk_at "go"
 obtain⟨r1,r2,r3⟩:=Xwn h1 m'
 exact q a' H4 (((Xbi.of s1).trans k2).put.trans k4) ⟨hx4,ha4,r1,by omega,h1,r2,r3⟩
def Xmp (C:Addr):Sp:=fun vs H Q _=>∃(x dx a:Addr) (s:Int) (fs:List Sf) (cs:List Int),vs=[.ref x]∧ShS C x dx a s fs cs H∧1≤fs.length ∧
 (∀(a':Addr) (H':Hp),H a'=none→Xbi x H H'→ShS C x dx a' s (List.replicate fs.length ⟨0,[]⟩) (rep1 s fs.length) H'→Q .non H')
theorem XOa {f₀:Addr}{fd₀:FuncData}(F:Fun K "clear" "Shelves.clear" s_Z4 f₀ fd₀)(M:Meth K Y3 "clear" f₀)(T:Txt K mg Y0 Y8 Y4 Y2 Y6 Y9 Y1 Y7 Y5 Y3 W0_ W1_)(D_Z22:Defx P w K mg base "all_whole" 3 ["size","shelf"] (Xox Y8))(D_Z47:Methx P w K mg base Y3 "cells" 1 ["self"] [] (Xdv Y3))(D_lay:Methx P w K mg base Y3 "lay" 5 ["self","cells"] [] (Xsv K Y3)):Methx P w K mg base Y3 "clear" 6 ["self"] [] (Xmp Y3):=by
 refine⟨⟨f₀,fd₀,[],Xbx F XNh (fun vs H Q E h=>by revert h;walk_at "len") (fun cdv A outer s H vs Q E hr h=>?_),M,F.binds XOv,.nil⟩,T.cl_Shelves⟩
 refine⟨_,PSs.nox (Xac (Xbw (Xbg D_lay Xaw hr (pv 0) (Xaa (Xag D_Z22 hr (by rfl) (Xaa (Xat Xav (by rfl) T.n_len PySem.boot_len (Xaa (Xcc D_Z47 Xaw hr (pv 0)) Xae)) (Xaa (Xdq (pv 0) rfl) Xae))) Xae)))),?_⟩
 obtain⟨x,dx,a,s,fs,cs,rfl,S,m1,q⟩:=h
 obtain⟨hx,ha,hl,hz,hs,ok,mk⟩:=id S
 have cl:=T.cl_Shelves
 have na:=T.na_Shelves_room_cells
 have nb:=T.na_Shelves_shelf
 have z1:s≤s*(fs.length:Int):=by
   have:=Int.mul_le_mul_of_nonneg_left (show (1:Int)≤(fs.length:Int) by omega) (show 0≤s by omega)
   omega
 have em:(s*(fs.length:Int))%s=0:=Int.mul_emod_right _ _
 rw[←hl] at em
 walk_at "go"
 refine⟨s,x,dx,a,cs,rfl,hx,ha,fun p H1 np s1 hp=>?_⟩
 have hx1:=s1 x _ hx
 have ha1:=s1 a _ ha
 walk_at "go"
 refine⟨(cs.length:Int),s,rfl,by omega,by omega,fun h=>absurd h (by omega),fun m' _ _ e p2 H2 np2 s2 hp2=>?_⟩
 have emm:m'=fs.length:=by
   have:=Int.eq_of_mul_eq_mul_left (show s≠0 by omega) (e.symm.trans hl)
   omega
 subst emm
 have e1:=Xix hs fs.length
 have hx2:=s2 x _ hx1
 have ha2:=s2 a _ ha1
 walk_at "go"
 refine⟨s,x,p2,dx,a,cs,rep1 s fs.length,_,rfl,hx2,ha2,by omega,SqL.of hp2,by omega,Xkq hs _,fun a' H4 na4 k4 hx4 ha4=>?_⟩
 walk_at "go"
 obtain⟨r1,r2,r3⟩:=Xwn hs fs.length
 have s12:=s1.trans s2
 exact q a' H4 (s12.free na4) ((Xbi.of s12).trans k4) ⟨hx4,ha4,r1,by omega,hs,r2,r3⟩
def Xph (C CN:Addr):Sp:=fun vs H Q E=>∃(x dx a:Addr) (s c:Int) (fs:List Sf) (cs:List Int),vs=[.ref x,.int c,.int 1]∧ShS C x dx a s fs cs H∧1≤c ∧
 ((NoGr s (c+2) fs∧∀(H':Hp),Same H H'→E (.ref CN) none H') ∨
 (∃(j i:Nat) (b:List Bool) (fs1:List Sf),Gs s (c+2) fs j i b fs1∧∀(a':Addr) (cs':List Int) (H':Hp),H a'=none→Xbi x H H'→cs'.length=cs.length→fs1.length=fs.length→(∀y∈alP s 0 fs,y.v=true→∀m:Nat,Inn y m→cs'[m]?=cs[m]?)→ShS C x dx a' s (fs1.set j ⟨c+2,b.set i true⟩) cs' H'→Q (.int (s*(j:Int)+(c+2)*(i:Int)+1)) H'))
theorem XOh {f₀ T₀:Addr}{fd₀:FuncData}{tk₀:Tok}{tc₀:Value}{td₀:Option Addr}{tn₀:Nat}{ts₀:Array (Option Value)}(F:FunD K "ask" "Shelves.ask" Xio (.ref T₀) f₀ fd₀)(LT:K.lookup T₀=some ⟨tc₀,td₀,.seq [.int 1 tk₀].toArray tn₀,ts₀⟩)(M:Meth K Y3 "ask" f₀)(T:Txt K mg Y0 Y8 Y4 Y2 Y6 Y9 Y1 Y7 Y5 Y3 W0_ W1_)(D_Z3:Defx P w K mg base "check_plain_ask" 2 ["count","bound"] (Xiu))(D_Z47:Methx P w K mg base Y3 "cells" 1 ["self"] [] (Xdv Y3))(D_Z26:Defx P w K mg base "with_slot" 6 ["cells","shelf","size"] (Xwf K Y7))(D_Z21:Defx P w K mg base "free_slots" 5 ["cells","shelf","size"] (Xmg K))(D_Z51:Defx P w K mg base "laid" 2 ["cells","at","long","live"] (Xni K))(D_lay:Methx P w K mg base Y3 "lay" 5 ["self","cells"] [] (Xsv K Y3)):MethD P w K mg base Y3 "ask" 7 ["self","count","bound"] [.int 1] (Xph Y3 Y7):=by
 refine MethD.made (fd:=fd₀) ?_ M (F.bindsA LT (XLb T₀ _)) (F.bindsD LT (XDu T₀ _)) (.cons ⟨tk₀,rfl⟩ .nil) T.cl_Shelves
 refine Xne F Xnk (fun vs H Q E h=>by revert h;walk_at "len") (fun cdv A outer s H vs Q E hr h=>?_)
 refine⟨_,(Xab (Xbw (Xag D_Z3 hr (by rfl) (Xaa (pv 1) (Xaa (pv 2) Xae)))) (Xab (Xao (i:=3) Xnk.nd rfl (Or.inl rfl) (Xan Xbo (pv 1) (Xiz (v:=.int 2) (by rfl) T.g_MARKS ⟨_,rfl⟩))) (Xab (Xao (i:=4) Xnk.nd rfl (Or.inl rfl) (Xiq D_Z26 hr (by rfl) (Xaa (Xcc D_Z47 Xaw hr (pv 0)) (Xaa (Xdq (pv 0) rfl) (Xaa (pv 3) Xae))))) (Xab (Xao (i:=5) Xnk.nd rfl (Or.inl rfl) (Xbd Xba (Xag D_Z21 hr (by rfl) (Xaa (pv 4) (Xaa (Xdq (pv 0) rfl) (Xaa (pv 3) Xae)))) Xaf (fun _ _=>rfl))) (Xab (Xbw (Xbg D_lay Xaw hr (pv 0) (Xaa (Xag D_Z51 hr (by rfl) (Xaa (pv 4) (Xaa (pv 5) (Xaa (pv 3) (Xaa Xck Xae))))) Xae))) (Xac (Xai (Xan Xbo (pv 5) Xaf)))))))),?_⟩
 obtain⟨x,dx,a,s,c,fs,cs,rfl,S,hc,hq⟩:=h
 obtain⟨hx,ha,hl,hz,hs,ok,mk⟩:=id S
 have cl:=T.cl_Shelves
 have na:=T.na_Shelves_room_cells
 have nb:=T.na_Shelves_shelf
 walk_at "go"
 refine⟨c,rfl,hc,?_⟩
 walk_at "go"
 refine⟨s,x,dx,a,cs,rfl,hx,ha,fun p H1 np s1 hp=>?_⟩
 have hx1:=s1 x _ hx
 have ha1:=s1 a _ ha
 walk_at "go"
 refine⟨p,cs,s,c+2,fs,rfl,SqL.of hp,hz,hl,hs,by omega,ok,mk,?_⟩
 rcases hq with ⟨g,qe⟩ | ⟨j,i,b,fs1,G,q⟩
 · exact .inl ⟨g,fun H2 s2=>qe H2 (s1.trans s2)⟩
 refine .inr ⟨j,i,b,fs1,G,fun p2 cs2 H2 s2 hp2 hl2 ln mk2 ho2=>?_⟩
 obtain⟨pt1,_,pt3,_⟩:=G.parts hs (by omega) ok
 have W1:=G.W (by omega) ok
 have hl3:(cs2.length:Int)=s*(fs1.length:Int):=by rw[hl2,ln];exact hl
 have ch2:=Xcy hs W1 hl3
 have hw2:=Xar ch2 mk2
 have hle2:=ch2.le
 have hx2:=s2 x _ hx1
 have ha2:=s2 a _ ha1
 obtain⟨ys,esl⟩:=G.slot hs (by omega) ok mk2
 walk_at "go"
 refine⟨p2,cs2,_,s,c+2,rfl,hp2,by omega,hw2,by omega,ch2,hs,fun p3 H3 np3 s3 hp3=>?_⟩
 rw[esl,List.map_cons] at hp3
 have hp23:=s3.seq hp2
 have hx3:=s3 x _ hx2
 have ha3:=s3 a _ ha2
 obtain⟨g0,_,g4,_,mk4⟩:=Xfc (v:=true) hs W1 G.1 G.2.1 hl3 mk2
 have ok4:=G.ok (by omega) ok
 walk_at "go"
 refine Xva (SqL.of hp3) (show atI (V.int _::_) ((0:Nat):Int)=some (V.int _) from Xgn rfl) ?_
 generalize eat:s*(j:Int)+(c+2)*(i:Int)=at0 at g0 g4 mk4 q pt3
 walk_at "go"
 refine⟨p2,cs2,at0,c+2,true,rfl,hp23,by omega,g0,by omega,g4,fun p4 H4 np4 s4 hp4=>?_⟩
 have hl4:(Xcr cs2 at0 (c+2) true).length=cs.length:=by rw[Xdo];exact hl2
 have hl5:((Xcr cs2 at0 (c+2) true).length:Int)=s*((fs1.set j ⟨c+2,b.set i true⟩).length:Int):=by rw[Xdo,List.length_set];exact hl3
 have hw4:=Xar (Xcy hs (fun f hf=>(ok4 f hf).1) hl5) mk4
 walk_at "go"
 refine⟨s,x,p4,dx,a,cs,_,_,rfl,s4 x _ hx3,s4 a _ ha3,hl4,SqL.of hp4,by omega,hw4,fun a' H5 na5 k5 hx5 ha5=>?_⟩
 walk_at "go"
 have s14:=((s1.trans s2).trans s3).trans s4
 exact q a' _ H5 (s14.free na5) ((Xbi.of s14).trans k5) hl4 ln (fun y hy hv m hm=>by
   have ha:(m:Int)<at0∨at0+(c+2)≤m:=Xjd ch2 (pt1 y hy hv).1 pt3 (fun e=>by rw[e] at hv;cases hv) hm
   rw[Xce g0 (by omega) ha]
   exact ho2 y hy hv m hm) ⟨hx5,ha5,hl5,by omega,hs,ok4,mk4⟩
def Xlj (C:Addr):Sp:=fun vs H Q _=>∃(x dx a:Addr) (s n:Int) (fs:List Sf) (cs:List Int) (j i:Nat) (b:List Bool),vs=[.ref x,.int (s*(j:Int)+n*(i:Int)+1)]∧ShS C x dx a s fs cs H∧fs[j]?=some ⟨n,b⟩∧b[i]?=some true ∧
 ∀(a':Addr) (cs':List Int) (H':Hp),H a'=none→Xbi x H H'→cs'.length=cs.length→(∀y∈alP s 0 fs,y.v=true→y≠⟨s*(j:Int)+n*(i:Int),n,true⟩→∀m:Nat,Inn y m→cs'[m]?=cs[m]?)→ShS C x dx a' s (giv fs j i n b) cs' H'→Q .non H'
theorem XMv {f₀:Addr}{fd₀:FuncData}(F:Fun K "give" "Shelves.give" s_Z6 f₀ fd₀)(M:Meth K Y3 "give" f₀)(T:Txt K mg Y0 Y8 Y4 Y2 Y6 Y9 Y1 Y7 Y5 Y3 W0_ W1_)(D_Z51:Defx P w K mg base "laid" 2 ["cells","at","long","live"] (Xni K))(D_Z47:Methx P w K mg base Y3 "cells" 1 ["self"] [] (Xdv Y3))(D_Z53:Methx P w K mg base Y3 "many" 7 ["self","place"] [] (Xia Y3))(D_Z27:Defx P w K mg base "begin_of" 1 ["at","shelf"] (Xun))(D_Z29:Defx P w K mg base "has_live" 5 ["cells","begin","shelf"] (XHe K))(D_lay:Methx P w K mg base Y3 "lay" 5 ["self","cells"] [] (Xsv K Y3)):Methx P w K mg base Y3 "give" 8 ["self","place"] [] (Xlj Y3):=by
 refine⟨⟨f₀,fd₀,[],Xbx F Xvd (fun vs H Q E h=>by revert h;walk_at "len") (fun cdv A outer s H vs Q E hr h=>?_),M,F.binds XOk,.nil⟩,T.cl_Shelves⟩
 refine⟨_,PSs.nox (Xab (Xao (i:=2) Xvd.nd rfl (Or.inl rfl) (Xag D_Z51 hr (by rfl) (Xaa (Xcc D_Z47 Xaw hr (pv 0)) (Xaa (Xan Xdf (pv 1) Xaf) (Xaa (Xan Xbo (Xbg D_Z53 Xaw hr (pv 0) (Xaa (pv 1) Xae)) (Xiz (v:=.int 2) (by rfl) T.g_MARKS ⟨_,rfl⟩)) (Xaa Xck Xae)))))) (Xab (Xao (i:=3) Xvd.nd rfl (Or.inl rfl) (Xag D_Z27 hr (by rfl) (Xaa (Xan Xdf (pv 1) Xaf) (Xaa (Xdq (pv 0) rfl) Xae)))) (Xab (Xbc (Xbu (Xdz (Xag D_Z29 hr (by rfl) (Xaa (pv 2) (Xaa (pv 3) (Xaa (Xdq (pv 0) rfl) Xae)))))) (Xac (Xao (i:=2) Xvd.nd rfl (Or.inl rfl) (Xag D_Z51 hr (by rfl) (Xaa (pv 2) (Xaa (pv 3) (Xaa (Xdq (pv 0) rfl) (Xaa Xck Xae))))))) Xal) (Xac (Xbw (Xbg D_lay Xaw hr (pv 0) (Xaa (pv 2) Xae))))))),?_⟩
 obtain⟨x,dx,a,s,n,fs,cs,j,i,b,rfl,S,hj,hi,q⟩:=h
 obtain⟨hx,ha,hl,hz,hs,ok,mk⟩:=id S
 have cl:=T.cl_Shelves
 have na:=T.na_Shelves_room_cells
 have nb:=T.na_Shelves_shelf
 have ch:=S.ch
 have hw:=Xar ch mk
 have W:∀f∈fs,SfW s f:=fun f hf=>(ok f hf).1
 have hib:i<b.length:=(List.getElem?_eq_some_iff.mp hi).1
 obtain⟨g0,g3,g4,gm,mk3⟩:=Xfc (v:=false) hs W hj hi hl mk
 obtain⟨w0,w4,_⟩:=Xkn hs W hj hl mk
 have hfl:=(Xrs hs W hj hi).2.2.1
 have gp3:=(Xgm hs ok hj hi).2.2
 generalize eat:s*(j:Int)+n*(i:Int)=at0 at g0 g4 gm mk3 hfl q gp3
 have ho1:∀y∈alP s 0 fs,y.v=true→y≠⟨at0,n,true⟩→∀m:Nat,Inn y m→(Xcr cs at0 n false)[m]?=cs[m]?:=fun y hy hv hne m hm=>Xce g0 (by omega) (show (m:Int)<at0∨at0+n≤m from Xjd ch hy gm hne hm)
 walk_at "go"
 refine⟨s,x,dx,a,cs,rfl,hx,ha,fun p H1 np s1 hp=>?_⟩
 have hx1:=s1 x _ hx
 have ha1:=s1 a _ ha
 walk_at "go"
 refine⟨s,x,dx,a,cs,_,⟨at0,n,true⟩,rfl,hx1,ha1,by omega,hw,ch,gm,rfl,fun H2 s2=>?_⟩
 have hx2:=s2 x _ hx1
 have ha2:=s2 a _ ha1
 have hp2:=s2 p _ hp
 walk_at "go"
 refine⟨p,cs,at0+1-1,n-2+2,false,rfl,SqL.of hp2,by omega,by omega,by omega,by omega,fun p3 H3 np3 s3 hp3=>?_⟩
 rw[show at0+1-1=at0 by omega,show n-2+2=n by omega] at hp3
 have hx3:=s3 x _ hx2
 have ha3:=s3 a _ ha2
 walk_at "go"
 refine⟨at0+1-1,s,rfl,hs,?_⟩
 rw[show at0+1-1=at0 by omega,hfl]
 walk_at "go"
 have hl3:(Xcr cs at0 n false).length=cs.length:=Xdo _ _ _ _
 have hl4:((Xcr cs at0 n false).length:Int)=s*((fs.set j ⟨n,b.set i false⟩).length:Int):=by rw[hl3,List.length_set];exact hl
 have W3:∀f∈fs.set j ⟨n,b.set i false⟩,SfW s f:=XKj W (Xjk (W _ (List.mem_of_getElem? hj)) hib)
 have ch3:=Xcy hs W3 hl4
 have hw3:=Xar ch3 mk3
 have hle3:=ch3.le
 have hj3:(fs.set j ⟨n,b.set i false⟩)[j]?=some ⟨n,b.set i false⟩:=List.getElem?_set_self (List.getElem?_eq_some_iff.mp hj).1
 have hany:=XAh hs W3 hj3
 have gok:=Xwg ok hj hib
 have glen:=Xlv fs j i n b
 refine⟨p3,_,_,s*(j:Int),s,rfl,SqL.of hp3,by omega,hw3,by omega,hs,fun H4 s4=>?_⟩
 rw[hany]
 have hp4:=s4 p3 _ hp3
 have hx4:=s4 x _ hx3
 have ha4:=s4 a _ ha3
 have s14:=((s1.trans s2).trans s3).trans s4
 cases hb:(b.set i false).any id with
 | true =>
   have eg:giv fs j i n b=fs.set j ⟨n,b.set i false⟩:=by unfold giv;rw[if_pos hb]
   rw[eg] at gok q
   walk_at "go"
   refine⟨s,x,p3,dx,a,cs,_,_,rfl,hx4,ha4,hl3,SqL.of hp4,by omega,hw3,fun a' H6 na6 k6 hx6 ha6=>?_⟩
   walk_at "go"
   exact q a' _ H6 (s14.free na6) ((Xbi.of s14).trans k6) hl3 ho1 ⟨hx6,ha6,hl4,by omega,hs,gok,mk3⟩
 | false =>
   have eg:giv fs j i n b=fs.set j ⟨0,[]⟩:=by unfold giv;rw[if_neg (by rw[hb];exact Bool.false_ne_true)]
   rw[eg] at gok q
   obtain⟨_,w5,mk5⟩:=Xkn hs W3 hj3 hl4 mk3
   rw[List.set_set] at mk5
   walk_at "go"
   refine⟨p3,_,s*(j:Int),s,false,rfl,SqL.of hp4,by omega,w0,hs,w5,fun p5 H5 np5 s5 hp5=>?_⟩
   have hl5:(Xcr (Xcr cs at0 n false) (s*(j:Int)) s false).length=cs.length:=by rw[Xdo];exact hl3
   have hl6:((Xcr (Xcr cs at0 n false) (s*(j:Int)) s false).length:Int)=s*((fs.set j ⟨0,[]⟩).length:Int):=by rw[hl5,List.length_set];exact hl
   have hw5:=Xar (Xcy hs (fun f hf=>(gok f hf).1) hl6) mk5
   have hx5:=s5 x _ hx4
   have ha5:=s5 a _ ha4
   walk_at "go"
   refine⟨s,x,p5,dx,a,cs,_,_,rfl,hx5,ha5,hl5,SqL.of hp5,by omega,hw5,fun a' H6 na6 k6 hx6 ha6=>?_⟩
   walk_at "go"
   have s15:=s14.trans s5
   exact q a' _ H6 (s15.free na6) ((Xbi.of s15).trans k6) hl5 (fun y hy hv hne m hm=>by
     have:=gp3 hb y hy hv hne
     rw[Xce w0 hs (by obtain⟨m1,m2⟩:=hm;omega)]
     exact ho1 y hy hv hne m hm) ⟨hx6,ha6,hl6,by omega,hs,gok,mk5⟩
theorem Gs.keep {s k n:Int}{fs fs1:List Sf}{j i j2 i2:Nat}{b b2:List Bool}(g:Gs s k fs j2 i2 b2 fs1)(ok:∀f∈fs,SfOk s f)(hj:fs[j]?=some ⟨n,b⟩)(hi:b[i]?=some true)(hn:n≠k):j≠j2∧fs1[j]?=some ⟨n,b⟩:=by
 obtain⟨g1,_,_,_,e | ⟨_,_,_,_,⟨f0,c8,c9⟩,_,e⟩⟩:=g
 · rw[e] at g1 ⊢
   refine⟨fun w=>?_,hj⟩
   rw[←w,hj] at g1
   have:=Option.some.inj g1
   exact hn (congrArg Sf.n this)
 · have hne:j≠j2:=fun w=>by
     rw[←w,hj] at c8
     have e0:=Option.some.inj c8
     rw[←e0] at c9
     have c9:n=0:=c9
     rcases(ok _ (List.mem_of_getElem? hj)).1 with ⟨_,e2⟩ | ⟨h3,_⟩
     · have e2:b=[]:=e2
       rw[e2] at hi
       simp at hi
     · have h3:3≤n:=h3
       omega
   rw[e,List.getElem?_set_ne (Ne.symm hne)]
   exact⟨hne,hj⟩
def Xna (C CN:Addr):Sp:=fun vs H Q E=>∃(x dx a:Addr) (s n c:Int) (fs:List Sf) (cs:List Int) (j i:Nat) (b:List Bool),vs=[.ref x,.int (s*(j:Int)+n*(i:Int)+1),.int c,.int 1]∧ShS C x dx a s fs cs H∧fs[j]?=some ⟨n,b⟩∧b[i]?=some true∧1≤c∧n-2<c ∧
 ((NoGr s (c+2) fs∧∀(H':Hp),Same H H'→E (.ref CN) none H') ∨
 (∃(j2 i2:Nat) (b2:List Bool) (fs1:List Sf),Gs s (c+2) fs j2 i2 b2 fs1∧∀(a':Addr) (cs':List Int) (H':Hp),H a'=none→Xbi x H H'→cs'.length=cs.length→fs1.length=fs.length→(∀y∈alP s 0 fs,y.v=true→y≠⟨s*(j:Int)+n*(i:Int),n,true⟩→∀m:Nat,Inn y m→cs'[m]?=cs[m]?)→(∀m:Nat,(m:Int)<n-2→cs'[(s*(j2:Int)+(c+2)*(i2:Int)+1).toNat+m]?=cs[(s*(j:Int)+n*(i:Int)+1).toNat+m]?)→ShS C x dx a' s (giv (fs1.set j2 ⟨c+2,b2.set i2 true⟩) j i n b) cs' H'→Q (.int (s*(j2:Int)+(c+2)*(i2:Int)+1)) H'))
theorem XLm {f₀:Addr}{fd₀:FuncData}(F:Fun K "room_moved" "Keeper.room_moved" s_Z1 f₀ fd₀)(M:Meth K Y3 "room_moved" f₀)(T:Txt K mg Y0 Y8 Y4 Y2 Y6 Y9 Y1 Y7 Y5 Y3 W0_ W1_)(D_ask:MethD P w K mg base Y3 "ask" 7 ["self","count","bound"] [.int 1] (Xph Y3 Y7))(D_Z39:Defx P w K mg base "carried" 1 ["cells","source","goal","count"] (Xpz K))(D_Z53:Methx P w K mg base Y3 "many" 7 ["self","place"] [] (Xia Y3))(D_Z52:Methx P w K mg base Y3 "give" 8 ["self","place"] [] (Xlj Y3)):Methx P w K mg base Y3 "room_moved" 9 ["self","place","count","bound"] [] (Xna Y3 Y7):=by
 refine⟨⟨f₀,fd₀,[],Xbx F XFv (fun vs H Q E h=>by revert h;walk_at "len") (fun cdv A outer s H vs Q E hr h=>?_),M,F.binds XLu,.nil⟩,T.cl_Shelves⟩
 refine⟨_,(Xab (Xao (i:=4) XFv.nd rfl (Or.inl rfl) (Xbg D_ask.all Xqi hr (pv 0) (Xaa (pv 2) (Xaa (pv 3) Xae)))) (Xab (Xmz (pv 0) (Xag D_Z39 hr (by rfl) (Xaa (Xdq (pv 0) rfl) (Xaa (pv 1) (Xaa (pv 4) (Xaa (Xat (Xju rfl) (by rfl) T.n_min PyProof.Rows.boot_min (Xaa (Xbg D_Z53 Xaw hr (pv 0) (Xaa (pv 1) Xae)) (Xaa (pv 2) Xae))) Xae))))) rfl) (Xab (Xbw (Xbg D_Z52 Xaw hr (pv 0) (Xaa (pv 1) Xae))) (Xac (Xai (pv 4)))))),?_⟩
 obtain⟨x,dx,a,s,n,c,fs,cs,j,i,b,rfl,S,hj,hi,hc,hnc,hq⟩:=h
 have hx:=S.hx
 have cl:=T.cl_Shelves
 have na:=T.na_Shelves_room_cells
 have nb:=T.na_Shelves_shelf
 walk_at "go"
 rcases hq with ⟨g,qe⟩ | ⟨j2,i2,b2,fs1,G,q⟩
 · exact⟨x,dx,a,s,c,fs,cs,rfl,S,hc,.inl ⟨g,qe⟩⟩
 refine⟨x,dx,a,s,c,fs,cs,rfl,S,hc,.inr ⟨j2,i2,b2,fs1,G,fun a1 cs1 H1 na1 k1 l1 ln ho1 S1=>?_⟩⟩
 obtain⟨pt1,_,pt3,_⟩:=G.parts S.hs (by omega) S.ok
 have hold:=Xbv S.hs (fun f hf=>(S.ok f hf).1) hj hi
 have ch1:=Xcy (cs:=cs1) S.hs (G.W (by omega) S.ok) (by rw[l1,ln];exact S.hl)
 have n3:=(Xaz S.hs (fun f hf=>(S.ok f hf).1) hj hi).2.2.2
 obtain⟨hne,hj1⟩:=G.keep S.ok hj hi (by omega)
 have hj2:(fs1.set j2 ⟨c+2,b2.set i2 true⟩)[j]?=some ⟨n,b⟩:=by rw[List.getElem?_set_ne (Ne.symm hne)];exact hj1
 have hg2:(fs1.set j2 ⟨c+2,b2.set i2 true⟩)[j2]?=some ⟨c+2,b2.set i2 true⟩:=List.getElem?_set_self (List.getElem?_eq_some_iff.mp G.1).1
 have hgi:(b2.set i2 true)[i2]?=some true:=List.getElem?_set_self (List.getElem?_eq_some_iff.mp G.2.1).1
 have W1:∀f∈fs1.set j2 ⟨c+2,b2.set i2 true⟩,SfW s f:=fun f hf=>(S1.ok f hf).1
 obtain⟨p0,p3,p4,pm,_⟩:=Xfc (v:=true) S1.hs W1 hj2 hi S1.hl S1.mm
 obtain⟨t0,t3,t4,tm,_⟩:=Xfc (v:=true) S1.hs W1 hg2 hgi S1.hl S1.mm
 have hx1:=S1.hx
 have ha1:=S1.ha
 have hw1:=Xar S1.ch S1.mm
 have hz1:=S1.hz
 generalize ep:s*(j:Int)+n*(i:Int)=pl at p0 p4 pm hold q
 generalize et:s*(j2:Int)+(c+2)*(i2:Int)=go at t0 t4 tm q pt3
 walk_at "go"
 refine⟨s,x,dx,a1,cs1,_,⟨pl,n,true⟩,rfl,hx1,ha1,by omega,hw1,S1.ch,pm,rfl,fun H2 s2=>?_⟩
 have S2:=S1.same s2
 have hx2:=S2.hx
 have ha2:=S2.ha
 have emn:(if c<n-2 then c else n-2)=n-2:=by omega
 walk_at "go"
 first | rw[emn] | skip
 walk_at "go"
 refine⟨a1,cs1,pl+1,go+1,n-2,rfl,SqL.of ha2,hz1,by omega,by omega,by omega,by omega,by omega,fun p H3 np s3 hp=>?_⟩
 have hx3:=s3 x _ hx2
 have hpx:p≠x:=fun w=>by rw[w,hx2] at np;cases np
 have mc:=Xlt (cs:=cs1) (s:=(pl+1).toNat) (c:=(n-2).toNat) S1.ch rfl S1.mm tm rfl (by omega) (by show ((n-2).toNat:Int)≤c+2-2;omega)
 have cl3:(carI cs1 (pl+1).toNat (go+1).toNat (n-2).toNat).length=cs1.length:=Xtk (by omega) (by omega)
 walk_at "go"
 have S4:ShS Y3 x dx p s (fs1.set j2 ⟨c+2,b2.set i2 true⟩) (carI cs1 (pl+1).toNat (go+1).toNat (n-2).toNat) (upd H3 x (.ins Y3 dx (putF "room_cells" (.ref p) [("room_cells",.ref a1),("shelf",.int s)]))):=⟨upd_same,look_ne hpx hp,by rw[cl3];exact S1.hl,by omega,S1.hs,S1.ok,mc⟩
 have k4:Xbi x H (upd H3 x (.ins Y3 dx (putF "room_cells" (.ref p) [("room_cells",.ref a1),("shelf",.int s)]))):=(k1.trans (Xbi.of (s2.trans s3))).put
 generalize upd H3 x (.ins Y3 dx (putF "room_cells" (.ref p) [("room_cells",.ref a1),("shelf",.int s)]))=H4 at S4 k4 ⊢
 have hx4:=S4.hx
 have fr4:∀d,H4 d=none→H d=none:=fun d hd=>by
   cases hH:H d with
   | none=>rfl
   | some o =>
     have hdx:d≠x:=fun w=>by rw[w,hx4] at hd;cases hd
     rw[k4 d o hdx hH] at hd
     cases hd
 walk_at "go"
 refine⟨x,dx,p,s,n,fs1.set j2 ⟨c+2,b2.set i2 true⟩,_,j,i,b,by rw[ep],S4,hj2,hi,fun a5 cs5 H5 na5 k5 l5 ho5 S5=>?_⟩
 walk_at "go"
 rw[ep] at ho5
 refine q a5 cs5 H5 (fr4 a5 na5) (k4.trans k5) (by omega) ln (fun y hy hv hne m hm=>?_) (fun m hm=>?_) S5
 · have hy2:=(pt1 y hy hv).2
   have hng:y≠⟨go,c+2,true⟩:=fun e=>by
     have:=Xbt ch1 (pt1 y hy hv).1 pt3 (by rw[e])
     rw[this] at hv
     cases hv
   have ha:(m:Int)<go∨go+(c+2)≤m:=Xjd S1.ch hy2 tm hng hm
   rw[ho5 y hy2 hv hne m hm,Xuo (by omega) (by omega) (by omega)]
   exact ho1 y hy hv m hm
 · have h5:=ho5 _ tm rfl (fun e=>by have:=(Pc.mk.inj e).2.1;omega) ((go+1).toNat+m) ⟨by show go+1≤_;omega,by show _<go+(c+2)-1;omega⟩
   rw[h5,XCo (by omega) (by omega) (by omega)]
   exact ho1 _ hold rfl _ ⟨by show pl+1≤_;omega,by show _<pl+n-1;omega⟩
def Xrt (C CN:Addr):Sp:=fun vs H Q E=>∃(x dx a:Addr) (s n c:Int) (fs:List Sf) (cs:List Int) (j i:Nat) (b:List Bool),vs=[.ref x,.int (s*(j:Int)+n*(i:Int)+1),.int c,.int 1]∧ShS C x dx a s fs cs H∧fs[j]?=some ⟨n,b⟩∧b[i]?=some true∧1≤c ∧
 (c≤n-2→∀(H':Hp),Same H H'→Q (.int (s*(j:Int)+n*(i:Int)+1)) H') ∧
 (n-2<c→((NoGr s (c+2) fs∧∀(H':Hp),Same H H'→E (.ref CN) none H') ∨
 (∃(j2 i2:Nat) (b2:List Bool) (fs1:List Sf),Gs s (c+2) fs j2 i2 b2 fs1∧∀(a':Addr) (cs':List Int) (H':Hp),H a'=none→Xbi x H H'→cs'.length=cs.length→fs1.length=fs.length→(∀y∈alP s 0 fs,y.v=true→y≠⟨s*(j:Int)+n*(i:Int),n,true⟩→∀m:Nat,Inn y m→cs'[m]?=cs[m]?)→(∀m:Nat,(m:Int)<n-2→cs'[(s*(j2:Int)+(c+2)*(i2:Int)+1).toNat+m]?=cs[(s*(j:Int)+n*(i:Int)+1).toNat+m]?)→ShS C x dx a' s (giv (fs1.set j2 ⟨c+2,b2.set i2 true⟩) j i n b) cs' H'→Q (.int (s*(j2:Int)+(c+2)*(i2:Int)+1)) H')))
theorem XNg {f₀ T₀:Addr}{fd₀:FuncData}{tk₀:Tok}{tc₀:Value}{td₀:Option Addr}{tn₀:Nat}{ts₀:Array (Option Value)}(F:FunD K "grow" "Keeper.grow" Xii (.ref T₀) f₀ fd₀)(LT:K.lookup T₀=some ⟨tc₀,td₀,.seq [.int 1 tk₀].toArray tn₀,ts₀⟩)(M:Meth K Y3 "grow" f₀)(T:Txt K mg Y0 Y8 Y4 Y2 Y6 Y9 Y1 Y7 Y5 Y3 W0_ W1_)(D_Z53:Methx P w K mg base Y3 "many" 7 ["self","place"] [] (Xia Y3))(D_Z3:Defx P w K mg base "check_plain_ask" 2 ["count","bound"] (Xiu))(D_Z20:Methx P w K mg base Y3 "room_moved" 9 ["self","place","count","bound"] [] (Xna Y3 Y7)):MethD P w K mg base Y3 "grow" 10 ["self","place","count","bound"] [.int 1] (Xrt Y3 Y7):=by
 refine MethD.made (fd:=fd₀) ?_ M (F.bindsA LT (XFp T₀ _)) (F.bindsD LT (XDo T₀ _)) (.cons ⟨tk₀,rfl⟩ .nil) T.cl_Shelves
 refine Xne F Xww (fun vs H Q E h=>by revert h;walk_at "len") (fun cdv A outer s H vs Q E hr h=>?_)
 refine⟨_,(Xab (Xao (i:=4) Xww.nd rfl (Or.inl rfl) (Xbg D_Z53 Xaw hr (pv 0) (Xaa (pv 1) Xae))) (Xab (Xbw (Xag D_Z3 hr (by rfl) (Xaa (pv 2) (Xaa (pv 3) Xae)))) (Xab (Xbc (Xaj Xyn (pv 4) (pv 2) (Xam _)) (Xac (Xai (pv 1))) Xal) (Xac (Xai (Xbg D_Z20 Xqi hr (pv 0) (Xaa (pv 1) (Xaa (pv 2) (Xaa (pv 3) Xae))))))))),?_⟩
 obtain⟨x,dx,a,s,n,c,fs,cs,j,i,b,rfl,S,hj,hi,hc,q1,q2⟩:=h
 have W:∀f∈fs,SfW s f:=fun f hf=>(S.ok f hf).1
 obtain⟨p0,p3,p4,pm,_⟩:=Xfc (v:=true) S.hs W hj hi S.hl S.mm
 have hx:=S.hx
 have ha:=S.ha
 have hw:=Xar S.ch S.mm
 have hz:=S.hz
 generalize ep:s*(j:Int)+n*(i:Int)=pl at p0 p4 pm q1
 walk_at "go"
 refine⟨s,x,dx,a,cs,_,⟨pl,n,true⟩,rfl,hx,ha,by omega,hw,S.ch,pm,rfl,fun H1 s1=>?_⟩
 have S1:=S.same s1
 have hx1:=S1.hx
 walk_at "go"
 refine⟨c,rfl,hc,?_⟩
 walk_at "go"
 refine Xby (fun h3=>?_) (fun h3=>?_)
 · dsimp only at h3
   walk_at "go"
   exact q1 (by omega) H1 s1
 · dsimp only at h3
   walk_at "go"
   refine⟨x,dx,a,s,n,c,fs,cs,j,i,b,by rw[ep],S1,hj,hi,hc,by omega,?_⟩
   rcases q2 (by omega) with ⟨g,qe⟩ | ⟨j2,i2,b2,fs1,G,q⟩
   · exact .inl ⟨g,fun H2 s2=>qe H2 (s1.trans s2)⟩
   · exact .inr ⟨j2,i2,b2,fs1,G,fun a' cs' H2 na2 k2 l2 ln o2 w2 S2=>q a' cs' H2 (s1.free na2) ((Xbi.of s1).trans k2) l2 ln o2 w2 S2⟩
theorem Xnr {cs:List Int}{ps:List Pc}{z:Pc}{n x k:Int}(c:Xaq 0 ps n)(m:Xbb cs ps)(hz:z∈ps)(hv:z.v=true)(k0:0≤k)(k1:k<z.l-2):Xbb (cs.set (z.a+1+k).toNat x) ps:=fun p hp=>by
 obtain⟨z0,z1,z3,z4⟩:=c.mem z hz
 obtain⟨p0,p1,p3,p4⟩:=c.mem p hp
 obtain⟨m1,m2⟩:=m p hp
 have far:p.a≠z.a+1+k∧p.a+p.l-1≠z.a+1+k:=by
   by_cases e:p=z
   · subst e;omega
   · constructor
     · intro h
       exact e (Xcj c hp hz (Int.le_refl _) (by omega) (by omega) (by omega))
     · intro h
       exact e (Xcj c hp hz (p:=p.a+p.l-1) (by omega) (by omega) (by omega) (by omega))
 exact⟨by rw[List.getElem?_set_ne (by omega)];exact m1,by rw[List.getElem?_set_ne (by omega)];exact m2⟩
def Xgp (C:Addr):Sp:=fun vs H Q _=>∃(x dx a:Addr) (s:Int) (fs:List Sf) (cs:List Int) (z:Pc) (j:Int),vs=[.ref x,.int (z.a+1),.int j]∧ShS C x dx a s fs cs H∧z∈alP s 0 fs∧z.v=true∧0≤j∧j<z.l-2 ∧
 ∀(H':Hp),Same H H'→Q (.int (z.a+1+j)) H'
theorem XNb {f₀:Addr}{fd₀:FuncData}(F:Fun K "room_cell_of" "Keeper.room_cell_of" s_Z0 f₀ fd₀)(M:Meth K Y3 "room_cell_of" f₀)(T:Txt K mg Y0 Y8 Y4 Y2 Y6 Y9 Y1 Y7 Y5 Y3 W0_ W1_)(D_Z53:Methx P w K mg base Y3 "many" 7 ["self","place"] [] (Xia Y3)):Methx P w K mg base Y3 "room_cell_of" 8 ["self","place","k"] [] (Xgp Y3):=by
 refine⟨⟨f₀,fd₀,[],Xbx F XJu (fun vs H Q E h=>by revert h;walk_at "len") (fun cdv A outer s H vs Q E hr h=>?_),M,F.binds XOg,.nil⟩,T.cl_Shelves⟩
 refine⟨_,PSs.nox (Xab (Xao (i:=3) XJu.nd rfl (Or.inl rfl) (Xbg D_Z53 Xaw hr (pv 0) (Xaa (pv 1) Xae))) (Xab (Xbc (PW.pt (Xeb (Xaj Xeg (pv 2) Xaf (Xam _)) (Xda (Xaj Xyn (pv 2) (pv 3) (Xam _))))) (Xac Xge) Xal) (Xac (Xai (Xan Xbo (pv 1) (pv 2)))))),?_⟩
 obtain⟨x,dx,a,s,fs,cs,z,j,rfl,S,hm,hv,k0,k1,q⟩:=h
 have hx:=S.hx
 have hz:=S.hz
 walk_at "go"
 refine⟨s,x,dx,a,cs,_,z,rfl,hx,S.ha,by omega,Xar S.ch S.mm,S.ch,hm,hv,fun H1 s1=>?_⟩
 walk_at "go"
 exact q H1 s1
def Xwe (C:Addr):Sp:=fun vs H Q _=>∃(x dx a:Addr) (s:Int) (fs:List Sf) (cs:List Int) (z:Pc) (j n:Int),vs=[.ref x,.int (z.a+1),.int j,.int n]∧ShS C x dx a s fs cs H∧z∈alP s 0 fs∧z.v=true∧0≤j∧j<z.l-2 ∧
 ∀(H':Hp),Xbi a H H'→ShS C x dx a s fs (cs.set (z.a+1+j).toNat n) H'→Q .non H'
theorem XNn {f₀:Addr}{fd₀:FuncData}(F:Fun K "put" "Keeper.put" Xvb f₀ fd₀)(M:Meth K Y3 "put" f₀)(T:Txt K mg Y0 Y8 Y4 Y2 Y6 Y9 Y1 Y7 Y5 Y3 W0_ W1_)(D_Z10:Methx P w K mg base Y3 "room_cell_of" 8 ["self","place","k"] [] (Xgp Y3)):Methx P w K mg base Y3 "put" 9 ["self","place","k","number"] [] (Xwe Y3):=by
 refine⟨⟨f₀,fd₀,[],Xbx F Xwb (fun vs H Q E h=>by revert h;walk_at "len") (fun cdv A outer s H vs Q E hr h=>?_),M,F.binds XCt,.nil⟩,T.cl_Shelves⟩
 refine⟨_,PSs.nox (Xab (Xao (i:=4) Xwb.nd rfl (Or.inl rfl) (Xbg D_Z10 Xaw hr (pv 0) (Xaa (pv 1) (Xaa (pv 2) Xae)))) (Xac (Xhx (pv 3) (Xkt (Xdq (pv 0) rfl) (pv 4) Xfj)))),?_⟩
 obtain⟨x,dx,a,s,fs,cs,z,j,n,rfl,S,hm,hv,k0,k1,q⟩:=h
 have hx:=S.hx
 have cl:=T.cl_Shelves
 have na:=T.na_Shelves_room_cells
 have nb:=T.na_Shelves_shelf
 have hz:=S.hz
 obtain⟨z0,z1,z3,z4⟩:=S.ch.mem z hm
 walk_at "go"
 refine⟨x,dx,a,s,fs,cs,z,j,rfl,S,hm,hv,k0,k1,fun H1 s1=>?_⟩
 have hx1:=s1 x _ hx
 have ha1:=s1 a _ S.ha
 have hxa:x≠a:=fun e=>by rw[e,ha1] at hx1;cases hx1
 have ls:(cs.set (z.a+1+j).toNat n).length=cs.length:=List.length_set
 walk_at "go"
 exact q _ (Xbi.of s1).put ⟨look_ne hxa hx1,upd_same,by rw[ls];exact S.hl,by rw[ls];exact S.hz,S.hs,S.ok,Xnr S.ch S.mm hm hv k0 k1⟩
def Xvt (C:Addr):Sp:=fun vs H Q _=>∃(x dx a:Addr) (s:Int) (fs:List Sf) (cs:List Int) (z:Pc) (j:Int),vs=[.ref x,.int (z.a+1),.int j]∧ShS C x dx a s fs cs H∧z∈alP s 0 fs∧z.v=true∧0≤j∧j<z.l-2 ∧
 ∀(H':Hp),Same H H'→Q (.int (cs.getD (z.a+1+j).toNat 0)) H'
theorem XMc {f₀:Addr}{fd₀:FuncData}(F:Fun K "get" "Keeper.get" Xuh f₀ fd₀)(M:Meth K Y3 "get" f₀)(T:Txt K mg Y0 Y8 Y4 Y2 Y6 Y9 Y1 Y7 Y5 Y3 W0_ W1_)(D_Z10:Methx P w K mg base Y3 "room_cell_of" 8 ["self","place","k"] [] (Xgp Y3)):Methx P w K mg base Y3 "get" 9 ["self","place","k"] [] (Xvt Y3):=by
 refine⟨⟨f₀,fd₀,[],Xbx F XCr (fun vs H Q E h=>by revert h;walk_at "len") (fun cdv A outer s H vs Q E hr h=>?_),M,F.binds XFb,.nil⟩,T.cl_Shelves⟩
 refine⟨_,PSs.nox (Xac (Xai (Xbd Xba (Xdq (pv 0) rfl) (Xbg D_Z10 Xaw hr (pv 0) (Xaa (pv 1) (Xaa (pv 2) Xae))) (fun _ _=>rfl)))),?_⟩
 obtain⟨x,dx,a,s,fs,cs,z,j,rfl,S,hm,hv,k0,k1,q⟩:=h
 have hx:=S.hx
 have cl:=T.cl_Shelves
 have na:=T.na_Shelves_room_cells
 have nb:=T.na_Shelves_shelf
 have hz:=S.hz
 obtain⟨z0,z1,z3,z4⟩:=S.ch.mem z hm
 walk_at "go"
 refine⟨x,dx,a,s,fs,cs,z,j,rfl,S,hm,hv,k0,k1,fun H1 s1=>?_⟩
 have hx1:=s1 x _ hx
 have ha1:=s1 a _ S.ha
 walk_at "go"
 exact q _ s1
theorem XNq (S:Src K mg "_law_cell_at" Xrb)(T:Txt K mg Y0 Y8 Y4 Y2 Y6 Y9 Y1 Y7 Y5 Y3 W0_ W1_) :Defx P w K mg base "_law_cell_at" 1 ["_law_script","_law_k"] (Xsq K):=by
 refine S.okx XHx XCw (fun vs H Q E h=>by revert h;walk_at "len") (fun f cdv A outer s H vs Q E hr h=>?_)
 refine⟨_,PSs.nox (Xab (Xbc (Xaj Xeg (pv 1) (Xat Xav (by rfl) T.n_len PySem.boot_len (Xaa (pv 0) Xae)) (Xam _)) (Xac (Xai (Xbd Xba (pv 0) (pv 1) (fun _ _=>rfl)))) Xal) (Xac (Xai Xaf))),?_⟩
 obtain⟨a,ns,k,rfl,hS,h0,q⟩:=h
 walk_at "go"
 refine Xby (fun hc=>?_) (fun hc=>?_)
 · walk_at "go"
   exact q
 · walk_at "go"
   have e:ns.getD k.toNat 0=0:=by
     rw[List.getD_eq_getElem?_getD,List.getElem?_eq_none (by omega)]
     rfl
   rw[e] at q
   exact q
theorem XMl (S:Src K mg "_law_whole" Xsl)(T:Txt K mg Y0 Y8 Y4 Y2 Y6 Y9 Y1 Y7 Y5 Y3 W0_ W1_) :Defx P w K mg base "_law_whole" 1 ["_law_found"] (Xew):=by
 refine S.okx XKx XIq (fun vs H Q E h=>by revert h;walk_at "len") (fun f cdv A outer s H vs Q E hr h=>?_)
 refine⟨_,PSs.nox (Xac (Xai (Xkj (Xat Xil (by rfl) T.n_isinstance PyProof.Rows.boot_isinstance (Xaa (pv 0) (Xaa (Xmf (v:=.ty "int") (by rfl) T.n_int PyProof.Rows.boot_int rfl) Xae))) (Xkv (Xnn (Xat Xil (by rfl) T.n_isinstance PyProof.Rows.boot_isinstance (Xaa (pv 0) (Xaa (Xmf (v:=.ty "bool") (by rfl) T.n_bool PyProof.Rows.boot_bool rfl) Xae)))))))),?_⟩
 obtain⟨n,rfl,q⟩:=h
 walk_at "go"
 exact q
def Xoo (K:PySem.W.Frag):Sp:=fun vs H Q _=>∃(r:Addr) (cs:List Int) (ps:List Pc),vs=[.ref r]∧H r=some (.lst (cs.map V.int))∧Xaq 0 ps cs.length∧Xbb cs ps∧cs.length≤1200∧∀(p:Addr) (us:List V) (H':Hp),H p=none→Same H H'→H' p=some (.lst us)→Xbk H' us ps→Q (.ref p) H'
def WkW (r p:Addr)(n:Int)(ps:List Pc)(H:Hp)(m:Nat)(σ:L2.St)(H':Hp):Prop :=
 ∃(ds rs:List Pc) (us:List V) (k:Int) (x3 x4:Option V),σ=[some (.ref r),some (.ref p),some (.int k),x3,x4]∧m=(n-k).toNat∧ps=ds++rs∧Xaq 0 ds k∧Xaq k rs n∧Same H H'∧H' p=some (.lst us)∧Xbk H' us ds
theorem XOn (S:Src K mg "_law_walk" Xqx)(T:Txt K mg Y0 Y8 Y4 Y2 Y6 Y9 Y1 Y7 Y5 Y3 W0_ W1_)(D_Z32:Defx P w K mg base "_law_whole" 1 ["_law_found"] (Xew)):Defx P w K mg base "_law_walk" 2 ["_law_cells"] (Xoo K):=by
 refine S.okx Xhy XEa (fun vs H Q E h=>by revert h;walk_at "len") (fun f cdv A outer s H vs Q E hr h=>?_)
 refine⟨_,PSs.nox (Xab (Xbc (Xbu (Xdz (Xat Xil (by rfl) T.n_isinstance PyProof.Rows.boot_isinstance (Xaa (pv 0) (Xaa (Xmf (v:=.ty "list") (by rfl) T.n_list PyProof.Rows.boot_list rfl) Xae))))) (Xac (Xai Xcm)) Xal) (Xab (Xao (i:=1) Xhy.nd rfl (Or.inl rfl) (Xgx Xae)) (Xab (Xao (i:=2) Xhy.nd rfl (Or.inl rfl) Xaf) (Xab (Xnc PassesOwn.never (Xaj Xeg (pv 2) (Xat Xav (by rfl) T.n_len PySem.boot_len (Xaa (pv 0) Xae)) (Xam _)) (Xab (Xbc (Xbu (Xdz (Xag D_Z32 hr (by rfl) (Xaa (Xbd Xba (pv 0) (pv 2) (fun _ _=>rfl)) Xae)))) (Xac (Xai Xcm)) Xal) (Xab (Xao (i:=3) Xhy.nd rfl (Or.inl rfl) (Xan Xdw (Xbd Xba (pv 0) (pv 2) (fun _ _=>rfl)) Xaf)) (Xab (Xao (i:=4) Xhy.nd rfl (Or.inl rfl) (Xcv Xed (Xan Xbn (Xbd Xba (pv 0) (pv 2) (fun _ _=>rfl)) Xaf) Xaf (Xam _))) (Xab (Xbc (PW.pt (Xeb (Xaj Xeg (pv 3) Xaf (Xam _)) (Xeb (Xaj Xrf (Xan Xbo (pv 2) (pv 3)) (Xat Xav (by rfl) T.n_len PySem.boot_len (Xaa (pv 0) Xae)) (Xam _)) (Xda (PW.pt (Xfo (Xcd (pv 4) (fun _=>rfl)) (Xfp (Xaj Xeg (pv 3) Xaf (Xam _))))))))) (Xac (Xai Xcm)) Xal) (Xab (Xbc (PW.pt (Xeb (Xbu (Xdz (Xag D_Z32 hr (by rfl) (Xaa (Xbd Xba (pv 0) (Xan Xdf (Xan Xbo (pv 2) (pv 3)) Xaf) (fun _ _=>rfl)) Xae)))) (Xda (Xaj Xim (Xbd Xba (pv 0) (Xan Xdf (Xan Xbo (pv 2) (pv 3)) Xaf) (fun _ _=>rfl)) (Xbd Xba (pv 0) (pv 2) (fun _ _=>rfl)) (Xam _))))) (Xac (Xai Xcm)) Xal) (Xab (Xbw (XAg PySem.F.plainAttrs_list PySem.F.slot_list_append PySem.F.type_list_append Xfm (pv 1) (Xaa (Xfn (Xaa (pv 2) (Xaa (pv 3) (Xaa (pv 4) Xae)))) Xae))) (Xac (Xao (i:=2) Xhy.nd rfl (Or.inl rfl) (Xan Xbo (pv 2) (pv 3))))))))))) (Xac (Xai (pv 1))))))),?_⟩
 obtain⟨r,cs,ps,rfl,hR,hc,mk,hz,q⟩:=h
 walk_at "go"
 intro p hp
 walk_at "go"
 refine⟨WkW r p cs.length ps H,⟨_,[],ps,[],0,none,none,rfl,rfl,rfl,rfl,hc,Same.new hp,upd_same,Xbk.nil⟩,?_⟩
 rintro m σ H1 ⟨ds,rs,us,k,x3,x4,rfl,rfl,eps,c1,c2,s1,hp1,pu⟩
 have hul:=pu.1
 have hS1:SqL K H1 r (cs.map V.int):=SqL.of (s1 r _ hR)
 have k0:=c1.le
 walk_at "go"
 refine Xby (fun hlt=>?_) (fun hlt=>?_)
 · refine⟨fun σ' H''=>∃m',m'<((cs.length:Int)-k).toNat∧WkW r p cs.length ps H m' σ' H'',fun σ' H'' hw=>hw,?_⟩
   cases rs with
   | nil =>
     have:k=cs.length:=c2
     omega
   | cons z r2 =>
     obtain⟨ea,z1,z3,c3⟩:=c2
     have hle:=c3.le
     obtain⟨m1,m2⟩:=mk z (by rw[eps];simp)
     have g1:=Xev m1
     have g2:=Xev m2
     rw[ea] at g1 g2
     have e1:cs.getD k.toNat 0=mkOf z.l z.v:=g1
     have e2:cs.getD (k+z.l-1).toNat 0=mkOf z.l z.v:=g2
     have hkl:ds.length≤1200:=by omega
     walk_at "g1"
     walk_at "g1"
     rw[e1,Xhm]
     walk_at "g1"
     rw[e1,Xll]
     walk_at "go"
     refine Xhl (fun hv=>?_) (fun hv=>?_)
     all_goals
       try have z3:=z3 hv
       walk_at "go"
       intro t ht
       walk_at "go"
       obtain⟨g1,g2⟩:=Xbk.push (z:=z) pu hp1 ht
       rw[ea] at g2
       refine⟨_,?_,ds++[z],r2,_,k+z.l,_,_,rfl,rfl,by rw[eps];simp,?_,c3,(s1.put (s1.free ht)).put hp,upd_same,g2⟩
       · omega
       · have:=Xaq.snoc (p:=z) (by rw[ea];exact c1) z1 (fun h=>by first | exact z3 h | exact z3)
         rwa [ea] at this
 · have er:rs=[]:=by
     cases rs with
     | nil=>rfl
     | cons z r2 =>
       have:=c2.le
       rw[List.length_cons] at this
       omega
   rw[er,List.append_nil] at eps
   walk_at "go"
   rw[←eps] at pu
   exact q p us H1 hp s1 hp1 pu
theorem Xum {H:Hp}{us:List V}{ps:List Pc}{t:Addr}{z:Pc}(h:Xbk H us ps)(ht:H t=some (.tup [.int z.a,.int z.l,.bl z.v])):Xbk H (us++[.ref t]) (ps++[z]):=by
 have hl:=h.1
 refine⟨by rw[List.length_append,List.length_append,hl];rfl,fun i p hp=>?_⟩
 by_cases e:i<ps.length
 · rw[List.getElem?_append_left e] at hp
   obtain⟨t',h1,h2⟩:=h.2 i p hp
   exact⟨t',by rw[List.getElem?_append_left (by omega)];exact h1,h2⟩
 · have hi:i=ps.length:=by
     have:=(List.getElem?_eq_some_iff.mp hp).1
     rw[List.length_append,List.length_singleton] at this
     omega
   subst hi
   rw[List.getElem?_append_right (Nat.le_refl _),Nat.sub_self] at hp
   have ep:=Option.some.inj hp
   subst ep
   exact⟨t,by rw[List.getElem?_append_right (by omega),hl,Nat.sub_self];rfl,ht⟩
theorem XJi {K:PySem.W.Frag}{H H':Hp}{a:Addr}{xs:List V}(h:SqL K H a xs)(k:∀o,H a=some o→H' a=some o):SqL K H' a xs:=by
 rcases h with h | h
 · rcases h with h | ⟨o,h⟩
   · exact .inl (.inl (k _ h))
   · exact .inl (.inr ⟨o,k _ h⟩)
 · exact .inr h
theorem Xdh {kvs:List (Key×V)}(nd:(kvs.map (·.1)).Nodup):∀{kv:Key×V},kv∈kvs→valV kvs kv.1=some kv.2:=by
 induction kvs with
 | nil=>intro kv h;cases h
 | cons p r ih =>
   intro kv h
   rw[List.map_cons] at nd
   obtain⟨n1,n2⟩:=List.nodup_cons.mp nd
   rcases List.mem_cons.mp h with g | g
   · subst g
     exact Xcb rfl
   · rw[Xbs (fun e=>n1 (by rw[e];exact List.mem_map.mpr ⟨kv,g,rfl⟩))]
     exact ih n2 g
theorem Xgq {kvs:List (Key×V)}{k:Key}(h:∀kv∈kvs,kv.1≠k):valV kvs k=none:=by
 induction kvs with
 | nil=>rfl
 | cons p r ih =>
   rw[Xbs (h p List.mem_cons_self)]
   exact ih fun kv hk=>h kv (List.mem_cons_of_mem _ hk)
theorem Xca {kvs:List (Key×V)}{k:Key}{kv:Key×V}(h:kv∈Xbz kvs k):kv∈kvs∧kv.1≠k:=by
 obtain⟨h1,h2⟩:=List.mem_filter.mp h
 exact⟨h1,by simpa using h2⟩
theorem Xwt {xs:List V}{i:Nat}{v:V}(h:xs[i]?=some v):atI xs (i:Int)=some v:=by
 have hl:i<xs.length:=(List.getElem?_eq_some_iff.mp h).1
 unfold atI
 rw[Xwc (by omega) (by omega)]
 simpa using h
def EnA (cs:List Int)(H:Hp)(v:V)(z:Pc)(m:Nat):Prop:=∃(t d:Addr) (c:Int) (ks:List (Key×V)),v = .ref t∧H t=some (.tup [.int c,.ref d])∧H d=some (.dK ks)∧1≤c∧c+2≤z.l∧z.l≤c+2∧(ks.map (·.1)).Nodup∧ks.length≤m ∧
 ∀q∈ks,∃(i n:Int),q=(.inl i,.int n)∧0≤i∧i<z.l-2∧cs[(z.a+1+i).toNat]?=some n
structure HhS (cs:List Int)(ps:List Pc)(kd:Addr)(kvs:List (Key×V))(m:Nat)(H:Hp):Prop where
 hd:H kd=some (.dK kvs)
 nd:(kvs.map (·.1)).Nodup
 rw:∀kv∈kvs,∃z,kv.1 = .inl (z.a+1)∧z∈ps∧z.v=true∧EnA cs H kv.2 z m
 ap:∀kv∈kvs,∀kv'∈kvs,∀(t t' d:Addr) (c c':Int),kv.2 = .ref t→H t=some (.tup [.int c,.ref d])→kv'.2 = .ref t'→H t'=some (.tup [.int c',.ref d])→kv=kv'
 nk:∀kv∈kvs,∀(t:Addr) (c:Int),kv.2 = .ref t→H t≠some (.tup [.int c,.ref kd])
 fw:kvs.length≤m
 sj:∀z∈ps,z.v=true→∃kv∈kvs,kv.1 = .inl (z.a+1)
theorem HhS.same {cs:List Int}{ps:List Pc}{kd:Addr}{kvs:List (Key×V)}{m:Nat}{H H':Hp}(h:HhS cs ps kd kvs m H)(s:Same H H'):HhS cs ps kd kvs m H':=by
 have tt:∀kv∈kvs,∀(t:Addr) (us:List V),kv.2 = .ref t→H' t=some (.tup us)→H t=some (.tup us):=fun kv hk t us e h'=>by
   obtain⟨z,_,_,_,t0,d,c,ks,e0,h1,_⟩:=h.rw kv hk
   rw[e] at e0
   cases e0
   have:=s t _ h1
   rw[this] at h'
   rw[h1]
   exact h'
 refine⟨s kd _ h.hd,h.nd,fun kv hk=>?_,fun kv hk kv' hk' t t' d c c' e1 h1 e2 h2=>h.ap kv hk kv' hk' t t' d c c' e1 (tt kv hk t _ e1 h1) e2 (tt kv' hk' t' _ e2 h2),fun kv hk t c e h1=>h.nk kv hk t c e (tt kv hk t _ e h1),h.fw,h.sj⟩
 obtain⟨z,g1,g2,g3,t,d,c,ks,e0,h1,h2,r⟩:=h.rw kv hk
 exact⟨z,g1,g2,g3,t,d,c,ks,e0,s t _ h1,s d _ h2,r⟩
theorem Xlb {xs ys ns ms:List Int}(h:∀k,k∈ns↔k∈ms)(n1:ns.Nodup)(n2:ms.Nodup)(p1:xs.Perm ns)(p2:ys.Perm ms)(s1:xs.Pairwise (·≤·))(s2:ys.Pairwise (·≤·)):xs=ys:=by
 have hp:xs.Perm ys:=by
   refine List.perm_iff_count.mpr fun a=>?_
   rw[p1.count_eq,p2.count_eq,n1.count,n2.count]
   by_cases g:a∈ns
   · rw[if_pos g,if_pos ((h a).mp g)]
   · rw[if_neg g,if_neg (fun w=>g ((h a).mpr w))]
 exact List.Perm.eq_of_pairwise (fun a b _ _ h1 h2=>by omega) s1 s2 hp
def XJq:Sp:=fun vs H Q _=>∃c:Int,vs=[.int c]∧∀n:Int,Q (.int n) H
theorem XMo (S:Src K mg "_law_number" Xon)(T:Txt K mg Y0 Y8 Y4 Y2 Y6 Y9 Y1 Y7 Y5 Y3 W0_ W1_) :Defx P w K mg base "_law_number" 1 ["_law_cell"] (XJq):=by
 refine S.okx XDb XIy (fun vs H Q E h=>by revert h;walk_at "len") (fun f cdv A outer s H vs Q E hr h=>?_)
 refine⟨_,PSs.nox (Xab (Xbc (Xaj Xed (Xan Xbn (pv 0) Xaf) Xaf (Xam _)) (Xac (Xai (Xan Xbn (Xan Xdw (pv 0) Xaf) Xaf))) Xal) (Xac (Xai (Xan Xdf (Xan Xbn (Xan Xfh (pv 0) Xaf) (Xan Xwm Xaf Xaf)) (Xan Xwm Xaf Xaf))))),?_⟩
 obtain⟨c,rfl,q⟩:=h
 walk_at "go"
 refine Xby (fun h1=>?_) (fun h1=>?_)
 · walk_at "go"
   exact q _
 · walk_at "go"
   exact q _
def lgs (ps:List Pc):List (Key×V):=(ps.filter fun z=>z.v).map fun z=>(.inl (z.a+1),.int z.l)
theorem Xtn {ps:List Pc}{i:Nat}{z:Pc}(h:ps[i]?=some z):lgs (ps.take (i+1))=lgs (ps.take i)++(if z.v=true then [(.inl (z.a+1),.int z.l)] else []):=by
 unfold lgs
 rw[List.take_add_one,h,List.filter_append,List.map_append]
 congr 1
 simp only [Option.toList_some,List.filter_cons,List.filter_nil]
 split <;> rfl
def PrA (H:Hp)(us:List V)(qs:List (Key×V)):Prop:=us.length=qs.length∧∀(j:Nat) (q:Key×V),qs[j]?=some q→∃t,us[j]?=some (.ref t)∧H t=some (.tup [kV q.1,q.2])
def PrW (H1:Hp)(ps:List Pc)(D:Addr)(i:Nat)(ys:List V)(H2:Hp):Prop:=Same H1 H2∧H2 D=some (.lst ys)∧H1 D=none∧PrA H2 ys (lgs (ps.take i))∧ys.length≤i
theorem PrA.snoc {H H':Hp}{us:List V}{qs:List (Key×V)}{t:Addr}{q:Key×V}(h:PrA H us qs)(k:∀b xs,H b=some (.tup xs)→H' b=some (.tup xs))(ht:H' t=some (.tup [kV q.1,q.2])):PrA H' (us++[.ref t]) (qs++[q]):=by
 refine⟨by rw[List.length_append,List.length_append,h.1];rfl,fun j q' hq=>?_⟩
 rcases Nat.lt_trichotomy j qs.length with g | g | g
 · rw[List.getElem?_append_left g] at hq
   obtain⟨t',h1,h2⟩:=h.2 j q' hq
   exact⟨t',by rw[List.getElem?_append_left (by rw[h.1];exact g)];exact h1,k _ _ h2⟩
 · subst g
   rw[List.getElem?_append_right (Nat.le_refl _),Nat.sub_self] at hq
   have e:q=q':=Option.some.inj hq
   subst e
   exact⟨t,by rw[List.getElem?_append_right (by rw[h.1];exact Nat.le_refl _),h.1,Nat.sub_self];rfl,ht⟩
 · rw[List.getElem?_eq_none (by rw[List.length_append,List.length_singleton];omega)] at hq
   cases hq
def lvP (ps:List Pc):List Int:=(ps.filter fun z=>z.v).map fun z=>z.a+1
theorem Xul (ps:List Pc):(lgs ps).map (·.1)=(lvP ps).map Sum.inl:=by
 unfold lgs lvP
 rw[List.map_map,List.map_map]
 rfl
theorem Xry {ps:List Pc}{n:Int}(c:Xaq 0 ps n):(lvP ps).Nodup:=by
 have h:=Xcg (f:=fun a:Int=>a+1) (fun x y e=>by have e:x+1=y+1:=e;omega) (Xcu (g:=fun z:Pc=>z.v) (Xeq c))
 rw[List.map_map] at h
 exact h
theorem Xff {kvs:List (Key×V)}(h:∀kv∈kvs,∃n:Int,kv.1 = .inl n):∃ns:List Int,kvs.map (·.1)=ns.map Sum.inl:=by
 induction kvs with
 | nil=>exact⟨[],rfl⟩
 | cons p r ih =>
   obtain⟨n,e⟩:=h p List.mem_cons_self
   obtain⟨ns,e2⟩:=ih fun kv hk=>h kv (List.mem_cons_of_mem _ hk)
   exact⟨n::ns,by rw[List.map_cons,List.map_cons,e,e2]⟩
theorem Xri {ns:List Int}(h:(ns.map (Sum.inl:Int→Key)).Nodup):ns.Nodup:=by
 induction ns with
 | nil=>exact List.nodup_nil
 | cons n r ih =>
   rw[List.map_cons] at h
   obtain⟨h1,h2⟩:=List.nodup_cons.mp h
   exact List.nodup_cons.mpr ⟨fun g=>h1 (List.mem_map.mpr ⟨n,g,rfl⟩),ih h2⟩
def BsW (H1:Hp)(ps:List Pc)(D:Addr)(i:Nat)(ys:List V)(H2:Hp):Prop:=Same H1 H2∧H2 D=some (.lst ys)∧H1 D=none∧ys=((ps.take i).map (·.v)).map V.bl∧ys.length≤i
def DuW (H1:Hp)(A n:Int)(D:Addr)(i:Nat)(ys:List V)(H2:Hp):Prop:=Same H1 H2∧H2 D=some (.lst ys)∧H1 D=none∧TsAt H2 ys ((dueP A n i).map prV)∧ys.length≤i
def PqW (H1:Hp)(ps:List Pc)(D:Addr)(i:Nat)(ys:List V)(H2:Hp):Prop:=Same H1 H2∧H2 D=some (.lst ys)∧H1 D=none∧TsAt H2 ys (((ps.take i).map fun z=>(z.a,z.l)).map prV)∧ys.length≤i
theorem Xyp {s A:Int}{f:Sf}(w:SfW s f)(h0:f.n≠0)(h:0<s%f.n):∃zl,(shP s A f)[(shP s A f).length-1]?=some zl∧zl.v=false:=by
 obtain⟨_,_,q2,_⟩:=Xnd (A:=A) w h0
 have e:shP s A f=slP f.n A f.b++[⟨A+f.n*(f.b.length:Int),A+s-(A+f.n*(f.b.length:Int)),false⟩]:=by
   unfold shP fr
   rw[if_neg (by omega)]
 rw[e,List.length_append,List.length_singleton]
 refine⟨⟨A+f.n*(f.b.length:Int),A+s-(A+f.n*(f.b.length:Int)),false⟩,?_,rfl⟩
 rw[List.getElem?_append_right (by omega)]
 simp
def XKc:Sp:=fun vs H Q _=>∃(l:Addr) (us:List V) (s A:Int) (f:Sf),vs=[.ref l,.int A,.int s]∧H l=some (.lst us)∧Xbk H us (shP s A f)∧1≤s∧s≤1200∧0≤A∧A≤1200∧us.length≤1200∧SfOk s f∧∀H',Same H H'→Q (.bl true) H'
theorem d_Z7 (S:Src K mg "_law_shelf_good" s_Z7)(T:Txt K mg Y0 Y8 Y4 Y2 Y6 Y9 Y1 Y7 Y5 Y3 W0_ W1_) :Defx P w K mg base "_law_shelf_good" 1 ["_law_some","_law_at","_law_shelf"] (XKc):=by
 refine S.okx XCh XOw (fun vs H Q E h=>by revert h;walk_at "len") (fun f cdv A outer s H vs Q E hr h=>?_)
 refine⟨_,PSs.nox (Xab (Xbc (Xaj (Xqn hr.units) (pv 0) (Xgx (Xaa (Xfn (Xaa (pv 1) (Xaa (pv 2) (Xaa Xck Xae)))) Xae)) (Xam _)) (Xac (Xai Xck)) Xal) (Xab (Xbc (PW.pt (Xeb (Xaj (Xyd hr.units) (pv 0) (Xgx Xae) (Xam _)) (Xda (Xaj Xkp Xck (Xje ["_law_piece"] rfl (Xct (pv 0)) (fun cl C s₀ H₀ ex=>(Xau (i:=0) (show ((["_law_piece"]:List Str)++([]:List Str)).Nodup by decide +kernel) rfl (Or.inl rfl))) (fun cl C s₀ H₀ ex=>Xmb) (fun cl C s₀ H₀ ex=>(Xbd (Xdk (K:=K) rfl) (pv 0) Xaf (fun _ _=>rfl))) ) rfl)))) (Xac (Xai Xck)) Xal) (Xab (Xao (i:=3) XCh.nd rfl (Or.inr rfl) (Xbd Xdc (Xbd Xba (pv 0) Xaf (fun _ _=>rfl)) Xaf (fun _ _=>rfl))) (Xab (Xer (i:=4) ["_law_slot"] ["_law_need","_law_at"] [3,1] XCh.nd rfl (Or.inl rfl) rfl (Xpt (by rfl) T.n_range (Xaa (Xan Xdw (pv 2) (pv 3)) Xae)) (fun cl C s₀ H₀ ex=>(Xau (i:=0) (show ((["_law_slot"]:List Str)++(["_law_need","_law_at"]:List Str)).Nodup by decide +kernel) rfl (Or.inl rfl))) (fun cl C s₀ H₀ ex=>Xmb) (fun cl C s₀ H₀ ex=>(Xfn (Xaa (Xan Xbo (pv 2) (Xan Xfh (pv 1) (pv 0))) (Xaa (pv 1) Xae)))) (Xeo rfl rfl rfl rfl rfl rfl) (Xgk (n:="_law_need") (m:="_law_at") (by decide +kernel) rfl rfl) (fun y h=>Xbp (by decide +kernel) h)) (Xab (Xbc (Xaj Xrf (Xan Xbn (pv 2) (pv 3)) Xaf (Xam _)) (Xab (Xbw (XAg PySem.F.plainAttrs_list PySem.F.slot_list_append PySem.F.type_list_append Xfm (pv 4) (Xaa (Xfn (Xaa (Xan Xdf (Xan Xbo (pv 1) (pv 2)) (Xan Xbn (pv 2) (pv 3))) (Xaa (Xan Xbn (pv 2) (pv 3)) Xae))) Xae))) (Xac (Xbc (Xcd (Xbd Xdc (Xbd Xba (pv 0) (Xan Xdf (Xat Xav (by rfl) T.n_len PySem.boot_len (Xaa (pv 0) Xae)) Xaf) (fun _ _=>rfl)) Xaf (fun _ _=>rfl)) (fun _=>rfl)) (Xac (Xai Xck)) Xal))) Xal) (Xac (Xai (Xcv (Xqn hr.units) (Xje ["_law_piece"] rfl (Xct (pv 0)) (fun cl C s₀ H₀ ex=>(Xau (i:=0) (show ((["_law_piece"]:List Str)++([]:List Str)).Nodup by decide +kernel) rfl (Or.inl rfl))) (fun cl C s₀ H₀ ex=>Xmb) (fun cl C s₀ H₀ ex=>(Xfn (Xaa (Xbd (Xdk (K:=K) rfl) (pv 0) Xaf (fun _ _=>rfl)) (Xaa (Xbd (Xdk (K:=K) rfl) (pv 0) Xaf (fun _ _=>rfl)) Xae)))) ) (pv 4) (Xam _))))))))),?_⟩
 obtain⟨l,us,s,A,f,rfl,hl,pa,hs,hs2,hA0,hA2,hu2,ok,q⟩:=h
 have hul:=pa.1
 walk_at "go"
 intro t nt
 have s1:Same H (upd H t (.tup [.int A,.int s,.bl false])):=Same.new nt
 have ht1:upd H t (.tup [.int A,.int s,.bl false]) t=some (.tup [.int A,.int s,.bl false]):=upd_same
 generalize upd H t (.tup [.int A,.int s,.bl false])=H1 at s1 ht1 ⊢
 walk_at "go"
 intro p np
 have s2:Same H1 (upd H1 p (.lst [.ref t])):=Same.new np
 have hp2:upd H1 p (.lst [.ref t]) p=some (.lst [.ref t]):=upd_same
 generalize upd H1 p (.lst [.ref t])=H2 at s2 hp2 ⊢
 have s02:=s1.trans s2
 have pt:Xbk H2 [.ref t] [⟨A,s,false⟩]:=Xbk.nil.snoc (p:=⟨A,s,false⟩) (s2 t _ ht1)
 refine⟨l,p,us,[.ref t],_,_,rfl,rfl,s02 l _ hl,hp2,(pa.same s02).ts,pt.ts,Xjf _,Xjf _,?_⟩
 by_cases h0:f.n=0
 · have eb:f=⟨0,[]⟩:=by
     obtain⟨n,b⟩:=f
     rcases ok.1 with ⟨e1,e2⟩ | ⟨h3,_⟩
     · have e1:n=0:=e1
       have e2:b=[]:=e2
       rw[e1,e2]
     · omega
   rw[eb,Xcp hs,Xke (Xjf _)]
   walk_at "go"
   exact q H2 s02
 obtain⟨n3,q1,q2,hpr⟩:=Xnd (A:=A) ok.1 h0
 have htr:=ok.2 h0
 obtain⟨i0,hi0⟩:=List.getElem?_of_mem htr
 have hlv:(⟨A+f.n*(i0:Int),f.n,true⟩:Pc)∈shP s A f:=Xpe (b:=f.b) hi0
 rw[Xyt rfl ⟨_,hlv,rfl⟩]
 obtain⟨v0,r0,e0⟩:=Xkw (A:=A) hs ok.1
 have efl:flS s f=f.n:=by unfold flS;rw[if_neg h0]
 rw[efl] at e0
 have hne:us.isEmpty=false:=by
   cases us with
   | nil=>rw[e0] at hul;cases hul
   | cons _ _=>rfl
 walk_at "go"
 intro p3 np3
 have s3:Same H2 (upd H2 p3 (.lst [])):=Same.new np3
 have hp3:upd H2 p3 (.lst []) p3=some (.lst []):=upd_same
 generalize upd H2 p3 (.lst [])=H3 at s3 hp3 ⊢
 have s03:=s02.trans s3
 have hl3:=s03 l _ hl
 have pa3:=pa.same s03
 refine⟨l,p3,us,rfl,rfl,hl3,hp3,?_⟩
 rw[hne]
 walk_at "go"
 refine⟨l,rfl,⟨_,SqL.of hl3⟩,Xbr (K:=K) (a:=l) (xs:=us) (BsW H3 (shP s A f)) (fun D hD=>⟨Same.new hD,upd_same,hD,rfl,Nat.le_refl _⟩) (fun D i ys H2 _ h=>SqL.of (h.1 l _ hl3)) ?_ ?_⟩
 · rintro D2 i y ys H4 hD hi ⟨s4,hD4,_,ey,hyl⟩ τ hτ
   have hil:i<us.length:=(List.getElem?_eq_some_iff.mp hi).1
   obtain⟨z,hzi⟩:∃z,(shP s A f)[i]?=some z:=⟨_,List.getElem?_eq_getElem (by omega)⟩
   obtain⟨t1,et,hT⟩:=pa3.2 i z hzi
   have ey2:y = .ref t1:=Option.some.inj (hi.symm.trans et)
   subst ey2
   have hT4:=s4 t1 _ hT
   match τ,hτ with
   | [τ0],_ =>
     walk_at "go"
     refine⟨⟨[_],rfl,rfl⟩,?_⟩
     walk_at "go"
     refine⟨hD4,small4000 (by omega),Xdl hil ⟨s4.put hD,upd_same,hD,?_,by rw[List.length_append,List.length_singleton];omega⟩⟩
     rw[ey,List.take_add_one,hzi,List.map_append,List.map_append]
     rfl
 rintro D1 ys H4 hD1 ⟨s4,hD14,_,ey,hyl⟩
 rw[List.take_of_length_le (by omega)] at ey
 subst ey
 have s04:=s03.trans s4
 have hl4:=s04 l _ hl
 have pa4:=pa.same s04
 walk_at "go"
 refine⟨D1,_,rfl,.inl (SqL.of hD14),rfl,XIo _,?_⟩
 rw[if_pos rfl,XFo,decide_eq_true (List.mem_map.mpr ⟨_,hlv,rfl⟩)]
 refine⟨_,rfl,?_⟩
 obtain⟨t0,et0,ht0⟩:=pa4.2 0 ⟨A,f.n,v0⟩ (by rw[e0];rfl)
 have ht0:H4 t0=some (.tup [.int A,.int f.n,.bl v0]):=ht0
 have e0n:((s/f.n).toNat:Nat)=f.b.length:=by rw[q1];rfl
 have hbl:f.n≤s∧f.n*(f.b.length:Int)≤s∧(f.b.length:Int)≤s:=by
   rcases ok.1 with ⟨e1,_⟩ | ⟨_,_,h5,_⟩
   · exact absurd e1 h0
   · have:=Int.mul_le_mul_of_nonneg_right (show (1:Int)≤f.n by omega) (show (0:Int)≤(f.b.length:Int) by omega)
     omega
 obtain⟨hb1,hb2,hb3⟩:=hbl
 walk_at "go"
 refine Xva (SqL.of hl4) (show atI us ((0:Nat):Int)=some (.ref t0) from Xwt et0) ?_
 walk_at "go"
 refine⟨_,rfl,by omega,by omega,Xlu (fs:=[some (.int f.n),some (.int A)]) (DuW H4 A f.n) (fun D hD=>⟨Same.new hD,upd_same,hD,⟨rfl,fun i xs h=>by simp [dueP] at h⟩,Nat.le_refl _⟩) ?_ ?_⟩
 · rintro D2 i ys H5 hD hi ⟨s5,hD5,_,pt5,hyl⟩ τ hτ
   rw[Int.zero_add]
   match τ,hτ with
   | [τ0],_ =>
     walk_at "go"
     refine⟨⟨[_],rfl,rfl⟩,?_⟩
     walk_at "go"
     intro t2 nt2
     have hne2:t2≠D2:=fun w=>by rw[w,hD5] at nt2;cases nt2
     refine⟨look_put nt2 hD5,small4000 (by omega),Xdl hi ⟨(s5.put (s5.free nt2)).put hD,upd_same,hD,?_,by rw[List.length_append,List.length_singleton];omega⟩⟩
     rw[Xqh,List.map_append]
     exact pt5.snoc (fun b xs e=>look_ne (fun w=>by rw[w,hD5] at e;cases e) (look_ne (fun w=>by rw[w,nt2] at e;cases e) e)) (look_ne hne2 upd_same)
 rintro D5 ys H5 hD5 ⟨s5,hD55,_,pt5,hyl⟩
 rw[e0n] at pt5 hyl
 have s05:=s04.trans s5
 have hl5:=s05 l _ hl
 have pa5:=pa.same s05
 have hlD:l≠D5:=fun w=>by rw[←w,hl4] at hD5;cases hD5
 walk_at "gs"
 refine Xrr (M:=fun σ' H'=>∃ys6,Same H H'∧H' D5=some (.lst ys6)∧TsAt H' ys6 (((shP s A f).map fun z=>(z.a,z.l)).map prV)∧ys6.length≤1300∧σ'=[some (.ref l),some (.int A),some (.int s),some (.int f.n),some (.ref D5)]) ?_ (fun nx hM=>?_)
 · rintro σ' H6 ⟨ys6,s6,hD6,pt6,hy6,rfl⟩
   have hl6:=s6 l _ hl
   have pa6:=pa.same s6
   walk_at "go"
   refine⟨l,rfl,⟨_,SqL.of hl6⟩,Xbr (K:=K) (a:=l) (xs:=us) (PqW H6 (shP s A f)) (fun D hD=>⟨Same.new hD,upd_same,hD,⟨rfl,fun i xs h=>by simp at h⟩,Nat.le_refl _⟩) (fun D i ys H2 _ h=>SqL.of (h.1 l _ hl6)) ?_ ?_⟩
   · rintro D2 i y ys H7 hD hi ⟨s7,hD7,_,pt7,hyl⟩ τ hτ
     have hil:i<us.length:=(List.getElem?_eq_some_iff.mp hi).1
     obtain⟨z,hzi⟩:∃z,(shP s A f)[i]?=some z:=⟨_,List.getElem?_eq_getElem (by omega)⟩
     obtain⟨t1,et,hT⟩:=pa6.2 i z hzi
     have ey2:y = .ref t1:=Option.some.inj (hi.symm.trans et)
     subst ey2
     have hT7:=s7 t1 _ hT
     match τ,hτ with
     | [τ0],_ =>
       walk_at "go"
       refine⟨⟨[_],rfl,rfl⟩,?_⟩
       walk_at "go"
       intro t2 nt2
       have hne2:t2≠D2:=fun w=>by rw[w,hD7] at nt2;cases nt2
       refine⟨look_put nt2 hD7,small4000 (by omega),Xdl hil ⟨(s7.put (s7.free nt2)).put hD,upd_same,hD,?_,by rw[List.length_append,List.length_singleton];omega⟩⟩
       rw[List.take_add_one,hzi,List.map_append,List.map_append]
       exact pt7.snoc (fun b xs e=>look_ne (fun w=>by rw[w,hD7] at e;cases e) (look_ne (fun w=>by rw[w,nt2] at e;cases e) e)) (look_ne hne2 upd_same)
   rintro D7 ys7 H7 hD7 ⟨s7,hD77,_,pt7,hyl7⟩
   rw[List.take_of_length_le (by omega)] at pt7
   walk_at "go"
   refine⟨D7,D5,ys7,ys6,_,_,rfl,rfl,hD77,s7 D5 _ hD6,pt7,pt6.same s7,Xjc _,Xjc _,?_⟩
   rw[Xke (Xjc _)]
   exact q H7 (s6.trans s7)
 · rw[hpr] at hM
   have nD5:H D5=none:=s04.free hD5
   walk_at "go"
   refine Xby (fun hlt=>?_) (fun hlt=>?_)
   · rw[if_pos hlt] at hM
     walk_at "go"
     intro t6 nt6
     have htD:t6≠D5:=fun w=>by rw[w,hD55] at nt6;cases nt6
     have s6:Same H5 (upd H5 t6 (.tup [.int (A+s-s%f.n),.int (s%f.n)])):=Same.new nt6
     have ht6:upd H5 t6 (.tup [.int (A+s-s%f.n),.int (s%f.n)]) t6=some (.tup [.int (A+s-s%f.n),.int (s%f.n)]):=upd_same
     generalize upd H5 t6 (.tup [.int (A+s-s%f.n),.int (s%f.n)])=H6 at s6 ht6 ⊢
     have hD6:=s6 D5 _ hD55
     walk_at "go"
     have s7:Same H (upd H6 D5 (.lst (ys++[.ref t6]))):=(s05.trans s6).put nD5
     have hD7:upd H6 D5 (.lst (ys++[.ref t6])) D5=some (.lst (ys++[.ref t6])):=upd_same
     have pt7:TsAt (upd H6 D5 (.lst (ys++[.ref t6]))) (ys++[.ref t6]) ((dueP A f.n f.b.length).map prV++[prV (A+s-s%f.n,s%f.n)]):=(pt5.same s6).snoc (fun b xs e=>look_ne (fun w=>by rw[w,hD6] at e;cases e) e) (look_ne htD ht6)
     generalize upd H6 D5 (.lst (ys++[.ref t6]))=H7 at s7 hD7 pt7 ⊢
     have hl7:=s7 l _ hl
     have pa7:=pa.same s7
     obtain⟨zl,ezl,hvl⟩:=Xyp (A:=A) ok.1 h0 hlt
     obtain⟨tl,etl,htl⟩:=pa7.2 _ zl ezl
     rw[hvl] at htl
     have hpos:0<us.length:=by
       cases us with
       | nil=>cases hne
       | cons _ _=>exact Nat.succ_pos _
     refine⟨l,us,rfl,.inl (SqL.of hl7),?_⟩
     walk_at "go"
     refine Xva (SqL.of hl7) (show atI us ((us.length:Int)-1)=some (.ref tl) from by rw[show (us.length:Int)-1=((us.length-1:Nat):Int) by omega];exact Xwt (by rw[hul];exact etl)) ?_
     walk_at "go"
     exact hM _ _ ⟨_,s7,hD7,by rw[List.map_append];exact pt7,by rw[List.length_append,List.length_singleton];omega,rfl⟩
   · rw[if_neg hlt,List.append_nil] at hM
     walk_at "go"
     exact hM _ _ ⟨ys,s05,hD55,pt5,by omega,rfl⟩
theorem Xme {s:Int}{m:Nat}(h:1≤s):(Builtin.Range.rangeSize 0 (s*(m:Int)) s).toNat=m:=by
 unfold Builtin.Range.rangeSize
 rw[if_pos (by omega)]
 cases m with
 | zero=>simp
 | succ m =>
   rw[Xax]
   have h0:=Int.mul_nonneg (show 0≤s by omega) (show (0:Int)≤(m:Int) by omega)
   rw[if_pos (by omega),show s*(m:Int)+s-0-1=(s-1)+s*(m:Int) by omega,Int.add_mul_ediv_left _ _ (by omega),Int.ediv_eq_zero_of_lt (by omega) (by omega)]
   omega
def FlW (H1:Hp)(ps:List Pc)(B s:Int)(D:Addr)(i:Nat)(ys:List V)(H2:Hp):Prop:=Same H1 H2∧H2 D=some (.lst ys)∧H1 D=none∧Xbk H2 ys ((ps.take i).filter fun z=>decide (B≤z.a∧z.a<B+s))∧ys.length≤i
theorem XAl {ps:List Pc}{B s:Int}{i:Nat}{z:Pc}(h:ps[i]?=some z):(ps.take (i+1)).filter (fun z=>decide (B≤z.a∧z.a<B+s))=(ps.take i).filter (fun z=>decide (B≤z.a∧z.a<B+s))++(if B≤z.a∧z.a<B+s then [z] else []):=by
 rw[List.take_add_one,h,List.filter_append]
 congr 1
 simp only [Option.toList_some,List.filter_cons,List.filter_nil]
 by_cases e:B≤z.a∧z.a<B+s
 · rw[if_pos e,if_pos (decide_eq_true e)]
 · rw[if_neg e,if_neg (by simpa using e)]
def GeW (f0 f1 f2 f3 f4:Option V)(H:Hp)(i:Nat)(σ:L2.St)(H':Hp):Prop:=Same H H'∧∃x5:Option V,σ=[f0,f1,f2,f3,f4,x5,none,none,none,none]
def GhW (f:List (Option V))(H:Hp)(i:Nat)(σ:L2.St)(H':Hp):Prop:=Same H H'∧∃x8 x9 x10:Option V,σ=f++[x8,x9,x10]
def GiW (f:List (Option V))(H:Hp)(i:Nat)(σ:L2.St)(H':Hp):Prop:=Same H H'∧∃x9 x10:Option V,σ=f++[x9,x10]
def Xpc (C:Addr):Sp:=fun vs H Q _=>∃(x dx a kd:Addr) (s:Int) (m:Nat) (fs:List Sf) (cs:List Int) (kvs:List (Key×V)),vs=[.ref x,.ref kd,.int s]∧ShS C x dx a s fs cs H∧1≤fs.length∧HhS cs (alP s 0 fs) kd kvs m H∧m≤63 ∧
 ∀(lp:Addr) (us:List V) (H':Hp),Same H H'→H' lp=some (.lst us)→Xbk H' us (alP s 0 fs)→Q (.ref lp) H'
theorem XOs (S:Src K mg "_law_good" Xor)(T:Txt K mg Y0 Y8 Y4 Y2 Y6 Y9 Y1 Y7 Y5 Y3 W0_ W1_)(D_Z47:Methx P w K mg base Y3 "cells" 1 ["self"] [] (Xdv Y3))(D_Z41:Defx P w K mg base "_law_walk" 2 ["_law_cells"] (Xoo K))(D_Z7:Defx P w K mg base "_law_shelf_good" 1 ["_law_some","_law_at","_law_shelf"] (XKc))(D_Z32:Defx P w K mg base "_law_whole" 1 ["_law_found"] (Xew)):Defx P w K mg base "_law_good" 3 ["_law_keeper","_law_held","_law_shelf"] (Xpc Y3):=by
 refine S.okx Xga XIr (fun vs H Q E h=>by revert h;walk_at "len") (fun f cdv A outer s H vs Q E hr h=>?_)
 refine⟨_,PSs.nox (Xab (Xao (i:=3) Xga.nd rfl (Or.inl rfl) (Xcc D_Z47 Xaw hr (pv 0))) (Xab (Xao (i:=4) Xga.nd rfl (Or.inl rfl) (Xag D_Z41 hr (by rfl) (Xaa (pv 3) Xae))) (Xab (Xbc (Xaj Xid (pv 4) Xcm (Xam _)) (Xac (Xai Xcm)) Xal) (Xab (ps_for PassesOwn.never rfl (Xkl (by rfl) T.n_range (Xaa Xaf (Xaa (Xat Xav (by rfl) T.n_len PySem.boot_len (Xaa (pv 3) Xae)) (Xaa (pv 2) Xae)))) (Xau (i:=5) Xga.nd rfl (Or.inr rfl)) (Xac (Xbc (Xbu (Xdz (Xag D_Z7 hr (by rfl) (Xaa (Xfd ["_law_piece"] ["_law_at","_law_shelf"] [5,2] rfl (Xct (pv 4)) (fun cl C s₀ H₀ ex=>(Xau (i:=0) (show ((["_law_piece"]:List Str)++(["_law_at","_law_shelf"]:List Str)).Nodup by decide +kernel) rfl (Or.inl rfl))) (fun cl C s₀ H₀ ex=>(Xes (Xvn Xxr Xeg (pv 1) (Xbd (Xdk (K:=K) rfl) (pv 0) Xaf (fun _ _=>rfl)) (Xan Xbo (pv 1) (pv 2))))) (fun cl C s₀ H₀ ex=>(pv 0)) (Xeo rfl rfl rfl rfl rfl rfl) (Xgk (n:="_law_at") (m:="_law_shelf") (by decide +kernel) rfl rfl) (fun y h=>Xbp (by decide +kernel) h)) (Xaa (pv 5) (Xaa (pv 2) Xae)))))) (Xac (Xai Xcm)) Xal))) (Xab (Xao (i:=6) Xga.nd rfl (Or.inl rfl) (Xdn (Xoa rfl) (by rfl) T.n_dict PyProof.Rows.boot_dict (Xaa (Xje ["_law_piece"] rfl (Xct (pv 4)) (fun cl C s₀ H₀ ex=>(Xau (i:=0) (show ((["_law_piece"]:List Str)++([]:List Str)).Nodup by decide +kernel) rfl (Or.inl rfl))) (fun cl C s₀ H₀ ex=>(Xes (Xfa (K:=K) rfl (Xbd (Xdk (K:=K) rfl) (pv 0) Xaf (fun _ _=>rfl)) (fun _=>rfl)))) (fun cl C s₀ H₀ ex=>(Xfn (Xaa (Xan Xbo (Xbd (Xdk (K:=K) rfl) (pv 0) Xaf (fun _ _=>rfl)) Xaf) (Xaa (Xbd (Xdk (K:=K) rfl) (pv 0) Xaf (fun _ _=>rfl)) Xae)))) ) Xae))) (Xab (Xbc (Xaj (XGu hr.units) (Xat (Xcq rfl) (by rfl) T.n_sorted PyProof.Rows.boot_sorted (Xaa (pv 6) Xae)) (Xat (Xcq rfl) (by rfl) T.n_sorted PyProof.Rows.boot_sorted (Xaa (pv 1) Xae)) (Xam _)) (Xac (Xai Xcm)) Xal) (Xab (Xyy PassesOwn.never rfl (pv 1) (Xau (i:=7) Xga.nd rfl (Or.inl rfl)) (Xab (Xbc (Xaj Xim (Xcs (Xcn hr.units) (pv 6) (pv 7) (fun _ _=>rfl)) (Xan Xbo (Xbd Xdc (Xcs (Xcn hr.units) (pv 1) (pv 7) (fun _ _=>rfl)) Xaf (fun _ _=>rfl)) Xaf) (Xam _)) (Xac (Xai Xcm)) Xal) (Xac (Xyk PassesOwn.never rfl (Xwu PySem.F.plainAttrs_dict PySem.F.slot_dict_items PySem.F.type_dict_items Xuz (Xbd Xdc (Xcs (Xcn hr.units) (pv 1) (pv 7) (fun _ _=>rfl)) Xaf (fun _ _=>rfl))) (Xmx rfl (Xbj (Xau (i:=8) Xga.nd rfl (Or.inl rfl)) (Xbj (Xau (i:=9) Xga.nd rfl (Or.inl rfl)) Xfu))) (Xac (Xbc (PW.pt (Xeb (Xbu (Xdz (Xag D_Z32 hr (by rfl) (Xaa (Xbd Xba (pv 3) (Xan Xbo (pv 7) (pv 8)) (fun _ _=>rfl)) Xae)))) (Xda (Xaj Xim (Xbd Xba (pv 3) (Xan Xbo (pv 7) (pv 8)) (fun _ _=>rfl)) (pv 9) (Xam _))))) (Xac (Xai Xcm)) Xal)))))) (Xac (Xai (pv 4)))))))))),?_⟩
 obtain⟨x,dx,a,kd,s,m,fs,cs,kvs,rfl,S,hf1,D,hm,q⟩:=h
 have hx:=S.hx
 have hz:=S.hz
 have hs:=S.hs
 have W:∀f∈fs,SfW s f:=fun f hf=>(S.ok f hf).1
 have ch:=S.ch
 have mm:=S.mm
 have hl:=S.hl
 have hss:s≤s*(fs.length:Int):=by
   have:=Int.mul_le_mul_of_nonneg_left (show (1:Int)≤(fs.length:Int) by omega) (show 0≤s by omega)
   omega
 generalize eps:alP s 0 fs=ps at D ch mm q
 have hple:=ch.le
 walk_at "go"
 refine⟨s,x,dx,a,cs,rfl,hx,S.ha,fun pc H1 npc s1 hpc=>?_⟩
 walk_at "go"
 refine⟨pc,cs,ps,rfl,hpc,ch,mm,by omega,fun lp us H2 nlp s2 hlp pa=>?_⟩
 have hul:=pa.1
 have s02:=s1.trans s2
 have hpc2:=s2 pc _ hpc
 walk_at "go"
 refine XIi ?_
 walk_at "go"
 refine⟨0,(cs.length:Int),s,rfl,⟨by omega,by omega,by omega,by omega,by omega,by omega⟩,?_⟩
 rw[hl,Xme hs]
 refine Xmy (GeW (some (.ref x)) (some (.ref kd)) (some (.int s)) (some (.ref pc)) (some (.ref lp)) H2) ⟨Same.refl _,none,rfl⟩ ?_ ?_
 · rintro i σ H3 hi ⟨s3,x5,rfl⟩
   obtain⟨f,hf⟩:∃f,fs[i]?=some f:=⟨_,List.getElem?_eq_getElem hi⟩
   have hlp3:=s3 lp _ hlp
   have pa3:=pa.same s3
   have eat:0+(i:Int)*s=s*(i:Int):=by rw[Int.zero_add,Int.mul_comm]
   have hi1:s*(i:Int)+s≤s*(fs.length:Int):=by
     have:=Int.mul_le_mul_of_nonneg_left (show ((i+1:Nat):Int)≤(fs.length:Int) by omega) (show 0≤s by omega)
     rw[Xax] at this
     omega
   have hi0:0≤s*(i:Int):=Int.mul_nonneg (by omega) (by omega)
   have efl:=Xjz hs W hf
   rw[eat,eps] at *
   generalize s*(i:Int)=B at hi1 hi0 efl ⊢
   walk_at "go"
   refine⟨lp,rfl,⟨_,SqL.of hlp3⟩,Xbr (K:=K) (a:=lp) (xs:=us) (FlW H3 ps B s) (fun D hD=>⟨Same.new hD,upd_same,hD,Xbk.nil,Nat.le_refl _⟩) (fun D i ys H2 _ h=>SqL.of (h.1 lp _ hlp3)) ?_ ?_⟩
   · rintro D2 i2 y ys H4 hD hi2 ⟨s4,hD4,_,pr,hyl⟩ τ hτ
     have hil:i2<us.length:=(List.getElem?_eq_some_iff.mp hi2).1
     obtain⟨z,hzi⟩:∃z,ps[i2]?=some z:=⟨_,List.getElem?_eq_getElem (by omega)⟩
     obtain⟨t,et,hT⟩:=pa3.2 i2 z hzi
     have ey2:y = .ref t:=Option.some.inj (hi2.symm.trans et)
     subst ey2
     have hT4:=s4 t _ hT
     have ef:=XAl (B:=B) (s:=s) hzi
     match τ,hτ with
     | [τ0],_ =>
       walk_at "go"
       refine⟨⟨[_],rfl,rfl⟩,?_⟩
       by_cases hb:B≤z.a
       · by_cases hb2:z.a<B+s
         · rw[if_pos ⟨hb,hb2⟩] at ef
           walk_at "go"
           refine⟨hD4,small4000 (by omega),Xdl hil ⟨s4.put hD,upd_same,hD,?_,by rw[List.length_append,List.length_singleton];omega⟩⟩
           rw[ef]
           exact Xum (pr.mono (Xlp (.inr ⟨_,hD4⟩))) (look_ne (fun w=>by rw[w,hD4] at hT4;cases hT4) hT4)
         · rw[if_neg (fun h=>hb2 h.2),List.append_nil] at ef
           walk_at "go"
           exact Xdl hil ⟨s4,hD4,hD,by rw[ef];exact pr,by omega⟩
       · rw[if_neg (fun h=>hb h.1),List.append_nil] at ef
         walk_at "go"
         exact Xdl hil ⟨s4,hD4,hD,by rw[ef];exact pr,by omega⟩
   rintro D4 ys H4 hD4 ⟨s4,hD44,_,pr,hyl⟩
   rw[List.take_of_length_le (by omega),efl] at pr
   walk_at "go"
   refine⟨D4,ys,s,B,f,rfl,hD44,pr,hs,by omega,hi0,by omega,by omega,S.ok f (List.mem_of_getElem? hf),fun H5 s5=>?_⟩
   walk_at "go"
   exact⟨(s3.trans s4).trans s5,_,rfl⟩
 rintro σ H3 ⟨s3,x5,rfl⟩
 have hlp3:=s3 lp _ hlp
 have pa3:=pa.same s3
 have hpc3:=s3 pc _ hpc2
 have s03:=s02.trans s3
 walk_at "go"
 refine⟨lp,rfl,⟨_,SqL.of hlp3⟩,Xbr (K:=K) (a:=lp) (xs:=us) (PrW H3 ps) (fun D hD=>⟨Same.new hD,upd_same,hD,⟨rfl,fun j q h=>by simp [lgs] at h⟩,Nat.le_refl _⟩) (fun D i ys H2 _ h=>SqL.of (h.1 lp _ hlp3)) ?_ ?_⟩
 · rintro D2 i y ys H4 hD hi ⟨s4,hD4,_,pr,hyl⟩ τ hτ
   have hil:i<us.length:=(List.getElem?_eq_some_iff.mp hi).1
   obtain⟨z,hzi⟩:∃z,ps[i]?=some z:=⟨_,List.getElem?_eq_getElem (by omega)⟩
   obtain⟨t,et,hT⟩:=pa3.2 i z hzi
   have ey2:y = .ref t:=Option.some.inj (hi.symm.trans et)
   subst ey2
   have hT4:=s4 t _ hT
   have ef:=Xtn hzi
   match τ,hτ with
   | [τ0],_ =>
     walk_at "go"
     refine⟨⟨[_],rfl,rfl⟩,?_⟩
     walk_at "go"
     refine Xhl (fun hv=>?_) (fun hv=>?_)
     · walk_at "go"
       intro t2 nt2
       rw[if_pos hv] at ef
       refine⟨look_put nt2 hD4,small4000 (by omega),Xdl hil ⟨(s4.put (s4.free nt2)).put hD,upd_same,hD,?_,by rw[List.length_append,List.length_singleton];omega⟩⟩
       rw[ef]
       have hne:t2≠D2:=fun w=>by rw[w,hD4] at nt2;cases nt2
       exact pr.snoc (q:=(.inl (z.a+1),.int z.l)) (fun b xs e=>look_ne (fun w=>by rw[w,hD4] at e;cases e) (look_ne (fun w=>by rw[w,nt2] at e;cases e) e)) (look_ne hne upd_same)
     · walk_at "go"
       rw[if_neg (by rw[hv];exact Bool.false_ne_true),List.append_nil] at ef
       exact Xdl hil ⟨s4,hD4,hD,by rw[ef];exact pr,by omega⟩
 rintro dl ys H4 hD ⟨s4,hD4,_,pr,hyl⟩
 rw[List.take_of_length_le (by omega)] at pr
 have lnd:=Xry ch
 have hlk:=Xul ps
 have hlive:(ps.filter fun z=>z.v).length=kvs.length:=Xqd ch D.nd (fun kv hk=>let ⟨z,e,h3,h4,_⟩:=D.rw kv hk;⟨z,h3,h4,e⟩) D.sj
 have hlgl:(lgs ps).length=kvs.length:=by unfold lgs;rw[List.length_map];exact hlive
 have hlvl:(lvP ps).length=kvs.length:=by unfold lvP;rw[List.length_map];exact hlive
 have hfw:=D.fw
 walk_at "go"
 refine⟨dl,ys,lgs ps,rfl,hD4,pr.1,pr.2,by rw[hlk];exact Xcg (fun x y e=>Sum.inl.inj e) lnd,Nat.le_of_lt (small4000 (by omega)),fun ld nld=>?_⟩
 have s5:Same H4 (upd H4 ld (.dK (lgs ps))):=Same.new nld
 have hld5:upd H4 ld (.dK (lgs ps)) ld=some (.dK (lgs ps)):=upd_same
 generalize upd H4 ld (.dK (lgs ps))=H5 at s5 hld5 ⊢
 have s05:=s03.trans (s4.trans s5)
 have D5:=D.same s05
 walk_at "go"
 refine⟨ld,lgs ps,lvP ps,rfl,hld5,hlk,by omega,fun d1 ms1 nd1 p1 o1=>?_⟩
 have s6:Same H5 (upd H5 d1 (.lst (ms1.map V.int))):=Same.new nd1
 have hd16:upd H5 d1 (.lst (ms1.map V.int)) d1=some (.lst (ms1.map V.int)):=upd_same
 generalize upd H5 d1 (.lst (ms1.map V.int))=H6 at s6 hd16 ⊢
 have D6:=D5.same s6
 obtain⟨ns2,ek2⟩:=Xff (kvs:=kvs) fun kv hk=>let ⟨z,e,_⟩:=D.rw kv hk;⟨_,e⟩
 have hn2l:ns2.length=kvs.length:=by have:=congrArg List.length ek2;rw[List.length_map,List.length_map] at this;omega
 have nd2:=Xri (by rw[←ek2];exact D.nd)
 walk_at "go"
 refine⟨kd,kvs,ns2,rfl,D6.hd,ek2,by omega,fun d2 ms2 nd2' p2 o2=>?_⟩
 have s7:Same H6 (upd H6 d2 (.lst (ms2.map V.int))):=Same.new nd2'
 have hd27:upd H6 d2 (.lst (ms2.map V.int)) d2=some (.lst (ms2.map V.int)):=upd_same
 generalize upd H6 d2 (.lst (ms2.map V.int))=H7 at s7 hd27 ⊢
 have ems:ms1=ms2:=Xlb (fun k=>by
   constructor
   · intro h
     obtain⟨z,hz,ez⟩:=List.mem_map.mp h
     obtain⟨h1,h2⟩:=List.mem_filter.mp hz
     obtain⟨kv,h3,h4⟩:=D.sj z h1 h2
     have:kv.1∈ns2.map (Sum.inl:Int→Key):=by rw[←ek2];exact List.mem_map.mpr ⟨kv,h3,rfl⟩
     obtain⟨n,h5,h6⟩:=List.mem_map.mp this
     rw[h4] at h6
     have:=Sum.inl.inj h6
     have ez:z.a+1=k:=ez
     rw[←ez,←this]
     exact h5
   · intro h
     have:(Sum.inl k:Key)∈kvs.map (·.1):=by rw[ek2];exact List.mem_map.mpr ⟨k,h,rfl⟩
     obtain⟨kv,h3,h4⟩:=List.mem_map.mp this
     obtain⟨z,e,h5,h6,_⟩:=D.rw kv h3
     rw[e] at h4
     exact List.mem_map.mpr ⟨z,List.mem_filter.mpr ⟨h5,h6⟩,Sum.inl.inj h4⟩) lnd nd2 p1 p2 o1 o2
 walk_at "go"
 refine⟨d1,d2,ms1,ms2,rfl,rfl,SqL.of (s7 d1 _ hd16),SqL.of hd27,?_⟩
 rw[decide_eq_true ems]
 have s57:=s6.trans s7
 have s07:=s05.trans s57
 have D7:=D.same s07
 have hkd7:=D7.hd
 have hld7:=s57 ld _ hld5
 have hpc7:=(s4.trans (s5.trans s57)) pc _ hpc3
 have hlp7:=(s4.trans (s5.trans s57)) lp _ hlp3
 have pa7:=pa3.same (s4.trans (s5.trans s57))
 have hldk:ld≠kd:=fun w=>by rw[w,(D.same (s03.trans s4)).hd] at nld;cases nld
 have hlnd:((lgs ps).map (·.1)).Nodup:=by rw[hlk];exact Xcg (fun x y e=>Sum.inl.inj e) lnd
 clear pr hD4 hyl hD s4 s5 s6 s7 hd16 hd27 nd1 nd2' nld p1 p2 o1 o2 D5 D6 s05 s57 hld5
 walk_at "go"
 intro NF
 walk_at "go"
 have hpk:pc≠kd:=fun w=>by rw[w,hkd7] at hpc7;cases hpc7
 have hlk2:lp≠kd:=fun w=>by rw[w,hkd7] at hlp7;cases hlp7
 refine⟨kd,kvs,rfl,hkd7,fun o nf=>Xuq nf (GhW [some (.ref x),some (.ref kd),some (.int s),some (.ref pc),some (.ref lp),x5,some (.ref ld)] (upd H7 kd (.frz o (.dK kvs)))) ⟨Same.refl _,_,_,_,rfl⟩ (fun i σ H ⟨h,_⟩=>h kd _ upd_same) ?_ ?_⟩
 · rintro i key v σ H8 hi ⟨s8,x8,x9,x10,rfl⟩
   have hkm:=List.mem_of_getElem? hi
   obtain⟨z,ek,hzm,hzv,t,d,c,ks,ev,ht,hd',hc1,hc2,hc3,knd,kln,hks⟩:=D7.rw _ hkm
   have ek:key = .inl (z.a+1):=ek
   have ev:v = .ref t:=ev
   subst ek ev
   obtain⟨z0,z1,z3,z4⟩:=ch.mem z hzm
   have hval:valV kvs (.inl (z.a+1))=some (.ref t):=Xdh D7.nd hkm
   have hvl:valV (lgs ps) (.inl (z.a+1))=some (.int z.l):=Xdh hlnd (kv:=(.inl (z.a+1),.int z.l)) (List.mem_map.mpr ⟨z,List.mem_filter.mpr ⟨hzm,hzv⟩,rfl⟩)
   have htk:t≠kd:=fun w=>by rw[w,hkd7] at ht;cases ht
   have hdk:d≠kd:=fun w=>D7.nk _ hkm t c rfl (by rw[←w];exact ht)
   have hfz:=s8 kd _ upd_same
   have ht8:=s8 t _ (look_ne htk ht)
   have hd8:=s8 d _ (look_ne hdk hd')
   have hld8:=s8 ld _ (look_ne hldk hld7)
   have hpc8:=s8 pc _ (look_ne hpk hpc7)
   have dg:∀{H':Hp},H' kd=some (.frz o (.dK kvs))→DGet H' kd (.int (z.a+1)) (some (.ref t)):=fun h=>by
     have:=XHg (k:=.inl (z.a+1)) h
     rw[hval] at this
     exact this
   dsimp only [kV]
   simp only [List.cons_append,List.nil_append]
   walk_at "go"
   refine⟨ld,.int z.l,rfl,(by have:=DGet.k (k:=.inl (z.a+1)) hld8;rw[hvl] at this;exact this),?_⟩
   walk_at "go"
   refine⟨kd,.ref t,rfl,dg hfz,?_⟩
   walk_at "go"
   intro NF2
   walk_at "go"
   refine⟨kd,.ref t,rfl,dg hfz,?_⟩
   walk_at "go"
   refine⟨d,ks,rfl,rfl,hd8,fun vw nvw=>?_⟩
   have s9:Same H8 (upd H8 vw (.ext fun h=>h.IsItemsView vw d)):=Same.new nvw
   have hvw:upd H8 vw (.ext fun h=>h.IsItemsView vw d) vw=some (.ext fun h=>h.IsItemsView vw d):=upd_same
   generalize upd H8 vw (.ext fun h=>h.IsItemsView vw d)=H9 at s9 hvw ⊢
   have hd9:=s9 d _ hd8
   have hpc9:=s9 pc _ hpc8
   have hpd:pc≠d:=fun w=>by rw[w,hd8] at hpc8;cases hpc8
   refine⟨vw,d,ks,rfl,hvw,hd9,fun o2 nf2=>Xqy nf2 (GiW [some (.ref x),some (.ref kd),some (.int s),some (.ref pc),some (.ref lp),x5,some (.ref ld),some (.int (z.a+1))] (upd H9 d (.frz o2 (.dK ks)))) ⟨Same.refl _,_,_,rfl⟩ (fun i σ H ⟨h,_⟩=>h d _ upd_same) ?_ ?_⟩
   · rintro j k2 v2 t2 σ H10 hj ⟨s10,x9',x10',rfl⟩ nt2
     obtain⟨ii,nn,eq,i0,i1,hcs⟩:=hks _ (List.mem_of_getElem? hj)
     have e1:k2 = .inl ii:=congrArg Prod.fst eq
     have e2:v2 = .int nn:=congrArg Prod.snd eq
     subst e1 e2
     have s11:Same H10 (upd H10 t2 (.tup [.int ii,.int nn])):=Same.new nt2
     have ht2:upd H10 t2 (.tup [.int ii,.int nn]) t2=some (.tup [.int ii,.int nn]):=upd_same
     dsimp only [kV]
     generalize upd H10 t2 (.tup [.int ii,.int nn])=H11 at s11 ht2 ⊢
     have hpc11:=s11 pc _ (s10 pc _ (look_ne hpd hpc9))
     have eg:cs.getD (z.a+1+ii).toNat 0=nn:=by rw[List.getD_eq_getElem?_getD,hcs];rfl
     simp only [List.cons_append,List.nil_append]
     walk_at "go"
     exact⟨s10.trans s11,_,_,rfl⟩
   · rintro σ H10 ⟨s10,x9',x10',rfl⟩
     simp only [List.cons_append,List.nil_append]
     walk_at "go"
     have sk:Same H9 (upd H10 d (.dK ks)):=fun b u hb=>by
       by_cases g:b=d
       · rw[g,hd9] at hb
         rw[g,upd_same]
         exact hb
       · exact look_ne g (s10 b u (look_ne g hb))
     exact⟨s8.trans (s9.trans sk),_,_,_,rfl⟩
 · rintro σ H8 ⟨s8,x8,x9,x10,rfl⟩
   simp only [List.cons_append,List.nil_append]
   walk_at "go"
   have sk:Same H7 (upd H8 kd (.dK kvs)):=fun b u hb=>by
     by_cases g:b=kd
     · rw[g,hkd7] at hb
       rw[g,upd_same]
       exact hb
     · exact look_ne g (s8 b u (look_ne g hb))
   exact q lp us _ (s07.trans sk) (sk lp _ hlp7) (pa7.same sk)
def Xsg (C:Addr):Sp:=fun vs H Q _=>∃(x dx a kd:Addr) (s:Int) (m:Nat) (fs:List Sf) (cs:List Int) (kvs:List (Key×V)) (c0:Int),vs=[.ref x,.ref kd,.int c0]∧ShS C x dx a s fs cs H∧HhS cs (alP s 0 fs) kd kvs m H∧m≤63∧∀H',Same H H'→Q (.bl true) H'
theorem Xrz {kvs:List (Key×V)}{ns ms:List Int}{k:Nat}(ek:kvs.map (·.1)=ns.map Sum.inl)(p:ms.Perm ns)(hk:k<ms.length):∃kv∈kvs,kv.1 = .inl (ms.getD k 0):=by
 have h1:ms.getD k 0∈ns:=p.mem_iff.mp (by rw[List.getD_eq_getElem?_getD,List.getElem?_eq_getElem hk];exact List.getElem_mem hk)
 have h2:(Sum.inl (ms.getD k 0):Key)∈kvs.map (·.1):=by rw[ek];exact List.mem_map.mpr ⟨_,h1,rfl⟩
 obtain⟨kv,h3,h4⟩:=List.mem_map.mp h2
 exact⟨kv,h3,h4⟩
theorem XMw (S:Src K mg "_law_told" Xou)(T:Txt K mg Y0 Y8 Y4 Y2 Y6 Y9 Y1 Y7 Y5 Y3 W0_ W1_)(D_Z53:Methx P w K mg base Y3 "many" 7 ["self","place"] [] (Xia Y3))(D_get:Methx P w K mg base Y3 "get" 9 ["self","place","k"] [] (Xvt Y3))(D_Z32:Defx P w K mg base "_law_whole" 1 ["_law_found"] (Xew)):Defx P w K mg base "_law_told" 10 ["_law_keeper","_law_held","_law_cell"] (Xsg Y3):=by
 refine S.okx Xgw XGi (fun vs H Q E h=>by revert h;walk_at "len") (fun f cdv A outer s H vs Q E hr h=>?_)
 refine⟨_,PSs.nox (Xab (Xao (i:=3) Xgw.nd rfl (Or.inl rfl) (Xat (Xcq rfl) (by rfl) T.n_sorted PyProof.Rows.boot_sorted (Xaa (pv 1) Xae))) (Xab (Xbc (Xaj (Xpu hr.units) (pv 3) (Xgx Xae) (Xam _)) (Xac (Xai Xck)) Xal) (Xab (Xao (i:=4) Xgw.nd rfl (Or.inl rfl) (Xbd Xba (pv 3) (Xan Xbn (Xan Xbn (Xan Xfh (pv 2) Xaf) Xaf) (Xat Xav (by rfl) T.n_len PySem.boot_len (Xaa (pv 3) Xae))) (fun _ _=>rfl))) (Xab (Xao (i:=5) Xgw.nd rfl (Or.inl rfl) (Xbd Xdc (Xcs (Xcn hr.units) (pv 1) (pv 4) (fun _ _=>rfl)) Xaf (fun _ _=>rfl))) (Xab (Xao (i:=6) Xgw.nd rfl (Or.inl rfl) (Xbg D_Z53 Xaw hr (pv 0) (Xaa (pv 4) Xae))) (Xab (Xbc (PW.pt (Xeb (Xbu (Xdz (Xag D_Z32 hr (by rfl) (Xaa (pv 6) Xae)))) (Xda (Xaj Xim (pv 6) (Xbd Xdc (Xcs (Xcn hr.units) (pv 1) (pv 4) (fun _ _=>rfl)) Xaf (fun _ _=>rfl)) (Xam _))))) (Xac (Xai Xck)) Xal) (Xab (Xbc (Xbu (Xjn (pv 5) (fun _=>rfl))) (Xac (Xai Xck)) Xal) (Xab (Xao (i:=7) Xgw.nd rfl (Or.inl rfl) (Xbd Xba (Xat (Xcq rfl) (by rfl) T.n_sorted PyProof.Rows.boot_sorted (Xaa (pv 5) Xae)) (Xan Xbn (Xan Xbn (Xan Xfh (pv 2) Xaf) Xaf) (Xat Xru (by rfl) T.n_len PySem.boot_len (Xaa (pv 5) Xae))) (fun _ _=>rfl))) (Xab (Xao (i:=8) Xgw.nd rfl (Or.inl rfl) (Xbg D_get Xaw hr (pv 0) (Xaa (pv 4) (Xaa (pv 7) Xae)))) (Xac (Xai (Xkj (Xag D_Z32 hr (by rfl) (Xaa (pv 8) Xae)) (Xkv (Xcv Xed (pv 8) (Xcs (Xcn hr.units) (pv 5) (pv 7) (fun _ _=>rfl)) (Xam _))))))))))))))),?_⟩
 obtain⟨x,dx,a,kd,s,m,fs,cs,kvs,c0,rfl,S,D,hm,q⟩:=h
 have hx:=S.hx
 have hz:=S.hz
 have hfw:=D.fw
 obtain⟨ns2,ek2⟩:=Xff (kvs:=kvs) fun kv hk=>let ⟨z,e,_⟩:=D.rw kv hk;⟨_,e⟩
 have hn2l:ns2.length=kvs.length:=by have:=congrArg List.length ek2;rw[List.length_map,List.length_map] at this;omega
 walk_at "go"
 refine⟨kd,kvs,ns2,rfl,D.hd,ek2,by omega,fun d1 ms nd1 p1 o1=>?_⟩
 have hml:ms.length=kvs.length:=by rw[p1.length_eq];exact hn2l
 have s1:Same H (upd H d1 (.lst (ms.map V.int))):=Same.new nd1
 have hd1:upd H d1 (.lst (ms.map V.int)) d1=some (.lst (ms.map V.int)):=upd_same
 generalize upd H d1 (.lst (ms.map V.int))=H1 at s1 hd1 ⊢
 walk_at "go"
 intro l0 nl0
 have s2:Same H1 (upd H1 l0 (.lst [])):=Same.new nl0
 have hl0:upd H1 l0 (.lst []) l0=some (.lst (([]:List Int).map V.int)):=upd_same
 generalize upd H1 l0 (.lst [])=H2 at s2 hl0 ⊢
 have hd12:=s2 d1 _ hd1
 have s02:=s1.trans s2
 refine⟨d1,l0,ms,[],rfl,rfl,SqL.of hd12,SqL.of hl0,?_⟩
 have S2:=S.same s02
 have D2:=D.same s02
 have hx2:=S2.hx
 have hkd2:=D2.hd
 walk_at "go"
 refine Xby (fun hE=>?_) (fun hE=>?_)
 · walk_at "go"
   exact q H2 s02
 have hpos:0<ms.length:=List.length_pos_iff.mpr hE
 have i0:=Int.emod_nonneg (c0*48271%30011) (show (ms.length:Int)≠0 by omega)
 have i1:=Int.emod_lt_of_pos (c0*48271%30011) (show (0:Int)<(ms.length:Int) by omega)
 obtain⟨kv,hkm,ekv⟩:=Xrz ek2 p1 (k:=(c0*48271%30011%(ms.length:Int)).toNat) (by omega)
 obtain⟨z,ek,hzm,hzv,t,d,c,ks,ev,ht,hd',hc1,hc2,hc3,knd,kln,hks⟩:=D2.rw kv hkm
 have ep:ms.getD (c0*48271%30011%(ms.length:Int)).toNat 0=z.a+1:=by rw[ek] at ekv;exact(Sum.inl.inj ekv).symm
 have hval:valV kvs (.inl (z.a+1))=some (.ref t):=by have:=Xdh D2.nd hkm;rw[ek,ev] at this;exact this
 have dg:∀{H':Hp},H' kd=some (.dK kvs)→DGet H' kd (.int (z.a+1)) (some (.ref t)):=fun h=>by
   have:=DGet.k (k:=.inl (z.a+1)) h
   rw[hval] at this
   exact this
 have hlm:(ms.map V.int).length=ms.length:=List.length_map _
 walk_at "gs"
 rw[ep]
 refine⟨kd,.ref t,rfl,dg hkd2,?_⟩
 walk_at "go"
 refine⟨s,x,dx,a,cs,_,z,rfl,hx2,S2.ha,by omega,Xar S2.ch S2.mm,S2.ch,hzm,hzv,fun H3 s3=>?_⟩
 have S3:=S2.same s3
 have hx3:=S3.hx
 have hkd3:=s3 kd _ hkd2
 have ht3:=s3 t _ ht
 have hd3:=s3 d _ hd'
 walk_at "go"
 refine⟨kd,.ref t,rfl,dg hkd3,?_⟩
 walk_at "go"
 refine⟨d,ks,rfl,hd3,?_⟩
 cases hK:ks.isEmpty with
 | true =>
   walk_at "go"
   exact q H3 (s02.trans s3)
 | false =>
 have hkp:0<ks.length:=by
   cases ks with
   | nil=>cases hK
   | cons _ _=>exact Nat.succ_pos _
 obtain⟨ns3,ek3⟩:=Xff (kvs:=ks) fun kv hk=>let ⟨i,n,e,_⟩:=hks kv hk;⟨i,by rw[e]⟩
 have hn3l:ns3.length=ks.length:=by have:=congrArg List.length ek3;rw[List.length_map,List.length_map] at this;omega
 walk_at "go"
 refine⟨d,ks,ns3,rfl,hd3,ek3,by omega,fun d4 ms4 nd4 p4 o4=>?_⟩
 have hml4:ms4.length=ks.length:=by rw[p4.length_eq];exact hn3l
 have s4:Same H3 (upd H3 d4 (.lst (ms4.map V.int))):=Same.new nd4
 have hd4:upd H3 d4 (.lst (ms4.map V.int)) d4=some (.lst (ms4.map V.int)):=upd_same
 generalize upd H3 d4 (.lst (ms4.map V.int))=H4 at s4 hd4 ⊢
 have hdd4:=s4 d _ hd3
 have S4:=S3.same s4
 have hx4:=S4.hx
 walk_at "go"
 refine⟨d,ks,rfl,hdd4,?_⟩
 have j0:=Int.emod_nonneg (c0*40692%31337) (show (ks.length:Int)≠0 by omega)
 have j1:=Int.emod_lt_of_pos (c0*40692%31337) (show (0:Int)<(ks.length:Int) by omega)
 obtain⟨qv,hqm,eqv⟩:=Xrz ek3 p4 (k:=(c0*40692%31337%(ks.length:Int)).toNat) (by omega)
 obtain⟨ii,nn,eq,i0',i1',hcs⟩:=hks qv hqm
 have ep2:ms4.getD (c0*40692%31337%(ks.length:Int)).toNat 0=ii:=by rw[eq] at eqv;exact(Sum.inl.inj eqv).symm
 have hval4:valV ks (.inl ii)=some (.int nn):=by have:=Xdh knd hqm;rw[eq] at this;exact this
 have hlm4:(ms4.map V.int).length=ms4.length:=List.length_map _
 walk_at "go"
 rw[ep2]
 refine⟨x,dx,a,s,fs,cs,z,ii,rfl,S4,hzm,hzv,i0',i1',fun H5 s5=>?_⟩
 have eg:cs.getD (z.a+1+ii).toNat 0=nn:=by rw[List.getD_eq_getElem?_getD,hcs];rfl
 rw[eg]
 have hdd5:=s5 d _ hdd4
 walk_at "go"
 refine⟨d,.int nn,rfl,(by have:=DGet.k (k:=.inl ii) hdd5;rw[hval4] at this;exact this),?_⟩
 walk_at "go"
 rw[decide_eq_true rfl]
 exact q H5 (s02.trans (s3.trans (s4.trans s5)))
theorem Xws (v:Int):∀b:List Int,inV (.int v) (b.map V.int)=decide (v∈b)
 | []=>rfl
 | w::r=>by
   have ih:=Xws v r
   unfold inV at ih ⊢
   rw[List.map_cons,List.any_cons,ih]
   show ((w==v)||decide (v∈r))=_
   rw[Bool.eq_iff_iff]
   simp only [Bool.or_eq_true,beq_iff_eq,decide_eq_true_eq,List.mem_cons]
   constructor
   · rintro(h | h)
     · exact .inl h.symm
     · exact .inr h
   · rintro(h | h)
     · exact .inl h.symm
     · exact .inr h
theorem Xym (b:List Int):(b.map V.int).all Xdb=true:=List.all_eq_true.mpr fun u hu=>by
 obtain⟨_,_,rfl⟩:=List.mem_map.mp hu
 rfl
theorem Xsw {ps:List Pc}{s k:Int}{i:Nat}{z:Pc}(h:ps[i]?=some z):cutS (ps.take (i+1)) s k=cutS (ps.take i) s k++(if z.v=true∧z.l=k then [z.a/s] else []):=by
 unfold cutS
 rw[List.take_add_one,h,List.filter_append,List.map_append]
 congr 1
 simp only [Option.toList_some,List.filter_cons,List.filter_nil]
 by_cases e:z.v=true∧z.l=k
 · rw[if_pos e,if_pos (by rw[e.1,decide_eq_true e.2];rfl)];rfl
 · rw[if_neg e,if_neg (fun h=>e (by obtain⟨h1,h2⟩:=Bool.and_eq_true_iff.mp h;exact⟨h1,of_decide_eq_true h2⟩))];rfl
def CtW (H1:Hp)(ps:List Pc)(s k:Int)(D:Addr)(i:Nat)(ys:List V)(H2:Hp):Prop:=Same H1 H2∧H2 D=some (.lst ys)∧H1 D=none∧ys=(cutS (ps.take i) s k).map V.int∧ys.length≤i
def CaW (f0 f1 f2 f3:Option V)(ps:List Pc)(s k:Int)(H:Hp)(i:Nat)(σ:L2.St)(H':Hp):Prop:=Same H H'∧(∀z∈ps.take i,¬CanZ ps s k z)∧∃x4 x5 x6:Option V,σ=[f0,f1,f2,f3,x4,x5,x6]
def Xvr:Sp:=fun vs H Q _=>∃(lp:Addr) (us:List V) (ps:List Pc) (s k n:Int),vs=[.ref lp,.int s,.int k]∧H lp=some (.lst us)∧Xbk H us ps∧Xaq 0 ps n∧n≤1200∧1≤s∧s≤1200∧3≤k∧k≤1300 ∧
 ∀(cn:Bool) (H':Hp),Same H H'→((∀z∈ps,¬CanZ ps s k z)→cn=false)→((∃z∈ps,CanZ ps s k z)→cn=true)→Q (.bl cn) H'
theorem XOo (S:Src K mg "_law_can" Xqc)(T:Txt K mg Y0 Y8 Y4 Y2 Y6 Y9 Y1 Y7 Y5 Y3 W0_ W1_) :Defx P w K mg base "_law_can" 1 ["_law_pieces","_law_shelf","_law_need"] (Xvr):=by
 refine S.okx Xko XIh (fun vs H Q E h=>by revert h;walk_at "len") (fun f cdv A outer s H vs Q E hr h=>?_)
 refine⟨_,PSs.nox (Xab (Xer (i:=3) ["_law_piece"] ["_law_shelf","_law_need"] [1,2] Xko.nd rfl (Or.inl rfl) rfl (Xct (pv 0)) (fun cl C s₀ H₀ ex=>(Xau (i:=0) (show ((["_law_piece"]:List Str)++(["_law_shelf","_law_need"]:List Str)).Nodup by decide +kernel) rfl (Or.inl rfl))) (fun cl C s₀ H₀ ex=>(Xes (PW.pt (Xfo (Xfa (K:=K) rfl (Xbd (Xdk (K:=K) rfl) (pv 0) Xaf (fun _ _=>rfl)) (fun _=>rfl)) (Xfp (Xaj Xed (Xbd (Xdk (K:=K) rfl) (pv 0) Xaf (fun _ _=>rfl)) (pv 2) (Xam _))))))) (fun cl C s₀ H₀ ex=>(Xan Xdw (Xbd (Xdk (K:=K) rfl) (pv 0) Xaf (fun _ _=>rfl)) (pv 1))) (Xeo rfl rfl rfl rfl rfl rfl) (Xgk (n:="_law_shelf") (m:="_law_need") (by decide +kernel) rfl rfl) (fun y h=>Xbp (by decide +kernel) h)) (Xab (ps_for PassesOwn.never rfl (Xct (pv 0)) (Xmx rfl (Xbj (Xau (i:=4) Xko.nd rfl (Or.inl rfl)) (Xbj (Xau (i:=5) Xko.nd rfl (Or.inl rfl)) (Xbj (Xau (i:=6) Xko.nd rfl (Or.inl rfl)) Xfu)))) (Xab (Xbc (PW.pt (Xfo (Xbu (Xcd (pv 6) (fun _=>rfl))) (Xfo (Xaj Xxr (pv 2) (pv 1) (Xam _)) (Xfo (Xaj Xed (Xan Xbn (pv 4) (pv 1)) Xaf (Xam _)) (Xfp (Xaj Xed (pv 5) (pv 1) (Xam _))))))) (Xac (Xai Xck)) Xal) (Xac (Xbc (PW.pt (Xfo (Xbu (Xcd (pv 6) (fun _=>rfl))) (Xfo (Xaj Xed (pv 5) (pv 2) (Xam _)) (Xfp (Xaj Xro (Xan Xdw (pv 4) (pv 1)) (pv 3) rfl))))) (Xac (Xai Xck)) Xal)))) (Xac (Xai Xck)))),?_⟩
 obtain⟨lp,us,ps,s,k,n,rfl,hlp,pa,ch,hn,hs,hs2,hk,hk2,q0⟩:=h
 have q1:(∀z∈ps,¬CanZ ps s k z)→∀H',Same H H'→Q (.bl false) H':=fun hno H' s'=>q0 false H' s' (fun _=>rfl) (fun ⟨z,hz,hc⟩=>absurd hc (hno z hz))
 have q2:(∃z∈ps,CanZ ps s k z)→∀H',Same H H'→Q (.bl true) H':=fun ⟨z,hz,hc⟩ H' s'=>q0 true H' s' (fun hno=>absurd hc (hno z hz)) (fun _=>rfl)
 have hul:=pa.1
 have hple:=ch.le
 walk_at "go"
 refine⟨lp,rfl,⟨_,SqL.of hlp⟩,Xbr (K:=K) (a:=lp) (xs:=us) (CtW H ps s k) (fun D hD=>⟨Same.new hD,upd_same,hD,rfl,Nat.le_refl _⟩) (fun D i ys H2 _ h=>SqL.of (h.1 lp _ hlp)) ?_ ?_⟩
 · rintro D2 i y ys H2 hD hi ⟨s2,hD2,_,ey,hyl⟩ τ hτ
   have hil:i<us.length:=(List.getElem?_eq_some_iff.mp hi).1
   obtain⟨z,hzi⟩:∃z,ps[i]?=some z:=⟨_,List.getElem?_eq_getElem (by omega)⟩
   obtain⟨t,et,hT⟩:=pa.2 i z hzi
   have ey2:y = .ref t:=Option.some.inj (hi.symm.trans et)
   subst ey2
   have hT2:=s2 t _ hT
   obtain⟨z0,z1,_,z4⟩:=ch.mem z (List.mem_of_getElem? hzi)
   have ef:=Xsw (s:=s) (k:=k) hzi
   match τ,hτ with
   | [τ0],_ =>
     walk_at "go"
     refine⟨⟨[_],rfl,rfl⟩,?_⟩
     walk_at "go"
     refine Xhl (fun hv=>?_) (fun hv=>?_)
     · walk_at "go"
       refine Xby (fun hl=>?_) (fun hl=>?_)
       · walk_at "go"
         rw[if_pos ⟨hv,hl⟩] at ef
         refine⟨hD2,small4000 (by omega),Xdl hil ⟨s2.put hD,upd_same,hD,?_,by rw[List.length_append,List.length_singleton];omega⟩⟩
         rw[ey,ef,List.map_append]
         rfl
       · walk_at "go"
         rw[if_neg (fun h=>hl h.2),List.append_nil] at ef
         exact Xdl hil ⟨s2,hD2,hD,by rw[ey,ef],by omega⟩
     · walk_at "go"
       rw[if_neg (fun h=>by rw[hv] at h;exact absurd h.1 Bool.false_ne_true),List.append_nil] at ef
       exact Xdl hil ⟨s2,hD2,hD,by rw[ey,ef],by omega⟩
 rintro D1 ys H2 hD1 ⟨s2,hD12,_,ey,hyl⟩
 rw[List.take_of_length_le (by omega)] at ey
 subst ey
 have hlp2:=s2 lp _ hlp
 have pa2:=pa.same s2
 walk_at "go"
 refine⟨lp,rfl,⟨_,SqL.of hlp2⟩,Xiy (K:=K) (a:=lp) (xs:=us) (CaW (some (.ref lp)) (some (.int s)) (some (.int k)) (some (.ref D1)) ps s k H2) ⟨Same.refl _,(fun z hz=>by simp at hz),none,none,none,rfl⟩ (fun i σ H3 _ ⟨h,_⟩=>SqL.of (h lp _ hlp2)) ?_ ?_⟩
 · rintro i y σ H3 hi ⟨s3,hno,x4,x5,x6,rfl⟩
   have hil:i<us.length:=(List.getElem?_eq_some_iff.mp hi).1
   obtain⟨z,hzi⟩:∃z,ps[i]?=some z:=⟨_,List.getElem?_eq_getElem (by omega)⟩
   obtain⟨t,et,hT⟩:=pa2.2 i z hzi
   have ey:y = .ref t:=Option.some.inj (hi.symm.trans et)
   subst ey
   have hT3:=s3 t _ hT
   have hzm:=List.mem_of_getElem? hzi
   obtain⟨z0,z1,_,z4⟩:=ch.mem z hzm
   have hD13:=s3 D1 _ hD12
   have nxt:¬CanZ ps s k z→∀w∈ps.take (i+1),¬CanZ ps s k w:=fun hz w hw=>by
     rw[List.take_add_one,hzi] at hw
     rcases List.mem_append.mp hw with g | g
     · exact hno w g
     · have:w=z:=by simpa using g
       rw[this];exact hz
   walk_at "gs"
   refine Xrr (M:=fun σ' H'=>H'=H3∧¬(z.v=false∧k≤s∧z.a%s=0∧z.l=s)∧σ'=[some (.ref lp),some (.int s),some (.int k),some (.ref D1),some (.int z.a),some (.int z.l),some (.bl z.v)]) ?_ (fun nx hM=>?_)
   · rintro σ' H' ⟨rfl,hn1,rfl⟩
     walk_at "go"
     refine Xhl (fun hv=>?_) (fun hv=>?_)
     · walk_at "go"
       exact⟨s3,nxt (fun h=>by rw[h.1] at hv;cases hv),_,_,_,rfl⟩
     · walk_at "go"
       refine Xby (fun hl=>?_) (fun hl=>?_)
       · walk_at "go"
         refine⟨D1,_,rfl,.inl (SqL.of hD13),rfl,Xym _,?_⟩
         rw[if_neg Bool.false_ne_true,Xws]
         refine⟨_,rfl,?_⟩
         refine Xby (fun hc=>?_) (fun hc=>?_)
         · walk_at "go"
           exact q2 ⟨z,hzm,hv,.inr ⟨hl,hc⟩⟩ H' (s2.trans s3)
         · walk_at "go"
           exact⟨s3,nxt (fun h=>h.2.elim (fun g=>hn1 ⟨hv,g⟩) (fun g=>hc g.2)),_,_,_,rfl⟩
       · walk_at "go"
         exact⟨s3,nxt (fun h=>h.2.elim (fun g=>hn1 ⟨hv,g⟩) (fun g=>hl g.1)),_,_,_,rfl⟩
   · walk_at "go"
     refine Xhl (fun hv=>?_) (fun hv=>?_)
     · walk_at "go"
       exact hM _ _ ⟨rfl,(fun h=>by rw[h.1] at hv;cases hv),rfl⟩
     · walk_at "go"
       refine Xby (fun h1=>?_) (fun h1=>?_)
       · walk_at "go"
         refine Xby (fun h2=>?_) (fun h2=>?_)
         · walk_at "go"
           refine Xby (fun h3=>?_) (fun h3=>?_)
           · walk_at "go"
             exact q2 ⟨z,hzm,hv,.inl ⟨h1,h2,h3⟩⟩ H3 (s2.trans s3)
           · walk_at "go"
             exact hM _ _ ⟨rfl,fun h=>h3 h.2.2.2,rfl⟩
         · walk_at "go"
           exact hM _ _ ⟨rfl,fun h=>h2 h.2.2.1,rfl⟩
       · walk_at "go"
         exact hM _ _ ⟨rfl,fun h=>h1 h.2.1,rfl⟩
 · rintro σ H3 ⟨s3,hno,x4,x5,x6,rfl⟩
   rw[List.take_of_length_le (by omega)] at hno
   walk_at "go"
   exact q1 hno H3 (s2.trans s3)
def FrH (x a:Addr)(H:Hp)(a':Addr)(H':Hp):Prop:=(∀b o,H b=some o→b≠x→b≠a→(∀ks,o≠.dK ks)→H' b=some o)∧(a'=a∨H a'=none)
structure HhT (cs:List Int)(ps:List Pc)(kd:Addr)(kvs:List (Key×V))(m:Nat)(H:Hp):Prop where
 hd:H kd=some (.dK kvs)
 nd:(kvs.map (·.1)).Nodup
 rw:∀kv∈kvs,∃z,kv.1 = .inl (z.a+1)∧z∈ps∧z.v=true∧EnA cs H kv.2 z m
 ap:∀kv∈kvs,∀kv'∈kvs,∀(t t' d:Addr) (c c':Int),kv.2 = .ref t→H t=some (.tup [.int c,.ref d])→kv'.2 = .ref t'→H t'=some (.tup [.int c',.ref d])→kv=kv'
 nk:∀kv∈kvs,∀(t:Addr) (c:Int),kv.2 = .ref t→H t≠some (.tup [.int c,.ref kd])
 fw:kvs.length≤m
section
variable {cs cs':List Int}{ps ps':List Pc}{kd:Addr}{kvs:List (Key×V)}{m:Nat}{H H':Hp}
theorem HhS.t (h:HhS cs ps kd kvs m H):HhT cs ps kd kvs m H:=⟨h.hd,h.nd,h.rw,h.ap,h.nk,h.fw⟩
theorem HhT.seal (h:HhT cs ps kd kvs m H)(sj:∀z∈ps,z.v=true→∃kv∈kvs,kv.1 = .inl (z.a+1)):HhS cs ps kd kvs m H:=⟨h.hd,h.nd,h.rw,h.ap,h.nk,h.fw,sj⟩
theorem EnA.mono {v:V}{z:Pc}{n:Nat}(h:EnA cs H v z m)(hn:m≤n):EnA cs H v z n:=let ⟨t,d,c,ks,e,h1,h2,h3,h4,h5,h6,h7,h8⟩:=h;⟨t,d,c,ks,e,h1,h2,h3,h4,h5,h6,Nat.le_trans h7 hn,h8⟩
theorem HhT.up (h:HhT cs ps kd kvs m H):HhT cs ps kd kvs (m+1) H:=⟨h.hd,h.nd,fun kv hk=>let ⟨z,g1,g2,g3,g4⟩:=h.rw kv hk;⟨z,g1,g2,g3,g4.mono (Nat.le_succ m)⟩,h.ap,h.nk,Nat.le_succ_of_le h.fw⟩
theorem HhT.move {gone:Pc→Prop}(h:HhT cs ps kd kvs m H)(kt:∀b us,H b=some (.tup us)→H' b=some (.tup us))(kk:∀b ks,H b=some (.dK ks)→H' b=some (.dK ks))(L:∀y∈ps,y.v=true→¬gone y→y∈ps'∧∀j:Nat,Inn y j→cs'[j]?=cs[j]?)(c0:∀y∈ps,0≤y.a)(ng:∀kv∈kvs,∀z,kv.1 = .inl (z.a+1)→z∈ps→¬gone z):HhT cs' ps' kd kvs m H':=by
 have tt:∀kv∈kvs,∀(t:Addr) (us:List V),kv.2 = .ref t→H' t=some (.tup us)→H t=some (.tup us):=fun kv hk t us e h'=>by
   obtain⟨z,_,_,_,t0,d,c,ks,e0,h1,_⟩:=h.rw kv hk
   rw[e] at e0
   cases e0
   have:=kt t _ h1
   rw[this] at h'
   rw[h1]
   exact h'
 refine⟨kk kd _ h.hd,h.nd,fun kv hk=>?_,fun kv hk kv' hk' t t' d c c' e1 h1 e2 h2=>h.ap kv hk kv' hk' t t' d c c' e1 (tt kv hk t _ e1 h1) e2 (tt kv' hk' t' _ e2 h2),fun kv hk t c e h1=>h.nk kv hk t c e (tt kv hk t _ e h1),h.fw⟩
 obtain⟨z,g1,g2,g3,t,d,c,ks,e0,h1,h2,h3,h4,h5,h6,h7,h8⟩:=h.rw kv hk
 obtain⟨l1,l2⟩:=L z g2 g3 (ng kv hk z g1 g2)
 refine⟨z,g1,l1,g3,t,d,c,ks,e0,kt t _ h1,kk d _ h2,h3,h4,h5,h6,h7,fun q hq=>?_⟩
 obtain⟨i,n,eq,i0,i1,hc⟩:=h8 q hq
 have:=c0 z g2
 exact⟨i,n,eq,i0,i1,by rw[l2 _ ⟨by omega,by omega⟩];exact hc⟩
theorem HhT.add {z:Pc}{t d:Addr}{c:Int}{ks:List (Key×V)}(h:HhT cs ps kd kvs m H)(ht:H t=some (.tup [.int c,.ref d]))(hd:H d=some (.dK ks))(hdk:d≠kd)(hz:z∈ps)(hv:z.v=true)(hc1:1≤c)(hc2:c+2≤z.l)(hc3:z.l≤c+2)(knd:(ks.map (·.1)).Nodup)(kln:ks.length≤m+1)
   (hks:∀q∈ks,∃(i n:Int),q=(.inl i,.int n)∧0≤i∧i<z.l-2∧cs[(z.a+1+i).toNat]?=some n) (hno:∀kv∈kvs,kv.1≠.inl (z.a+1)) (hfr:∀kv∈kvs,∀(t':Addr) (c':Int),kv.2 = .ref t'→H t'≠some (.tup [.int c',.ref d])) :
   HhT cs ps kd (kvs++[(.inl (z.a+1),.ref t)]) (m+1) (upd H kd (.dK (kvs++[(.inl (z.a+1),.ref t)]))):=by
 have hkd:=h.hd
 have tne:∀{b:Addr} {us:List V},H b=some (.tup us)→b≠kd:=fun hb e=>by rw[e,hkd] at hb;cases hb
 have kt:∀(b:Addr) (us:List V),b≠kd→upd H kd (.dK (kvs++[(.inl (z.a+1),.ref t)])) b=some (.tup us)→H b=some (.tup us):=fun b us n e=>by rwa [Xah n] at e
 have rt:∀kv∈kvs,∀t',kv.2 = .ref t'→t'≠kd:=fun kv hk t' e=>by
   obtain⟨_,_,_,_,t0,_,_,_,e0,h1,_⟩:=h.rw kv hk
   rw[e] at e0
   cases e0
   exact tne h1
 refine⟨upd_same,?_,fun kv hk=>?_,fun kv hk kv' hk' t1 t2 d' c1 c2 e1 h1 e2 h2=>?_,fun kv hk t1 c1 e1 h1=>?_,?_⟩
 · rw[List.map_append]
   exact Xma h.nd (fun g=>by obtain⟨kv,h1,h2⟩:=List.mem_map.mp g;exact hno kv h1 h2)
 · rcases List.mem_append.mp hk with g | g
   · obtain⟨y,g1,g2,g3,t0,d0,c0,ks0,e0,h1,h2,r⟩:=h.rw kv g
     have hd0:d0≠kd:=fun w=>h.nk kv g t0 c0 e0 (by rw[←w];exact h1)
     exact⟨y,g1,g2,g3,EnA.mono (m:=m) ⟨t0,d0,c0,ks0,e0,look_ne (tne h1) h1,look_ne hd0 h2,r⟩ (Nat.le_succ m)⟩
   · rw[List.mem_singleton.mp g]
     exact⟨z,rfl,hz,hv,t,d,c,ks,rfl,look_ne (tne ht) ht,look_ne hdk hd,hc1,hc2,hc3,knd,kln,hks⟩
 · rcases List.mem_append.mp hk with g | g
   · have h1:=kt t1 _ (rt kv g t1 e1) h1
     rcases List.mem_append.mp hk' with g' | g'
     · exact h.ap kv g kv' g' t1 t2 d' c1 c2 e1 h1 e2 (kt t2 _ (rt kv' g' t2 e2) h2)
     · rw[List.mem_singleton.mp g'] at e2
       cases e2
       have h2:=kt t _ (tne ht) h2
       rw[ht] at h2
       cases h2
       exact absurd h1 (hfr kv g t1 c1 e1)
   · rw[List.mem_singleton.mp g] at e1
     cases e1
     have h1:=kt t _ (tne ht) h1
     rw[ht] at h1
     cases h1
     rcases List.mem_append.mp hk' with g' | g'
     · exact absurd (kt t2 _ (rt kv' g' t2 e2) h2) (hfr kv' g' t2 c2 e2)
     · rw[List.mem_singleton.mp g,List.mem_singleton.mp g']
 · rcases List.mem_append.mp hk with g | g
   · exact h.nk kv g t1 c1 e1 (kt t1 _ (rt kv g t1 e1) h1)
   · rw[List.mem_singleton.mp g] at e1
     cases e1
     have h1:=kt t _ (tne ht) h1
     rw[ht] at h1
     cases h1
     exact hdk rfl
 · rw[List.length_append,List.length_singleton]
   have:=h.fw
   omega
end
theorem HhT.same {cs:List Int}{ps:List Pc}{kd:Addr}{kvs:List (Key×V)}{m:Nat}{H H':Hp}{n:Int}(h:HhT cs ps kd kvs m H)(c:Xaq 0 ps n)(s:Same H H'):HhT cs ps kd kvs m H':=h.move (gone:=fun _=>False) (fun b us e=>s b _ e) (fun b ks e=>s b _ e) (fun y hy _ _=>⟨hy,fun _ _=>rfl⟩) (fun y hy=>(c.mem y hy).1) (fun _ _ _ _ _ g=>g)
theorem HhT.drop {cs:List Int}{ps:List Pc}{kd:Addr}{kvs:List (Key×V)}{m:Nat}{H:Hp}{k:Key}(h:HhT cs ps kd kvs m H):HhT cs ps kd (Xbz kvs k) m (upd H kd (.dK (Xbz kvs k))):=by
 have hkd:=h.hd
 have tne:∀{b:Addr} {us:List V},H b=some (.tup us)→b≠kd:=fun hb e=>by rw[e,hkd] at hb;cases hb
 have rt:∀kv∈kvs,∀t',kv.2 = .ref t'→t'≠kd:=fun kv hk t' e=>by
   obtain⟨_,_,_,_,t0,_,_,_,e0,h1,_⟩:=h.rw kv hk
   rw[e] at e0
   cases e0
   exact tne h1
 have kt:∀(b:Addr) (us:List V),b≠kd→upd H kd (.dK (Xbz kvs k)) b=some (.tup us)→H b=some (.tup us):=fun b us n e=>by rwa [Xah n] at e
 refine⟨upd_same,Xik h.nd,fun kv hk=>?_,fun kv hk kv' hk' t t' d c c' e1 h1 e2 h2=>h.ap kv (Xca hk).1 kv' (Xca hk').1 t t' d c c' e1 (kt t _ (rt kv (Xca hk).1 t e1) h1) e2 (kt t' _ (rt kv' (Xca hk').1 t' e2) h2),fun kv hk t c e h1=>h.nk kv (Xca hk).1 t c e (kt t _ (rt kv (Xca hk).1 t e) h1),Nat.le_trans (Xiv _ _) h.fw⟩
 obtain⟨y,g1,g2,g3,t0,d0,c0,ks0,e0,h1,h2,r⟩:=h.rw kv (Xca hk).1
 have hd0:d0≠kd:=fun w=>h.nk kv (Xca hk).1 t0 c0 e0 (by rw[←w];exact h1)
 exact⟨y,g1,g2,g3,t0,d0,c0,ks0,e0,look_ne (tne h1) h1,look_ne hd0 h2,r⟩
def Xra (C:Addr):Sp:=fun vs H Q _=>∃(x dx a kd:Addr) (s c:Int) (m:Nat) (fs:List Sf) (cs:List Int) (kvs:List (Key×V)) (cn:Bool),vs=[.ref x,.ref kd,.int c,.bl cn]∧ShS C x dx a s fs cs H∧HhS cs (alP s 0 fs) kd kvs m H∧m≤62∧1≤c∧c≤1300∧(NoGr s (c+2) fs→cn=false)∧((∃(j i:Nat) (b:List Bool) (fs1:List Sf),Gs s (c+2) fs j i b fs1)→cn=true) ∧
 ∀(a':Addr) (fs':List Sf) (cs':List Int) (kvs':List (Key×V)) (H':Hp),FrH x a H a' H'→fs'.length=fs.length→ShS C x dx a' s fs' cs' H'→HhS cs' (alP s 0 fs') kd kvs' (m+1) H'→Q (.bl true) H'
theorem XNk (S:Src K mg "_law_asked" Xpn)(T:Txt K mg Y0 Y8 Y4 Y2 Y6 Y9 Y1 Y7 Y5 Y3 W0_ W1_)(D_Z47:Methx P w K mg base Y3 "cells" 1 ["self"] [] (Xdv Y3))(D_ask:MethD P w K mg base Y3 "ask" 7 ["self","count","bound"] [.int 1] (Xph Y3 Y7))(D_Z32:Defx P w K mg base "_law_whole" 1 ["_law_found"] (Xew)):Defx P w K mg base "_law_asked" 8 ["_law_keeper","_law_held","_law_count","_law_can_here"] (Xra Y3):=by
 refine S.okx Xhz XDe (fun vs H Q E h=>by revert h;walk_at "len") (fun f cdv A outer s H vs Q E hr h=>?_)
 refine⟨_,PSs.nox (Xab (Xao (i:=4) Xhz.nd rfl (Or.inl rfl) (Xcc D_Z47 Xaw hr (pv 0))) (Xab (Xao (i:=5) Xhz.nd rfl (Or.inl rfl) Xef) (Xab (Xao (i:=6) Xhz.nd rfl (Or.inl rfl) Xaf) (Xab (Xrx (i:=6) Xhz.nd rfl (Or.inl rfl) (Xmt D_ask.less hr (pv 0) (Xaa (pv 2) Xae)) ⟨rfl,rfl⟩ (Xsr (by rfl) T.c_NoRoom (fun x=>(Xac (Xao (i:=5) Xhz.nd rfl (Or.inl rfl) Xef))) Xwa)) (Xab (Xbc (Xaj Xed (pv 5) Xef (Xam _)) (Xac (Xai (Xkj (Xnn (pv 3)) (Xkv (Xcv (Xpu hr.units) (Xcc D_Z47 Xaw hr (pv 0)) (pv 4) (Xam _)))))) Xal) (Xab (Xbc (PW.pt (Xeb (Xbu (Xdz (Xag D_Z32 hr (by rfl) (Xaa (pv 6) Xae)))) (Xeb (Xwk (Xvv (Xcn hr.units) (pv 6) (pv 1))) (Xda (Xbu (Xcd (pv 3) (fun _=>rfl))))))) (Xac (Xai Xck)) Xal) (Xab (Xlf (Xcn hr.units) (pv 1) (pv 6) (Xfn (Xaa (pv 2) (Xaa Xmu Xae))) rfl) (Xac (Xai Xck))))))))),?_⟩
 obtain⟨x,dx,a,kd,s,c,m,fs,cs,kvs,cn,rfl,S,D,hm,hc1,hc2,hcn,hcy,q⟩:=h
 have hx:=S.hx
 have c0':∀y∈alP s 0 fs,0≤y.a:=fun y hy=>(S.ch.mem y hy).1
 walk_at "go"
 refine⟨s,x,dx,a,cs,rfl,hx,S.ha,fun pb H1 npb s1 hpb=>?_⟩
 have S1:=S.same s1
 have hx1:=S1.hx
 walk_at "go"
 refine⟨x,dx,a,s,c,fs,cs,rfl,S1,hc1,?_⟩
 rcases XIj (s:=s) (fs:=fs) (show 3≤c+2 by omega) with ng | ⟨j,i,b,fs1,G⟩
 · refine .inl ⟨ng,fun H2 s2=>⟨_,rfl,fun y hy=>Or.inl ⟨T.f_NoRoom_NoRoom,?_⟩⟩⟩
   have ecn:=hcn ng
   subst ecn
   have s3:=s2.put (o:=ExcO y Y7 none) (s2.free hy)
   generalize upd H2 y (ExcO y Y7 none)=H3 at s3 ⊢
   have s03:=s1.trans s3
   have S3:=S.same s03
   have hx3:=S3.hx
   have hpb3:=s3 pb _ hpb
   walk_at "go"
   refine⟨s,x,dx,a,cs,rfl,hx3,S3.ha,fun pc H4 npc s4 hpc=>?_⟩
   walk_at "go"
   refine⟨pc,pb,cs,cs,rfl,rfl,SqL.of hpc,SqL.of (s4 pb _ hpb3),?_⟩
   rw[decide_eq_true rfl]
   walk_at "go"
   have sA:=s03.trans s4
   exact q a fs cs kvs H4 ⟨fun b o h _ _ _=>sA b o h,.inl rfl⟩ rfl (S.same sA) (((D.t.same S.ch sA).up).seal D.sj)
 · have ecn:=hcy ⟨j,i,b,fs1,G⟩
   subst ecn
   obtain⟨pt1,pt2,pt3,pt4⟩:=G.parts S.hs (by omega) S.ok
   refine .inr ⟨j,i,b,fs1,G,fun a' cs' H2 na2 k2 l2 ln ho2 S2=>?_⟩
   have ch1:=Xcy (cs:=cs) S.hs (G.W (by omega) S.ok) (by rw[ln];exact S.hl)
   have lnf:(fs1.set j ⟨c+2,b.set i true⟩).length=fs.length:=by rw[List.length_set];exact ln
   generalize fs1.set j ⟨c+2,b.set i true⟩=fs2 at pt1 pt2 pt4 S2 lnf
   generalize s*(j:Int)+(c+2)*(i:Int)=at0 at pt2 pt3 pt4 ⊢
   have D1:=D.t.same S.ch s1
   have xne:∀{b':Addr} {o:HO},(∀C dx fs,o≠.ins C dx fs)→H1 b'=some o→b'≠x:=fun hn hb e=>by
     rw[e,hx1] at hb
     exact hn _ _ _ (Option.some.inj hb).symm
   have D2:HhT cs' (alP s 0 fs2) kd kvs m H2:=D1.move (gone:=fun _=>False) (fun b' us e=>k2 b' _ (xne (fun _ _ _ w=>by cases w) e) e) (fun b' ks e=>k2 b' _ (xne (fun _ _ _ w=>by cases w) e) e) (fun y hy hv _=>⟨(pt1 y hy hv).2,fun j hj=>ho2 y hy hv j hj⟩) c0' (fun _ _ _ _ _ g=>g)
   have hno:∀kv∈kvs,kv.1≠.inl (at0+1):=fun kv hk e=>by
     obtain⟨z,e1,h3,h4,_⟩:=D.rw kv hk
     rw[e1] at e
     have:=Sum.inl.inj e
     have:=Xbt ch1 (pt1 z h3 h4).1 pt3 (by show z.a=at0;omega)
     rw[this] at h4
     cases h4
   have hkd2:=D2.hd
   walk_at "go"
   refine⟨kd,_,rfl,DGet.k (k:=.inl (at0+1)) hkd2,?_⟩
   rw[Xgq hno]
   walk_at "go"
   refine iteF ?_
   walk_at "go"
   intro d nd
   have s3:Same H2 (upd H2 d (.dK [])):=Same.new nd
   have hd3:upd H2 d (.dK []) d=some (.dK []):=upd_same
   generalize upd H2 d (.dK [])=H3 at s3 hd3 ⊢
   walk_at "go"
   intro t nt
   have s4:Same H2 (upd H3 t (.tup [.int c,.ref d])):=s3.trans (Same.new nt)
   have ht4:upd H3 t (.tup [.int c,.ref d]) t=some (.tup [.int c,.ref d]):=upd_same
   have hd4:=(Same.new (o:=.tup [.int c,.ref d]) nt) d _ hd3
   generalize upd H3 t (.tup [.int c,.ref d])=H4 at s4 ht4 hd4 ⊢
   have D4:=D2.same S2.ch s4
   have S4:=S2.same s4
   have hkd4:=D4.hd
   have hdk:d≠kd:=fun w=>by rw[w,hkd2] at nd;cases nd
   have hfw:=D4.fw
   walk_at "go"
   refine⟨kd,_,rfl,DPut.k (k:=.inl (at0+1)) hkd4 (small4000 (by omega)),?_⟩
   rw[Xjg _ (Xgq hno)]
   walk_at "go"
   have D5:=D4.add (z:=⟨at0,c+2,true⟩) (t:=t) (d:=d) (c:=c) (ks:=[]) ht4 hd4 hdk pt2 rfl hc1 (Int.le_refl _) (Int.le_refl _) List.nodup_nil (Nat.zero_le _) (fun q hq=>by cases hq) hno (fun kv hk t' c' e h=>by
     obtain⟨z,_,_,_,t0,d0,c0,ks,e0,h1,h2,_⟩:=D2.rw kv hk
     rw[e] at e0
     cases e0
     have h1':=s4 t' _ h1
     rw[h1'] at h
     cases h
     rw[nd] at h2
     cases h2)
   have hx4:=S4.hx
   have hka':a'≠kd:=fun w=>by have:=S4.ha;rw[w,hkd4] at this;cases this
   have hxk:x≠kd:=fun w=>by rw[w,hkd4] at hx4;cases hx4
   refine q a' fs2 cs' _ _ ⟨fun b' o h n1 n2 n3=>?_,.inr (s1.free na2)⟩ lnf ⟨look_ne hxk hx4,look_ne hka' S4.ha,S4.hl,S4.hz,S4.hs,S4.ok,S4.mm⟩ (D5.seal fun z hz hv=>?_)
   · exact look_ne (fun w=>n3 _ (by rw[w,D.hd] at h;exact(Option.some.inj h).symm)) (s4 b' o (k2 b' o n1 (s1 b' o h)))
   · rcases pt4 z hz hv with e | e
     · exact⟨_,List.mem_append_right _ (List.mem_singleton.mpr rfl),by rw[e]⟩
     · obtain⟨kv,g1,g2⟩:=D.sj z e hv
       exact⟨kv,List.mem_append_left _ g1,g2⟩
def Xsc (C:Addr):Sp:=fun vs H Q _=>∃(x dx a kd:Addr) (s n c:Int) (m j i:Nat) (b:List Bool) (fs:List Sf) (cs:List Int) (kvs:List (Key×V)) (cn:Bool),vs=[.ref x,.ref kd,.int (s*(j:Int)+n*(i:Int)+1),.int c,.bl cn]∧ShS C x dx a s fs cs H∧HhS cs (alP s 0 fs) kd kvs m H∧m≤62∧1≤c∧c≤1300∧fs[j]?=some ⟨n,b⟩∧b[i]?=some true∧(NoGr s (c+2) fs→cn=false)∧((∃(j i:Nat) (b:List Bool) (fs1:List Sf),Gs s (c+2) fs j i b fs1)→cn=true) ∧
 ∀(a':Addr) (fs':List Sf) (cs':List Int) (kvs':List (Key×V)) (H':Hp),FrH x a H a' H'→fs'.length=fs.length→ShS C x dx a' s fs' cs' H'→HhS cs' (alP s 0 fs') kd kvs' (m+1) H'→Q (.bl true) H'
theorem XOi (S:Src K mg "_law_grown" Xpj)(T:Txt K mg Y0 Y8 Y4 Y2 Y6 Y9 Y1 Y7 Y5 Y3 W0_ W1_)(D_Z47:Methx P w K mg base Y3 "cells" 1 ["self"] [] (Xdv Y3))(D_Z50:MethD P w K mg base Y3 "grow" 10 ["self","place","count","bound"] [.int 1] (Xrt Y3 Y7))(D_Z32:Defx P w K mg base "_law_whole" 1 ["_law_found"] (Xew)):Defx P w K mg base "_law_grown" 11 ["_law_keeper","_law_held","_law_place","_law_count","_law_can_here"] (Xsc Y3):=by
 refine S.okx Xig XJw (fun vs H Q E h=>by revert h;walk_at "len") (fun f cdv A outer s H vs Q E hr h=>?_)
 refine⟨_,PSs.nox (Xab (Xao (i:=5) Xig.nd rfl (Or.inl rfl) (Xcc D_Z47 Xaw hr (pv 0))) (Xab (Xao (i:=6) Xig.nd rfl (Or.inl rfl) Xef) (Xab (Xao (i:=7) Xig.nd rfl (Or.inl rfl) Xaf) (Xab (Xrx (i:=7) Xig.nd rfl (Or.inl rfl) (Xmt D_Z50.less hr (pv 0) (Xaa (pv 2) (Xaa (pv 3) Xae))) ⟨rfl,rfl⟩ (Xsr (by rfl) T.c_NoRoom (fun x=>(Xac (Xao (i:=6) Xig.nd rfl (Or.inl rfl) Xef))) Xwa)) (Xab (Xbc (Xaj Xed (pv 6) Xef (Xam _)) (Xac (Xai (Xkj (Xcv Xrf (pv 3) (Xbd Xdc (Xcs (Xcn hr.units) (pv 1) (pv 2) (fun _ _=>rfl)) Xaf (fun _ _=>rfl)) (Xam _)) (Xkj (Xnn (pv 4)) (Xkv (Xcv (Xpu hr.units) (Xcc D_Z47 Xaw hr (pv 0)) (pv 5) (Xam _))))))) Xal) (Xab (Xbc (Xbu (Xdz (Xag D_Z32 hr (by rfl) (Xaa (pv 7) Xae)))) (Xac (Xai Xck)) Xal) (Xab (Xbc (Xaj Xxr (pv 3) (Xbd Xdc (Xcs (Xcn hr.units) (pv 1) (pv 2) (fun _ _=>rfl)) Xaf (fun _ _=>rfl)) (Xam _)) (Xac (Xai (Xcv Xed (pv 7) (pv 2) (Xam _)))) Xal) (Xab (Xbc (PW.pt (Xeb (Xwk (Xvv (Xcn hr.units) (pv 7) (pv 1))) (Xda (Xbu (Xcd (pv 4) (fun _=>rfl)))))) (Xac (Xai Xck)) Xal) (Xab (Xlf (Xcn hr.units) (pv 1) (pv 7) (Xfn (Xaa (pv 3) (Xaa (Xbd Xdc (Xnj (pv 1) (pv 2) ⟨rfl,rfl,rfl,rfl⟩) Xaf (fun _ _=>rfl)) Xae))) rfl) (Xac (Xai Xck))))))))))),?_⟩
 obtain⟨x,dx,a,kd,s,n,c,m,j,i,b,fs,cs,kvs,cn,rfl,S,D,hm,hc1,hc2,hj,hi,hcn,hcy,q⟩:=h
 have hx:=S.hx
 have c0':∀y∈alP s 0 fs,0≤y.a:=fun y hy=>(S.ch.mem y hy).1
 have hzm:=Xbv S.hs (fun f hf=>(S.ok f hf).1) hj hi
 obtain⟨_,_,_,n3⟩:=Xaz S.hs (fun f hf=>(S.ok f hf).1) hj hi
 generalize epl:s*(j:Int)+n*(i:Int)=pl at hzm
 obtain⟨kv0,hkm,ek⟩:=D.sj _ hzm rfl
 have ek:kv0.1 = .inl (pl+1):=ek
 obtain⟨z',ek',hz',hv',t0,d0,cc,ks,ev,ht,hd',h3,h4,h5,knd,kln,hks⟩:=D.rw kv0 hkm
 have ezz:z'=⟨pl,n,true⟩:=Xbt S.ch hz' hzm (by rw[ek] at ek';have:=Sum.inl.inj ek';show z'.a=pl;omega)
 subst ezz
 have h4:cc+2≤n:=h4
 have h5:n≤cc+2:=h5
 have hval:valV kvs (.inl (pl+1))=some (.ref t0):=by have:=Xdh D.nd hkm;rw[ek,ev] at this;exact this
 have dg:∀{H':Hp},H' kd=some (.dK kvs)→DGet H' kd (.int (pl+1)) (some (.ref t0)):=fun h=>by
   have:=DGet.k (k:=.inl (pl+1)) h
   rw[hval] at this
   exact this
 walk_at "go"
 refine⟨s,x,dx,a,cs,rfl,hx,S.ha,fun pb H1 npb s1 hpb=>?_⟩
 have S1:=S.same s1
 have hx1:=S1.hx
 walk_at "go"
 refine⟨x,dx,a,s,n,c,fs,cs,j,i,b,(by rw[epl];rfl),S1,hj,hi,hc1,fun hst H2 s2=>?_,fun hst=>?_⟩
 · have sA:=s1.trans s2
   rw[epl]
   have ht2:=sA t0 _ ht
   walk_at "go"
   refine⟨kd,.ref t0,rfl,dg (sA kd _ D.hd),?_⟩
   walk_at "go"
   rw[decide_eq_true rfl]
   exact q a fs cs kvs H2 ⟨fun b o h _ _ _=>sA b o h,.inl rfl⟩ rfl (S.same sA) (((D.t.same S.ch sA).up).seal D.sj)
 rcases XIj (s:=s) (fs:=fs) (show 3≤c+2 by omega) with ng | ⟨j2,i2,b2,fs1,G⟩
 · refine .inl ⟨ng,fun H2 s2=>⟨_,rfl,fun y hy=>Or.inl ⟨T.f_NoRoom_NoRoom,?_⟩⟩⟩
   have ecn:=hcn ng
   subst ecn
   have s3:=s2.put (o:=ExcO y Y7 none) (s2.free hy)
   generalize upd H2 y (ExcO y Y7 none)=H3 at s3 ⊢
   have s03:=s1.trans s3
   have S3:=S.same s03
   have hx3:=S3.hx
   have hpb3:=s3 pb _ hpb
   have ht3:=s03 t0 _ ht
   walk_at "go"
   refine⟨kd,.ref t0,rfl,dg (s03 kd _ D.hd),?_⟩
   walk_at "go"
   refine⟨s,x,dx,a,cs,rfl,hx3,S3.ha,fun pc H4 npc s4 hpc=>?_⟩
   walk_at "go"
   refine⟨pc,pb,cs,cs,rfl,rfl,SqL.of hpc,SqL.of (s4 pb _ hpb3),?_⟩
   rw[decide_eq_true rfl]
   walk_at "go"
   have sA:=s03.trans s4
   exact q a fs cs kvs H4 ⟨fun b o h _ _ _=>sA b o h,.inl rfl⟩ rfl (S.same sA) (((D.t.same S.ch sA).up).seal D.sj)
 have ecn:=hcy ⟨j2,i2,b2,fs1,G⟩
 subst ecn
 obtain⟨pt1,pt2,pt3,pt4⟩:=G.parts S.hs (by omega) S.ok
 obtain⟨hjj,hj1⟩:=G.keep S.ok hj hi (by omega)
 have hj2:(fs1.set j2 ⟨c+2,b2.set i2 true⟩)[j]?=some ⟨n,b⟩:=by rw[List.getElem?_set_ne (Ne.symm hjj)];exact hj1
 obtain⟨gp1,gp2,_⟩:=Xgm S.hs (G.ok (by omega) S.ok) hj2 hi
 rw[epl] at gp1 gp2
 refine .inr ⟨j2,i2,b2,fs1,G,fun a' cs' H2 na2 k2 l2 ln o2 w2 S2=>?_⟩
 have ch1:=Xcy (cs:=cs) S.hs (G.W (by omega) S.ok) (by rw[ln];exact S.hl)
 have lnf:(giv (fs1.set j2 ⟨c+2,b2.set i2 true⟩) j i n b).length=fs.length:=by rw[Xlv,List.length_set];exact ln
 generalize giv (fs1.set j2 ⟨c+2,b2.set i2 true⟩) j i n b=fs3 at gp1 gp2 S2 lnf
 generalize fs1.set j2 ⟨c+2,b2.set i2 true⟩=fs2 at pt1 pt2 pt4 gp1 gp2
 generalize s*(j2:Int)+(c+2)*(i2:Int)=at0 at pt2 pt3 pt4 w2 ⊢
 rw[epl] at o2 w2
 have xne:∀{b':Addr} {o:HO},(∀C dx fs,o≠.ins C dx fs)→H b'=some o→b'≠x:=fun hn hb e=>by
   rw[e,hx] at hb
   exact hn _ _ _ (Option.some.inj hb).symm
 have kp:∀{b':Addr} {o:HO},(∀C dx fs,o≠.ins C dx fs)→H b'=some o→H2 b'=some o:=fun hn hb=>k2 _ _ (xne hn hb) (s1 _ _ hb)
 have hkd2:=kp (fun _ _ _ w=>by cases w) D.hd
 have ht2:=kp (fun _ _ _ w=>by cases w) ht
 have hd2:=kp (fun _ _ _ w=>by cases w) hd'
 have hd0k:d0≠kd:=fun w=>D.nk kv0 hkm t0 cc ev (by rw[←w];exact ht)
 have ht0k:t0≠kd:=fun w=>by rw[w,D.hd] at ht;cases ht
 have hno:∀kv∈kvs,kv.1≠.inl (at0+1):=fun kv hk e=>by
   obtain⟨z,e1,g3,g4,_⟩:=D.rw kv hk
   rw[e1] at e
   have:=Sum.inl.inj e
   have:=Xbt ch1 (pt1 z g3 g4).1 pt3 (by show z.a=at0;omega)
   rw[this] at g4
   cases g4
 have D3:HhT cs' (alP s 0 fs3) kd (Xbz kvs (.inl (pl+1))) m (upd H2 kd (.dK (Xbz kvs (.inl (pl+1))))):=(D.t.drop (k:=.inl (pl+1))).move (gone:=fun y=>y=⟨pl,n,true⟩) (fun b' us e=>by
     by_cases g:b'=kd
     · rw[g,upd_same] at e;cases e
     · rw[Xah g] at e
       exact look_ne g (kp (fun _ _ _ w=>by cases w) e)) (fun b' ks' e=>by
     by_cases g:b'=kd
     · rw[g,upd_same] at e ⊢;exact e
     · rw[Xah g] at e
       exact look_ne g (kp (fun _ _ _ w=>by cases w) e)) (fun y hy hv hg=>⟨gp1 y (pt1 y hy hv).2 hv hg,fun j hj=>o2 y hy hv hg j hj⟩) c0' (fun kv hk z e1 _ e2=>(Xca hk).2 (by rw[e1,e2]))
 walk_at "go"
 refine⟨kd,.ref t0,rfl,dg hkd2,?_⟩
 walk_at "go"
 refine⟨kd,_,rfl,DGet.k (k:=.inl (at0+1)) hkd2,?_⟩
 rw[Xgq hno]
 walk_at "go"
 refine iteF ?_
 walk_at "go"
 refine⟨kd,rfl,.inl ⟨kvs,.inl hkd2⟩,?_⟩
 walk_at "go"
 refine⟨kvs,.inl (pl+1),.ref t0,hkd2,rfl,hval,?_⟩
 have ht3:upd H2 kd (.dK (Xbz kvs (.inl (pl+1)))) t0=some (.tup [.int cc,.ref d0]):=look_ne ht0k ht2
 have hd3:upd H2 kd (.dK (Xbz kvs (.inl (pl+1)))) d0=some (.dK ks):=look_ne hd0k hd2
 have S3:ShS Y3 x dx a' s fs3 cs' (upd H2 kd (.dK (Xbz kvs (.inl (pl+1))))):=⟨look_ne (fun w=>by have:=S2.hx;rw[w,hkd2] at this;cases this) S2.hx,look_ne (fun w=>by have:=S2.ha;rw[w,hkd2] at this;cases this) S2.ha,S2.hl,S2.hz,S2.hs,S2.ok,S2.mm⟩
 have fr3:∀b' o,H b'=some o→b'≠x→(∀ks,o≠.dK ks)→upd H2 kd (.dK (Xbz kvs (.inl (pl+1)))) b'=some o:=fun b' o h n1 n3=>look_ne (fun w=>n3 _ (by rw[w,D.hd] at h;exact(Option.some.inj h).symm)) (k2 b' o n1 (s1 b' o h))
 generalize upd H2 kd (.dK (Xbz kvs (.inl (pl+1))))=H3 at D3 ht3 hd3 S3 fr3 ⊢
 walk_at "go"
 intro t nt
 have s4:Same H3 (upd H3 t (.tup [.int c,.ref d0])):=Same.new nt
 have ht4:upd H3 t (.tup [.int c,.ref d0]) t=some (.tup [.int c,.ref d0]):=upd_same
 generalize upd H3 t (.tup [.int c,.ref d0])=H4 at s4 ht4 ⊢
 have D4:=D3.same S3.ch s4
 have S4:=S3.same s4
 have hd4:=s4 d0 _ hd3
 have hkd4:=D4.hd
 have hx4:=S4.hx
 have hfw:=D4.fw
 have hno':∀kv∈Xbz kvs (.inl (pl+1)),kv.1≠.inl (at0+1):=fun kv hk=>hno kv (Xca hk).1
 have tm':=gp1 _ pt2 rfl (fun e=>by have:=(Pc.mk.inj e).2.1;omega)
 walk_at "go"
 refine⟨kd,_,rfl,DPut.k (k:=.inl (at0+1)) hkd4 (small4000 (by omega)),?_⟩
 rw[Xjg _ (Xgq hno')]
 walk_at "go"
 have at00:0≤at0:=(ch1.mem _ pt3).1
 have D5:=D4.add (z:=⟨at0,c+2,true⟩) (t:=t) (d:=d0) (c:=c) (ks:=ks) ht4 hd4 hd0k tm' rfl hc1 (Int.le_refl _) (Int.le_refl _) knd (by omega) (fun qv hq=>by
   obtain⟨i,n',eq,i0,i1,hc⟩:=hks qv hq
   have i1:i<n-2:=i1
   have hc:cs[(pl+1+i).toNat]?=some n':=hc
   have z0:0≤pl:=c0' _ hzm
   refine⟨i,n',eq,i0,by show i<c+2-2;omega,?_⟩
   show cs'[(at0+1+i).toNat]?=some n'
   have:=w2 i.toNat (by omega)
   rw[show (at0+1+i).toNat=(at0+1).toNat+i.toNat by omega,this,show (pl+1).toNat+i.toNat=(pl+1+i).toNat by omega]
   exact hc) hno' (fun kv hk t' c' e h=>by
   obtain⟨hk1,hk2⟩:=Xca hk
   obtain⟨z,_,_,_,t1,d1,c1',ks1,e0,g1,g2,_⟩:=D.rw kv hk1
   rw[e] at e0
   cases e0
   have g3:=s4 t' _ (fr3 t' _ g1 (xne (fun _ _ _ w=>by cases w) g1) (fun ks w=>by cases w))
   rw[g3] at h
   cases h
   exact hk2 (by rw[D.ap kv hk1 kv0 hkm t' t0 d0 _ _ e g1 ev ht];exact ek))
 have hxk:x≠kd:=fun w=>by rw[w,hkd4] at hx4;cases hx4
 have hka':a'≠kd:=fun w=>by have:=S4.ha;rw[w,hkd4] at this;cases this
 refine q a' fs3 cs' _ _ ⟨fun b' o h n1 n2 n3=>?_,.inr (s1.free na2)⟩ lnf ⟨look_ne hxk hx4,look_ne hka' S4.ha,S4.hl,S4.hz,S4.hs,S4.ok,S4.mm⟩ (D5.seal fun z hz hv=>?_)
 · exact look_ne (fun w=>n3 _ (by rw[w,D.hd] at h;exact(Option.some.inj h).symm)) (s4 b' o (fr3 b' o h n1 n3))
 · obtain⟨hz2,hzn⟩:=gp2 z hz hv
   rcases pt4 z hz2 hv with e | e
   · exact⟨_,List.mem_append_right _ (List.mem_singleton.mpr rfl),by rw[e]⟩
   · obtain⟨kv,g1,g2⟩:=D.sj z e hv
     refine⟨kv,List.mem_append_left _ (List.mem_filter.mpr ⟨g1,?_⟩),g2⟩
     have:kv.1≠.inl (pl+1):=fun w=>hzn (Xbt S.ch e hzm (by rw[g2] at w;have:=Sum.inl.inj w;show z.a=pl;omega))
     simpa using this
theorem Xtl {kvs:List (Key×V)}{k:Key}(v:V)(hn:(kvs.map (·.1)).Nodup):((putK kvs k v).map (·.1)).Nodup:=by
 by_cases h:(kvs.any fun kv=>decide (kv.1=k))=true
 · have e:(putK kvs k v).map (·.1)=kvs.map (·.1):=by
     unfold putK
     rw[if_pos h,List.map_map]
     refine List.map_congr_left fun kv _=>?_
     show (if kv.1=k then (kv.1,v) else kv).1=kv.1
     split <;> rfl
   rw[e]
   exact hn
 · exact Xyc v hn (Xgq fun kv hk e=>h (List.any_eq_true.mpr ⟨kv,hk,decide_eq_true e⟩))
theorem Xzd {kvs:List (Key×V)}(nd:(kvs.map (·.1)).Nodup){p q:Key×V}(hp:p∈kvs)(hq:q∈kvs)(e:p.1=q.1):p=q:=by
 have h1:=Xdh nd hp
 rw[e,Xdh nd hq] at h1
 exact Prod.ext e (Option.some.inj h1).symm
theorem HhS.put {cs:List Int}{ps:List Pc}{kd:Addr}{kvs:List (Key×V)}{m:Nat}{H H':Hp}{a t d:Addr}{kv0:Key×V}{z:Pc}{c k n:Int}{ks:List (Key×V)}{ws:List V}(h:HhS cs ps kd kvs m H)(ch:Xaq 0 ps cs.length)(hk0:kv0∈kvs)(ek:kv0.1 = .inl (z.a+1))(hz:z∈ps)(ev:kv0.2 = .ref t)(ht:H t=some (.tup [.int c,.ref d]))(hd:H d=some (.dK ks))(ha:H a=some (.lst ws))
   (k0:0≤k) (k1:k<z.l-2) (fr:∀b o,b≠a→b≠d→H b=some o→H' b=some o) (hd':H' d=some (.dK (putK ks (.inl k) (.int n)))):HhS (cs.set (z.a+1+k).toNat n) ps kd kvs (m+1) H':=by
 have dk:d≠kd:=fun w=>h.nk kv0 hk0 t c ev (by rw[←w];exact ht)
 have tup:∀{b:Addr} {us:List V},H b=some (.tup us)→H' b=some (.tup us):=fun {b us} e=>fr b _ (fun w=>by rw[w,ha] at e;cases e) (fun w=>by rw[w,hd] at e;cases e) e
 have dic:∀{b:Addr} {ks':List (Key×V)},b≠d→H b=some (.dK ks')→H' b=some (.dK ks'):=fun {b ks'} n e=>fr b _ (fun w=>by rw[w,ha] at e;cases e) n e
 have tt:∀kv∈kvs,∀(t:Addr) (us:List V),kv.2 = .ref t→H' t=some (.tup us)→H t=some (.tup us):=fun kv hk t us e h'=>by
   obtain⟨z,_,_,_,t0,d,c,ks,e0,h1,_⟩:=h.rw kv hk
   rw[e] at e0
   cases e0
   have:=tup h1
   rw[this] at h'
   rw[h1]
   exact h'
 refine⟨dic (Ne.symm dk) h.hd,h.nd,fun kv hk=>?_,fun kv hk kv' hk' t t' d c c' e1 h1 e2 h2=>h.ap kv hk kv' hk' t t' d c c' e1 (tt kv hk t _ e1 h1) e2 (tt kv' hk' t' _ e2 h2),fun kv hk t c e h1=>h.nk kv hk t c e (tt kv hk t _ e h1),Nat.le_succ_of_le h.fw,h.sj⟩
 obtain⟨z1,g1,g2,g3,t1,d1,c1,ks1,e1,h1,h2,h3,h4,h5,h6,h7,h8⟩:=h.rw kv hk
 obtain⟨y0,y1,_,y3⟩:=ch.mem z1 g2
 obtain⟨w0,w1,_,w3⟩:=ch.mem z hz
 by_cases e:kv=kv0
 · subst e
   have ez:z1=z:=Xbt ch g2 hz (by rw[ek] at g1;have:=Sum.inl.inj g1;omega)
   subst ez
   rw[ev] at e1
   cases e1
   rw[ht] at h1
   cases h1
   rw[hd] at h2
   cases h2
   refine⟨z1,g1,g2,g3,t,d,c,_,ev,tup ht,hd',h3,h4,h5,Xtl _ h6,Nat.le_trans (Xex _ _ _) (Nat.succ_le_succ h7),fun q hq=>?_⟩
   rcases Xuy hq with e | ⟨g,hne⟩
   · exact⟨k,n,e,k0,k1,List.getElem?_set_self (by omega)⟩
   · obtain⟨i,n',eq,i0,i1,hc⟩:=h8 q g
     have:i≠k:=fun w=>hne (by rw[eq,w])
     exact⟨i,n',eq,i0,i1,by rw[List.getElem?_set_ne (by omega)];exact hc⟩
 · have hdd:d1≠d:=fun w=>e (h.ap kv hk kv0 hk0 t1 t d c1 c e1 (by rw[←w];exact h1) ev ht)
   have hne:z1≠z:=fun w=>e (Xzd h.nd hk hk0 (by rw[g1,ek,w]))
   refine⟨z1,g1,g2,g3,t1,d1,c1,ks1,e1,tup h1,dic hdd h2,h3,h4,h5,h6,Nat.le_succ_of_le h7,fun q hq=>?_⟩
   obtain⟨i,n',eq,i0,i1,hc⟩:=h8 q hq
   refine⟨i,n',eq,i0,i1,?_⟩
   rw[List.getElem?_set_ne (fun w=>hne (Xcj ch g2 hz (p:=z1.a+1+i) (by omega) (by omega) (by omega) (by omega)))]
   exact hc
theorem FrH.from {x a a':Addr}{H H1 H2:Hp}(h:FrH x a H1 a' H2)(s:Same H H1):FrH x a H a' H2:=⟨fun b o hb n1 n2 n3=>h.1 b o (s b o hb) n1 n2 n3,h.2.elim .inl fun e=>.inr (s.free e)⟩
theorem Xms {s:Int}{m:Nat}:∀y∈alP s 0 (List.replicate m ⟨0,[]⟩),¬y.v=true:=fun y hy hv=>by
 obtain⟨j,i,n,b,h1,h2,_⟩:=Xee hy hv
 have:=(List.mem_replicate.mp (List.mem_of_getElem? h1)).2
 rw[(Sf.mk.inj this).2] at h2
 simp at h2
def Xsa (C:Addr):Sp:=fun vs H Q _=>∃(x dx a kd lp:Addr) (s:Int) (m:Nat) (c0:Int) (fs:List Sf) (cs:List Int) (kvs:List (Key×V)) (us:List V),vs=[.ref x,.ref kd,.ref lp,.int c0,.int s]∧ShS C x dx a s fs cs H∧1≤fs.length∧HhS cs (alP s 0 fs) kd kvs m H∧m≤62∧H lp=some (.lst us)∧Xbk H us (alP s 0 fs) ∧
 ∀(a':Addr) (fs':List Sf) (cs':List Int) (kvs':List (Key×V)) (H':Hp),FrH x a H a' H'→fs'.length=fs.length→ShS C x dx a' s fs' cs' H'→HhS cs' (alP s 0 fs') kd kvs' (m+1) H'→Q (.bl true) H'
theorem XLv (S:Src K mg "_law_step" Xrm)(T:Txt K mg Y0 Y8 Y4 Y2 Y6 Y9 Y1 Y7 Y5 Y3 W0_ W1_)(D_Z49:Defx P w K mg base "_law_can" 1 ["_law_pieces","_law_shelf","_law_need"] (Xvr))(D_Z31:Defx P w K mg base "_law_asked" 8 ["_law_keeper","_law_held","_law_count","_law_can_here"] (Xra Y3))(D_Z30:Defx P w K mg base "_law_number" 1 ["_law_cell"] (XJq))(D_put:Methx P w K mg base Y3 "put" 9 ["self","place","k","number"] [] (Xwe Y3))(D_Z52:Methx P w K mg base Y3 "give" 8 ["self","place"] [] (Xlj Y3))(D_Z35:Defx P w K mg base "_law_grown" 11 ["_law_keeper","_law_held","_law_place","_law_count","_law_can_here"] (Xsc Y3))(D_Z48:Methx P w K mg base Y3 "clear" 6 ["self"] [] (Xmp Y3)):Defx P w K mg base "_law_step" 12 ["_law_keeper","_law_held","_law_pieces","_law_cell","_law_shelf"] (Xsa Y3):=by
 refine S.okx Xhh XFh (fun vs H Q E h=>by revert h;walk_at "len") (fun f cdv A outer s H vs Q E hr h=>?_)
 refine⟨_,PSs.nox (Xab (Xao (i:=5) Xhh.nd rfl (Or.inl rfl) (Xan Xbo Xaf (Xan Xbn (Xan Xbn (Xan Xfh (pv 3) Xaf) Xaf) (Xbd Xba (Xgx (Xaa Xaf (Xaa Xaf (Xaa Xaf (Xaa (pv 4) Xae))))) (Xan Xbn (Xan Xbn (Xan Xfh (pv 3) Xaf) Xaf) Xaf) (fun _ _=>rfl))))) (Xab (Xao (i:=6) Xhh.nd rfl (Or.inl rfl) (Xag D_Z49 hr (by rfl) (Xaa (pv 2) (Xaa (pv 4) (Xaa (Xan Xbo (pv 5) Xaf) Xae))))) (Xab (Xao (i:=7) Xhh.nd rfl (Or.inl rfl) (Xan Xbn (pv 3) Xaf)) (Xab (Xbc (PW.pt (Xeb (Xaj Xeg (pv 7) Xaf (Xam _)) (Xda (Xbu (Xjn (pv 1) (fun _=>rfl)))))) (Xac (Xai (Xag D_Z31 hr (by rfl) (Xaa (pv 0) (Xaa (pv 1) (Xaa (pv 5) (Xaa (pv 6) Xae))))))) Xal) (Xab (Xao (i:=8) Xhh.nd rfl (Or.inl rfl) (Xat (Xcq rfl) (by rfl) T.n_sorted PyProof.Rows.boot_sorted (Xaa (pv 1) Xae))) (Xab (Xao (i:=9) Xhh.nd rfl (Or.inl rfl) (Xbd Xba (pv 8) (Xan Xbn (Xan Xbn (Xan Xfh (pv 3) Xaf) Xaf) (Xat Xav (by rfl) T.n_len PySem.boot_len (Xaa (pv 8) Xae))) (fun _ _=>rfl))) (Xab (Xbc (Xaj Xeg (pv 7) Xaf (Xam _)) (Xab (Xao (i:=10) Xhh.nd rfl (Or.inl rfl) (Xan Xbn (Xan Xbn (Xan Xfh (pv 3) Xaf) Xaf) (Xbd Xdc (Xcs (Xcn hr.units) (pv 1) (pv 9) (fun _ _=>rfl)) Xaf (fun _ _=>rfl)))) (Xab (Xlf (Xcn hr.units) (Xbd Xdc (Xcs (Xcn hr.units) (pv 1) (pv 9) (fun _ _=>rfl)) Xaf (fun _ _=>rfl)) (pv 10) (Xag D_Z30 hr (by rfl) (Xaa (Xan Xdw (pv 3) Xaf) Xae)) rfl) (Xac (Xai (Xcv Xid (Xbg D_put Xaw hr (pv 0) (Xaa (pv 9) (Xaa (pv 10) (Xaa (Xcs (Xcn hr.units) (Xbd Xdc (Xcs (Xcn hr.units) (pv 1) (pv 9) (fun _ _=>rfl)) Xaf (fun _ _=>rfl)) (pv 10) (fun _ _=>rfl)) Xae)))) Xcm (Xam _)))))) Xal) (Xab (Xbc (Xaj Xeg (pv 7) Xaf (Xam _)) (Xab (Xbw (Xnj (pv 1) (pv 9) ⟨rfl,rfl,rfl,rfl⟩)) (Xac (Xai (Xcv Xid (Xbg D_Z52 Xaw hr (pv 0) (Xaa (pv 9) Xae)) Xcm (Xam _))))) Xal) (Xab (Xbc (PW.pt (Xeb (Xaj Xeg (pv 7) Xaf (Xam _)) (Xda (Xaj Xim (Xan Xbn (Xan Xdw (pv 3) Xaf) Xaf) Xaf (Xam _))))) (Xac (Xai (Xag D_Z35 hr (by rfl) (Xaa (pv 0) (Xaa (pv 1) (Xaa (pv 9) (Xaa (pv 5) (Xaa (pv 6) Xae)))))))) Xal) (Xab (Xbw (Xwu PySem.F.plainAttrs_dict PySem.F.slot_dict_clear PySem.F.type_dict_clear Xrv (pv 1))) (Xac (Xai (Xcv Xid (Xcc D_Z48 Xaw hr (pv 0)) Xcm (Xam _)))))))))))))),?_⟩
 obtain⟨x,dx,a,kd,lp,s,m,c0,fs,cs,kvs,us,rfl,S,hf1,D,hm,hlp,pa,q⟩:=h
 have hz:=S.hz
 have hx:=S.hx
 have hs:=S.hs
 have hl:=S.hl
 have W:∀f∈fs,SfW s f:=fun f hf=>(S.ok f hf).1
 have hss:s≤s*(fs.length:Int):=by
   have:=Int.mul_le_mul_of_nonneg_left (show (1:Int)≤(fs.length:Int) by omega) (show 0≤s by omega)
   omega
 have hs12:s≤1200:=by omega
 walk_at "go"
 intro p4 np4
 have v0:=Int.emod_nonneg (c0*16807%31337) (show (4:Int)≠0 by decide)
 have v1:=Int.emod_lt_of_pos (c0*16807%31337) (show (0:Int)<4 by decide)
 have hM:1≤([2,2,4,s]:List Int).getD (c0*16807%31337%4).toNat 0∧([2,2,4,s]:List Int).getD (c0*16807%31337%4).toNat 0≤1200:=by
   rcases(show c0*16807%31337%4=0∨c0*16807%31337%4=1∨c0*16807%31337%4=2∨c0*16807%31337%4=3 by omega) with e | e | e | e <;> rw[e]
   · exact(show (1:Int)≤2∧(2:Int)≤1200 by decide)
   · exact(show (1:Int)≤2∧(2:Int)≤1200 by decide)
   · exact(show (1:Int)≤4∧(4:Int)≤1200 by decide)
   · show 1≤s∧s≤1200
     omega
 have s4:Same H (upd H p4 (.lst [.int 2,.int 2,.int 4,.int s])):=Same.new np4
 have hp4:upd H p4 (.lst [.int 2,.int 2,.int 4,.int s]) p4=some (.lst (([2,2,4,s]:List Int).map V.int)):=upd_same
 generalize upd H p4 (.lst [.int 2,.int 2,.int 4,.int s])=H4 at s4 hp4 ⊢
 walk_at "go"
 have w0:=Int.emod_nonneg (c0*48271%65537) (show ([2,2,4,s]:List Int).getD (c0*16807%31337%4).toNat 0≠0 by omega)
 have w1:=Int.emod_lt_of_pos (c0*48271%65537) (show 0<([2,2,4,s]:List Int).getD (c0*16807%31337%4).toNat 0 by omega)
 obtain⟨ct,ect,ct1,ct2⟩:∃ct:Int,1+c0*48271%65537%([2,2,4,s]:List Int).getD (c0*16807%31337%4).toNat 0=ct∧1≤ct∧ct≤1200:=⟨_,rfl,by omega,by omega⟩
 rw[ect]
 clear ect w0 w1 hM v0 v1 hp4
 refine⟨lp,us,alP s 0 fs,s,ct+2,cs.length,rfl,s4 lp _ hlp,pa.same s4,S.ch,by omega,hs,hs12,by omega,by omega,fun cn H7 s7 hc0 hc3=>?_⟩
 have sX:=s4.trans s7
 have hcn:NoGr s (ct+2) fs→cn=false:=fun ng=>hc0 fun z hz=>XJr hs (by omega) S.ok ng z hz
 have hcy:(∃(j i:Nat) (b:List Bool) (fs1:List Sf),Gs s (ct+2) fs j i b fs1)→cn=true:=fun ⟨j,i,b,fs1,G⟩=>hc3 (XCd hs (by omega) S.ok G)
 have SX:=S.same sX
 have DX:=D.same sX
 have hxX:=SX.hx
 have hkdX:=DX.hd
 have hfw:=D.fw
 clear s4 s7 np4 pa hlp hc0 hc3
 walk_at "go"
 refine Xby (fun h6=>?_) (fun h6=>?_)
 · walk_at "go"
   refine⟨x,dx,a,kd,s,ct,m,fs,cs,kvs,cn,rfl,SX,DX,hm,ct1,by omega,hcn,hcy,fun a' fs' cs' kvs' H' f l S' D'=>?_⟩
   walk_at "go"
   exact q a' fs' cs' kvs' H' (f.from sX) l S' D'
 walk_at "go"
 refine⟨kd,kvs,rfl,hkdX,?_⟩
 cases hK:kvs.isEmpty with
 | true =>
   walk_at "go"
   refine⟨x,dx,a,kd,s,ct,m,fs,cs,kvs,cn,rfl,SX,DX,hm,ct1,by omega,hcn,hcy,fun a' fs' cs' kvs' H' f l S' D'=>?_⟩
   walk_at "go"
   exact q a' fs' cs' kvs' H' (f.from sX) l S' D'
 | false =>
 have hkp:0<kvs.length:=by
   cases kvs with
   | nil=>cases hK
   | cons _ _=>exact Nat.succ_pos _
 obtain⟨ns2,ek2⟩:=Xff (kvs:=kvs) fun kv hk=>let ⟨z,e,_⟩:=D.rw kv hk;⟨_,e⟩
 have hn2l:ns2.length=kvs.length:=by have:=congrArg List.length ek2;rw[List.length_map,List.length_map] at this;omega
 walk_at "go"
 refine⟨kd,kvs,ns2,rfl,hkdX,ek2,by omega,fun d1 ms nd1 p1 o1=>?_⟩
 have hml:ms.length=kvs.length:=by rw[p1.length_eq];exact hn2l
 have s8:Same H7 (upd H7 d1 (.lst (ms.map V.int))):=Same.new nd1
 have hd18:upd H7 d1 (.lst (ms.map V.int)) d1=some (.lst (ms.map V.int)):=upd_same
 generalize upd H7 d1 (.lst (ms.map V.int))=H9 at s8 hd18 ⊢
 have i0:=Int.emod_nonneg (c0*40692%30011) (show (ms.length:Int)≠0 by omega)
 have i1:=Int.emod_lt_of_pos (c0*40692%30011) (show (0:Int)<(ms.length:Int) by omega)
 obtain⟨kv,hkm,ekv⟩:=Xrz ek2 p1 (k:=(c0*40692%30011%(ms.length:Int)).toNat) (by omega)
 have sX:=sX.trans s8
 have SX:=S.same sX
 have DX:=D.same sX
 have hxX:=SX.hx
 have hkdX:=DX.hd
 obtain⟨z,ek,hzm,hzv,t,d,c,ks,ev,ht9,hd9,hc1,hc2,hc3,knd,kln,hks⟩:=DX.rw kv hkm
 have ep:ms.getD (c0*40692%30011%(ms.length:Int)).toNat 0=z.a+1:=by rw[ek] at ekv;exact(Sum.inl.inj ekv).symm
 have hval:valV kvs (.inl (z.a+1))=some (.ref t):=by have:=Xdh DX.nd hkm;rw[ek,ev] at this;exact this
 have dg:∀{H':Hp},H' kd=some (.dK kvs)→DGet H' kd (.int (z.a+1)) (some (.ref t)):=fun h=>by
   have:=DGet.k (k:=.inl (z.a+1)) h
   rw[hval] at this
   exact this
 have hlm:(ms.map V.int).length=ms.length:=List.length_map _
 obtain⟨z0,z1,_,z4⟩:=S.ch.mem z hzm
 have hdk:d≠kd:=fun w=>DX.nk kv hkm t c ev (by rw[←w];exact ht9)
 have hxk:x≠kd:=fun w=>by rw[w,hkdX] at hxX;cases hxX
 have hak:a≠kd:=fun w=>by have:=SX.ha;rw[w,hkdX] at this;cases this
 have hda:d≠a:=fun w=>by rw[w,SX.ha] at hd9;cases hd9
 have hxd:x≠d:=fun w=>by rw[w,hd9] at hxX;cases hxX
 have c0':∀y∈alP s 0 fs,0≤y.a:=fun y hy=>(S.ch.mem y hy).1
 obtain⟨jz,iz,nz,bz,hj,hi,ez⟩:=Xee hzm hzv
 have ea:z.a=s*(jz:Int)+nz*(iz:Int):=by rw[ez]
 walk_at "gs"
 rw[ep]
 walk_at "go"
 refine Xby (fun h10=>?_) (fun h10=>?_)
 · walk_at "go"
   refine⟨kd,.ref t,rfl,dg hkdX,?_⟩
   walk_at "go"
   have k0:=Int.emod_nonneg (c0*69621%65521) (show c≠0 by omega)
   have k1:=Int.emod_lt_of_pos (c0*69621%65521) (show 0<c by omega)
   generalize c0*69621%65521%c=k at k0 k1 ⊢
   refine⟨_,rfl,fun n=>?_⟩
   walk_at "go"
   refine⟨kd,.ref t,rfl,dg hkdX,?_⟩
   walk_at "go"
   refine⟨d,_,rfl,DPut.k (k:=.inl k) hd9 (small4000 (by omega)),?_⟩
   have hd10:upd H9 d (.dK (putK ks (.inl k) (.int n))) d=some (.dK (putK ks (.inl k) (.int n))):=upd_same
   have k10:Xbi d H9 (upd H9 d (.dK (putK ks (.inl k) (.int n)))):=Xbi.refl.put
   generalize upd H9 d (.dK (putK ks (.inl k) (.int n)))=H10 at hd10 k10 ⊢
   have hkd10:=k10 kd _ (Ne.symm hdk) hkdX
   have ht10:=k10 t _ (fun w=>by rw[w,hd9] at ht9;cases ht9) ht9
   have S10:ShS Y3 x dx a s fs cs H10:=⟨k10 x _ hxd hxX,k10 a _ (Ne.symm hda) SX.ha,SX.hl,SX.hz,SX.hs,SX.ok,SX.mm⟩
   have hx10:=S10.hx
   walk_at "go"
   refine⟨kd,.ref t,rfl,dg hkd10,?_⟩
   walk_at "go"
   refine⟨d,.int n,rfl,(by have:=DGet.k (k:=.inl k) hd10;rw[Xtq,if_pos rfl] at this;exact this),?_⟩
   walk_at "go"
   refine⟨x,dx,a,s,fs,cs,z,k,n,rfl,S10,hzm,hzv,k0,by omega,fun H11 k11 S11=>?_⟩
   walk_at "go"
   exact q a fs _ kvs H11 ⟨fun b o hb n1 n2 n3=>k11 b o n2 (k10 b o (fun w=>n3 _ (by have:=sX b o hb;rw[w,hd9] at this;exact(Option.some.inj this).symm)) (sX b o hb)),.inl rfl⟩ rfl S11 (DX.put SX.ch hkm ek hzm ev ht9 hd9 SX.ha k0 (by omega) (fun b o n1 n2 hb=>k11 b o n1 (k10 b o n2 hb)) (k11 d _ hda hd10))
 walk_at "go"
 refine Xby (fun h13=>?_) (fun h13=>?_)
 · obtain⟨gp1,gp2,_⟩:=Xgm S.hs S.ok hj hi
   have D10:=DX.t.drop (k:=.inl (z.a+1))
   have S10:ShS Y3 x dx a s fs cs (upd H9 kd (.dK (Xbz kvs (.inl (z.a+1))))):=⟨look_ne hxk hxX,look_ne hak SX.ha,SX.hl,SX.hz,SX.hs,SX.ok,SX.mm⟩
   have k10:Xbi kd H9 (upd H9 kd (.dK (Xbz kvs (.inl (z.a+1))))):=Xbi.refl.put
   walk_at "go"
   refine⟨kd,rfl,.inl ⟨kvs,.inl hkdX⟩,?_⟩
   walk_at "go"
   refine⟨kvs,.inl (z.a+1),.ref t,hkdX,rfl,hval,?_⟩
   generalize upd H9 kd (.dK (Xbz kvs (.inl (z.a+1))))=H10 at D10 S10 k10 ⊢
   have hx10:=S10.hx
   walk_at "go"
   refine⟨x,dx,a,s,nz,fs,cs,jz,iz,bz,by rw[ea],S10,hj,hi,fun a' cs' H11 na k11 l11 o11 S11=>?_⟩
   walk_at "go"
   have lnf:=Xlv fs jz iz nz bz
   rw[←ez] at gp1 gp2 o11
   generalize giv fs jz iz nz bz=fs3 at gp1 gp2 S11 lnf
   have xne:∀{b':Addr} {o:HO},(∀C dx fs,o≠.ins C dx fs)→H10 b'=some o→b'≠x:=fun hn hb e=>by
     rw[e,hx10] at hb
     exact hn _ _ _ (Option.some.inj hb).symm
   have D11:HhT cs' (alP s 0 fs3) kd (Xbz kvs (.inl (z.a+1))) m H11:=D10.move (gone:=fun y=>y=z) (fun b' us e=>k11 b' _ (xne (fun _ _ _ w=>by cases w) e) e) (fun b' ks' e=>k11 b' _ (xne (fun _ _ _ w=>by cases w) e) e) (fun y hy hv hg=>⟨gp1 y hy hv hg,fun j hj=>o11 y hy hv hg j hj⟩) c0' (fun kv hk y e1 _ e2=>(Xca hk).2 (by rw[e1,e2]))
   refine q a' fs3 cs' _ H11 ⟨fun b o hb n1 n2 n3=>k11 b o n1 (k10 b o (fun w=>n3 _ (by have:=sX b o hb;rw[w,hkdX] at this;exact(Option.some.inj this).symm)) (sX b o hb)),.inr ?_⟩ lnf S11 (D11.up.seal fun y hy hv=>?_)
   · cases e:H a' with
     | none=>rfl
     | some o =>
       by_cases w:a'=kd
       · rw[w,D10.hd] at na;cases na
       · rw[k10 a' o w (sX a' o e)] at na;cases na
   · obtain⟨g,gn⟩:=gp2 y hy hv
     obtain⟨kv',g1,g2⟩:=D.sj y g hv
     refine⟨kv',List.mem_filter.mpr ⟨g1,?_⟩,g2⟩
     have:kv'.1≠.inl (z.a+1):=fun w=>gn (Xbt S.ch g hzm (by rw[g2] at w;have:=Sum.inl.inj w;omega))
     simpa using this
 by_cases h15:c0%16<15
 · walk_at "go"
   refine⟨x,dx,a,kd,s,nz,ct,m,jz,iz,bz,fs,cs,kvs,cn,by rw[ea],SX,DX,hm,ct1,by omega,hj,hi,hcn,hcy,fun a' fs' cs' kvs' H' f l S' D'=>?_⟩
   walk_at "go"
   exact q a' fs' cs' kvs' H' (f.from sX) l S' D'
 by_cases h3:c0/16%3=1
 rotate_left
 · walk_at "go"
   refine⟨x,dx,a,kd,s,nz,ct,m,jz,iz,bz,fs,cs,kvs,cn,by rw[ea],SX,DX,hm,ct1,by omega,hj,hi,hcn,hcy,fun a' fs' cs' kvs' H' f l S' D'=>?_⟩
   walk_at "go"
   exact q a' fs' cs' kvs' H' (f.from sX) l S' D'
 walk_at "go"
 refine Xvm hkdX ?_
 have k10:Xbi kd H9 (upd H9 kd (.dK [])):=Xbi.refl.put
 have hkd10:upd H9 kd (.dK []) kd=some (.dK []):=upd_same
 generalize upd H9 kd (.dK [])=H10 at k10 hkd10 ⊢
 have S10:ShS Y3 x dx a s fs cs H10:=⟨k10 x _ hxk hxX,k10 a _ hak SX.ha,SX.hl,SX.hz,SX.hs,SX.ok,SX.mm⟩
 have hx10:=S10.hx
 walk_at "go"
 refine⟨x,dx,a,s,fs,cs,rfl,S10,hf1,fun a' H11 na k11 S11=>?_⟩
 walk_at "go"
 refine q a' _ _ [] H11 ⟨fun b o hb n1 n2 n3=>k11 b o n1 (k10 b o (fun w=>n3 _ (by have:=sX b o hb;rw[w,hkdX] at this;exact(Option.some.inj this).symm)) (sX b o hb)),.inr ?_⟩ List.length_replicate S11 ⟨k11 kd _ (Ne.symm hxk) hkd10,List.nodup_nil,(fun kv hk=>by cases hk),(fun kv hk=>by cases hk),(fun kv hk=>by cases hk),Nat.zero_le _,fun y hy hv=>absurd hv (Xms y hy)⟩
 cases e:H a' with
 | none=>rfl
 | some o =>
   by_cases w:a'=kd
   · rw[w,hkd10] at na;cases na
   · rw[k10 a' o w (sX a' o e)] at na;cases na
def LwS (C:Addr)(f0:Option V)(x dx kd q1:Addr)(s:Int)(fn:Nat)(zs:List Int)(i:Nat)(σ:L2.St)(H':Hp):Prop :=
 ∃(a lp:Addr) (fs:List Sf) (cs:List Int) (us:List V) (kvs:List (Key×V)) (x5:Option V),σ=[f0,some (.int s),some (.ref x),some (.ref kd),some (.ref lp),x5]∧ShS C x dx a s fs cs H'∧fs.length=fn∧HhS cs (alP s 0 fs) kd kvs i H'∧H' lp=some (.lst us)∧Xbk H' us (alP s 0 fs)∧H' q1=some (.lst (zs.map V.int))∧q1≠a
theorem XDp {f:Addr}{fd:FuncData}(F:Fun K "law" "law" Xli f fd)(T:Txt K mg Y0 Y8 Y4 Y2 Y6 Y9 Y1 Y7 Y5 Y3 W0_ W1_)(D_Z25:Defx P w K mg base "_law_cell_at" 1 ["_law_script","_law_k"] (Xsq K))(D_Shelves:Makex P w K mg base "Shelves" Y3 6 ["self","size","shelf"] [] (XHz Y3))(D_Z44:Defx P w K mg base "_law_good" 3 ["_law_keeper","_law_held","_law_shelf"] (Xpc Y3))(D_Z45:Defx P w K mg base "_law_step" 12 ["_law_keeper","_law_held","_law_pieces","_law_cell","_law_shelf"] (Xsa Y3))(D_Z43:Defx P w K mg base "_law_told" 10 ["_law_keeper","_law_held","_law_cell"] (Xsg Y3)):FnOk P w K mg base (CXe P w) 13 f fd ["_law_script"] (Xty K):=by
 refine Xbx F Xgc (fun vs H Q E h=>by revert h;walk_at "len") (fun cdv A outer s H vs Q E hr h=>?_)
 refine⟨_,PSs.nox (Xab (Xao (i:=1) Xgc.nd rfl (Or.inl rfl) (Xan Xbo Xaf (Xan Xbn (Xag D_Z25 hr (by rfl) (Xaa (pv 0) (Xaa Xaf Xae))) Xaf))) (Xab (Xbc (Xaj Xed (Xan Xbn (Xan Xdw (Xag D_Z25 hr (by rfl) (Xaa (pv 0) (Xaa Xaf Xae))) Xaf) Xaf) Xaf (Xam _)) (Xac (Xao (i:=1) Xgc.nd rfl (Or.inl rfl) Xaf)) Xal) (Xab (Xao (i:=2) Xgc.nd rfl (Or.inl rfl) (Xve D_Shelves Xaw hr (by rfl) (Xaa (Xan Xfh (pv 1) (Xan Xbo Xaf (Xan Xbn (Xag D_Z25 hr (by rfl) (Xaa (pv 0) (Xaa Xaf Xae))) Xaf))) (Xaa (pv 1) Xae)))) (Xab (Xao (i:=3) Xgc.nd rfl (Or.inl rfl) Xmu) (Xab (Xao (i:=4) Xgc.nd rfl (Or.inl rfl) (Xag D_Z44 hr (by rfl) (Xaa (pv 2) (Xaa (pv 3) (Xaa (pv 1) Xae))))) (Xab (Xbc (Xaj Xid (pv 4) Xcm (Xam _)) (Xac (Xai Xck)) Xal) (Xab (ps_for PassesOwn.never rfl (Xct (Xgh Xir (pv 0) (Xfs Xaf) (Xfs Xaf))) (Xau (i:=5) Xgc.nd rfl (Or.inl rfl)) (Xab (Xbc (Xbu (Xdz (Xag D_Z45 hr (by rfl) (Xaa (pv 2) (Xaa (pv 3) (Xaa (pv 4) (Xaa (pv 5) (Xaa (pv 1) Xae)))))))) (Xac (Xai Xck)) Xal) (Xab (Xao (i:=4) Xgc.nd rfl (Or.inl rfl) (Xag D_Z44 hr (by rfl) (Xaa (pv 2) (Xaa (pv 3) (Xaa (pv 1) Xae))))) (Xac (Xbc (PW.pt (Xeb (Xaj Xid (pv 4) Xcm (Xam _)) (Xda (Xbu (Xdz (Xag D_Z43 hr (by rfl) (Xaa (pv 2) (Xaa (pv 3) (Xaa (pv 5) Xae))))))))) (Xac (Xai Xck)) Xal))))) (Xac (Xai Xck))))))))),?_⟩
 obtain⟨sc,ns,rfl,hS,hlen,kk⟩:=h
 have v0:=Int.emod_nonneg (ns.getD (0:Int).toNat 0) (show (20:Int)≠0 by decide)
 have v1:=Int.emod_lt_of_pos (ns.getD (0:Int).toNat 0) (show (0:Int)<20 by decide)
 have u0:=Int.emod_nonneg (ns.getD (1:Int).toNat 0) (show (8:Int)≠0 by decide)
 have u1:=Int.emod_lt_of_pos (ns.getD (1:Int).toNat 0) (show (0:Int)<8 by decide)
 walk_at "gs"
 refine Xrr (M:=fun σ' H'=>∃s:Int,H'=H∧3≤s∧s≤50∧σ'=[some (.ref sc),some (.int s),none,none,none,none]) ?_ (fun nx hM=>?_)
 · rintro σ' H' ⟨s,rfl,s3,s50,rfl⟩
   obtain⟨m,em,m1,m8⟩:∃m:Nat,1+ns.getD (1:Int).toNat 0%8=(m:Int)∧1≤m∧m≤8:=⟨(1+ns.getD (1:Int).toNat 0%8).toNat,by omega,by omega,by omega⟩
   have hsm:s*(m:Int)≤400:=by
     have h1:=Int.mul_le_mul_of_nonneg_left (show (m:Int)≤8 by omega) (show 0≤s by omega)
     omega
   walk_at "go"
   rw[em]
   intro x dx nx ndx nex
   have s6:Same H' (upd (upd H' dx (.own x)) x (.ins Y3 dx [])):=(Same.new ndx).put nx
   have hx6:upd (upd H' dx (.own x)) x (.ins Y3 dx []) x=some (.ins Y3 dx []):=upd_same
   have hsx:∀o,H' sc=some o→sc≠x:=fun o h=>Xap h nx
   generalize upd (upd H' dx (.own x)) x (.ins Y3 dx [])=H6 at s6 hx6 ⊢
   refine⟨x,dx,s,m,rfl,hx6,by omega,by omega,m1,fun a H7 k7 S7=>⟨rfl,?_⟩⟩
   have hS7:SqL K H7 sc (ns.map V.int):=XJi hS fun o h=>k7 sc o (hsx o h) (s6 sc o h)
   have lf7:(List.replicate m (⟨0,[]⟩:Sf)).length=m:=List.length_replicate
   walk_at "go"
   intro kd nkd
   have s8:Same H7 (upd H7 kd (.dK [])):=Same.new nkd
   have hkd8:upd H7 kd (.dK []) kd=some (.dK []):=upd_same
   generalize upd H7 kd (.dK [])=H8 at s8 hkd8 ⊢
   have S8:=S7.same s8
   have hx8:=S8.hx
   have hS8:=s8.seq hS7
   have D8:HhS (rep1 s m) (alP s 0 (List.replicate m ⟨0,[]⟩)) kd [] 0 H8:=⟨hkd8,List.nodup_nil,(fun kv hk=>by cases hk),(fun kv hk=>by cases hk),(fun kv hk=>by cases hk),Nat.le_refl _,fun y hy hv=>absurd hv (Xms y hy)⟩
   clear S7 k7 s6 hx6 hsx ndx nex nx hS s8 hS7 nkd
   generalize List.replicate m (⟨0,[]⟩:Sf)=fs8 at S8 D8 lf7
   generalize rep1 s m=cs8 at S8 D8
   walk_at "go"
   refine⟨x,dx,a,kd,s,0,fs8,cs8,[],rfl,S8,by omega,D8,by decide,fun lp us H9 s9 hlp pa=>?_⟩
   have S9:=S8.same s9
   have D9:=D8.same s9
   have hS9:=s9.seq hS8
   have hx9:=S9.hx
   walk_at "go"
   intro q1 H12 nq1 s12 hq1
   have hzl:(cutI ns (some 2) (some 64)).length≤62:=Xub ns 2 64
   generalize cutI ns (some 2) (some 64)=zs at hq1 hzl ⊢
   have hqx:q1≠x:=fun e=>by rw[e,hx9] at nq1;cases nq1
   have hqa:q1≠a:=fun e=>by rw[e,S9.ha] at nq1;cases nq1
   refine⟨q1,rfl,⟨_,SqL.of hq1⟩,Xiy (K:=K) (a:=q1) (xs:=zs.map V.int) (LwS Y3 (some (.ref sc)) x dx kd q1 s m zs) ⟨a,lp,fs8,cs8,us,[],none,rfl,S9.same s12,lf7,D9.same s12,s12 lp _ hlp,pa.same s12,hq1,hqa⟩ (fun i σ H2 _ ⟨_,_,_,_,_,_,_,_,_,_,_,_,_,h,_⟩=>SqL.of h) ?_ ?_⟩
   · rintro i y σ H2 hi ⟨a,lp,fs,cs,us,kvs,x5,rfl,S,lf,D,hlp,pa,hq2,hqa⟩
     have hil:=(List.getElem?_eq_some_iff.mp hi).1
     rw[List.length_map] at hil
     rw[List.getElem?_map] at hi
     obtain⟨c0,hc0,rfl⟩:=Option.map_eq_some_iff.mp hi
     have hx:=S.hx
     walk_at "go"
     refine⟨x,dx,a,kd,lp,s,i,c0,fs,cs,kvs,us,rfl,S,by omega,D,by omega,hlp,pa,fun a' fs' cs' kvs' H3 fr lf3 S3 D3=>?_⟩
     have hq3:=fr.1 q1 _ hq2 hqx hqa (fun ks w=>by cases w)
     have hqa':q1≠a':=fun w=>by
       rcases fr.2 with e | e
       · exact hqa (w.trans e)
       · rw[←w,hq2] at e;cases e
     have hx3:=S3.hx
     walk_at "go"
     refine⟨x,dx,a',kd,s,i+1,fs',cs',kvs',rfl,S3,by omega,D3,by omega,fun lp' us' H4 s4 hlp4 pa4=>?_⟩
     have S4:=S3.same s4
     have D4:=D3.same s4
     have hx4:=S4.hx
     walk_at "go"
     refine⟨x,dx,a',kd,s,i+1,fs',cs',kvs',c0,rfl,S4,D4,by omega,fun H5 s5=>?_⟩
     walk_at "go"
     exact⟨a',lp',fs',cs',us',kvs',_,rfl,S4.same s5,lf3.trans lf,D4.same s5,s5 lp' _ hlp4,pa4.same s5,(s4.trans s5) q1 _ hq3,hqa'⟩
   · rintro σ H2 ⟨a,lp,fs,cs,us,kvs,x5,rfl,S,lf,D,hlp,pa,hq2,hqa⟩
     walk_at "go"
     exact kk _
 · walk_at "go"
   refine Xby (fun h1=>?_) (fun h1=>?_)
   · walk_at "go"
     exact hM _ _ ⟨50,rfl,by decide,by decide,rfl⟩
   · walk_at "go"
     exact hM _ _ ⟨3+ns.getD (0:Int).toNat 0%20,rfl,by omega,by omega,rfl⟩
end
abbrev LkF (K:PySem.W.Frag)(x q:Str)(s:Stmt)(D:Value)(f:Addr)(oc:Value)(od:Option Addr)(kV dc pm:Value)(an:Option Addr)(cd ct:Value)(sl:Array (Option Value)):Prop:=K.lookup f=some ⟨oc,od,.func (PySem.W.fnOf x q (Xbh s) (Xay s) (Xad s) D kV dc pm an cd ct),sl⟩
set_option autoImplicit true in
set_option relaxedAutoImplicit true in
theorem all_mk {l:PySem.W.OpenLaw}{w:World}{K:PySem.W.Frag}{h:Heap}{mg:Str→Option Value}{fa:Addr}(X:K.In h)(G:h.Ns mainGlobals mg)(hfa:mg "law"=some (.ref fa))
   (a_Z24:PySem.W.nsIn K mainGlobals "check_ask"=some (some (.ref f_Z24)))
   (l_Z24:LkF K "check_ask" "check_ask" Xta .none f_Z24 oc_Z24 od_Z24 kV_Z24 dc_Z24 pm_Z24 an_Z24 cd_Z24 ct_Z24 sl_Z24)
   (c_Z24:PySem.W.codeIn K cd_Z24 "check_ask"=true)
   (k_Z24:PySem.W.keepIn K (.ref f_Z24)=true)
   (a_Z3:PySem.W.nsIn K mainGlobals "check_plain_ask"=some (some (.ref f_Z3)))
   (l_Z3:LkF K "check_plain_ask" "check_plain_ask" s_Z3 .none f_Z3 oc_Z3 od_Z3 kV_Z3 dc_Z3 pm_Z3 an_Z3 cd_Z3 ct_Z3 sl_Z3)
   (c_Z3:PySem.W.codeIn K cd_Z3 "check_plain_ask"=true)
   (k_Z3:PySem.W.keepIn K (.ref f_Z3)=true)
   (a_Z33:PySem.W.nsIn K mainGlobals "mark_of"=some (some (.ref f_Z33)))
   (l_Z33:LkF K "mark_of" "mark_of" Xqu .none f_Z33 oc_Z33 od_Z33 kV_Z33 dc_Z33 pm_Z33 an_Z33 cd_Z33 ct_Z33 sl_Z33)
   (c_Z33:PySem.W.codeIn K cd_Z33 "mark_of"=true)
   (k_Z33:PySem.W.keepIn K (.ref f_Z33)=true)
   (a_Z34:PySem.W.nsIn K mainGlobals "long_of"=some (some (.ref f_Z34)))
   (l_Z34:LkF K "long_of" "long_of" Xrd .none f_Z34 oc_Z34 od_Z34 kV_Z34 dc_Z34 pm_Z34 an_Z34 cd_Z34 ct_Z34 sl_Z34)
   (c_Z34:PySem.W.codeIn K cd_Z34 "long_of"=true)
   (k_Z34:PySem.W.keepIn K (.ref f_Z34)=true)
   (a_Z37:PySem.W.nsIn K mainGlobals "live_of"=some (some (.ref f_Z37)))
   (l_Z37:LkF K "live_of" "live_of" Xqg .none f_Z37 oc_Z37 od_Z37 kV_Z37 dc_Z37 pm_Z37 an_Z37 cd_Z37 ct_Z37 sl_Z37)
   (c_Z37:PySem.W.codeIn K cd_Z37 "live_of"=true)
   (k_Z37:PySem.W.keepIn K (.ref f_Z37)=true)
   (a_Z23:PySem.W.nsIn K mainGlobals "can_begin"=some (some (.ref f_Z23)))
   (l_Z23:LkF K "can_begin" "can_begin" Xpi .none f_Z23 oc_Z23 od_Z23 kV_Z23 dc_Z23 pm_Z23 an_Z23 cd_Z23 ct_Z23 sl_Z23)
   (c_Z23:PySem.W.codeIn K cd_Z23 "can_begin"=true)
   (k_Z23:PySem.W.keepIn K (.ref f_Z23)=true)
   (a_Z8:PySem.W.nsIn K mainGlobals "bad_of_piece"=some (some (.ref f_Z8)))
   (l_Z8:LkF K "bad_of_piece" "bad_of_piece" s_Z8 .none f_Z8 oc_Z8 od_Z8 kV_Z8 dc_Z8 pm_Z8 an_Z8 cd_Z8 ct_Z8 sl_Z8)
   (c_Z8:PySem.W.codeIn K cd_Z8 "bad_of_piece"=true)
   (k_Z8:PySem.W.keepIn K (.ref f_Z8)=true)
   (a_Z46:PySem.W.nsIn K mainGlobals "looked"=some (some (.ref f_Z46)))
   (l_Z46:LkF K "looked" "looked" Xsp .none f_Z46 oc_Z46 od_Z46 kV_Z46 dc_Z46 pm_Z46 an_Z46 cd_Z46 ct_Z46 sl_Z46)
   (c_Z46:PySem.W.codeIn K cd_Z46 "looked"=true)
   (k_Z46:PySem.W.keepIn K (.ref f_Z46)=true)
   (a_Z17:PySem.W.nsIn K mainGlobals "fresh_room"=some (some (.ref f_Z17)))
   (l_Z17:LkF K "fresh_room" "fresh_room" Xqe .none f_Z17 oc_Z17 od_Z17 kV_Z17 dc_Z17 pm_Z17 an_Z17 cd_Z17 ct_Z17 sl_Z17)
   (c_Z17:PySem.W.codeIn K cd_Z17 "fresh_room"=true)
   (k_Z17:PySem.W.keepIn K (.ref f_Z17)=true)
   (a_Z51:PySem.W.nsIn K mainGlobals "laid"=some (some (.ref f_Z51)))
   (l_Z51:LkF K "laid" "laid" Xoz .none f_Z51 oc_Z51 od_Z51 kV_Z51 dc_Z51 pm_Z51 an_Z51 cd_Z51 ct_Z51 sl_Z51)
   (c_Z51:PySem.W.codeIn K cd_Z51 "laid"=true)
   (k_Z51:PySem.W.keepIn K (.ref f_Z51)=true)
   (a_Z28:PySem.W.nsIn K mainGlobals "piece_at"=some (some (.ref f_Z28)))
   (l_Z28:LkF K "piece_at" "piece_at" Xpq .none f_Z28 oc_Z28 od_Z28 kV_Z28 dc_Z28 pm_Z28 an_Z28 cd_Z28 ct_Z28 sl_Z28)
   (c_Z28:PySem.W.codeIn K cd_Z28 "piece_at"=true)
   (k_Z28:PySem.W.keepIn K (.ref f_Z28)=true)
   (a_Z38:PySem.W.nsIn K mainGlobals "live_at"=some (some (.ref f_Z38)))
   (l_Z38:LkF K "live_at" "live_at" Xrn .none f_Z38 oc_Z38 od_Z38 kV_Z38 dc_Z38 pm_Z38 an_Z38 cd_Z38 ct_Z38 sl_Z38)
   (c_Z38:PySem.W.codeIn K cd_Z38 "live_at"=true)
   (k_Z38:PySem.W.keepIn K (.ref f_Z38)=true)
   (a_Z39:PySem.W.nsIn K mainGlobals "carried"=some (some (.ref f_Z39)))
   (l_Z39:LkF K "carried" "carried" Xqs .none f_Z39 oc_Z39 od_Z39 kV_Z39 dc_Z39 pm_Z39 an_Z39 cd_Z39 ct_Z39 sl_Z39)
   (c_Z39:PySem.W.codeIn K cd_Z39 "carried"=true)
   (k_Z39:PySem.W.keepIn K (.ref f_Z39)=true)
   (a_Z22:PySem.W.nsIn K mainGlobals "all_whole"=some (some (.ref f_Z22)))
   (l_Z22:LkF K "all_whole" "all_whole" Xqa .none f_Z22 oc_Z22 od_Z22 kV_Z22 dc_Z22 pm_Z22 an_Z22 cd_Z22 ct_Z22 sl_Z22)
   (c_Z22:PySem.W.codeIn K cd_Z22 "all_whole"=true)
   (k_Z22:PySem.W.keepIn K (.ref f_Z22)=true)
   (a_Z27:PySem.W.nsIn K mainGlobals "begin_of"=some (some (.ref f_Z27)))
   (l_Z27:LkF K "begin_of" "begin_of" Xsn .none f_Z27 oc_Z27 od_Z27 kV_Z27 dc_Z27 pm_Z27 an_Z27 cd_Z27 ct_Z27 sl_Z27)
   (c_Z27:PySem.W.codeIn K cd_Z27 "begin_of"=true)
   (k_Z27:PySem.W.keepIn K (.ref f_Z27)=true)
   (a_Z16:PySem.W.nsIn K mainGlobals "whole_ones"=some (some (.ref f_Z16)))
   (l_Z16:LkF K "whole_ones" "whole_ones" Xrw .none f_Z16 oc_Z16 od_Z16 kV_Z16 dc_Z16 pm_Z16 an_Z16 cd_Z16 ct_Z16 sl_Z16)
   (c_Z16:PySem.W.codeIn K cd_Z16 "whole_ones"=true)
   (k_Z16:PySem.W.keepIn K (.ref f_Z16)=true)
   (a_Z21:PySem.W.nsIn K mainGlobals "free_slots"=some (some (.ref f_Z21)))
   (l_Z21:LkF K "free_slots" "free_slots" Xsy .none f_Z21 oc_Z21 od_Z21 kV_Z21 dc_Z21 pm_Z21 an_Z21 cd_Z21 ct_Z21 sl_Z21)
   (c_Z21:PySem.W.codeIn K cd_Z21 "free_slots"=true)
   (k_Z21:PySem.W.keepIn K (.ref f_Z21)=true)
   (a_Z40:PySem.W.nsIn K mainGlobals "cut_for"=some (some (.ref f_Z40)))
   (l_Z40:LkF K "cut_for" "cut_for" Xsd .none f_Z40 oc_Z40 od_Z40 kV_Z40 dc_Z40 pm_Z40 an_Z40 cd_Z40 ct_Z40 sl_Z40)
   (c_Z40:PySem.W.codeIn K cd_Z40 "cut_for"=true)
   (k_Z40:PySem.W.keepIn K (.ref f_Z40)=true)
   (a_Z26:PySem.W.nsIn K mainGlobals "with_slot"=some (some (.ref f_Z26)))
   (l_Z26:LkF K "with_slot" "with_slot" Xql .none f_Z26 oc_Z26 od_Z26 kV_Z26 dc_Z26 pm_Z26 an_Z26 cd_Z26 ct_Z26 sl_Z26)
   (c_Z26:PySem.W.codeIn K cd_Z26 "with_slot"=true)
   (k_Z26:PySem.W.keepIn K (.ref f_Z26)=true)
   (a_Z29:PySem.W.nsIn K mainGlobals "has_live"=some (some (.ref f_Z29)))
   (l_Z29:LkF K "has_live" "has_live" Xsz .none f_Z29 oc_Z29 od_Z29 kV_Z29 dc_Z29 pm_Z29 an_Z29 cd_Z29 ct_Z29 sl_Z29)
   (c_Z29:PySem.W.codeIn K cd_Z29 "has_live"=true)
   (k_Z29:PySem.W.keepIn K (.ref f_Z29)=true)
   (a_Z25:PySem.W.nsIn K mainGlobals "_law_cell_at"=some (some (.ref f_Z25)))
   (l_Z25:LkF K "_law_cell_at" "_law_cell_at" Xrb .none f_Z25 oc_Z25 od_Z25 kV_Z25 dc_Z25 pm_Z25 an_Z25 cd_Z25 ct_Z25 sl_Z25)
   (c_Z25:PySem.W.codeIn K cd_Z25 "_law_cell_at"=true)
   (k_Z25:PySem.W.keepIn K (.ref f_Z25)=true)
   (a_Z32:PySem.W.nsIn K mainGlobals "_law_whole"=some (some (.ref f_Z32)))
   (l_Z32:LkF K "_law_whole" "_law_whole" Xsl .none f_Z32 oc_Z32 od_Z32 kV_Z32 dc_Z32 pm_Z32 an_Z32 cd_Z32 ct_Z32 sl_Z32)
   (c_Z32:PySem.W.codeIn K cd_Z32 "_law_whole"=true)
   (k_Z32:PySem.W.keepIn K (.ref f_Z32)=true)
   (a_Z41:PySem.W.nsIn K mainGlobals "_law_walk"=some (some (.ref f_Z41)))
   (l_Z41:LkF K "_law_walk" "_law_walk" Xqx .none f_Z41 oc_Z41 od_Z41 kV_Z41 dc_Z41 pm_Z41 an_Z41 cd_Z41 ct_Z41 sl_Z41)
   (c_Z41:PySem.W.codeIn K cd_Z41 "_law_walk"=true)
   (k_Z41:PySem.W.keepIn K (.ref f_Z41)=true)
   (a_Z30:PySem.W.nsIn K mainGlobals "_law_number"=some (some (.ref f_Z30)))
   (l_Z30:LkF K "_law_number" "_law_number" Xon .none f_Z30 oc_Z30 od_Z30 kV_Z30 dc_Z30 pm_Z30 an_Z30 cd_Z30 ct_Z30 sl_Z30)
   (c_Z30:PySem.W.codeIn K cd_Z30 "_law_number"=true)
   (k_Z30:PySem.W.keepIn K (.ref f_Z30)=true)
   (a_Z7:PySem.W.nsIn K mainGlobals "_law_shelf_good"=some (some (.ref f_Z7)))
   (l_Z7:LkF K "_law_shelf_good" "_law_shelf_good" s_Z7 .none f_Z7 oc_Z7 od_Z7 kV_Z7 dc_Z7 pm_Z7 an_Z7 cd_Z7 ct_Z7 sl_Z7)
   (c_Z7:PySem.W.codeIn K cd_Z7 "_law_shelf_good"=true)
   (k_Z7:PySem.W.keepIn K (.ref f_Z7)=true)
   (a_Z44:PySem.W.nsIn K mainGlobals "_law_good"=some (some (.ref f_Z44)))
   (l_Z44:LkF K "_law_good" "_law_good" Xor .none f_Z44 oc_Z44 od_Z44 kV_Z44 dc_Z44 pm_Z44 an_Z44 cd_Z44 ct_Z44 sl_Z44)
   (c_Z44:PySem.W.codeIn K cd_Z44 "_law_good"=true)
   (k_Z44:PySem.W.keepIn K (.ref f_Z44)=true)
   (a_Z43:PySem.W.nsIn K mainGlobals "_law_told"=some (some (.ref f_Z43)))
   (l_Z43:LkF K "_law_told" "_law_told" Xou .none f_Z43 oc_Z43 od_Z43 kV_Z43 dc_Z43 pm_Z43 an_Z43 cd_Z43 ct_Z43 sl_Z43)
   (c_Z43:PySem.W.codeIn K cd_Z43 "_law_told"=true)
   (k_Z43:PySem.W.keepIn K (.ref f_Z43)=true)
   (a_Z49:PySem.W.nsIn K mainGlobals "_law_can"=some (some (.ref f_Z49)))
   (l_Z49:LkF K "_law_can" "_law_can" Xqc .none f_Z49 oc_Z49 od_Z49 kV_Z49 dc_Z49 pm_Z49 an_Z49 cd_Z49 ct_Z49 sl_Z49)
   (c_Z49:PySem.W.codeIn K cd_Z49 "_law_can"=true)
   (k_Z49:PySem.W.keepIn K (.ref f_Z49)=true)
   (a_Z31:PySem.W.nsIn K mainGlobals "_law_asked"=some (some (.ref f_Z31)))
   (l_Z31:LkF K "_law_asked" "_law_asked" Xpn .none f_Z31 oc_Z31 od_Z31 kV_Z31 dc_Z31 pm_Z31 an_Z31 cd_Z31 ct_Z31 sl_Z31)
   (c_Z31:PySem.W.codeIn K cd_Z31 "_law_asked"=true)
   (k_Z31:PySem.W.keepIn K (.ref f_Z31)=true)
   (a_Z35:PySem.W.nsIn K mainGlobals "_law_grown"=some (some (.ref f_Z35)))
   (l_Z35:LkF K "_law_grown" "_law_grown" Xpj .none f_Z35 oc_Z35 od_Z35 kV_Z35 dc_Z35 pm_Z35 an_Z35 cd_Z35 ct_Z35 sl_Z35)
   (c_Z35:PySem.W.codeIn K cd_Z35 "_law_grown"=true)
   (k_Z35:PySem.W.keepIn K (.ref f_Z35)=true)
   (a_Z45:PySem.W.nsIn K mainGlobals "_law_step"=some (some (.ref f_Z45)))
   (l_Z45:LkF K "_law_step" "_law_step" Xrm .none f_Z45 oc_Z45 od_Z45 kV_Z45 dc_Z45 pm_Z45 an_Z45 cd_Z45 ct_Z45 sl_Z45)
   (c_Z45:PySem.W.codeIn K cd_Z45 "_law_step"=true)
   (k_Z45:PySem.W.keepIn K (.ref f_Z45)=true)
   (a_law:PySem.W.nsIn K mainGlobals "law"=some (some (.ref f_law)))
   (l_law:LkF K "law" "law" Xli .none f_law oc_law od_law kV_law dc_law pm_law an_law cd_law ct_law sl_law)
   (c_law:PySem.W.codeIn K cd_law "law"=true)
   (k_law:PySem.W.keepIn K (.ref f_law)=true)
   {W0_:Tok}
   {W1_:Tok}
   {Y0 Y8 Y4 Y2 Y6 Y9 Y1 Y7 Y5 Y3:Addr}
   (z_any:PySem.W.nsIn K mainGlobals "any"=some none)
   (z_bool:PySem.W.nsIn K mainGlobals "bool"=some none)
   (z_dict:PySem.W.nsIn K mainGlobals "dict"=some none)
   (z_int:PySem.W.nsIn K mainGlobals "int"=some none)
   (z_isinstance:PySem.W.nsIn K mainGlobals "isinstance"=some none)
   (z_len:PySem.W.nsIn K mainGlobals "len"=some none)
   (z_list:PySem.W.nsIn K mainGlobals "list"=some none)
   (z_min:PySem.W.nsIn K mainGlobals "min"=some none)
   (z_range:PySem.W.nsIn K mainGlobals "range"=some none)
   (z_sorted:PySem.W.nsIn K mainGlobals "sorted"=some none)
   (z_tuple:PySem.W.nsIn K mainGlobals "tuple"=some none)
   (g_LEAST_LIVE:PySem.W.nsIn K mainGlobals "LEAST_LIVE"=some (some (.int 3 W0_)))
   (g_MARKS:PySem.W.nsIn K mainGlobals "MARKS"=some (some (.int 2 W1_)))
   (cc_StowError:PySem.W.nsIn K mainGlobals "StowError"=some (some (.ref Y0)))
   (cc_NoSize:PySem.W.nsIn K mainGlobals "NoSize"=some (some (.ref Y8)))
   (cc_Broken:PySem.W.nsIn K mainGlobals "Broken"=some (some (.ref Y4)))
   (cc_NoPiece:PySem.W.nsIn K mainGlobals "NoPiece"=some (some (.ref Y2)))
   (cc_NoCell:PySem.W.nsIn K mainGlobals "NoCell"=some (some (.ref Y6)))
   (cc_NoAsk:PySem.W.nsIn K mainGlobals "NoAsk"=some (some (.ref Y9)))
   (cc_NoBound:PySem.W.nsIn K mainGlobals "NoBound"=some (some (.ref Y1)))
   (cc_NoRoom:PySem.W.nsIn K mainGlobals "NoRoom"=some (some (.ref Y7)))
   (cc_Keeper:PySem.W.nsIn K mainGlobals "Keeper"=some (some (.ref Y5)))
   (cc_Shelves:PySem.W.nsIn K mainGlobals "Shelves"=some (some (.ref Y3)))
   (s1_Broken:PySem.W.findIn K (.ref Y4) "__setattr__"=some (some (.builtin "object.__setattr__")))
   {cd_Broken:ClassData}
   (s2_Broken:PySem.W.clsIn K Y4=some cd_Broken)
   (s5_Broken:Xhk cd_Broken.mro=true)
   (s6_Broken:cd_Broken.hasDict=true)
   (s3_Broken:PySem.W.mroIn K Y4 (.type "object")=some true)
   (s4_Broken:PySem.W.findIn K (.ref Y4) "cell"=some none)
   (xx_NoSize:PySem.W.excIn K Y8 [.type "ValueError",.type "Exception",.type "BaseException",.type "object"] "ValueError.__new__"=true)
   (xx_NoPiece:PySem.W.excIn K Y2 [.type "ValueError",.type "Exception",.type "BaseException",.type "object"] "ValueError.__new__"=true)
   (xx_NoRoom:PySem.W.excIn K Y7 [.type "ValueError",.type "Exception",.type "BaseException",.type "object"] "ValueError.__new__"=true)
   (pg_Shelves:PySem.W.plainGet K Y3 Str.empty=true)
   (hd_Shelves:PySem.W.hasDictIn K Y3=true)
   (po_Shelves:PySem.W.plainOver K Y3=true)
   (sa_Shelves:PySem.W.findIn K (.ref Y3) "__setattr__"=some (some (.builtin "object.__setattr__")))
   (na_Shelves_room_cells:PySem.W.findIn K (.ref Y3) "room_cells"=some none)
   (na_Shelves_shelf:PySem.W.findIn K (.ref Y3) "shelf"=some none)
   (lc_NoRoom:K.lookup Y7=some (excClassObj nm_NoRoom qn_NoRoom Y7 N_NoRoom bs_NoRoom bm_NoRoom hd_NoRoom sn_NoRoom sub_NoRoom ab_NoRoom col_NoRoom dd_NoRoom k0_NoRoom k1_NoRoom k2_NoRoom k3_NoRoom k5_NoRoom ni_NoRoom))
   (fb_NoRoom:(Value.ref Y7::bm_NoRoom).contains (.type "BaseException")=true)
   (fm_NoRoom_NoRoom:(Value.ref Y7::bm_NoRoom).contains (.ref Y7)=true)
   (lc_Broken:K.lookup Y4=some (excClassObj nm_Broken qn_Broken Y4 N_Broken bs_Broken bm_Broken hd_Broken sn_Broken sub_Broken ab_Broken col_Broken dd_Broken k0_Broken k1_Broken k2_Broken k3_Broken k5_Broken ni_Broken))
   (xx_StowError:PySem.W.excIn K Y0 [.type "ValueError",.type "Exception",.type "BaseException",.type "object"] "ValueError.__new__"=true)
   (kp_Broken:PySem.W.keepIn K (.ref Y4)=true)
   (e2_:PySem.W.findIn K (.ref Y4) "__init__"=some (some (.ref f_Broken_init)))
   (l_Broken_init:LkF K "__init__" "Broken.__init__" Xcx .none f_Broken_init oc_Broken_init od_Broken_init kV_Broken_init dc_Broken_init pm_Broken_init an_Broken_init cd_Broken_init ct_Broken_init sl_Broken_init)
   (c_Broken_init:PySem.W.codeIn K cd_Broken_init "Broken.__init__"=true)
   (k_Broken_init:PySem.W.keepIn K (.ref f_Broken_init)=true)
   (eb_Broken:bm_Broken = .ref Y0::[.type "ValueError",.type "Exception",.type "BaseException",.type "object"])
   (en_Broken:ni_Broken="ValueError.__new__")
   (eo_Broken:oc_Broken_init = .type "function")
   (e1_:PySem.W.findCls K (.ref Y5) (.type "type") "__init__"=some (.val (.ref f_Keeper_init)))
   (l_Keeper_init:LkF K "__init__" "Keeper.__init__" Xcz .none f_Keeper_init oc_Keeper_init od_Keeper_init kV_Keeper_init dc_Keeper_init pm_Keeper_init an_Keeper_init cd_Keeper_init ct_Keeper_init sl_Keeper_init)
   (c_Keeper_init:PySem.W.codeIn K cd_Keeper_init "Keeper.__init__"=true)
   (k_Keeper_init:PySem.W.keepIn K (.ref f_Keeper_init)=true)
   (bs_Keeper:PySem.W.specialIn K (.ref Y5) "__getattribute__"=some (some (.builtin "type.__getattribute__")))
   (br_Keeper:PySem.W.readsIn K Y5 (.type "type")=true)
   (a_Z2:PySem.W.findIn K (.ref Y3) "room_begin"=some (some (.ref f_Z2)))
   (l_Z2:LkF K "room_begin" "Keeper.room_begin" s_Z2 .none f_Z2 oc_Z2 od_Z2 kV_Z2 dc_Z2 pm_Z2 an_Z2 cd_Z2 ct_Z2 sl_Z2)
   (c_Z2:PySem.W.codeIn K cd_Z2 "Keeper.room_begin"=true)
   (k_Z2:PySem.W.keepIn K (.ref f_Z2)=true)
   (if_Z2:PySem.W.isFn K (.ref f_Z2)=true)
   (a_Z18:PySem.W.findIn K (.ref Y3) "lay"=some (some (.ref f_Z18)))
   (l_Z18:LkF K "lay" "Keeper.lay" Xua .none f_Z18 oc_Z18 od_Z18 kV_Z18 dc_Z18 pm_Z18 an_Z18 cd_Z18 ct_Z18 sl_Z18)
   (c_Z18:PySem.W.codeIn K cd_Z18 "Keeper.lay"=true)
   (k_Z18:PySem.W.keepIn K (.ref f_Z18)=true)
   (if_Z18:PySem.W.isFn K (.ref f_Z18)=true)
   (a_Z5:PySem.W.findIn K (.ref Y3) "pieces"=some (some (.ref f_Z5)))
   (l_Z5:LkF K "pieces" "Keeper.pieces" s_Z5 .none f_Z5 oc_Z5 od_Z5 kV_Z5 dc_Z5 pm_Z5 an_Z5 cd_Z5 ct_Z5 sl_Z5)
   (c_Z5:PySem.W.codeIn K cd_Z5 "Keeper.pieces"=true)
   (k_Z5:PySem.W.keepIn K (.ref f_Z5)=true)
   (if_Z5:PySem.W.isFn K (.ref f_Z5)=true)
   (a_Z9:PySem.W.findIn K (.ref Y3) "cells"=some (some (.ref f_Z9)))
   (l_Z9:LkF K "cells" "Keeper.cells" s_Z9 .none f_Z9 oc_Z9 od_Z9 kV_Z9 dc_Z9 pm_Z9 an_Z9 cd_Z9 ct_Z9 sl_Z9)
   (c_Z9:PySem.W.codeIn K cd_Z9 "Keeper.cells"=true)
   (k_Z9:PySem.W.keepIn K (.ref f_Z9)=true)
   (if_Z9:PySem.W.isFn K (.ref f_Z9)=true)
   (a_Z11:PySem.W.findIn K (.ref Y3) "many"=some (some (.ref f_Z11)))
   (l_Z11:LkF K "many" "Keeper.many" Xtx .none f_Z11 oc_Z11 od_Z11 kV_Z11 dc_Z11 pm_Z11 an_Z11 cd_Z11 ct_Z11 sl_Z11)
   (c_Z11:PySem.W.codeIn K cd_Z11 "Keeper.many"=true)
   (k_Z11:PySem.W.keepIn K (.ref f_Z11)=true)
   (if_Z11:PySem.W.isFn K (.ref f_Z11)=true)
   (e0_:PySem.W.findIn K (.ref Y3) "__init__"=some (some (.ref f_Shelves_init)))
   (l_Shelves_init:LkF K "__init__" "Shelves.__init__" Xcl .none f_Shelves_init oc_Shelves_init od_Shelves_init kV_Shelves_init dc_Shelves_init pm_Shelves_init an_Shelves_init cd_Shelves_init ct_Shelves_init sl_Shelves_init)
   (c_Shelves_init:PySem.W.codeIn K cd_Shelves_init "Shelves.__init__"=true)
   (k_Shelves_init:PySem.W.keepIn K (.ref f_Shelves_init)=true)
   (if_Shelves_init:PySem.W.isFn K (.ref f_Shelves_init)=true)
   (mk_Shelves:PySem.W.makesIn K Y3=true)
   (kp_Shelves:PySem.W.keepIn K (.ref Y3)=true)
   (a_Z4:PySem.W.findIn K (.ref Y3) "clear"=some (some (.ref f_Z4)))
   (l_Z4:LkF K "clear" "Shelves.clear" s_Z4 .none f_Z4 oc_Z4 od_Z4 kV_Z4 dc_Z4 pm_Z4 an_Z4 cd_Z4 ct_Z4 sl_Z4)
   (c_Z4:PySem.W.codeIn K cd_Z4 "Shelves.clear"=true)
   (k_Z4:PySem.W.keepIn K (.ref f_Z4)=true)
   (if_Z4:PySem.W.isFn K (.ref f_Z4)=true)
   {dt_Z12:Addr} {dk_Z12:Tok} {dtc_Z12:Value} {dtd_Z12:Option Addr} {dtn_Z12:Nat} {dts_Z12:Array (Option Value)}
   (a_Z12:PySem.W.findIn K (.ref Y3) "ask"=some (some (.ref f_Z12)))
   (l_Z12:LkF K "ask" "Shelves.ask" Xio (.ref dt_Z12) f_Z12 oc_Z12 od_Z12 kV_Z12 dc_Z12 pm_Z12 an_Z12 cd_Z12 ct_Z12 sl_Z12)
   (ld_Z12:K.lookup dt_Z12=some ⟨dtc_Z12,dtd_Z12,.seq [.int 1 dk_Z12].toArray dtn_Z12,dts_Z12⟩)
   (c_Z12:PySem.W.codeIn K cd_Z12 "Shelves.ask"=true)
   (k_Z12:PySem.W.keepIn K (.ref f_Z12)=true)
   (if_Z12:PySem.W.isFn K (.ref f_Z12)=true)
   (a_Z6:PySem.W.findIn K (.ref Y3) "give"=some (some (.ref f_Z6)))
   (l_Z6:LkF K "give" "Shelves.give" s_Z6 .none f_Z6 oc_Z6 od_Z6 kV_Z6 dc_Z6 pm_Z6 an_Z6 cd_Z6 ct_Z6 sl_Z6)
   (c_Z6:PySem.W.codeIn K cd_Z6 "Shelves.give"=true)
   (k_Z6:PySem.W.keepIn K (.ref f_Z6)=true)
   (if_Z6:PySem.W.isFn K (.ref f_Z6)=true)
   (a_Z1:PySem.W.findIn K (.ref Y3) "room_moved"=some (some (.ref f_Z1)))
   (l_Z1:LkF K "room_moved" "Keeper.room_moved" s_Z1 .none f_Z1 oc_Z1 od_Z1 kV_Z1 dc_Z1 pm_Z1 an_Z1 cd_Z1 ct_Z1 sl_Z1)
   (c_Z1:PySem.W.codeIn K cd_Z1 "Keeper.room_moved"=true)
   (k_Z1:PySem.W.keepIn K (.ref f_Z1)=true)
   (if_Z1:PySem.W.isFn K (.ref f_Z1)=true)
   {dt_Z13:Addr} {dk_Z13:Tok} {dtc_Z13:Value} {dtd_Z13:Option Addr} {dtn_Z13:Nat} {dts_Z13:Array (Option Value)}
   (a_Z13:PySem.W.findIn K (.ref Y3) "grow"=some (some (.ref f_Z13)))
   (l_Z13:LkF K "grow" "Keeper.grow" Xii (.ref dt_Z13) f_Z13 oc_Z13 od_Z13 kV_Z13 dc_Z13 pm_Z13 an_Z13 cd_Z13 ct_Z13 sl_Z13)
   (ld_Z13:K.lookup dt_Z13=some ⟨dtc_Z13,dtd_Z13,.seq [.int 1 dk_Z13].toArray dtn_Z13,dts_Z13⟩)
   (c_Z13:PySem.W.codeIn K cd_Z13 "Keeper.grow"=true)
   (k_Z13:PySem.W.keepIn K (.ref f_Z13)=true)
   (if_Z13:PySem.W.isFn K (.ref f_Z13)=true)
   (a_Z0:PySem.W.findIn K (.ref Y3) "room_cell_of"=some (some (.ref f_Z0)))
   (l_Z0:LkF K "room_cell_of" "Keeper.room_cell_of" s_Z0 .none f_Z0 oc_Z0 od_Z0 kV_Z0 dc_Z0 pm_Z0 an_Z0 cd_Z0 ct_Z0 sl_Z0)
   (c_Z0:PySem.W.codeIn K cd_Z0 "Keeper.room_cell_of"=true)
   (k_Z0:PySem.W.keepIn K (.ref f_Z0)=true)
   (if_Z0:PySem.W.isFn K (.ref f_Z0)=true)
   (a_Z14:PySem.W.findIn K (.ref Y3) "put"=some (some (.ref f_Z14)))
   (l_Z14:LkF K "put" "Keeper.put" Xvb .none f_Z14 oc_Z14 od_Z14 kV_Z14 dc_Z14 pm_Z14 an_Z14 cd_Z14 ct_Z14 sl_Z14)
   (c_Z14:PySem.W.codeIn K cd_Z14 "Keeper.put"=true)
   (k_Z14:PySem.W.keepIn K (.ref f_Z14)=true)
   (if_Z14:PySem.W.isFn K (.ref f_Z14)=true)
   (a_Z19:PySem.W.findIn K (.ref Y3) "get"=some (some (.ref f_Z19)))
   (l_Z19:LkF K "get" "Keeper.get" Xuh .none f_Z19 oc_Z19 od_Z19 kV_Z19 dc_Z19 pm_Z19 an_Z19 cd_Z19 ct_Z19 sl_Z19)
   (c_Z19:PySem.W.codeIn K cd_Z19 "Keeper.get"=true)
   (k_Z19:PySem.W.keepIn K (.ref f_Z19)=true)
   (if_Z19:PySem.W.isFn K (.ref f_Z19)=true) :
   ∃fd:FuncData,(∀(s:Shared) (v:Value),BindsTo s fd ⟨[v],[]⟩ [("_law_script",v)])∧∀base:Heap,K.In base→base.Ns mainGlobals mg→FnOk l.prog w K mg base (CXe l.prog w) 13 fa fd ["_law_script"] (Xty K):=by
 have e:=hfa.symm.trans (PySem.W.mg_of X G a_law)
 cases e
 have T:Txt K mg Y0 Y8 Y4 Y2 Y6 Y9 Y1 Y7 Y5 Y3 W0_ W1_:=⟨PySem.W.mg_none_of X G z_any,PySem.W.mg_none_of X G z_bool,PySem.W.mg_none_of X G z_dict,PySem.W.mg_none_of X G z_int,PySem.W.mg_none_of X G z_isinstance,PySem.W.mg_none_of X G z_len,PySem.W.mg_none_of X G z_list,PySem.W.mg_none_of X G z_min,PySem.W.mg_none_of X G z_range,PySem.W.mg_none_of X G z_sorted,PySem.W.mg_none_of X G z_tuple,PySem.W.mg_of X G g_LEAST_LIVE,PySem.W.mg_of X G g_MARKS,PySem.W.mg_of X G cc_StowError,PySem.W.mg_of X G cc_NoSize,PySem.W.mg_of X G cc_Broken,PySem.W.mg_of X G cc_NoPiece,PySem.W.mg_of X G cc_NoCell,PySem.W.mg_of X G cc_NoAsk,PySem.W.mg_of X G cc_NoBound,PySem.W.mg_of X G cc_NoRoom,PySem.W.mg_of X G cc_Keeper,PySem.W.mg_of X G cc_Shelves,⟨s1_Broken,⟨_,s2_Broken,s5_Broken,s6_Broken⟩,s3_Broken,s4_Broken⟩,⟨PySem.W.mg_of X G cc_NoSize,_,_,_,_,xx_NoSize,PySem.F.excBase_ValueError,PySem.F.excBase_ValueError.hasBase⟩,⟨PySem.W.mg_of X G cc_NoPiece,_,_,_,_,xx_NoPiece,PySem.F.excBase_ValueError,PySem.F.excBase_ValueError.hasBase⟩,⟨PySem.W.mg_of X G cc_NoRoom,_,_,_,_,xx_NoRoom,PySem.F.excBase_ValueError,PySem.F.excBase_ValueError.hasBase⟩,⟨pg_Shelves,hd_Shelves,po_Shelves,sa_Shelves⟩,na_Shelves_room_cells,na_Shelves_shelf,⟨_,_,⟨_,_,_,_,_,_,_,_,_,_,_,_,_,_,_,_,lc_NoRoom⟩,⟨_,_,_,_,_,_,_,_,_,_,_,_,_,_,_,_,lc_NoRoom⟩,fb_NoRoom,fm_NoRoom_NoRoom⟩⟩
 have S_Z24:=Xbf (st:=Xta) X G a_Z24 l_Z24 c_Z24 k_Z24
 have S_Z3:=Xbf (st:=s_Z3) X G a_Z3 l_Z3 c_Z3 k_Z3
 have S_Z33:=Xbf (st:=Xqu) X G a_Z33 l_Z33 c_Z33 k_Z33
 have S_Z34:=Xbf (st:=Xrd) X G a_Z34 l_Z34 c_Z34 k_Z34
 have S_Z37:=Xbf (st:=Xqg) X G a_Z37 l_Z37 c_Z37 k_Z37
 have S_Z23:=Xbf (st:=Xpi) X G a_Z23 l_Z23 c_Z23 k_Z23
 have S_Z8:=Xbf (st:=s_Z8) X G a_Z8 l_Z8 c_Z8 k_Z8
 have S_Z46:=Xbf (st:=Xsp) X G a_Z46 l_Z46 c_Z46 k_Z46
 have S_Z17:=Xbf (st:=Xqe) X G a_Z17 l_Z17 c_Z17 k_Z17
 have S_Z51:=Xbf (st:=Xoz) X G a_Z51 l_Z51 c_Z51 k_Z51
 have S_Z28:=Xbf (st:=Xpq) X G a_Z28 l_Z28 c_Z28 k_Z28
 have S_Z38:=Xbf (st:=Xrn) X G a_Z38 l_Z38 c_Z38 k_Z38
 have S_Z39:=Xbf (st:=Xqs) X G a_Z39 l_Z39 c_Z39 k_Z39
 have S_Z22:=Xbf (st:=Xqa) X G a_Z22 l_Z22 c_Z22 k_Z22
 have S_Z27:=Xbf (st:=Xsn) X G a_Z27 l_Z27 c_Z27 k_Z27
 have S_Z16:=Xbf (st:=Xrw) X G a_Z16 l_Z16 c_Z16 k_Z16
 have S_Z21:=Xbf (st:=Xsy) X G a_Z21 l_Z21 c_Z21 k_Z21
 have S_Z40:=Xbf (st:=Xsd) X G a_Z40 l_Z40 c_Z40 k_Z40
 have S_Z26:=Xbf (st:=Xql) X G a_Z26 l_Z26 c_Z26 k_Z26
 have S_Z29:=Xbf (st:=Xsz) X G a_Z29 l_Z29 c_Z29 k_Z29
 have S_Z25:=Xbf (st:=Xrb) X G a_Z25 l_Z25 c_Z25 k_Z25
 have S_Z32:=Xbf (st:=Xsl) X G a_Z32 l_Z32 c_Z32 k_Z32
 have S_Z41:=Xbf (st:=Xqx) X G a_Z41 l_Z41 c_Z41 k_Z41
 have S_Z30:=Xbf (st:=Xon) X G a_Z30 l_Z30 c_Z30 k_Z30
 have S_Z7:=Xbf (st:=s_Z7) X G a_Z7 l_Z7 c_Z7 k_Z7
 have S_Z44:=Xbf (st:=Xor) X G a_Z44 l_Z44 c_Z44 k_Z44
 have S_Z43:=Xbf (st:=Xou) X G a_Z43 l_Z43 c_Z43 k_Z43
 have S_Z49:=Xbf (st:=Xqc) X G a_Z49 l_Z49 c_Z49 k_Z49
 have S_Z31:=Xbf (st:=Xpn) X G a_Z31 l_Z31 c_Z31 k_Z31
 have S_Z35:=Xbf (st:=Xpj) X G a_Z35 l_Z35 c_Z35 k_Z35
 have S_Z45:=Xbf (st:=Xrm) X G a_Z45 l_Z45 c_Z45 k_Z45
 subst eb_Broken en_Broken eo_Broken
 have XI_Broken:XIni K mg "Broken" Y4 Y0 f_Broken_init:=⟨PySem.W.mg_of X G cc_Broken,⟨_,_,_,_,_,_,_,_,_,_,_,_,_,_,_,lc_Broken⟩,xx_StowError,e2_,kp_Broken,⟨_,_,_,_,l_Broken_init,rfl⟩⟩
 refine⟨PySem.W.fnOf "law" "law" (Xbh Xli) (Xay Xli) (Xad Xli) .none kV_law dc_law pm_law an_law cd_law ct_law,fun s v=>.of_eq rfl,fun base _ _=>?_⟩
 have D_Z33:=XMr (P:=l.prog) (w:=w) (base:=base) S_Z33 T 
 have D_Z34:=XNd (P:=l.prog) (w:=w) (base:=base) S_Z34 T 
 have D_Z37:=XMi (P:=l.prog) (w:=w) (base:=base) S_Z37 T 
 have D_Z23:=XNr (P:=l.prog) (w:=w) (base:=base) S_Z23 T D_Z34 D_Z37
 have D_Z8:=d_Z8 (P:=l.prog) (w:=w) (base:=base) S_Z8 T D_Z34 D_Z23
 have D_Broken:=Xvj (P:=l.prog) (w:=w) (base:=base) (Xcw l_Broken_init c_Broken_init k_Broken_init) XI_Broken T.s_Broken
 have D_Z46:=XMy (P:=l.prog) (w:=w) (base:=base) S_Z46 T D_Z34 D_Z37 D_Z8 D_Broken
 have D_Z17:=XMh (P:=l.prog) (w:=w) (base:=base) S_Z17 T D_Z33
 have D_Z51:=XLw (P:=l.prog) (w:=w) (base:=base) S_Z51 T D_Z33
 have D_Z28:=XNe (P:=l.prog) (w:=w) (base:=base) S_Z28 T D_Z46
 have D_Z38:=XMm (P:=l.prog) (w:=w) (base:=base) S_Z38 T D_Z28
 have D_Z36:=XOb (P:=l.prog) (w:=w) (base:=base) (Xcw l_Keeper_init c_Keeper_init k_Keeper_init) ⟨bs_Keeper,br_Keeper,e1_,k_Keeper_init⟩ T D_Z17
 have D_Z15:=XLn (P:=l.prog) (w:=w) (base:=base) (Xcw l_Z2 c_Z2 k_Z2) ⟨a_Z2,if_Z2,k_Z2⟩ T 
 have D_lay:=XLt (P:=l.prog) (w:=w) (base:=base) (Xcw l_Z18 c_Z18 k_Z18) ⟨a_Z18,if_Z18,k_Z18⟩ T D_Z46 D_Z15
 have D_Z42:=XOt (P:=l.prog) (w:=w) (base:=base) (Xcw l_Z5 c_Z5 k_Z5) ⟨a_Z5,if_Z5,k_Z5⟩ T D_Z46
 have D_Z47:=XMu (P:=l.prog) (w:=w) (base:=base) (Xcw l_Z9 c_Z9 k_Z9) ⟨a_Z9,if_Z9,k_Z9⟩ T 
 have D_Z53:=XOm (P:=l.prog) (w:=w) (base:=base) (Xcw l_Z11 c_Z11 k_Z11) ⟨a_Z11,if_Z11,k_Z11⟩ T D_Z38
 have D_Z39:=XNu (P:=l.prog) (w:=w) (base:=base) S_Z39 T 
 have D_Z24:=XNf (P:=l.prog) (w:=w) (base:=base) S_Z24 T 
 have D_Z3:=d_Z3 (P:=l.prog) (w:=w) (base:=base) S_Z3 T D_Z24
 have D_Z22:=XOd (P:=l.prog) (w:=w) (base:=base) S_Z22 T D_Z17
 have D_Z27:=XNa (P:=l.prog) (w:=w) (base:=base) S_Z27 T 
 have D_Z16:=XNz (P:=l.prog) (w:=w) (base:=base) S_Z16 T D_Z46
 have D_Z21:=XMk (P:=l.prog) (w:=w) (base:=base) S_Z21 T D_Z46 D_Z27 D_Z34
 have D_Z40:=XNp (P:=l.prog) (w:=w) (base:=base) S_Z40 T D_Z51
 have D_Z26:=XMb (P:=l.prog) (w:=w) (base:=base) S_Z26 T D_Z21 D_Z16 D_Z40
 have D_Z29:=XOe (P:=l.prog) (w:=w) (base:=base) S_Z29 T D_Z46 D_Z27
 have D_Shelves:=Xqz (P:=l.prog) (w:=w) (base:=base) (Xcw l_Shelves_init c_Shelves_init k_Shelves_init) ⟨mk_Shelves,e0_,if_Shelves_init,kp_Shelves⟩ T D_Z22 D_Z36 D_lay
 have D_Z48:=XOa (P:=l.prog) (w:=w) (base:=base) (Xcw l_Z4 c_Z4 k_Z4) ⟨a_Z4,if_Z4,k_Z4⟩ T D_Z22 D_Z47 D_lay
 have D_ask:=XOh (P:=l.prog) (w:=w) (base:=base) (Xpm l_Z12 c_Z12 k_Z12) ld_Z12 ⟨a_Z12,if_Z12,k_Z12⟩ T D_Z3 D_Z47 D_Z26 D_Z21 D_Z51 D_lay
 have D_Z52:=XMv (P:=l.prog) (w:=w) (base:=base) (Xcw l_Z6 c_Z6 k_Z6) ⟨a_Z6,if_Z6,k_Z6⟩ T D_Z51 D_Z47 D_Z53 D_Z27 D_Z29 D_lay
 have D_Z20:=XLm (P:=l.prog) (w:=w) (base:=base) (Xcw l_Z1 c_Z1 k_Z1) ⟨a_Z1,if_Z1,k_Z1⟩ T D_ask D_Z39 D_Z53 D_Z52
 have D_Z50:=XNg (P:=l.prog) (w:=w) (base:=base) (Xpm l_Z13 c_Z13 k_Z13) ld_Z13 ⟨a_Z13,if_Z13,k_Z13⟩ T D_Z53 D_Z3 D_Z20
 have D_Z10:=XNb (P:=l.prog) (w:=w) (base:=base) (Xcw l_Z0 c_Z0 k_Z0) ⟨a_Z0,if_Z0,k_Z0⟩ T D_Z53
 have D_put:=XNn (P:=l.prog) (w:=w) (base:=base) (Xcw l_Z14 c_Z14 k_Z14) ⟨a_Z14,if_Z14,k_Z14⟩ T D_Z10
 have D_get:=XMc (P:=l.prog) (w:=w) (base:=base) (Xcw l_Z19 c_Z19 k_Z19) ⟨a_Z19,if_Z19,k_Z19⟩ T D_Z10
 have D_Z25:=XNq (P:=l.prog) (w:=w) (base:=base) S_Z25 T 
 have D_Z32:=XMl (P:=l.prog) (w:=w) (base:=base) S_Z32 T 
 have D_Z41:=XOn (P:=l.prog) (w:=w) (base:=base) S_Z41 T D_Z32
 have D_Z30:=XMo (P:=l.prog) (w:=w) (base:=base) S_Z30 T 
 have D_Z7:=d_Z7 (P:=l.prog) (w:=w) (base:=base) S_Z7 T 
 have D_Z44:=XOs (P:=l.prog) (w:=w) (base:=base) S_Z44 T D_Z47 D_Z41 D_Z7 D_Z32
 have D_Z43:=XMw (P:=l.prog) (w:=w) (base:=base) S_Z43 T D_Z53 D_get D_Z32
 have D_Z49:=XOo (P:=l.prog) (w:=w) (base:=base) S_Z49 T 
 have D_Z31:=XNk (P:=l.prog) (w:=w) (base:=base) S_Z31 T D_Z47 D_ask D_Z32
 have D_Z35:=XOi (P:=l.prog) (w:=w) (base:=base) S_Z35 T D_Z47 D_Z50 D_Z32
 have D_Z45:=XLv (P:=l.prog) (w:=w) (base:=base) S_Z45 T D_Z49 D_Z31 D_Z30 D_put D_Z52 D_Z35 D_Z48
 exact XDp (Xcw l_law c_law k_law) T D_Z25 D_Shelves D_Z44 D_Z45 D_Z43
theorem walk {l:PySem.W.OpenLaw}{q:Program}{loose:List Str}{XP:(Str→Option Value)→Heap→Prop}{YP:World→Heap→Prop}{d:DefRec}{K:Params→PySem.W.Frag}(hn:l.most=some 63)(hdf:d.params.defaults=[])
   (hY:∀(w:World) (h:Heap),YP w h→(K w.params).In h)
   (F:∀(w:World) (mg:Str→Option Value) (fa:Addr) (h:Heap),(K w.params).In h→h.Ns mainGlobals mg→mg d.name=some (.ref fa) →
     ∃fd:FuncData,(∀(s:Shared) (u:Value),BindsTo s fd ⟨[u],[]⟩ [("_law_script",u)])∧∀base:Heap,(K w.params).In base→base.Ns mainGlobals mg→FnOk l.prog w (K w.params) mg base (CXe l.prog w) 13 fa fd ["_law_script"] (Xty (K w.params))) :
   PySem.W.WalkO q loose XP YP l.row.toRowW d [] (fun f vs=>PySem.call f vs) :=
 L2.walk_of (n:=63) (k:=13) (x:="_law_script") (CX:=fun w=>(CXe l.prog w)) (sp:=fun w=>Xty (K w.params)) hn (by decide) hdf ⟨rfl,by decide,by decide⟩ hY F (fun _ _ a ns hl _ hS=>⟨a,ns,rfl,hS,hl,fun _=>rfl⟩) (fun _ _ _ _ _ ⟨_,_,_,_,_,_,_,_,_,_,_,_,_,_,_,z⟩=>z)
end Stow
open PySem PySem.W PyProof.Rows
set_option maxRecDepth 100000 in
set_option maxHeartbeats 0 in
theorem PySem.Challenge.cw_stow_k35_whole_shelves_holds : PySem.Challenge.rw_stow_k35_whole_shelves.Holds := by
 w_on;o_law
 refine holds_open (XP:=fun _ _=>True) (YP:=InK Stow.heap0) Stow.left0 ?y (InK.keeps (K:=Stow.heap0)) (fun _ _=>trivial) (fun _ _ _ h _=>h) rfl rfl rfl (fun _ e=>recFacts_of e) rfl
   (by assumption) (by decide +kernel) ⟨rfl,rfl,rfl,rfl,rfl,by decide +kernel⟩ ?hw ?hc
 case y=>exact InK.of Stow.at0_eq
 case hw=>w_witness2
 k_fill
 refine Stow.walk (l:=PySem.Challenge.rw_stow_k35_whole_shelves) rfl rfl (fun w h Y=>Y) ?F
 case F =>
   intro w mg fa h KX G hmg
   apply Stow.all_mk KX G hmg
   (case a_Z24=>k_is)
   (case l_Z24=>unfold Stow.LkF;k_is)
   (case c_Z24=>k_is)
   (case k_Z24=>k_is)
   (case a_Z3=>k_is)
   (case l_Z3=>unfold Stow.LkF;k_is)
   (case c_Z3=>k_is)
   (case k_Z3=>k_is)
   (case a_Z33=>k_is)
   (case l_Z33=>unfold Stow.LkF;k_is)
   (case c_Z33=>k_is)
   (case k_Z33=>k_is)
   (case a_Z34=>k_is)
   (case l_Z34=>unfold Stow.LkF;k_is)
   (case c_Z34=>k_is)
   (case k_Z34=>k_is)
   (case a_Z37=>k_is)
   (case l_Z37=>unfold Stow.LkF;k_is)
   (case c_Z37=>k_is)
   (case k_Z37=>k_is)
   (case a_Z23=>k_is)
   (case l_Z23=>unfold Stow.LkF;k_is)
   (case c_Z23=>k_is)
   (case k_Z23=>k_is)
   (case a_Z8=>k_is)
   (case l_Z8=>unfold Stow.LkF;k_is)
   (case c_Z8=>k_is)
   (case k_Z8=>k_is)
   (case a_Z46=>k_is)
   (case l_Z46=>unfold Stow.LkF;k_is)
   (case c_Z46=>k_is)
   (case k_Z46=>k_is)
   (case a_Z17=>k_is)
   (case l_Z17=>unfold Stow.LkF;k_is)
   (case c_Z17=>k_is)
   (case k_Z17=>k_is)
   (case a_Z51=>k_is)
   (case l_Z51=>unfold Stow.LkF;k_is)
   (case c_Z51=>k_is)
   (case k_Z51=>k_is)
   (case a_Z28=>k_is)
   (case l_Z28=>unfold Stow.LkF;k_is)
   (case c_Z28=>k_is)
   (case k_Z28=>k_is)
   (case a_Z38=>k_is)
   (case l_Z38=>unfold Stow.LkF;k_is)
   (case c_Z38=>k_is)
   (case k_Z38=>k_is)
   (case a_Z39=>k_is)
   (case l_Z39=>unfold Stow.LkF;k_is)
   (case c_Z39=>k_is)
   (case k_Z39=>k_is)
   (case a_Z22=>k_is)
   (case l_Z22=>unfold Stow.LkF;k_is)
   (case c_Z22=>k_is)
   (case k_Z22=>k_is)
   (case a_Z27=>k_is)
   (case l_Z27=>unfold Stow.LkF;k_is)
   (case c_Z27=>k_is)
   (case k_Z27=>k_is)
   (case a_Z16=>k_is)
   (case l_Z16=>unfold Stow.LkF;k_is)
   (case c_Z16=>k_is)
   (case k_Z16=>k_is)
   (case a_Z21=>k_is)
   (case l_Z21=>unfold Stow.LkF;k_is)
   (case c_Z21=>k_is)
   (case k_Z21=>k_is)
   (case a_Z40=>k_is)
   (case l_Z40=>unfold Stow.LkF;k_is)
   (case c_Z40=>k_is)
   (case k_Z40=>k_is)
   (case a_Z26=>k_is)
   (case l_Z26=>unfold Stow.LkF;k_is)
   (case c_Z26=>k_is)
   (case k_Z26=>k_is)
   (case a_Z29=>k_is)
   (case l_Z29=>unfold Stow.LkF;k_is)
   (case c_Z29=>k_is)
   (case k_Z29=>k_is)
   (case a_Z25=>k_is)
   (case l_Z25=>unfold Stow.LkF;k_is)
   (case c_Z25=>k_is)
   (case k_Z25=>k_is)
   (case a_Z32=>k_is)
   (case l_Z32=>unfold Stow.LkF;k_is)
   (case c_Z32=>k_is)
   (case k_Z32=>k_is)
   (case a_Z41=>k_is)
   (case l_Z41=>unfold Stow.LkF;k_is)
   (case c_Z41=>k_is)
   (case k_Z41=>k_is)
   (case a_Z30=>k_is)
   (case l_Z30=>unfold Stow.LkF;k_is)
   (case c_Z30=>k_is)
   (case k_Z30=>k_is)
   (case a_Z7=>k_is)
   (case l_Z7=>unfold Stow.LkF;k_is)
   (case c_Z7=>k_is)
   (case k_Z7=>k_is)
   (case a_Z44=>k_is)
   (case l_Z44=>unfold Stow.LkF;k_is)
   (case c_Z44=>k_is)
   (case k_Z44=>k_is)
   (case a_Z43=>k_is)
   (case l_Z43=>unfold Stow.LkF;k_is)
   (case c_Z43=>k_is)
   (case k_Z43=>k_is)
   (case a_Z49=>k_is)
   (case l_Z49=>unfold Stow.LkF;k_is)
   (case c_Z49=>k_is)
   (case k_Z49=>k_is)
   (case a_Z31=>k_is)
   (case l_Z31=>unfold Stow.LkF;k_is)
   (case c_Z31=>k_is)
   (case k_Z31=>k_is)
   (case a_Z35=>k_is)
   (case l_Z35=>unfold Stow.LkF;k_is)
   (case c_Z35=>k_is)
   (case k_Z35=>k_is)
   (case a_Z45=>k_is)
   (case l_Z45=>unfold Stow.LkF;k_is)
   (case c_Z45=>k_is)
   (case k_Z45=>k_is)
   (case a_law=>k_is)
   (case l_law=>unfold Stow.LkF;k_is)
   (case c_law=>k_is)
   (case k_law=>k_is)
   (case z_any=>k_is)
   (case z_bool=>k_is)
   (case z_dict=>k_is)
   (case z_int=>k_is)
   (case z_isinstance=>k_is)
   (case z_len=>k_is)
   (case z_list=>k_is)
   (case z_min=>k_is)
   (case z_range=>k_is)
   (case z_sorted=>k_is)
   (case z_tuple=>k_is)
   (case g_LEAST_LIVE=>k_is)
   (case g_MARKS=>k_is)
   (case cc_StowError=>k_is)
   (case cc_NoSize=>k_is)
   (case cc_Broken=>k_is)
   (case cc_NoPiece=>k_is)
   (case cc_NoCell=>k_is)
   (case cc_NoAsk=>k_is)
   (case cc_NoBound=>k_is)
   (case cc_NoRoom=>k_is)
   (case cc_Keeper=>k_is)
   (case cc_Shelves=>k_is)
   (case s1_Broken=>k_is)
   (case s2_Broken=>k_is)
   (case s5_Broken=>decide +kernel)
   (case s6_Broken=>rfl)
   (case s3_Broken=>k_is)
   (case s4_Broken=>k_is)
   (case xx_NoSize=>k_exc)
   (case xx_NoPiece=>k_exc)
   (case xx_NoRoom=>k_exc)
   (case pg_Shelves=>k_is)
   (case hd_Shelves=>k_is)
   (case po_Shelves=>k_is)
   (case sa_Shelves=>k_is)
   (case na_Shelves_room_cells=>k_is)
   (case na_Shelves_shelf=>k_is)
   (case lc_NoRoom=>k_is)
   (case fb_NoRoom=>decide +kernel)
   (case fm_NoRoom_NoRoom=>decide +kernel)
   (case lc_Broken=>k_is)
   (case xx_StowError=>k_exc)
   (case kp_Broken=>k_is)
   (case e2_=>k_is)
   (case l_Broken_init=>unfold Stow.LkF;k_is)
   (case c_Broken_init=>k_is)
   (case k_Broken_init=>k_is)
   (case eb_Broken=>rfl)
   (case en_Broken=>rfl)
   (case eo_Broken=>rfl)
   (case e1_=>k_is)
   (case l_Keeper_init=>unfold Stow.LkF;k_is)
   (case c_Keeper_init=>k_is)
   (case k_Keeper_init=>k_is)
   (case bs_Keeper=>k_is)
   (case br_Keeper=>k_is)
   (case a_Z2=>k_is)
   (case l_Z2=>unfold Stow.LkF;k_is)
   (case c_Z2=>k_is)
   (case k_Z2=>k_is)
   (case if_Z2=>k_is)
   (case a_Z18=>k_is)
   (case l_Z18=>unfold Stow.LkF;k_is)
   (case c_Z18=>k_is)
   (case k_Z18=>k_is)
   (case if_Z18=>k_is)
   (case a_Z5=>k_is)
   (case l_Z5=>unfold Stow.LkF;k_is)
   (case c_Z5=>k_is)
   (case k_Z5=>k_is)
   (case if_Z5=>k_is)
   (case a_Z9=>k_is)
   (case l_Z9=>unfold Stow.LkF;k_is)
   (case c_Z9=>k_is)
   (case k_Z9=>k_is)
   (case if_Z9=>k_is)
   (case a_Z11=>k_is)
   (case l_Z11=>unfold Stow.LkF;k_is)
   (case c_Z11=>k_is)
   (case k_Z11=>k_is)
   (case if_Z11=>k_is)
   (case e0_=>k_is)
   (case l_Shelves_init=>unfold Stow.LkF;k_is)
   (case c_Shelves_init=>k_is)
   (case k_Shelves_init=>k_is)
   (case if_Shelves_init=>k_is)
   (case mk_Shelves=>k_is)
   (case kp_Shelves=>k_is)
   (case a_Z4=>k_is)
   (case l_Z4=>unfold Stow.LkF;k_is)
   (case c_Z4=>k_is)
   (case k_Z4=>k_is)
   (case if_Z4=>k_is)
   (case a_Z12=>k_is)
   (case l_Z12=>unfold Stow.LkF;k_is)
   (case ld_Z12=>k_is)
   (case c_Z12=>k_is)
   (case k_Z12=>k_is)
   (case if_Z12=>k_is)
   (case a_Z6=>k_is)
   (case l_Z6=>unfold Stow.LkF;k_is)
   (case c_Z6=>k_is)
   (case k_Z6=>k_is)
   (case if_Z6=>k_is)
   (case a_Z1=>k_is)
   (case l_Z1=>unfold Stow.LkF;k_is)
   (case c_Z1=>k_is)
   (case k_Z1=>k_is)
   (case if_Z1=>k_is)
   (case a_Z13=>k_is)
   (case l_Z13=>unfold Stow.LkF;k_is)
   (case ld_Z13=>k_is)
   (case c_Z13=>k_is)
   (case k_Z13=>k_is)
   (case if_Z13=>k_is)
   (case a_Z0=>k_is)
   (case l_Z0=>unfold Stow.LkF;k_is)
   (case c_Z0=>k_is)
   (case k_Z0=>k_is)
   (case if_Z0=>k_is)
   (case a_Z14=>k_is)
   (case l_Z14=>unfold Stow.LkF;k_is)
   (case c_Z14=>k_is)
   (case k_Z14=>k_is)
   (case if_Z14=>k_is)
   (case a_Z19=>k_is)
   (case l_Z19=>unfold Stow.LkF;k_is)
   (case c_Z19=>k_is)
   (case k_Z19=>k_is)
   (case if_Z19=>k_is)
