import PyProof.Rows.All
import Wide.All
import OpenK.AllK
import Wide.FinOn
import Lean
import PyProof.EqAt
import PyProof.EqKinds
import PyProof.TupleCall
import PyProof.NeKinds
import PyProof.StationsW
import PyProof.RulesAs
import PyProof.ExcClass3
import PyProof.ExcInit
import PyProof.ExcArgsOwn
import PyProof.IsiH_set
import PyProof.NsDelKeeps
import PyProof.CompFree
import PySem.Challenge.RW_stow_k21_refused
set_option Elab.async false
set_option linter.all false
set_option maxRecDepth 100000
set_option maxHeartbeats 4000000
namespace L2
open PySem PySem.Spec PyProof.Rows
def Xag (s : Stmt) (j : Nat) : Stmt := match s with
 | .ClassDef _ _ _ body _ _ _ _ _ _ _ => body.getD j (.Pass ⟨0, 0, 0, 0⟩)
 | _ => .Pass ⟨0, 0, 0, 0⟩
def Xbp (s : Stmt) : Arguments := match s with
 | .FunctionDef _ a _ _ _ _ _ _ _ _ => a
 | _ => { posonlyargs := [], args := [], vararg := none, kwonlyargs := [], kw_defaults := [], kwarg := none, defaults := [] }
def Xaz (s : Stmt) : List Stmt := match s with
 | .FunctionDef _ _ b _ _ _ _ _ _ _ => b
 | _ => []
def Xae (s : Stmt) : Scope := match s with
 | .FunctionDef _ _ _ _ _ _ sc _ _ _ => sc
 | _ => { kind := .function, names := [], isGenerator := false, isCoroutine := false }
end L2
namespace Stow
open PySem L2 PyProof.Rows
def top (i : Nat) : Stmt := PySem.Challenge.pw_stow_k21_refused.main.body.getD i (.Pass ⟨0, 0, 0, 0⟩)
def en (P : Params) (s : Str) (t : Tok) (v : Value) : DictEntry := ⟨PyData.keyHash P s, .str s t, v⟩
def fo (nm qn : Str) (st : Stmt) (dV kV dc pm : Value) (an : Option Addr) (cd ct : Value) (od : Option Addr) : Obj := ⟨.type "function", od, .func (PySem.W.fnOf nm qn (Xbp st) (Xaz st) (Xae st) dV kV dc pm an cd ct), #[]⟩
def fq (nm qn : Str) (st : Stmt) : Obj := ⟨.none, none, .func { name := nm, qualname := qn, params := Xbp st, body := .stmts (Xaz st), scope := Xae st, globals := 0, closure := [], defaults := .none, kwdefaults := .none }, #[]⟩
def tu (l : List Value) : Obj := ⟨(.type "tuple"), none, .seq l.toArray 0, #[]⟩
def fl (l : List Value) : Obj := ⟨.none, none, .fields l.toArray, #[]⟩
def co (l : List Value) : Obj := ⟨(.type "code"), none, .fields l.toArray, #[]⟩
abbrev vI (n : Int) : Value := .int n 0
abbrev vR (n : Addr) : Value := .ref n
abbrev cp (a b : Str) (t : Tok) (l : List Value) : Obj := co ((.str a t) :: (.str b (t + 1)) :: (.str "/claim/cut.py" (t + 2)) :: l)
def ho0 : Obj := ⟨(.type "tuple"), none, .seq #[] 0, #[]⟩
def ho1 : Obj := ⟨.none, none, .fields #[], #[]⟩
def ho2 : Obj := cp "<module>" "<module>" 182 (vI 1 :: vI 0 :: vI 0 :: vI 0 :: vI 0 :: vR 11 :: (.bool false) :: vI 181 :: vR 12 :: .none :: .none :: .none :: .none :: vI 185 :: vI 1 :: (.str "/claim/cut.py" 186) :: [])
def ho3 : Obj := ⟨(.type "frame"), none, .plain, ((some (.ref 13)) :: (some (.ref 3)) :: (some (.ref 3)) :: none :: (some (.str "__main__" 164)) :: none :: (some (.ref 0)) :: []).toArray⟩
def ho4 (P : Params) : Obj := ⟨(.type "dict"), none, .dict (en P "__name__" 165 (.str "stow.errors" 194) :: en P "__doc__" 166 .none :: en P "__package__" 167 .none :: en P "__loader__" 168 (.builtin "__main__.__loader__#opaque") :: en P "__spec__" 169 .none :: en P "__annotations__" 170 (.ref 6) :: en P "__builtins__" 171 (.ref 4) :: en P "__file__" 173 (.str "/claim/cut.py" 172) :: en P "__cached__" 174 .none :: en P "_wall" 193 (.ref 21) :: en P "StowError" 213 (.ref 31) :: en P "NoName" 229 (.ref 44) :: en P "NoSize" 245 (.ref 56) :: en P "Broken" 270 (.ref 75) :: en P "NoPiece" 286 (.ref 87) :: en P "NoCell" 302 (.ref 99) :: en P "NoAsk" 318 (.ref 111) :: en P "NoBound" 334 (.ref 123) :: []).toArray 18, #[]⟩
def ho5 : Obj := fl (vI 1 :: vI 0 :: vR 20 :: vI 5 :: vI 0 :: vR 27 :: vI 7 :: vI 0 :: vR 40 :: vI 9 :: vI 0 :: vR 52 :: vI 11 :: vI 0 :: vR 64 :: vI 15 :: vI 0 :: vR 83 :: vI 17 :: vI 0 :: vR 95 :: vI 19 :: vI 0 :: vR 107 :: vI 21 :: vI 0 :: vR 119 :: [])
def ho8 : Obj := tu ((.str "k" 190) :: [])
def ho10 : Obj := fq "_wall" "_wall" (top 0)
def ho11 : Obj := cp "_wall" "_wall" 187 (vI 1 :: vI 1 :: vI 0 :: vI 0 :: vI 3 :: vR 15 :: (.bool true) :: vI 181 :: vR 16 :: .none :: vR 17 :: vR 18 :: vR 19 :: vI 191 :: vI 1 :: (.str "/claim/cut.py" 192) :: [])
def ho12 : Obj := fo "_wall" "_wall" (top 0) .none .none .none (.str "__main__" 164) none (.ref 20) .none none
def ho13 : Obj := tu ((.type "ValueError") :: [])
def ho14 : Obj := ⟨(.type "builtin_function_or_method"), none, .fields ((.builtin "type.__prepare__") :: (.type "type") :: []).toArray, #[]⟩
def ho15 (P : Params) : Obj := ⟨(.type "dict"), none, .dict (en P "__module__" 203 (.str "stow.errors" 194) :: en P "__qualname__" 205 (.str "StowError" 204) :: en P "__firstlineno__" 207 (.int 5 206) :: en P "__static_attributes__" 208 (.ref 29) :: []).toArray 4, #[]⟩
def ho18 : Obj := cp "StowError" "StowError" 198 (vI 5 :: vI 0 :: vI 0 :: vI 0 :: vI 0 :: vR 25 :: (.bool false) :: vI 181 :: vR 26 :: .none :: .none :: .none :: .none :: vI 201 :: vI 5 :: (.str "/claim/cut.py" 202) :: [])
def ho19 : Obj := ⟨(.type "frame"), none, .plain, ((some (.ref 27)) :: (some (.ref 3)) :: (some (.ref 24)) :: none :: (some (.str "stow.errors" 194)) :: none :: (some (.ref 0)) :: []).toArray⟩
def ho21 (P : Params) : Obj := ⟨(.type "dict"), none, .dict (en P "__module__" 203 (.str "stow.errors" 194) :: en P "__firstlineno__" 207 (.int 5 206) :: en P "__static_attributes__" 208 (.ref 29) :: en P "__weakref__" 210 (.ref 32) :: en P "__doc__" 211 .none :: []).toArray 3, #[]⟩
def ho22 : Obj := ⟨(.type "type"), none, .cls ⟨"StowError", [(.type "ValueError")], [(.ref 31), (.type "ValueError"), (.type "Exception"), (.type "BaseException"), (.type "object")], 30, "StowError", true, [], [(.ref 44), (.ref 56), (.ref 75), (.ref 87), (.ref 99), (.ref 111), (.ref 123)], false, none, false⟩, ((some (.ref 22)) :: none :: (some (.str "StowError" 196)) :: (some (.str "StowError" 204)) :: (some (.builtin "ValueError.__new__")) :: (some (.bool true)) :: []).toArray⟩
def ho23 : Obj := ⟨(.type "getset_descriptor"), none, .fields ((.str "__weakref__" 209) :: (.ref 31) :: (.builtin "ExceptionGroup.__weakref__") :: .none :: []).toArray, #[]⟩
def ho24 : Obj := ⟨(.type "super"), none, .fields ((.ref 31) :: (.ref 31) :: (.ref 31) :: []).toArray, #[]⟩
def ho25 : Obj := ⟨(.type "builtin_function_or_method"), none, .fields ((.builtin "object.__init_subclass__") :: (.ref 31) :: []).toArray, #[]⟩
def ho26 : Obj := tu (vR 31 :: [])
def ho28 (P : Params) : Obj := ⟨(.type "dict"), none, .dict (en P "__module__" 221 (.str "stow.errors" 194) :: en P "__qualname__" 223 (.str "NoName" 222) :: en P "__firstlineno__" 225 (.int 7 224) :: en P "__static_attributes__" 226 (.ref 42) :: []).toArray 4, #[]⟩
def ho31 : Obj := cp "NoName" "NoName" 216 (vI 7 :: vI 0 :: vI 0 :: vI 0 :: vI 0 :: vR 38 :: (.bool false) :: vI 181 :: vR 39 :: .none :: .none :: .none :: .none :: vI 219 :: vI 7 :: (.str "/claim/cut.py" 220) :: [])
def ho32 : Obj := ⟨(.type "frame"), none, .plain, ((some (.ref 40)) :: (some (.ref 3)) :: (some (.ref 37)) :: none :: (some (.str "stow.errors" 194)) :: none :: (some (.ref 0)) :: []).toArray⟩
def ho34 (P : Params) : Obj := ⟨(.type "dict"), none, .dict (en P "__module__" 221 (.str "stow.errors" 194) :: en P "__firstlineno__" 225 (.int 7 224) :: en P "__static_attributes__" 226 (.ref 42) :: en P "__doc__" 227 .none :: []).toArray 2, #[]⟩
def ho35 : Obj := ⟨(.type "type"), none, .cls ⟨"NoName", [(.ref 31)], [(.ref 44), (.ref 31), (.type "ValueError"), (.type "Exception"), (.type "BaseException"), (.type "object")], 43, "NoName", true, [], [], false, none, false⟩, ((some (.ref 35)) :: none :: (some (.str "NoName" 214)) :: (some (.str "NoName" 222)) :: (some (.builtin "ValueError.__new__")) :: (some (.bool true)) :: []).toArray⟩
def ho36 : Obj := ⟨(.type "super"), none, .fields ((.ref 44) :: (.ref 44) :: (.ref 44) :: []).toArray, #[]⟩
def ho37 : Obj := ⟨(.type "builtin_function_or_method"), none, .fields ((.builtin "object.__init_subclass__") :: (.ref 44) :: []).toArray, #[]⟩
def ho40 (P : Params) : Obj := ⟨(.type "dict"), none, .dict (en P "__module__" 237 (.str "stow.errors" 194) :: en P "__qualname__" 239 (.str "NoSize" 238) :: en P "__firstlineno__" 241 (.int 9 240) :: en P "__static_attributes__" 242 (.ref 54) :: []).toArray 4, #[]⟩
def ho43 : Obj := cp "NoSize" "NoSize" 232 (vI 9 :: vI 0 :: vI 0 :: vI 0 :: vI 0 :: vR 50 :: (.bool false) :: vI 181 :: vR 51 :: .none :: .none :: .none :: .none :: vI 235 :: vI 9 :: (.str "/claim/cut.py" 236) :: [])
def ho44 : Obj := ⟨(.type "frame"), none, .plain, ((some (.ref 52)) :: (some (.ref 3)) :: (some (.ref 49)) :: none :: (some (.str "stow.errors" 194)) :: none :: (some (.ref 0)) :: []).toArray⟩
def ho46 (P : Params) : Obj := ⟨(.type "dict"), none, .dict (en P "__module__" 237 (.str "stow.errors" 194) :: en P "__firstlineno__" 241 (.int 9 240) :: en P "__static_attributes__" 242 (.ref 54) :: en P "__doc__" 243 .none :: []).toArray 2, #[]⟩
def ho47 : Obj := ⟨(.type "type"), none, .cls ⟨"NoSize", [(.ref 31)], [(.ref 56), (.ref 31), (.type "ValueError"), (.type "Exception"), (.type "BaseException"), (.type "object")], 55, "NoSize", true, [], [], false, none, false⟩, ((some (.ref 47)) :: none :: (some (.str "NoSize" 230)) :: (some (.str "NoSize" 238)) :: (some (.builtin "ValueError.__new__")) :: (some (.bool true)) :: []).toArray⟩
def ho48 : Obj := ⟨(.type "super"), none, .fields ((.ref 56) :: (.ref 56) :: (.ref 56) :: []).toArray, #[]⟩
def ho49 : Obj := ⟨(.type "builtin_function_or_method"), none, .fields ((.builtin "object.__init_subclass__") :: (.ref 56) :: []).toArray, #[]⟩
def ho52 (P : Params) : Obj := ⟨(.type "dict"), none, .dict (en P "__module__" 253 (.str "stow.errors" 194) :: en P "__qualname__" 255 (.str "Broken" 254) :: en P "__firstlineno__" 257 (.int 11 256) :: en P "__init__" 265 (.ref 72) :: en P "__static_attributes__" 267 (.ref 73) :: []).toArray 5, #[]⟩
def ho54 : Obj := fl (vI 13 :: vI 4 :: vR 71 :: [])
def ho55 : Obj := cp "Broken" "Broken" 248 (vI 11 :: vI 0 :: vI 0 :: vI 0 :: vI 0 :: vR 62 :: (.bool false) :: vI 181 :: vR 63 :: .none :: .none :: .none :: .none :: vI 251 :: vI 11 :: (.str "/claim/cut.py" 252) :: [])
def ho56 : Obj := ⟨(.type "frame"), none, .plain, ((some (.ref 64)) :: (some (.ref 3)) :: (some (.ref 61)) :: none :: (some (.str "stow.errors" 194)) :: none :: (some (.ref 0)) :: []).toArray⟩
def ho59 : Obj := tu ((.str "self" 261) :: (.str "cell" 262) :: [])
def ho61 : Obj := fq "__init__" "Broken.__init__" (Xag (top 5) 0)
def ho62 : Obj := cp "__init__" "Broken.__init__" 258 (vI 13 :: vI 2 :: vI 0 :: vI 0 :: vI 3 :: vR 66 :: (.bool true) :: vI 181 :: vR 67 :: .none :: vR 68 :: vR 69 :: vR 70 :: vI 263 :: vI 13 :: (.str "/claim/cut.py" 264) :: [])
def ho63 : Obj := fo "__init__" "Broken.__init__" (Xag (top 5) 0) .none .none .none (.str "stow.errors" 194) none (.ref 71) .none none
def ho64 : Obj := tu ((.str "cell" 266) :: [])
def ho65 (P : Params) : Obj := ⟨(.type "dict"), none, .dict (en P "__module__" 253 (.str "stow.errors" 194) :: en P "__firstlineno__" 257 (.int 11 256) :: en P "__init__" 265 (.ref 72) :: en P "__static_attributes__" 267 (.ref 73) :: en P "__doc__" 268 .none :: []).toArray 2, #[]⟩
def ho66 : Obj := ⟨(.type "type"), none, .cls ⟨"Broken", [(.ref 31)], [(.ref 75), (.ref 31), (.type "ValueError"), (.type "Exception"), (.type "BaseException"), (.type "object")], 74, "Broken", true, [], [], false, none, false⟩, ((some (.ref 59)) :: none :: (some (.str "Broken" 246)) :: (some (.str "Broken" 254)) :: (some (.builtin "ValueError.__new__")) :: (some (.bool true)) :: []).toArray⟩
def ho67 : Obj := ⟨(.type "super"), none, .fields ((.ref 75) :: (.ref 75) :: (.ref 75) :: []).toArray, #[]⟩
def ho68 : Obj := ⟨(.type "builtin_function_or_method"), none, .fields ((.builtin "object.__init_subclass__") :: (.ref 75) :: []).toArray, #[]⟩
def ho71 (P : Params) : Obj := ⟨(.type "dict"), none, .dict (en P "__module__" 278 (.str "stow.errors" 194) :: en P "__qualname__" 280 (.str "NoPiece" 279) :: en P "__firstlineno__" 282 (.int 15 281) :: en P "__static_attributes__" 283 (.ref 85) :: []).toArray 4, #[]⟩
def ho74 : Obj := cp "NoPiece" "NoPiece" 273 (vI 15 :: vI 0 :: vI 0 :: vI 0 :: vI 0 :: vR 81 :: (.bool false) :: vI 181 :: vR 82 :: .none :: .none :: .none :: .none :: vI 276 :: vI 15 :: (.str "/claim/cut.py" 277) :: [])
def ho75 : Obj := ⟨(.type "frame"), none, .plain, ((some (.ref 83)) :: (some (.ref 3)) :: (some (.ref 80)) :: none :: (some (.str "stow.errors" 194)) :: none :: (some (.ref 0)) :: []).toArray⟩
def ho77 (P : Params) : Obj := ⟨(.type "dict"), none, .dict (en P "__module__" 278 (.str "stow.errors" 194) :: en P "__firstlineno__" 282 (.int 15 281) :: en P "__static_attributes__" 283 (.ref 85) :: en P "__doc__" 284 .none :: []).toArray 2, #[]⟩
def ho78 : Obj := ⟨(.type "type"), none, .cls ⟨"NoPiece", [(.ref 31)], [(.ref 87), (.ref 31), (.type "ValueError"), (.type "Exception"), (.type "BaseException"), (.type "object")], 86, "NoPiece", true, [], [], false, none, false⟩, ((some (.ref 78)) :: none :: (some (.str "NoPiece" 271)) :: (some (.str "NoPiece" 279)) :: (some (.builtin "ValueError.__new__")) :: (some (.bool true)) :: []).toArray⟩
def ho79 : Obj := ⟨(.type "super"), none, .fields ((.ref 87) :: (.ref 87) :: (.ref 87) :: []).toArray, #[]⟩
def ho80 : Obj := ⟨(.type "builtin_function_or_method"), none, .fields ((.builtin "object.__init_subclass__") :: (.ref 87) :: []).toArray, #[]⟩
def ho83 (P : Params) : Obj := ⟨(.type "dict"), none, .dict (en P "__module__" 294 (.str "stow.errors" 194) :: en P "__qualname__" 296 (.str "NoCell" 295) :: en P "__firstlineno__" 298 (.int 17 297) :: en P "__static_attributes__" 299 (.ref 97) :: []).toArray 4, #[]⟩
def ho86 : Obj := cp "NoCell" "NoCell" 289 (vI 17 :: vI 0 :: vI 0 :: vI 0 :: vI 0 :: vR 93 :: (.bool false) :: vI 181 :: vR 94 :: .none :: .none :: .none :: .none :: vI 292 :: vI 17 :: (.str "/claim/cut.py" 293) :: [])
def ho87 : Obj := ⟨(.type "frame"), none, .plain, ((some (.ref 95)) :: (some (.ref 3)) :: (some (.ref 92)) :: none :: (some (.str "stow.errors" 194)) :: none :: (some (.ref 0)) :: []).toArray⟩
def ho89 (P : Params) : Obj := ⟨(.type "dict"), none, .dict (en P "__module__" 294 (.str "stow.errors" 194) :: en P "__firstlineno__" 298 (.int 17 297) :: en P "__static_attributes__" 299 (.ref 97) :: en P "__doc__" 300 .none :: []).toArray 2, #[]⟩
def ho90 : Obj := ⟨(.type "type"), none, .cls ⟨"NoCell", [(.ref 31)], [(.ref 99), (.ref 31), (.type "ValueError"), (.type "Exception"), (.type "BaseException"), (.type "object")], 98, "NoCell", true, [], [], false, none, false⟩, ((some (.ref 90)) :: none :: (some (.str "NoCell" 287)) :: (some (.str "NoCell" 295)) :: (some (.builtin "ValueError.__new__")) :: (some (.bool true)) :: []).toArray⟩
def ho91 : Obj := ⟨(.type "super"), none, .fields ((.ref 99) :: (.ref 99) :: (.ref 99) :: []).toArray, #[]⟩
def ho92 : Obj := ⟨(.type "builtin_function_or_method"), none, .fields ((.builtin "object.__init_subclass__") :: (.ref 99) :: []).toArray, #[]⟩
def ho95 (P : Params) : Obj := ⟨(.type "dict"), none, .dict (en P "__module__" 310 (.str "stow.errors" 194) :: en P "__qualname__" 312 (.str "NoAsk" 311) :: en P "__firstlineno__" 314 (.int 19 313) :: en P "__static_attributes__" 315 (.ref 109) :: []).toArray 4, #[]⟩
def ho98 : Obj := cp "NoAsk" "NoAsk" 305 (vI 19 :: vI 0 :: vI 0 :: vI 0 :: vI 0 :: vR 105 :: (.bool false) :: vI 181 :: vR 106 :: .none :: .none :: .none :: .none :: vI 308 :: vI 19 :: (.str "/claim/cut.py" 309) :: [])
def ho99 : Obj := ⟨(.type "frame"), none, .plain, ((some (.ref 107)) :: (some (.ref 3)) :: (some (.ref 104)) :: none :: (some (.str "stow.errors" 194)) :: none :: (some (.ref 0)) :: []).toArray⟩
def Xsd (P : Params) : Obj := ⟨(.type "dict"), none, .dict (en P "__module__" 310 (.str "stow.errors" 194) :: en P "__firstlineno__" 314 (.int 19 313) :: en P "__static_attributes__" 315 (.ref 109) :: en P "__doc__" 316 .none :: []).toArray 2, #[]⟩
def Xpn : Obj := ⟨(.type "type"), none, .cls ⟨"NoAsk", [(.ref 31)], [(.ref 111), (.ref 31), (.type "ValueError"), (.type "Exception"), (.type "BaseException"), (.type "object")], 110, "NoAsk", true, [], [], false, none, false⟩, ((some (.ref 102)) :: none :: (some (.str "NoAsk" 303)) :: (some (.str "NoAsk" 311)) :: (some (.builtin "ValueError.__new__")) :: (some (.bool true)) :: []).toArray⟩
def Xvg : Obj := ⟨(.type "super"), none, .fields ((.ref 111) :: (.ref 111) :: (.ref 111) :: []).toArray, #[]⟩
def Xte : Obj := ⟨(.type "builtin_function_or_method"), none, .fields ((.builtin "object.__init_subclass__") :: (.ref 111) :: []).toArray, #[]⟩
def Xpv (P : Params) : Obj := ⟨(.type "dict"), none, .dict (en P "__module__" 326 (.str "stow.errors" 194) :: en P "__qualname__" 328 (.str "NoBound" 327) :: en P "__firstlineno__" 330 (.int 21 329) :: en P "__static_attributes__" 331 (.ref 121) :: []).toArray 4, #[]⟩
def Xwk : Obj := cp "NoBound" "NoBound" 321 (vI 21 :: vI 0 :: vI 0 :: vI 0 :: vI 0 :: vR 117 :: (.bool false) :: vI 181 :: vR 118 :: .none :: .none :: .none :: .none :: vI 324 :: vI 21 :: (.str "/claim/cut.py" 325) :: [])
def Xuc : Obj := ⟨(.type "frame"), none, .plain, ((some (.ref 119)) :: (some (.ref 3)) :: (some (.ref 116)) :: none :: (some (.str "stow.errors" 194)) :: none :: (some (.ref 0)) :: []).toArray⟩
def Xpu (P : Params) : Obj := ⟨(.type "dict"), none, .dict (en P "__module__" 326 (.str "stow.errors" 194) :: en P "__firstlineno__" 330 (.int 21 329) :: en P "__static_attributes__" 331 (.ref 121) :: en P "__doc__" 332 .none :: []).toArray 2, #[]⟩
def Xpa : Obj := ⟨(.type "type"), none, .cls ⟨"NoBound", [(.ref 31)], [(.ref 123), (.ref 31), (.type "ValueError"), (.type "Exception"), (.type "BaseException"), (.type "object")], 122, "NoBound", true, [], [], false, none, false⟩, ((some (.ref 114)) :: none :: (some (.str "NoBound" 319)) :: (some (.str "NoBound" 327)) :: (some (.builtin "ValueError.__new__")) :: (some (.bool true)) :: []).toArray⟩
def Xtk : Obj := ⟨(.type "super"), none, .fields ((.ref 123) :: (.ref 123) :: (.ref 123) :: []).toArray, #[]⟩
def Xwi : Obj := ⟨(.type "builtin_function_or_method"), none, .fields ((.builtin "object.__init_subclass__") :: (.ref 123) :: []).toArray, #[]⟩
def XPv (P : Params) : Obj := ⟨(.type "dict"), none, .dict (en P "__name__" 165 (.str "stow.stretches" 746) :: en P "__doc__" 166 .none :: en P "__package__" 167 .none :: en P "__loader__" 168 (.builtin "__main__.__loader__#opaque") :: en P "__spec__" 169 .none :: en P "__annotations__" 170 (.ref 6) :: en P "__builtins__" 171 (.ref 4) :: en P "__file__" 173 (.str "/claim/cut.py" 172) :: en P "__cached__" 174 .none :: en P "_wall" 193 (.ref 21) :: en P "StowError" 213 (.ref 31) :: en P "NoName" 229 (.ref 44) :: en P "NoSize" 245 (.ref 56) :: en P "Broken" 270 (.ref 75) :: en P "NoPiece" 286 (.ref 87) :: en P "NoCell" 302 (.ref 99) :: en P "NoAsk" 318 (.ref 111) :: en P "NoBound" 334 (.ref 123) :: en P "NoRoom" 350 (.ref 135) :: en P "MARKS" 354 (.int 2 353) :: en P "check_ask" 362 (.ref 144) :: en P "check_plain_ask" 370 (.ref 151) :: en P "mark_of" 380 (.ref 158) :: en P "long_of" 387 (.ref 165) :: en P "live_of" 394 (.ref 172) :: en P "LEAST_LIVE" 398 (.int 3 397) :: en P "can_begin" 407 (.ref 179) :: en P "bad_of_piece" 416 (.ref 186) :: en P "looked" 427 (.ref 193) :: en P "fresh_room" 435 (.ref 200) :: en P "laid" 448 (.ref 207) :: en P "laid_free" 457 (.ref 214) :: en P "piece_at" 466 (.ref 221) :: en P "live_at" 475 (.ref 228) :: en P "free_at" 484 (.ref 235) :: en P "begin_around" 490 (.ref 240) :: en P "free_begin" 498 (.ref 247) :: en P "free_end" 506 (.ref 254) :: en P "cut_out" 521 (.ref 261) :: en P "freed" 532 (.ref 268) :: en P "joined_pieces" 543 (.ref 275) :: en P "joined" 554 (.ref 282) :: en P "carried" 565 (.ref 289) :: en P "Keeper" 718 (.ref 399) :: en P "first_place" 733 (.ref 410) :: en P "spots_for" 745 (.ref 417) :: []).toArray 46, #[]⟩
def XQa : Obj := fl (vI 1 :: vI 0 :: vR 20 :: vI 5 :: vI 0 :: vR 27 :: vI 7 :: vI 0 :: vR 40 :: vI 9 :: vI 0 :: vR 52 :: vI 11 :: vI 0 :: vR 64 :: vI 15 :: vI 0 :: vR 83 :: vI 17 :: vI 0 :: vR 95 :: vI 19 :: vI 0 :: vR 107 :: vI 21 :: vI 0 :: vR 119 :: vI 23 :: vI 0 :: vR 131 :: vI 27 :: vI 0 :: vR 143 :: vI 30 :: vI 0 :: vR 150 :: vI 35 :: vI 0 :: vR 157 :: vI 39 :: vI 0 :: vR 164 :: vI 41 :: vI 0 :: vR 171 :: vI 45 :: vI 0 :: vR 178 :: vI 50 :: vI 0 :: vR 185 :: vI 57 :: vI 0 :: vR 192 :: vI 68 :: vI 0 :: vR 199 :: vI 76 :: vI 0 :: vR 206 :: vI 81 :: vI 0 :: vR 213 :: vI 85 :: vI 0 :: vR 220 :: vI 90 :: vI 0 :: vR 227 :: vI 95 :: vI 0 :: vR 234 :: vI 100 :: vI 0 :: vR 239 :: vI 103 :: vI 0 :: vR 246 :: vI 107 :: vI 0 :: vR 253 :: vI 111 :: vI 0 :: vR 260 :: vI 119 :: vI 0 :: vR 267 :: vI 122 :: vI 0 :: vR 274 :: vI 130 :: vI 0 :: vR 281 :: vI 135 :: vI 0 :: vR 288 :: vI 139 :: vI 0 :: vR 295 :: vI 200 :: vI 0 :: vR 409 :: vI 206 :: vI 0 :: vR 416 :: [])
def Xvm : Obj := ⟨(.type "type"), none, .cls ⟨"StowError", [(.type "ValueError")], [(.ref 31), (.type "ValueError"), (.type "Exception"), (.type "BaseException"), (.type "object")], 30, "StowError", true, [], [(.ref 44), (.ref 56), (.ref 75), (.ref 87), (.ref 99), (.ref 111), (.ref 123), (.ref 135)], false, none, false⟩, ((some (.ref 22)) :: none :: (some (.str "StowError" 196)) :: (some (.str "StowError" 204)) :: (some (.builtin "ValueError.__new__")) :: (some (.bool true)) :: []).toArray⟩
def Xvy (P : Params) : Obj := ⟨(.type "dict"), none, .dict (en P "__module__" 342 (.str "stow.errors" 194) :: en P "__qualname__" 344 (.str "NoRoom" 343) :: en P "__firstlineno__" 346 (.int 23 345) :: en P "__static_attributes__" 347 (.ref 133) :: []).toArray 4, #[]⟩
def Xzi : Obj := cp "NoRoom" "NoRoom" 337 (vI 23 :: vI 0 :: vI 0 :: vI 0 :: vI 0 :: vR 129 :: (.bool false) :: vI 181 :: vR 130 :: .none :: .none :: .none :: .none :: vI 340 :: vI 23 :: (.str "/claim/cut.py" 341) :: [])
def XCe : Obj := ⟨(.type "frame"), none, .plain, ((some (.ref 131)) :: (some (.ref 3)) :: (some (.ref 128)) :: none :: (some (.str "stow.errors" 194)) :: none :: (some (.ref 0)) :: []).toArray⟩
def Xtd (P : Params) : Obj := ⟨(.type "dict"), none, .dict (en P "__module__" 342 (.str "stow.errors" 194) :: en P "__firstlineno__" 346 (.int 23 345) :: en P "__static_attributes__" 347 (.ref 133) :: en P "__doc__" 348 .none :: []).toArray 2, #[]⟩
def Xts : Obj := ⟨(.type "type"), none, .cls ⟨"NoRoom", [(.ref 31)], [(.ref 135), (.ref 31), (.type "ValueError"), (.type "Exception"), (.type "BaseException"), (.type "object")], 134, "NoRoom", true, [], [], false, none, false⟩, ((some (.ref 126)) :: none :: (some (.str "NoRoom" 335)) :: (some (.str "NoRoom" 343)) :: (some (.builtin "ValueError.__new__")) :: (some (.bool true)) :: []).toArray⟩
def XCk : Obj := ⟨(.type "super"), none, .fields ((.ref 135) :: (.ref 135) :: (.ref 135) :: []).toArray, #[]⟩
def XAs : Obj := ⟨(.type "builtin_function_or_method"), none, .fields ((.builtin "object.__init_subclass__") :: (.ref 135) :: []).toArray, #[]⟩
def XEy : Obj := tu ((.str "count" 358) :: (.str "bound" 359) :: [])
def XFo : Obj := fq "check_ask" "check_ask" (top 13)
def Xua : Obj := cp "check_ask" "check_ask" 355 (vI 27 :: vI 2 :: vI 0 :: vI 0 :: vI 3 :: vR 138 :: (.bool true) :: vI 181 :: vR 139 :: .none :: vR 140 :: vR 141 :: vR 142 :: vI 360 :: vI 27 :: (.str "/claim/cut.py" 361) :: [])
def Xsj : Obj := fo "check_ask" "check_ask" (top 13) .none .none .none (.str "stow.asks" 351) none (.ref 143) .none none
def XFz : Obj := tu ((.str "count" 366) :: (.str "bound" 367) :: [])
def XDp : Obj := fq "check_plain_ask" "check_plain_ask" (top 14)
def Xwz : Obj := cp "check_plain_ask" "check_plain_ask" 363 (vI 30 :: vI 2 :: vI 0 :: vI 0 :: vI 3 :: vR 145 :: (.bool true) :: vI 181 :: vR 146 :: .none :: vR 147 :: vR 148 :: vR 149 :: vI 368 :: vI 30 :: (.str "/claim/cut.py" 369) :: [])
def Xuh : Obj := fo "check_plain_ask" "check_plain_ask" (top 14) .none .none .none (.str "stow.asks" 351) none (.ref 150) .none none
def XFg : Obj := tu ((.str "long" 376) :: (.str "live" 377) :: [])
def XCj : Obj := fq "mark_of" "mark_of" (top 16)
def Xtj : Obj := cp "mark_of" "mark_of" 373 (vI 35 :: vI 2 :: vI 0 :: vI 0 :: vI 3 :: vR 152 :: (.bool true) :: vI 181 :: vR 153 :: .none :: vR 154 :: vR 155 :: vR 156 :: vI 378 :: vI 35 :: (.str "/claim/cut.py" 379) :: [])
def Xuo : Obj := fo "mark_of" "mark_of" (top 16) .none .none .none (.str "stow.marks" 371) none (.ref 157) .none none
def XEp : Obj := tu ((.str "number" 384) :: [])
def Xzv : Obj := fq "long_of" "long_of" (top 17)
def Xvd : Obj := cp "long_of" "long_of" 381 (vI 39 :: vI 1 :: vI 0 :: vI 0 :: vI 3 :: vR 159 :: (.bool true) :: vI 181 :: vR 160 :: .none :: vR 161 :: vR 162 :: vR 163 :: vI 385 :: vI 39 :: (.str "/claim/cut.py" 386) :: [])
def Xwp : Obj := fo "long_of" "long_of" (top 17) .none .none .none (.str "stow.marks" 371) none (.ref 164) .none none
def XCd : Obj := tu ((.str "number" 391) :: [])
def XFw : Obj := fq "live_of" "live_of" (top 18)
def Xuz : Obj := cp "live_of" "live_of" 388 (vI 41 :: vI 1 :: vI 0 :: vI 0 :: vI 3 :: vR 166 :: (.bool true) :: vI 181 :: vR 167 :: .none :: vR 168 :: vR 169 :: vR 170 :: vI 392 :: vI 41 :: (.str "/claim/cut.py" 393) :: [])
def Xsl : Obj := fo "live_of" "live_of" (top 18) .none .none .none (.str "stow.marks" 371) none (.ref 171) .none none
def Xys : Obj := tu ((.str "cells" 402) :: (.str "at" 403) :: (.str "long" 404) :: [])
def XDd : Obj := fq "can_begin" "can_begin" (top 21)
def Xuq : Obj := cp "can_begin" "can_begin" 399 (vI 45 :: vI 2 :: vI 0 :: vI 0 :: vI 3 :: vR 173 :: (.bool true) :: vI 181 :: vR 174 :: .none :: vR 175 :: vR 176 :: vR 177 :: vI 405 :: vI 45 :: (.str "/claim/cut.py" 406) :: [])
def Xtf : Obj := fo "can_begin" "can_begin" (top 21) .none .none .none (.str "stow.looks" 395) none (.ref 178) .none none
def Xzn : Obj := tu ((.str "cells" 411) :: (.str "at" 412) :: (.str "last" 413) :: [])
def XCu : Obj := fq "bad_of_piece" "bad_of_piece" (top 22)
def Xxc : Obj := cp "bad_of_piece" "bad_of_piece" 408 (vI 50 :: vI 2 :: vI 0 :: vI 0 :: vI 3 :: vR 180 :: (.bool true) :: vI 181 :: vR 181 :: .none :: vR 182 :: vR 183 :: vR 184 :: vI 414 :: vI 50 :: (.str "/claim/cut.py" 415) :: [])
def Xsq : Obj := fo "bad_of_piece" "bad_of_piece" (top 22) .none .none .none (.str "stow.looks" 395) none (.ref 185) .none none
def XEo : Obj := tu ((.str "cells" 420) :: (.str "pieces" 421) :: (.str "at" 422) :: (.str "bad" 423) :: (.str "long" 424) :: [])
def XBz : Obj := fq "looked" "looked" (top 23)
def Xus : Obj := cp "looked" "looked" 417 (vI 57 :: vI 1 :: vI 0 :: vI 0 :: vI 3 :: vR 187 :: (.bool true) :: vI 181 :: vR 188 :: .none :: vR 189 :: vR 190 :: vR 191 :: vI 425 :: vI 57 :: (.str "/claim/cut.py" 426) :: [])
def Xsp : Obj := fo "looked" "looked" (top 23) .none .none .none (.str "stow.looks" 395) none (.ref 192) .none none
def XAm : Obj := tu ((.str "count" 431) :: (.str "cells" 432) :: [])
def Xzw : Obj := fq "fresh_room" "fresh_room" (top 24)
def Xtg : Obj := cp "fresh_room" "fresh_room" 428 (vI 68 :: vI 1 :: vI 0 :: vI 0 :: vI 3 :: vR 194 :: (.bool true) :: vI 181 :: vR 195 :: .none :: vR 196 :: vR 197 :: vR 198 :: vI 433 :: vI 68 :: (.str "/claim/cut.py" 434) :: [])
def Xvf : Obj := fo "fresh_room" "fresh_room" (top 24) .none .none .none (.str "stow.looks" 395) none (.ref 199) .none none
def XDv : Obj := tu ((.str "cells" 441) :: (.str "at" 442) :: (.str "long" 443) :: (.str "live" 444) :: (.str "row" 445) :: [])
def XDi : Obj := fq "laid" "laid" (top 26)
def Xwu : Obj := cp "laid" "laid" 438 (vI 76 :: vI 4 :: vI 0 :: vI 0 :: vI 3 :: vR 201 :: (.bool true) :: vI 181 :: vR 202 :: .none :: vR 203 :: vR 204 :: vR 205 :: vI 446 :: vI 76 :: (.str "/claim/cut.py" 447) :: [])
def Xtr : Obj := fo "laid" "laid" (top 26) .none .none .none (.str "stow.pieces" 436) none (.ref 206) .none none
def XFe : Obj := tu ((.str "cells" 452) :: (.str "begin" 453) :: (.str "end" 454) :: [])
def XEr : Obj := fq "laid_free" "laid_free" (top 27)
def Xwd : Obj := cp "laid_free" "laid_free" 449 (vI 81 :: vI 3 :: vI 0 :: vI 0 :: vI 3 :: vR 208 :: (.bool true) :: vI 181 :: vR 209 :: .none :: vR 210 :: vR 211 :: vR 212 :: vI 455 :: vI 81 :: (.str "/claim/cut.py" 456) :: [])
def Xvs : Obj := fo "laid_free" "laid_free" (top 27) .none .none .none (.str "stow.pieces" 436) none (.ref 213) .none none
def XBb : Obj := tu ((.str "cells" 461) :: (.str "at" 462) :: (.str "piece" 463) :: [])
def Xzt : Obj := fq "piece_at" "piece_at" (top 28)
def Xuj : Obj := cp "piece_at" "piece_at" 458 (vI 85 :: vI 2 :: vI 0 :: vI 0 :: vI 3 :: vR 215 :: (.bool true) :: vI 181 :: vR 216 :: .none :: vR 217 :: vR 218 :: vR 219 :: vI 464 :: vI 85 :: (.str "/claim/cut.py" 465) :: [])
def Xuy : Obj := fo "piece_at" "piece_at" (top 28) .none .none .none (.str "stow.pieces" 436) none (.ref 220) .none none
def XDs : Obj := tu ((.str "cells" 470) :: (.str "at" 471) :: (.str "piece" 472) :: [])
def Xzu : Obj := fq "live_at" "live_at" (top 29)
def Xsw : Obj := cp "live_at" "live_at" 467 (vI 90 :: vI 2 :: vI 0 :: vI 0 :: vI 3 :: vR 222 :: (.bool true) :: vI 181 :: vR 223 :: .none :: vR 224 :: vR 225 :: vR 226 :: vI 473 :: vI 90 :: (.str "/claim/cut.py" 474) :: [])
def Xve : Obj := fo "live_at" "live_at" (top 29) .none .none .none (.str "stow.pieces" 436) none (.ref 227) .none none
def XCp : Obj := tu ((.str "cells" 479) :: (.str "at" 480) :: (.str "piece" 481) :: [])
def XGb : Obj := fq "free_at" "free_at" (top 30)
def Xvt : Obj := cp "free_at" "free_at" 476 (vI 95 :: vI 2 :: vI 0 :: vI 0 :: vI 3 :: vR 229 :: (.bool true) :: vI 181 :: vR 230 :: .none :: vR 231 :: vR 232 :: vR 233 :: vI 482 :: vI 95 :: (.str "/claim/cut.py" 483) :: [])
def Xsv : Obj := fo "free_at" "free_at" (top 30) .none .none .none (.str "stow.pieces" 436) none (.ref 234) .none none
def XFp : Obj := fq "begin_around" "begin_around" (top 31)
def Xtt : Obj := cp "begin_around" "begin_around" 485 (vI 100 :: vI 2 :: vI 0 :: vI 0 :: vI 3 :: vR 236 :: (.bool true) :: vI 181 :: vR 237 :: .none :: .none :: .none :: vR 238 :: vI 488 :: vI 100 :: (.str "/claim/cut.py" 489) :: [])
def Xwo : Obj := fo "begin_around" "begin_around" (top 31) .none .none .none (.str "stow.pieces" 436) none (.ref 239) .none none
def XFq : Obj := tu ((.str "cells" 494) :: (.str "at" 495) :: [])
def XEm : Obj := fq "free_begin" "free_begin" (top 32)
def Xub : Obj := cp "free_begin" "free_begin" 491 (vI 103 :: vI 2 :: vI 0 :: vI 0 :: vI 3 :: vR 241 :: (.bool true) :: vI 181 :: vR 242 :: .none :: vR 243 :: vR 244 :: vR 245 :: vI 496 :: vI 103 :: (.str "/claim/cut.py" 497) :: [])
def Xut : Obj := fo "free_begin" "free_begin" (top 32) .none .none .none (.str "stow.pieces" 436) none (.ref 246) .none none
def XBh : Obj := tu ((.str "cells" 502) :: (.str "end" 503) :: [])
def XEi : Obj := fq "free_end" "free_end" (top 33)
def Xsu : Obj := cp "free_end" "free_end" 499 (vI 107 :: vI 2 :: vI 0 :: vI 0 :: vI 3 :: vR 248 :: (.bool true) :: vI 181 :: vR 249 :: .none :: vR 250 :: vR 251 :: vR 252 :: vI 504 :: vI 107 :: (.str "/claim/cut.py" 505) :: [])
def Xwr : Obj := fo "free_end" "free_end" (top 33) .none .none .none (.str "stow.pieces" 436) none (.ref 253) .none none
def XBu : Obj := tu ((.str "cells" 510) :: (.str "at" 511) :: (.str "place" 512) :: (.str "long" 513) :: (.str "begin" 514) :: (.str "free_long" 515) :: (.str "live" 516) :: (.str "end" 517) :: (.str "row" 518) :: [])
def XEk : Obj := fq "cut_out" "cut_out" (top 34)
def Xtm : Obj := cp "cut_out" "cut_out" 507 (vI 111 :: vI 4 :: vI 0 :: vI 0 :: vI 3 :: vR 255 :: (.bool true) :: vI 181 :: vR 256 :: .none :: vR 257 :: vR 258 :: vR 259 :: vI 519 :: vI 111 :: (.str "/claim/cut.py" 520) :: [])
def Xsx : Obj := fo "cut_out" "cut_out" (top 34) .none .none .none (.str "stow.pieces" 436) none (.ref 260) .none none
def XGh : Obj := tu ((.str "cells" 525) :: (.str "at" 526) :: (.str "begin" 527) :: (.str "long" 528) :: (.str "live" 529) :: [])
def XCb : Obj := fq "freed" "freed" (top 35)
def Xvi : Obj := cp "freed" "freed" 522 (vI 119 :: vI 2 :: vI 0 :: vI 0 :: vI 3 :: vR 262 :: (.bool true) :: vI 181 :: vR 263 :: .none :: vR 264 :: vR 265 :: vR 266 :: vI 530 :: vI 119 :: (.str "/claim/cut.py" 531) :: [])
def Xvv : Obj := fo "freed" "freed" (top 35) .none .none .none (.str "stow.pieces" 436) none (.ref 267) .none none
def XBl : Obj := tu ((.str "pieces" 536) :: (.str "row" 537) :: (.str "at" 538) :: (.str "long" 539) :: (.str "live" 540) :: [])
def XFk : Obj := fq "joined_pieces" "joined_pieces" (top 36)
def Xtu : Obj := cp "joined_pieces" "joined_pieces" 533 (vI 122 :: vI 1 :: vI 0 :: vI 0 :: vI 3 :: vR 269 :: (.bool true) :: vI 181 :: vR 270 :: .none :: vR 271 :: vR 272 :: vR 273 :: vI 541 :: vI 122 :: (.str "/claim/cut.py" 542) :: [])
def Xws : Obj := fo "joined_pieces" "joined_pieces" (top 36) .none .none .none (.str "stow.pieces" 436) none (.ref 274) .none none
def XAe : Obj := tu ((.str "cells" 547) :: (.str "row" 548) :: (.str "at" 549) :: (.str "long" 550) :: (.str "live" 551) :: [])
def XBi : Obj := fq "joined" "joined" (top 37)
def Xso : Obj := cp "joined" "joined" 544 (vI 130 :: vI 1 :: vI 0 :: vI 0 :: vI 3 :: vR 276 :: (.bool true) :: vI 181 :: vR 277 :: .none :: vR 278 :: vR 279 :: vR 280 :: vI 552 :: vI 130 :: (.str "/claim/cut.py" 553) :: [])
def Xsr : Obj := fo "joined" "joined" (top 37) .none .none .none (.str "stow.pieces" 436) none (.ref 281) .none none
def Xyy : Obj := tu ((.str "cells" 558) :: (.str "source" 559) :: (.str "goal" 560) :: (.str "count" 561) :: (.str "row" 562) :: [])
def XBm : Obj := fq "carried" "carried" (top 38)
def Xwf : Obj := cp "carried" "carried" 555 (vI 135 :: vI 4 :: vI 0 :: vI 0 :: vI 3 :: vR 283 :: (.bool true) :: vI 181 :: vR 284 :: .none :: vR 285 :: vR 286 :: vR 287 :: vI 563 :: vI 135 :: (.str "/claim/cut.py" 564) :: [])
def Xxb : Obj := fo "carried" "carried" (top 38) .none .none .none (.str "stow.pieces" 436) none (.ref 288) .none none
def Xxf (P : Params) : Obj := ⟨(.type "dict"), none, .dict (en P "__module__" 575 (.str "stow.keepers" 566) :: en P "__qualname__" 577 (.str "Keeper" 576) :: en P "__firstlineno__" 579 (.int 139 578) :: en P "__init__" 587 (.ref 303) :: en P "cells" 594 (.ref 310) :: en P "pieces" 601 (.ref 317) :: en P "lay" 609 (.ref 324) :: en P "clear" 616 (.ref 331) :: en P "many" 627 (.ref 338) :: en P "get" 636 (.ref 345) :: en P "put" 647 (.ref 352) :: en P "ask" 657 (.ref 360) :: en P "give" 668 (.ref 367) :: en P "grow" 680 (.ref 375) :: en P "room_begin" 688 (.ref 382) :: en P "room_cell_of" 698 (.ref 389) :: en P "room_moved" 709 (.ref 396) :: en P "__static_attributes__" 711 (.ref 397) :: []).toArray 18, #[]⟩
def XDj : Obj := fl (vI 141 :: vI 4 :: vR 302 :: vI 144 :: vI 4 :: vR 309 :: vI 147 :: vI 4 :: vR 316 :: vI 150 :: vI 4 :: vR 323 :: vI 156 :: vI 4 :: vR 330 :: vI 159 :: vI 4 :: vR 337 :: vI 163 :: vI 4 :: vR 344 :: vI 166 :: vI 4 :: vR 351 :: vI 170 :: vI 4 :: vR 359 :: vI 174 :: vI 4 :: vR 366 :: vI 178 :: vI 4 :: vR 374 :: vI 185 :: vI 4 :: vR 381 :: vI 188 :: vI 4 :: vR 388 :: vI 194 :: vI 4 :: vR 395 :: [])
def XCg : Obj := cp "Keeper" "Keeper" 570 (vI 139 :: vI 0 :: vI 0 :: vI 0 :: vI 0 :: vR 293 :: (.bool false) :: vI 181 :: vR 294 :: .none :: .none :: .none :: .none :: vI 573 :: vI 139 :: (.str "/claim/cut.py" 574) :: [])
def XCm : Obj := ⟨(.type "frame"), none, .plain, ((some (.ref 295)) :: (some (.ref 3)) :: (some (.ref 292)) :: none :: (some (.str "stow.keepers" 566)) :: none :: (some (.ref 0)) :: []).toArray⟩
def Xzj : Obj := tu ((.str "self" 583) :: (.str "size" 584) :: [])
def XFm : Obj := fq "__init__" "Keeper.__init__" (Xag (top 40) 0)
def Xvx : Obj := cp "__init__" "Keeper.__init__" 580 (vI 141 :: vI 2 :: vI 0 :: vI 0 :: vI 3 :: vR 297 :: (.bool true) :: vI 181 :: vR 298 :: .none :: vR 299 :: vR 300 :: vR 301 :: vI 585 :: vI 141 :: (.str "/claim/cut.py" 586) :: [])
def Xxg : Obj := fo "__init__" "Keeper.__init__" (Xag (top 40) 0) .none .none .none (.str "stow.keepers" 566) none (.ref 302) .none none
def XCw : Obj := tu ((.str "self" 591) :: [])
def Xzk : Obj := fq "cells" "Keeper.cells" (Xag (top 40) 1)
def Xwm : Obj := cp "cells" "Keeper.cells" 588 (vI 144 :: vI 1 :: vI 0 :: vI 0 :: vI 3 :: vR 304 :: (.bool true) :: vI 181 :: vR 305 :: .none :: vR 306 :: vR 307 :: vR 308 :: vI 592 :: vI 144 :: (.str "/claim/cut.py" 593) :: [])
def Xtz : Obj := fo "cells" "Keeper.cells" (Xag (top 40) 1) .none .none .none (.str "stow.keepers" 566) none (.ref 309) .none none
def XEv : Obj := tu ((.str "self" 598) :: [])
def Xzo : Obj := fq "pieces" "Keeper.pieces" (Xag (top 40) 2)
def XDl : Obj := cp "pieces" "Keeper.pieces" 595 (vI 147 :: vI 1 :: vI 0 :: vI 0 :: vI 3 :: vR 311 :: (.bool true) :: vI 181 :: vR 312 :: .none :: vR 313 :: vR 314 :: vR 315 :: vI 599 :: vI 147 :: (.str "/claim/cut.py" 600) :: [])
def XFl : Obj := fo "pieces" "Keeper.pieces" (Xag (top 40) 2) .none .none .none (.str "stow.keepers" 566) none (.ref 316) .none none
def XFj : Obj := tu ((.str "self" 605) :: (.str "cells" 606) :: [])
def XAp : Obj := fq "lay" "Keeper.lay" (Xag (top 40) 3)
def Xtl : Obj := cp "lay" "Keeper.lay" 602 (vI 150 :: vI 2 :: vI 0 :: vI 0 :: vI 3 :: vR 318 :: (.bool true) :: vI 181 :: vR 319 :: .none :: vR 320 :: vR 321 :: vR 322 :: vI 607 :: vI 150 :: (.str "/claim/cut.py" 608) :: [])
def Xui : Obj := fo "lay" "Keeper.lay" (Xag (top 40) 3) .none .none .none (.str "stow.keepers" 566) none (.ref 323) .none none
def XBg : Obj := tu ((.str "self" 613) :: [])
def XEh : Obj := fq "clear" "Keeper.clear" (Xag (top 40) 4)
def Xwc : Obj := cp "clear" "Keeper.clear" 610 (vI 156 :: vI 1 :: vI 0 :: vI 0 :: vI 3 :: vR 325 :: (.bool true) :: vI 181 :: vR 326 :: .none :: vR 327 :: vR 328 :: vR 329 :: vI 614 :: vI 156 :: (.str "/claim/cut.py" 615) :: [])
def Xtn : Obj := fo "clear" "Keeper.clear" (Xag (top 40) 4) .none .none .none (.str "stow.keepers" 566) none (.ref 330) .none none
def Xzy : Obj := tu ((.str "self" 620) :: (.str "place" 621) :: (.str "at" 622) :: (.str "long" 623) :: (.str "live" 624) :: [])
def XCr : Obj := fq "many" "Keeper.many" (Xag (top 40) 5)
def Xuf : Obj := cp "many" "Keeper.many" 617 (vI 159 :: vI 2 :: vI 0 :: vI 0 :: vI 3 :: vR 332 :: (.bool true) :: vI 181 :: vR 333 :: .none :: vR 334 :: vR 335 :: vR 336 :: vI 625 :: vI 159 :: (.str "/claim/cut.py" 626) :: [])
def Xwy : Obj := fo "many" "Keeper.many" (Xag (top 40) 5) .none .none .none (.str "stow.keepers" 566) none (.ref 337) .none none
def Xyn : Obj := tu ((.str "self" 631) :: (.str "place" 632) :: (.str "k" 633) :: [])
def XAi : Obj := fq "get" "Keeper.get" (Xag (top 40) 6)
def Xsi : Obj := cp "get" "Keeper.get" 628 (vI 163 :: vI 3 :: vI 0 :: vI 0 :: vI 3 :: vR 339 :: (.bool true) :: vI 181 :: vR 340 :: .none :: vR 341 :: vR 342 :: vR 343 :: vI 634 :: vI 163 :: (.str "/claim/cut.py" 635) :: [])
def Xuw : Obj := fo "get" "Keeper.get" (Xag (top 40) 6) .none .none .none (.str "stow.keepers" 566) none (.ref 344) .none none
def XAy : Obj := tu ((.str "self" 640) :: (.str "place" 641) :: (.str "k" 642) :: (.str "number" 643) :: (.str "cell" 644) :: [])
def XAw : Obj := fq "put" "Keeper.put" (Xag (top 40) 7)
def Xvb : Obj := cp "put" "Keeper.put" 637 (vI 166 :: vI 4 :: vI 0 :: vI 0 :: vI 3 :: vR 346 :: (.bool true) :: vI 181 :: vR 347 :: .none :: vR 348 :: vR 349 :: vR 350 :: vI 645 :: vI 166 :: (.str "/claim/cut.py" 646) :: [])
def Xtx : Obj := fo "put" "Keeper.put" (Xag (top 40) 7) .none .none .none (.str "stow.keepers" 566) none (.ref 351) .none none
def XCz : Obj := tu ((.int 1 648) :: [])
def XFv : Obj := tu ((.str "self" 652) :: (.str "count" 653) :: (.str "bound" 654) :: [])
def XBv : Obj := fq "ask" "Keeper.ask" (Xag (top 40) 8)
def Xyz : Obj := cp "ask" "Keeper.ask" 649 (vI 170 :: vI 3 :: vI 0 :: vI 0 :: vI 3 :: vR 354 :: (.bool true) :: vI 181 :: vR 355 :: .none :: vR 356 :: vR 357 :: vR 358 :: vI 655 :: vI 170 :: (.str "/claim/cut.py" 656) :: [])
def Xzs : Obj := fo "ask" "Keeper.ask" (Xag (top 40) 8) (.ref 353) .none .none (.str "stow.keepers" 566) none (.ref 359) .none none
def Xzz : Obj := tu ((.str "self" 661) :: (.str "place" 662) :: (.str "at" 663) :: (.str "long" 664) :: (.str "live" 665) :: [])
def XBc : Obj := fq "give" "Keeper.give" (Xag (top 40) 9)
def XAv : Obj := cp "give" "Keeper.give" 658 (vI 174 :: vI 2 :: vI 0 :: vI 0 :: vI 3 :: vR 361 :: (.bool true) :: vI 181 :: vR 362 :: .none :: vR 363 :: vR 364 :: vR 365 :: vI 666 :: vI 174 :: (.str "/claim/cut.py" 667) :: [])
def XBf : Obj := fo "give" "Keeper.give" (Xag (top 40) 9) .none .none .none (.str "stow.keepers" 566) none (.ref 366) .none none
def Xzp : Obj := tu ((.int 1 669) :: [])
def XAa : Obj := tu ((.str "self" 673) :: (.str "place" 674) :: (.str "count" 675) :: (.str "bound" 676) :: (.str "had" 677) :: [])
def Xzf : Obj := fq "grow" "Keeper.grow" (Xag (top 40) 10)
def XCc : Obj := cp "grow" "Keeper.grow" 670 (vI 178 :: vI 4 :: vI 0 :: vI 0 :: vI 3 :: vR 369 :: (.bool true) :: vI 181 :: vR 370 :: .none :: vR 371 :: vR 372 :: vR 373 :: vI 678 :: vI 178 :: (.str "/claim/cut.py" 679) :: [])
def XGe : Obj := fo "grow" "Keeper.grow" (Xag (top 40) 10) (.ref 368) .none .none (.str "stow.keepers" 566) none (.ref 374) .none none
def Xza : Obj := tu ((.str "self" 684) :: (.str "cells" 685) :: [])
def XBk : Obj := fq "room_begin" "Keeper.room_begin" (Xag (top 40) 11)
def XEw : Obj := cp "room_begin" "Keeper.room_begin" 681 (vI 185 :: vI 2 :: vI 0 :: vI 0 :: vI 3 :: vR 376 :: (.bool true) :: vI 181 :: vR 377 :: .none :: vR 378 :: vR 379 :: vR 380 :: vI 686 :: vI 185 :: (.str "/claim/cut.py" 687) :: [])
def XGg : Obj := fo "room_begin" "Keeper.room_begin" (Xag (top 40) 11) .none .none .none (.str "stow.keepers" 566) none (.ref 381) .none none
def XAx : Obj := tu ((.str "self" 692) :: (.str "place" 693) :: (.str "k" 694) :: (.str "many" 695) :: [])
def XFt : Obj := fq "room_cell_of" "Keeper.room_cell_of" (Xag (top 40) 12)
def Xsn : Obj := cp "room_cell_of" "Keeper.room_cell_of" 689 (vI 188 :: vI 3 :: vI 0 :: vI 0 :: vI 3 :: vR 383 :: (.bool true) :: vI 181 :: vR 384 :: .none :: vR 385 :: vR 386 :: vR 387 :: vI 696 :: vI 188 :: (.str "/claim/cut.py" 697) :: [])
def Xsz : Obj := fo "room_cell_of" "Keeper.room_cell_of" (Xag (top 40) 12) .none .none .none (.str "stow.keepers" 566) none (.ref 388) .none none
def XAd : Obj := tu ((.str "self" 702) :: (.str "place" 703) :: (.str "count" 704) :: (.str "bound" 705) :: (.str "goal" 706) :: [])
def XDw : Obj := fq "room_moved" "Keeper.room_moved" (Xag (top 40) 13)
def Xta : Obj := cp "room_moved" "Keeper.room_moved" 699 (vI 194 :: vI 4 :: vI 0 :: vI 0 :: vI 3 :: vR 390 :: (.bool true) :: vI 181 :: vR 391 :: .none :: vR 392 :: vR 393 :: vR 394 :: vI 707 :: vI 194 :: (.str "/claim/cut.py" 708) :: [])
def Xuk : Obj := fo "room_moved" "Keeper.room_moved" (Xag (top 40) 13) .none .none .none (.str "stow.keepers" 566) none (.ref 395) .none none
def XEj : Obj := tu ((.str "room_cells" 710) :: [])
def Xtc (P : Params) : Obj := ⟨(.type "dict"), none, .dict (en P "__module__" 575 (.str "stow.keepers" 566) :: en P "__firstlineno__" 579 (.int 139 578) :: en P "__init__" 587 (.ref 303) :: en P "cells" 594 (.ref 310) :: en P "pieces" 601 (.ref 317) :: en P "lay" 609 (.ref 324) :: en P "clear" 616 (.ref 331) :: en P "many" 627 (.ref 338) :: en P "get" 636 (.ref 345) :: en P "put" 647 (.ref 352) :: en P "ask" 657 (.ref 360) :: en P "give" 668 (.ref 367) :: en P "grow" 680 (.ref 375) :: en P "room_begin" 688 (.ref 382) :: en P "room_cell_of" 698 (.ref 389) :: en P "room_moved" 709 (.ref 396) :: en P "__static_attributes__" 711 (.ref 397) :: en P "__dict__" 713 (.ref 400) :: en P "__weakref__" 715 (.ref 401) :: en P "__doc__" 716 .none :: []).toArray 4, #[]⟩
def XQm : Obj := ⟨(.type "type"), none, .cls ⟨"Keeper", [(.type "object")], [(.ref 399), (.type "object")], 398, "Keeper", true, [], [], false, none, false⟩, (none :: none :: (some (.str "Keeper" 568)) :: (some (.str "Keeper" 576)) :: (some (.builtin "object.__new__")) :: (some (.bool true)) :: []).toArray⟩
def XAg : Obj := ⟨(.type "getset_descriptor"), none, .fields ((.str "__dict__" 712) :: (.ref 399) :: (.builtin "function.__dict__") :: (.builtin "function.__dict__#set") :: []).toArray, #[]⟩
def XDk : Obj := ⟨(.type "getset_descriptor"), none, .fields ((.str "__weakref__" 714) :: (.ref 399) :: (.builtin "ExceptionGroup.__weakref__") :: .none :: []).toArray, #[]⟩
def XAu : Obj := ⟨(.type "super"), none, .fields ((.ref 399) :: (.ref 399) :: (.ref 399) :: []).toArray, #[]⟩
def XCi : Obj := ⟨(.type "builtin_function_or_method"), none, .fields ((.builtin "object.__init_subclass__") :: (.ref 399) :: []).toArray, #[]⟩
def XCf : Obj := tu ((.str "piece" 724) :: (.str "long" 725) :: (.str "bound" 726) :: (.str "at" 727) :: (.str "piece_long" 728) :: (.str "live" 729) :: (.str "place" 730) :: [])
def Xyk : Obj := fq "first_place" "first_place" (top 42)
def Xum : Obj := cp "first_place" "first_place" 721 (vI 200 :: vI 3 :: vI 0 :: vI 0 :: vI 3 :: vR 404 :: (.bool true) :: vI 181 :: vR 405 :: .none :: vR 406 :: vR 407 :: vR 408 :: vI 731 :: vI 200 :: (.str "/claim/cut.py" 732) :: [])
def Xth : Obj := fo "first_place" "first_place" (top 42) .none .none .none (.str "stow.places" 719) none (.ref 409) .none none
def XAl : Obj := tu ((.str "cells" 737) :: (.str "long" 738) :: (.str "bound" 739) :: (.str "spots" 740) :: (.str "piece" 741) :: (.str "place" 742) :: [])
def XAt : Obj := fq "spots_for" "spots_for" (top 43)
def Xup : Obj := cp "spots_for" "spots_for" 734 (vI 206 :: vI 3 :: vI 0 :: vI 0 :: vI 3 :: vR 411 :: (.bool true) :: vI 181 :: vR 412 :: .none :: vR 413 :: vR 414 :: vR 415 :: vI 743 :: vI 206 :: (.str "/claim/cut.py" 744) :: [])
def Xwh : Obj := fo "spots_for" "spots_for" (top 43) .none .none .none (.str "stow.places" 719) none (.ref 416) .none none
def XOn (P : Params) : Obj := ⟨(.type "dict"), none, .dict (en P "__name__" 165 (.str "law_stow_k21_refused" 962) :: en P "__doc__" 166 .none :: en P "__package__" 167 .none :: en P "__loader__" 168 (.builtin "__main__.__loader__#opaque") :: en P "__spec__" 169 .none :: en P "__annotations__" 170 (.ref 6) :: en P "__builtins__" 171 (.ref 4) :: en P "__file__" 173 (.str "/claim/cut.py" 172) :: en P "__cached__" 174 .none :: en P "_wall" 193 (.ref 21) :: en P "StowError" 213 (.ref 31) :: en P "NoName" 229 (.ref 44) :: en P "NoSize" 245 (.ref 56) :: en P "Broken" 270 (.ref 75) :: en P "NoPiece" 286 (.ref 87) :: en P "NoCell" 302 (.ref 99) :: en P "NoAsk" 318 (.ref 111) :: en P "NoBound" 334 (.ref 123) :: en P "NoRoom" 350 (.ref 135) :: en P "MARKS" 354 (.int 2 353) :: en P "check_ask" 362 (.ref 144) :: en P "check_plain_ask" 370 (.ref 151) :: en P "mark_of" 380 (.ref 158) :: en P "long_of" 387 (.ref 165) :: en P "live_of" 394 (.ref 172) :: en P "LEAST_LIVE" 398 (.int 3 397) :: en P "can_begin" 407 (.ref 179) :: en P "bad_of_piece" 416 (.ref 186) :: en P "looked" 427 (.ref 193) :: en P "fresh_room" 435 (.ref 200) :: en P "laid" 448 (.ref 207) :: en P "laid_free" 457 (.ref 214) :: en P "piece_at" 466 (.ref 221) :: en P "live_at" 475 (.ref 228) :: en P "free_at" 484 (.ref 235) :: en P "begin_around" 490 (.ref 240) :: en P "free_begin" 498 (.ref 247) :: en P "free_end" 506 (.ref 254) :: en P "cut_out" 521 (.ref 261) :: en P "freed" 532 (.ref 268) :: en P "joined_pieces" 543 (.ref 275) :: en P "joined" 554 (.ref 282) :: en P "carried" 565 (.ref 289) :: en P "Keeper" 718 (.ref 399) :: en P "first_place" 733 (.ref 410) :: en P "spots_for" 745 (.ref 417) :: en P "least_place" 754 (.ref 424) :: en P "Stretches" 832 (.ref 478) :: en P "First" 854 (.ref 495) :: en P "Best" 876 (.ref 512) :: en P "Next" 931 (.ref 557) :: en P "Likes" 953 (.ref 574) :: en P "stretches_of" 961 (.ref 583) :: en P "_law_cell_at" 971 (.ref 590) :: en P "_law_walk" 981 (.ref 597) :: en P "_law_word" 989 (.ref 604) :: []).toArray 56, #[]⟩
def XPh : Obj := fl (vI 1 :: vI 0 :: vR 20 :: vI 5 :: vI 0 :: vR 27 :: vI 7 :: vI 0 :: vR 40 :: vI 9 :: vI 0 :: vR 52 :: vI 11 :: vI 0 :: vR 64 :: vI 15 :: vI 0 :: vR 83 :: vI 17 :: vI 0 :: vR 95 :: vI 19 :: vI 0 :: vR 107 :: vI 21 :: vI 0 :: vR 119 :: vI 23 :: vI 0 :: vR 131 :: vI 27 :: vI 0 :: vR 143 :: vI 30 :: vI 0 :: vR 150 :: vI 35 :: vI 0 :: vR 157 :: vI 39 :: vI 0 :: vR 164 :: vI 41 :: vI 0 :: vR 171 :: vI 45 :: vI 0 :: vR 178 :: vI 50 :: vI 0 :: vR 185 :: vI 57 :: vI 0 :: vR 192 :: vI 68 :: vI 0 :: vR 199 :: vI 76 :: vI 0 :: vR 206 :: vI 81 :: vI 0 :: vR 213 :: vI 85 :: vI 0 :: vR 220 :: vI 90 :: vI 0 :: vR 227 :: vI 95 :: vI 0 :: vR 234 :: vI 100 :: vI 0 :: vR 239 :: vI 103 :: vI 0 :: vR 246 :: vI 107 :: vI 0 :: vR 253 :: vI 111 :: vI 0 :: vR 260 :: vI 119 :: vI 0 :: vR 267 :: vI 122 :: vI 0 :: vR 274 :: vI 130 :: vI 0 :: vR 281 :: vI 135 :: vI 0 :: vR 288 :: vI 139 :: vI 0 :: vR 295 :: vI 200 :: vI 0 :: vR 409 :: vI 206 :: vI 0 :: vR 416 :: vI 214 :: vI 0 :: vR 423 :: vI 218 :: vI 0 :: vR 430 :: vI 251 :: vI 0 :: vR 486 :: vI 256 :: vI 0 :: vR 503 :: vI 262 :: vI 0 :: vR 520 :: vI 281 :: vI 0 :: vR 565 :: vI 287 :: vI 0 :: vR 582 :: vI 298 :: vI 0 :: vR 589 :: vI 302 :: vI 0 :: vR 596 :: vI 312 :: vI 0 :: vR 603 :: [])
def XAb : Obj := ⟨(.type "type"), none, .cls ⟨"Keeper", [(.type "object")], [(.ref 399), (.type "object")], 398, "Keeper", true, [], [(.ref 478)], false, none, false⟩, (none :: none :: (some (.str "Keeper" 568)) :: (some (.str "Keeper" 576)) :: (some (.builtin "object.__new__")) :: (some (.bool true)) :: []).toArray⟩
def XNk : Obj := tu ((.str "ranked" 751) :: [])
def XIz : Obj := fq "least_place" "least_place" (top 45)
def XDb : Obj := cp "least_place" "least_place" 748 (vI 214 :: vI 1 :: vI 0 :: vI 0 :: vI 3 :: vR 418 :: (.bool true) :: vI 181 :: vR 419 :: .none :: vR 420 :: vR 421 :: vR 422 :: vI 752 :: vI 214 :: (.str "/claim/cut.py" 753) :: [])
def XEc : Obj := fo "least_place" "least_place" (top 45) .none .none .none (.str "stow.stretches" 746) none (.ref 423) .none none
def XNd : Obj := tu (vR 399 :: [])
def Xyw (P : Params) : Obj := ⟨(.type "dict"), none, .dict (en P "__module__" 762 (.str "stow.stretches" 746) :: en P "__qualname__" 764 (.str "Stretches" 763) :: en P "__firstlineno__" 766 (.int 218 765) :: en P "chosen" 775 (.ref 438) :: en P "ask" 787 (.ref 446) :: en P "give" 795 (.ref 453) :: en P "grow" 811 (.ref 461) :: en P "room_begin" 819 (.ref 468) :: en P "room_granted" 827 (.ref 475) :: en P "__static_attributes__" 829 (.ref 476) :: []).toArray 10, #[]⟩
def XJt : Obj := fl (vI 220 :: vI 4 :: vR 437 :: vI 223 :: vI 4 :: vR 445 :: vI 233 :: vI 4 :: vR 452 :: vI 236 :: vI 4 :: vR 460 :: vI 246 :: vI 4 :: vR 467 :: vI 249 :: vI 4 :: vR 474 :: [])
def XJl : Obj := cp "Stretches" "Stretches" 757 (vI 218 :: vI 0 :: vI 0 :: vI 0 :: vI 0 :: vR 428 :: (.bool false) :: vI 181 :: vR 429 :: .none :: .none :: .none :: .none :: vI 760 :: vI 218 :: (.str "/claim/cut.py" 761) :: [])
def XLz : Obj := ⟨(.type "frame"), none, .plain, ((some (.ref 430)) :: (some (.ref 3)) :: (some (.ref 427)) :: none :: (some (.str "stow.stretches" 746)) :: none :: (some (.ref 0)) :: []).toArray⟩
def XGy : Obj := tu ((.str "self" 770) :: (.str "long" 771) :: (.str "bound" 772) :: [])
def XNv : Obj := fq "chosen" "Stretches.chosen" (Xag (top 46) 0)
def XGt : Obj := cp "chosen" "Stretches.chosen" 767 (vI 220 :: vI 3 :: vI 0 :: vI 0 :: vI 3 :: vR 432 :: (.bool true) :: vI 181 :: vR 433 :: .none :: vR 434 :: vR 435 :: vR 436 :: vI 773 :: vI 220 :: (.str "/claim/cut.py" 774) :: [])
def XKx : Obj := fo "chosen" "Stretches.chosen" (Xag (top 46) 0) .none .none .none (.str "stow.stretches" 746) none (.ref 437) .none none
def XFn : Obj := tu ((.int 1 776) :: [])
def XMz : Obj := tu ((.str "self" 780) :: (.str "count" 781) :: (.str "bound" 782) :: (.str "long" 783) :: (.str "at" 784) :: [])
def XJh : Obj := fq "ask" "Stretches.ask" (Xag (top 46) 1)
def Xzg : Obj := cp "ask" "Stretches.ask" 777 (vI 223 :: vI 3 :: vI 0 :: vI 0 :: vI 3 :: vR 440 :: (.bool true) :: vI 181 :: vR 441 :: .none :: vR 442 :: vR 443 :: vR 444 :: vI 785 :: vI 223 :: (.str "/claim/cut.py" 786) :: [])
def Xzc : Obj := fo "ask" "Stretches.ask" (Xag (top 46) 1) (.ref 439) .none .none (.str "stow.stretches" 746) none (.ref 445) .none none
def XHa : Obj := tu ((.str "self" 791) :: (.str "place" 792) :: [])
def XHu : Obj := fq "give" "Stretches.give" (Xag (top 46) 2)
def XFh : Obj := cp "give" "Stretches.give" 788 (vI 233 :: vI 2 :: vI 0 :: vI 0 :: vI 3 :: vR 447 :: (.bool true) :: vI 181 :: vR 448 :: .none :: vR 449 :: vR 450 :: vR 451 :: vI 793 :: vI 233 :: (.str "/claim/cut.py" 794) :: [])
def XCa : Obj := fo "give" "Stretches.give" (Xag (top 46) 2) .none .none .none (.str "stow.stretches" 746) none (.ref 452) .none none
def XAo : Obj := tu ((.int 1 796) :: [])
def XGm : Obj := tu ((.str "self" 800) :: (.str "place" 801) :: (.str "count" 802) :: (.str "bound" 803) :: (.str "at" 804) :: (.str "had" 805) :: (.str "live" 806) :: (.str "long" 807) :: (.str "end" 808) :: [])
def XIj : Obj := fq "grow" "Stretches.grow" (Xag (top 46) 3)
def Xyq : Obj := cp "grow" "Stretches.grow" 797 (vI 236 :: vI 4 :: vI 0 :: vI 0 :: vI 3 :: vR 455 :: (.bool true) :: vI 181 :: vR 456 :: .none :: vR 457 :: vR 458 :: vR 459 :: vI 809 :: vI 236 :: (.str "/claim/cut.py" 810) :: [])
def XAk : Obj := fo "grow" "Stretches.grow" (Xag (top 46) 3) (.ref 454) .none .none (.str "stow.stretches" 746) none (.ref 460) .none none
def XKi : Obj := tu ((.str "self" 815) :: (.str "cells" 816) :: [])
def XNf : Obj := fq "room_begin" "Stretches.room_begin" (Xag (top 46) 4)
def XCx : Obj := cp "room_begin" "Stretches.room_begin" 812 (vI 246 :: vI 2 :: vI 0 :: vI 0 :: vI 3 :: vR 462 :: (.bool true) :: vI 181 :: vR 463 :: .none :: vR 464 :: vR 465 :: vR 466 :: vI 817 :: vI 246 :: (.str "/claim/cut.py" 818) :: [])
def XBn : Obj := fo "room_begin" "Stretches.room_begin" (Xag (top 46) 4) .none .none .none (.str "stow.stretches" 746) none (.ref 467) .none none
def XNl : Obj := tu ((.str "self" 823) :: (.str "behind" 824) :: [])
def XKc : Obj := fq "room_granted" "Stretches.room_granted" (Xag (top 46) 5)
def XAz : Obj := cp "room_granted" "Stretches.room_granted" 820 (vI 249 :: vI 2 :: vI 0 :: vI 0 :: vI 3 :: vR 469 :: (.bool true) :: vI 181 :: vR 470 :: .none :: vR 471 :: vR 472 :: vR 473 :: vI 825 :: vI 249 :: (.str "/claim/cut.py" 826) :: [])
def Xyp : Obj := fo "room_granted" "Stretches.room_granted" (Xag (top 46) 5) .none .none .none (.str "stow.stretches" 746) none (.ref 474) .none none
def XNm : Obj := tu ((.str "room_cells" 828) :: [])
def Xzq (P : Params) : Obj := ⟨(.type "dict"), none, .dict (en P "__module__" 762 (.str "stow.stretches" 746) :: en P "__firstlineno__" 766 (.int 218 765) :: en P "chosen" 775 (.ref 438) :: en P "ask" 787 (.ref 446) :: en P "give" 795 (.ref 453) :: en P "grow" 811 (.ref 461) :: en P "room_begin" 819 (.ref 468) :: en P "room_granted" 827 (.ref 475) :: en P "__static_attributes__" 829 (.ref 476) :: en P "__doc__" 830 .none :: []).toArray 2, #[]⟩
def XEx : Obj := ⟨(.type "type"), none, .cls ⟨"Stretches", [(.ref 399)], [(.ref 478), (.ref 399), (.type "object")], 477, "Stretches", true, [], [(.ref 495), (.ref 512), (.ref 557), (.ref 574)], false, none, false⟩, ((some (.ref 425)) :: none :: (some (.str "Stretches" 755)) :: (some (.str "Stretches" 763)) :: (some (.builtin "object.__new__")) :: (some (.bool true)) :: []).toArray⟩
def XMx : Obj := ⟨(.type "super"), none, .fields ((.ref 478) :: (.ref 478) :: (.ref 478) :: []).toArray, #[]⟩
def XJy : Obj := ⟨(.type "builtin_function_or_method"), none, .fields ((.builtin "object.__init_subclass__") :: (.ref 478) :: []).toArray, #[]⟩
def Xku : Obj := tu (vR 478 :: [])
def XAn (P : Params) : Obj := ⟨(.type "dict"), none, .dict (en P "__module__" 840 (.str "stow.stretches" 746) :: en P "__qualname__" 842 (.str "First" 841) :: en P "__firstlineno__" 844 (.int 251 843) :: en P "chosen" 850 (.ref 492) :: en P "__static_attributes__" 851 (.ref 493) :: []).toArray 5, #[]⟩
def XKs : Obj := fl (vI 253 :: vI 4 :: vR 491 :: [])
def XIp : Obj := cp "First" "First" 835 (vI 251 :: vI 0 :: vI 0 :: vI 0 :: vI 0 :: vR 484 :: (.bool false) :: vI 181 :: vR 485 :: .none :: .none :: .none :: .none :: vI 838 :: vI 251 :: (.str "/claim/cut.py" 839) :: [])
def XJv : Obj := ⟨(.type "frame"), none, .plain, ((some (.ref 486)) :: (some (.ref 3)) :: (some (.ref 483)) :: none :: (some (.str "stow.stretches" 746)) :: none :: (some (.ref 0)) :: []).toArray⟩
def XMo : Obj := fq "chosen" "First.chosen" (Xag (top 47) 0)
def XFr : Obj := cp "chosen" "First.chosen" 845 (vI 253 :: vI 3 :: vI 0 :: vI 0 :: vI 3 :: vR 488 :: (.bool true) :: vI 181 :: vR 489 :: .none :: .none :: .none :: vR 490 :: vI 848 :: vI 253 :: (.str "/claim/cut.py" 849) :: [])
def XCy : Obj := fo "chosen" "First.chosen" (Xag (top 47) 0) .none .none .none (.str "stow.stretches" 746) none (.ref 491) .none none
def Xzb (P : Params) : Obj := ⟨(.type "dict"), none, .dict (en P "__module__" 840 (.str "stow.stretches" 746) :: en P "__firstlineno__" 844 (.int 251 843) :: en P "chosen" 850 (.ref 492) :: en P "__static_attributes__" 851 (.ref 493) :: en P "__doc__" 852 .none :: []).toArray 2, #[]⟩
def Xzr : Obj := ⟨(.type "type"), none, .cls ⟨"First", [(.ref 478)], [(.ref 495), (.ref 478), (.ref 399), (.type "object")], 494, "First", true, [], [], false, none, false⟩, ((some (.ref 481)) :: none :: (some (.str "First" 833)) :: (some (.str "First" 841)) :: (some (.builtin "object.__new__")) :: (some (.bool true)) :: []).toArray⟩
def XGp : Obj := ⟨(.type "super"), none, .fields ((.ref 495) :: (.ref 495) :: (.ref 495) :: []).toArray, #[]⟩
def XIr : Obj := ⟨(.type "builtin_function_or_method"), none, .fields ((.builtin "object.__init_subclass__") :: (.ref 495) :: []).toArray, #[]⟩
def XEq (P : Params) : Obj := ⟨(.type "dict"), none, .dict (en P "__module__" 862 (.str "stow.stretches" 746) :: en P "__qualname__" 864 (.str "Best" 863) :: en P "__firstlineno__" 866 (.int 256 865) :: en P "chosen" 872 (.ref 509) :: en P "__static_attributes__" 873 (.ref 510) :: []).toArray 5, #[]⟩
def XLw : Obj := fl (vI 258 :: vI 4 :: vR 508 :: [])
def XLe : Obj := cp "Best" "Best" 857 (vI 256 :: vI 0 :: vI 0 :: vI 0 :: vI 0 :: vR 501 :: (.bool false) :: vI 181 :: vR 502 :: .none :: .none :: .none :: .none :: vI 860 :: vI 256 :: (.str "/claim/cut.py" 861) :: [])
def XLx : Obj := ⟨(.type "frame"), none, .plain, ((some (.ref 503)) :: (some (.ref 3)) :: (some (.ref 500)) :: none :: (some (.str "stow.stretches" 746)) :: none :: (some (.ref 0)) :: []).toArray⟩
def XKr : Obj := fq "chosen" "Best.chosen" (Xag (top 48) 0)
def XEa : Obj := cp "chosen" "Best.chosen" 867 (vI 258 :: vI 3 :: vI 0 :: vI 0 :: vI 3 :: vR 505 :: (.bool true) :: vI 181 :: vR 506 :: .none :: .none :: .none :: vR 507 :: vI 870 :: vI 258 :: (.str "/claim/cut.py" 871) :: [])
def XAf : Obj := fo "chosen" "Best.chosen" (Xag (top 48) 0) .none .none .none (.str "stow.stretches" 746) none (.ref 508) .none none
def XGd (P : Params) : Obj := ⟨(.type "dict"), none, .dict (en P "__module__" 862 (.str "stow.stretches" 746) :: en P "__firstlineno__" 866 (.int 256 865) :: en P "chosen" 872 (.ref 509) :: en P "__static_attributes__" 873 (.ref 510) :: en P "__doc__" 874 .none :: []).toArray 2, #[]⟩
def XDy : Obj := ⟨(.type "type"), none, .cls ⟨"Best", [(.ref 478)], [(.ref 512), (.ref 478), (.ref 399), (.type "object")], 511, "Best", true, [], [], false, none, false⟩, ((some (.ref 498)) :: none :: (some (.str "Best" 855)) :: (some (.str "Best" 863)) :: (some (.builtin "object.__new__")) :: (some (.bool true)) :: []).toArray⟩
def XJu : Obj := ⟨(.type "super"), none, .fields ((.ref 512) :: (.ref 512) :: (.ref 512) :: []).toArray, #[]⟩
def XMs : Obj := ⟨(.type "builtin_function_or_method"), none, .fields ((.builtin "object.__init_subclass__") :: (.ref 512) :: []).toArray, #[]⟩
def XDc (P : Params) : Obj := ⟨(.type "dict"), none, .dict (en P "__module__" 884 (.str "stow.stretches" 746) :: en P "__qualname__" 886 (.str "Next" 885) :: en P "__firstlineno__" 888 (.int 262 887) :: en P "__init__" 896 (.ref 528) :: en P "rover" 903 (.ref 535) :: en P "chosen" 909 (.ref 540) :: en P "room_begin" 917 (.ref 547) :: en P "room_granted" 925 (.ref 554) :: en P "__static_attributes__" 928 (.ref 555) :: []).toArray 9, #[]⟩
def XKf : Obj := fl (vI 264 :: vI 4 :: vR 527 :: vI 268 :: vI 4 :: vR 534 :: vI 271 :: vI 4 :: vR 539 :: vI 275 :: vI 4 :: vR 546 :: vI 279 :: vI 4 :: vR 553 :: [])
def XNw : Obj := cp "Next" "Next" 879 (vI 262 :: vI 0 :: vI 0 :: vI 0 :: vI 0 :: vR 518 :: (.bool false) :: vI 181 :: vR 519 :: .none :: .none :: .none :: .none :: vI 882 :: vI 262 :: (.str "/claim/cut.py" 883) :: [])
def XHs : Obj := ⟨(.type "frame"), none, .plain, ((some (.ref 520)) :: (some (.ref 3)) :: (some (.ref 517)) :: none :: (some (.str "stow.stretches" 746)) :: none :: (some (.ref 0)) :: []).toArray⟩
def XJi : Obj := tu ((.str "self" 892) :: (.str "size" 893) :: [])
def XMa : Obj := fq "__init__" "Next.__init__" (Xag (top 49) 0)
def XDz : Obj := cp "__init__" "Next.__init__" 889 (vI 264 :: vI 2 :: vI 0 :: vI 0 :: vI 3 :: vR 522 :: (.bool true) :: vI 181 :: vR 523 :: .none :: vR 524 :: vR 525 :: vR 526 :: vI 894 :: vI 264 :: (.str "/claim/cut.py" 895) :: [])
def XEd : Obj := fo "__init__" "Next.__init__" (Xag (top 49) 0) .none .none .none (.str "stow.stretches" 746) none (.ref 527) .none none
def XMy : Obj := tu ((.str "self" 900) :: [])
def XLi : Obj := fq "rover" "Next.rover" (Xag (top 49) 1)
def XLb : Obj := cp "rover" "Next.rover" 897 (vI 268 :: vI 1 :: vI 0 :: vI 0 :: vI 3 :: vR 529 :: (.bool true) :: vI 181 :: vR 530 :: .none :: vR 531 :: vR 532 :: vR 533 :: vI 901 :: vI 268 :: (.str "/claim/cut.py" 902) :: [])
def XNh : Obj := fo "rover" "Next.rover" (Xag (top 49) 1) .none .none .none (.str "stow.stretches" 746) none (.ref 534) .none none
def XKh : Obj := fq "chosen" "Next.chosen" (Xag (top 49) 2)
def XEe : Obj := cp "chosen" "Next.chosen" 904 (vI 271 :: vI 3 :: vI 0 :: vI 0 :: vI 3 :: vR 536 :: (.bool true) :: vI 181 :: vR 537 :: .none :: .none :: .none :: vR 538 :: vI 907 :: vI 271 :: (.str "/claim/cut.py" 908) :: [])
def XFi : Obj := fo "chosen" "Next.chosen" (Xag (top 49) 2) .none .none .none (.str "stow.stretches" 746) none (.ref 539) .none none
def XMe : Obj := tu ((.str "self" 913) :: (.str "cells" 914) :: [])
def XHh : Obj := fq "room_begin" "Next.room_begin" (Xag (top 49) 3)
def XEs : Obj := cp "room_begin" "Next.room_begin" 910 (vI 275 :: vI 2 :: vI 0 :: vI 0 :: vI 3 :: vR 541 :: (.bool true) :: vI 181 :: vR 542 :: .none :: vR 543 :: vR 544 :: vR 545 :: vI 915 :: vI 275 :: (.str "/claim/cut.py" 916) :: [])
def Xyx : Obj := fo "room_begin" "Next.room_begin" (Xag (top 49) 3) .none .none .none (.str "stow.stretches" 746) none (.ref 546) .none none
def XJx : Obj := tu ((.str "self" 921) :: (.str "behind" 922) :: [])
def XJs : Obj := fq "room_granted" "Next.room_granted" (Xag (top 49) 4)
def XFs : Obj := cp "room_granted" "Next.room_granted" 918 (vI 279 :: vI 2 :: vI 0 :: vI 0 :: vI 3 :: vR 548 :: (.bool true) :: vI 181 :: vR 549 :: .none :: vR 550 :: vR 551 :: vR 552 :: vI 923 :: vI 279 :: (.str "/claim/cut.py" 924) :: [])
def XAj : Obj := fo "room_granted" "Next.room_granted" (Xag (top 49) 4) .none .none .none (.str "stow.stretches" 746) none (.ref 553) .none none
def XMk : Obj := tu ((.str "room_cells" 926) :: (.str "room_rover" 927) :: [])
def XEz (P : Params) : Obj := ⟨(.type "dict"), none, .dict (en P "__module__" 884 (.str "stow.stretches" 746) :: en P "__firstlineno__" 888 (.int 262 887) :: en P "__init__" 896 (.ref 528) :: en P "rover" 903 (.ref 535) :: en P "chosen" 909 (.ref 540) :: en P "room_begin" 917 (.ref 547) :: en P "room_granted" 925 (.ref 554) :: en P "__static_attributes__" 928 (.ref 555) :: en P "__doc__" 929 .none :: []).toArray 2, #[]⟩
def XDn : Obj := ⟨(.type "type"), none, .cls ⟨"Next", [(.ref 478)], [(.ref 557), (.ref 478), (.ref 399), (.type "object")], 556, "Next", true, [], [], false, none, false⟩, ((some (.ref 515)) :: none :: (some (.str "Next" 877)) :: (some (.str "Next" 885)) :: (some (.builtin "object.__new__")) :: (some (.bool true)) :: []).toArray⟩
def XLf : Obj := ⟨(.type "super"), none, .fields ((.ref 557) :: (.ref 557) :: (.ref 557) :: []).toArray, #[]⟩
def XGq : Obj := ⟨(.type "builtin_function_or_method"), none, .fields ((.builtin "object.__init_subclass__") :: (.ref 557) :: []).toArray, #[]⟩
def XEg (P : Params) : Obj := ⟨(.type "dict"), none, .dict (en P "__module__" 939 (.str "stow.stretches" 746) :: en P "__qualname__" 941 (.str "Likes" 940) :: en P "__firstlineno__" 943 (.int 281 942) :: en P "chosen" 949 (.ref 571) :: en P "__static_attributes__" 950 (.ref 572) :: []).toArray 5, #[]⟩
def XIf : Obj := fl (vI 283 :: vI 4 :: vR 570 :: [])
def XHd : Obj := cp "Likes" "Likes" 934 (vI 281 :: vI 0 :: vI 0 :: vI 0 :: vI 0 :: vR 563 :: (.bool false) :: vI 181 :: vR 564 :: .none :: .none :: .none :: .none :: vI 937 :: vI 281 :: (.str "/claim/cut.py" 938) :: [])
def XLs : Obj := ⟨(.type "frame"), none, .plain, ((some (.ref 565)) :: (some (.ref 3)) :: (some (.ref 562)) :: none :: (some (.str "stow.stretches" 746)) :: none :: (some (.ref 0)) :: []).toArray⟩
def XHp : Obj := fq "chosen" "Likes.chosen" (Xag (top 50) 0)
def XCl : Obj := cp "chosen" "Likes.chosen" 944 (vI 283 :: vI 3 :: vI 0 :: vI 0 :: vI 3 :: vR 567 :: (.bool true) :: vI 181 :: vR 568 :: .none :: .none :: .none :: vR 569 :: vI 947 :: vI 283 :: (.str "/claim/cut.py" 948) :: [])
def XDr : Obj := fo "chosen" "Likes.chosen" (Xag (top 50) 0) .none .none .none (.str "stow.stretches" 746) none (.ref 570) .none none
def XFa (P : Params) : Obj := ⟨(.type "dict"), none, .dict (en P "__module__" 939 (.str "stow.stretches" 746) :: en P "__firstlineno__" 943 (.int 281 942) :: en P "chosen" 949 (.ref 571) :: en P "__static_attributes__" 950 (.ref 572) :: en P "__doc__" 951 .none :: []).toArray 2, #[]⟩
def XCn : Obj := ⟨(.type "type"), none, .cls ⟨"Likes", [(.ref 478)], [(.ref 574), (.ref 478), (.ref 399), (.type "object")], 573, "Likes", true, [], [], false, none, false⟩, ((some (.ref 560)) :: none :: (some (.str "Likes" 932)) :: (some (.str "Likes" 940)) :: (some (.builtin "object.__new__")) :: (some (.bool true)) :: []).toArray⟩
def XKg : Obj := ⟨(.type "super"), none, .fields ((.ref 574) :: (.ref 574) :: (.ref 574) :: []).toArray, #[]⟩
def XGx : Obj := ⟨(.type "builtin_function_or_method"), none, .fields ((.builtin "object.__init_subclass__") :: (.ref 574) :: []).toArray, #[]⟩
def XLy : Obj := tu ((.str "word" 957) :: (.str "size" 958) :: [])
def XIk : Obj := fq "stretches_of" "stretches_of" (top 51)
def XFy : Obj := cp "stretches_of" "stretches_of" 954 (vI 287 :: vI 2 :: vI 0 :: vI 0 :: vI 3 :: vR 577 :: (.bool true) :: vI 181 :: vR 578 :: .none :: vR 579 :: vR 580 :: vR 581 :: vI 959 :: vI 287 :: (.str "/claim/cut.py" 960) :: [])
def XBr : Obj := fo "stretches_of" "stretches_of" (top 51) .none .none .none (.str "stow.stretches" 746) none (.ref 582) .none none
def XKb : Obj := tu ((.str "_law_script" 967) :: (.str "_law_k" 968) :: [])
def XKm : Obj := fq "_law_cell_at" "_law_cell_at" (top 53)
def XDa : Obj := cp "_law_cell_at" "_law_cell_at" 964 (vI 298 :: vI 2 :: vI 0 :: vI 0 :: vI 3 :: vR 584 :: (.bool true) :: vI 181 :: vR 585 :: .none :: vR 586 :: vR 587 :: vR 588 :: vI 969 :: vI 298 :: (.str "/claim/cut.py" 970) :: [])
def XAr : Obj := fo "_law_cell_at" "_law_cell_at" (top 53) .none .none .none (.str "law_stow_k21_refused" 962) none (.ref 589) .none none
def XGj : Obj := tu ((.str "_law_cells" 975) :: (.str "_law_pieces" 976) :: (.str "_law_at" 977) :: (.str "_law_long" 978) :: [])
def XGr : Obj := fq "_law_walk" "_law_walk" (top 54)
def XFf : Obj := cp "_law_walk" "_law_walk" 972 (vI 302 :: vI 1 :: vI 0 :: vI 0 :: vI 3 :: vR 591 :: (.bool true) :: vI 181 :: vR 592 :: .none :: vR 593 :: vR 594 :: vR 595 :: vI 979 :: vI 302 :: (.str "/claim/cut.py" 980) :: [])
def XGf : Obj := fo "_law_walk" "_law_walk" (top 54) .none .none .none (.str "law_stow_k21_refused" 962) none (.ref 596) .none none
def XIv : Obj := tu ((.str "_law_e" 985) :: (.str "_law_words" 986) :: [])
def XIs : Obj := fq "_law_word" "_law_word" (top 55)
def Xyl : Obj := cp "_law_word" "_law_word" 982 (vI 312 :: vI 1 :: vI 0 :: vI 0 :: vI 3 :: vR 598 :: (.bool true) :: vI 181 :: vR 599 :: .none :: vR 600 :: vR 601 :: vR 602 :: vI 987 :: vI 312 :: (.str "/claim/cut.py" 988) :: [])
def Xzd : Obj := fo "_law_word" "_law_word" (top 55) .none .none .none (.str "law_stow_k21_refused" 962) none (.ref 603) .none none
def XHw (P : Params) : Obj := ⟨(.type "dict"), none, .dict (en P "__name__" 165 (.str "law_stow_k21_refused" 962) :: en P "__doc__" 166 .none :: en P "__package__" 167 .none :: en P "__loader__" 168 (.builtin "__main__.__loader__#opaque") :: en P "__spec__" 169 .none :: en P "__annotations__" 170 (.ref 6) :: en P "__builtins__" 171 (.ref 4) :: en P "__file__" 173 (.str "/claim/cut.py" 172) :: en P "__cached__" 174 .none :: en P "_wall" 193 (.ref 21) :: en P "StowError" 213 (.ref 31) :: en P "NoName" 229 (.ref 44) :: en P "NoSize" 245 (.ref 56) :: en P "Broken" 270 (.ref 75) :: en P "NoPiece" 286 (.ref 87) :: en P "NoCell" 302 (.ref 99) :: en P "NoAsk" 318 (.ref 111) :: en P "NoBound" 334 (.ref 123) :: en P "NoRoom" 350 (.ref 135) :: en P "MARKS" 354 (.int 2 353) :: en P "check_ask" 362 (.ref 144) :: en P "check_plain_ask" 370 (.ref 151) :: en P "mark_of" 380 (.ref 158) :: en P "long_of" 387 (.ref 165) :: en P "live_of" 394 (.ref 172) :: en P "LEAST_LIVE" 398 (.int 3 397) :: en P "can_begin" 407 (.ref 179) :: en P "bad_of_piece" 416 (.ref 186) :: en P "looked" 427 (.ref 193) :: en P "fresh_room" 435 (.ref 200) :: en P "laid" 448 (.ref 207) :: en P "laid_free" 457 (.ref 214) :: en P "piece_at" 466 (.ref 221) :: en P "live_at" 475 (.ref 228) :: en P "free_at" 484 (.ref 235) :: en P "begin_around" 490 (.ref 240) :: en P "free_begin" 498 (.ref 247) :: en P "free_end" 506 (.ref 254) :: en P "cut_out" 521 (.ref 261) :: en P "freed" 532 (.ref 268) :: en P "joined_pieces" 543 (.ref 275) :: en P "joined" 554 (.ref 282) :: en P "carried" 565 (.ref 289) :: en P "Keeper" 718 (.ref 399) :: en P "first_place" 733 (.ref 410) :: en P "spots_for" 745 (.ref 417) :: en P "least_place" 754 (.ref 424) :: en P "Stretches" 832 (.ref 478) :: en P "First" 854 (.ref 495) :: en P "Best" 876 (.ref 512) :: en P "Next" 931 (.ref 557) :: en P "Likes" 953 (.ref 574) :: en P "stretches_of" 961 (.ref 583) :: en P "_law_cell_at" 971 (.ref 590) :: en P "_law_walk" 981 (.ref 597) :: en P "_law_word" 989 (.ref 604) :: en P "_law_done" 1000 (.ref 611) :: en P "_law_tried" 1013 (.ref 618) :: en P "_law_room_for" 1024 (.ref 625) :: en P "_law_stays" 1036 (.ref 632) :: en P "_law_due" 1050 (.ref 639) :: en P "_law_step" 1056 (.ref 644) :: en P "law" 1066 (.ref 651) :: []).toArray 63, #[]⟩
def XPx : Obj := fl (vI 1 :: vI 0 :: vR 20 :: vI 5 :: vI 0 :: vR 27 :: vI 7 :: vI 0 :: vR 40 :: vI 9 :: vI 0 :: vR 52 :: vI 11 :: vI 0 :: vR 64 :: vI 15 :: vI 0 :: vR 83 :: vI 17 :: vI 0 :: vR 95 :: vI 19 :: vI 0 :: vR 107 :: vI 21 :: vI 0 :: vR 119 :: vI 23 :: vI 0 :: vR 131 :: vI 27 :: vI 0 :: vR 143 :: vI 30 :: vI 0 :: vR 150 :: vI 35 :: vI 0 :: vR 157 :: vI 39 :: vI 0 :: vR 164 :: vI 41 :: vI 0 :: vR 171 :: vI 45 :: vI 0 :: vR 178 :: vI 50 :: vI 0 :: vR 185 :: vI 57 :: vI 0 :: vR 192 :: vI 68 :: vI 0 :: vR 199 :: vI 76 :: vI 0 :: vR 206 :: vI 81 :: vI 0 :: vR 213 :: vI 85 :: vI 0 :: vR 220 :: vI 90 :: vI 0 :: vR 227 :: vI 95 :: vI 0 :: vR 234 :: vI 100 :: vI 0 :: vR 239 :: vI 103 :: vI 0 :: vR 246 :: vI 107 :: vI 0 :: vR 253 :: vI 111 :: vI 0 :: vR 260 :: vI 119 :: vI 0 :: vR 267 :: vI 122 :: vI 0 :: vR 274 :: vI 130 :: vI 0 :: vR 281 :: vI 135 :: vI 0 :: vR 288 :: vI 139 :: vI 0 :: vR 295 :: vI 200 :: vI 0 :: vR 409 :: vI 206 :: vI 0 :: vR 416 :: vI 214 :: vI 0 :: vR 423 :: vI 218 :: vI 0 :: vR 430 :: vI 251 :: vI 0 :: vR 486 :: vI 256 :: vI 0 :: vR 503 :: vI 262 :: vI 0 :: vR 520 :: vI 281 :: vI 0 :: vR 565 :: vI 287 :: vI 0 :: vR 582 :: vI 298 :: vI 0 :: vR 589 :: vI 302 :: vI 0 :: vR 596 :: vI 312 :: vI 0 :: vR 603 :: vI 327 :: vI 0 :: vR 610 :: vI 348 :: vI 0 :: vR 617 :: vI 355 :: vI 0 :: vR 624 :: vI 361 :: vI 0 :: vR 631 :: vI 367 :: vI 0 :: vR 638 :: vI 388 :: vI 0 :: vR 643 :: vI 405 :: vI 0 :: vR 650 :: [])
def XOg : Obj := tu ((.str "_law_keeper" 993) :: (.str "_law_way" 994) :: (.str "_law_place" 995) :: (.str "_law_k" 996) :: (.str "_law_count" 997) :: [])
def XQw : Obj := fq "_law_done" "_law_done" (top 56)
def XJf : Obj := cp "_law_done" "_law_done" 990 (vI 327 :: vI 5 :: vI 0 :: vI 0 :: vI 3 :: vR 605 :: (.bool true) :: vI 181 :: vR 606 :: .none :: vR 607 :: vR 608 :: vR 609 :: vI 998 :: vI 327 :: (.str "/claim/cut.py" 999) :: [])
def XJe : Obj := fo "_law_done" "_law_done" (top 56) .none .none .none (.str "law_stow_k21_refused" 962) none (.ref 610) .none none
def XQk : Obj := tu ((.str "_law_keeper" 1004) :: (.str "_law_way" 1005) :: (.str "_law_place" 1006) :: (.str "_law_k" 1007) :: (.str "_law_count" 1008) :: (.str "_law_word_here" 1009) :: (.str "_law_e" 1010) :: [])
def XPs : Obj := fq "_law_tried" "_law_tried" (top 57)
def XIw : Obj := cp "_law_tried" "_law_tried" 1001 (vI 348 :: vI 5 :: vI 0 :: vI 0 :: vI 3 :: vR 612 :: (.bool true) :: vI 181 :: vR 613 :: .none :: vR 614 :: vR 615 :: vR 616 :: vI 1011 :: vI 348 :: (.str "/claim/cut.py" 1012) :: [])
def XMc : Obj := fo "_law_tried" "_law_tried" (top 57) .none .none .none (.str "law_stow_k21_refused" 962) none (.ref 617) .none none
def XPq : Obj := tu ((.str "_law_pieces" 1017) :: (.str "_law_long" 1018) :: (.str "_law_bound" 1019) :: (.str "_law_piece" 1020) :: (.str "_law_spot" 1021) :: [])
def XQf : Obj := fq "_law_room_for" "_law_room_for" (top 58)
def XKo : Obj := cp "_law_room_for" "_law_room_for" 1014 (vI 355 :: vI 3 :: vI 0 :: vI 0 :: vI 3 :: vR 619 :: (.bool true) :: vI 181 :: vR 620 :: .none :: vR 621 :: vR 622 :: vR 623 :: vI 1022 :: vI 355 :: (.str "/claim/cut.py" 1023) :: [])
def XHv : Obj := fo "_law_room_for" "_law_room_for" (top 58) .none .none .none (.str "law_stow_k21_refused" 962) none (.ref 624) .none none
def XQp : Obj := tu ((.str "_law_pieces" 1028) :: (.str "_law_place" 1029) :: (.str "_law_long" 1030) :: (.str "_law_bound" 1031) :: (.str "_law_end" 1032) :: (.str "_law_piece" 1033) :: [])
def XPi : Obj := fq "_law_stays" "_law_stays" (top 59)
def XHo : Obj := cp "_law_stays" "_law_stays" 1025 (vI 361 :: vI 4 :: vI 0 :: vI 0 :: vI 3 :: vR 626 :: (.bool true) :: vI 181 :: vR 627 :: .none :: vR 628 :: vR 629 :: vR 630 :: vI 1034 :: vI 361 :: (.str "/claim/cut.py" 1035) :: [])
def XMp : Obj := fo "_law_stays" "_law_stays" (top 59) .none .none .none (.str "law_stow_k21_refused" 962) none (.ref 631) .none none
def XOx : Obj := tu ((.str "_law_pieces" 1040) :: (.str "_law_way" 1041) :: (.str "_law_place" 1042) :: (.str "_law_k" 1043) :: (.str "_law_count" 1044) :: (.str "_law_many" 1045) :: (.str "_law_piece" 1046) :: (.str "_law_bound" 1047) :: [])
def XOy : Obj := fq "_law_due" "_law_due" (top 60)
def XKy : Obj := cp "_law_due" "_law_due" 1037 (vI 367 :: vI 5 :: vI 0 :: vI 0 :: vI 3 :: vR 633 :: (.bool true) :: vI 181 :: vR 634 :: .none :: vR 635 :: vR 636 :: vR 637 :: vI 1048 :: vI 367 :: (.str "/claim/cut.py" 1049) :: [])
def XHg : Obj := fo "_law_due" "_law_due" (top 60) .none .none .none (.str "law_stow_k21_refused" 962) none (.ref 638) .none none
def XNx : Obj := fq "_law_step" "_law_step" (top 61)
def XLc : Obj := cp "_law_step" "_law_step" 1051 (vI 388 :: vI 3 :: vI 0 :: vI 0 :: vI 3 :: vR 640 :: (.bool true) :: vI 181 :: vR 641 :: .none :: .none :: .none :: vR 642 :: vI 1054 :: vI 388 :: (.str "/claim/cut.py" 1055) :: [])
def XHt : Obj := fo "_law_step" "_law_step" (top 61) .none .none .none (.str "law_stow_k21_refused" 962) none (.ref 643) .none none
def XOh : Obj := tu ((.str "_law_script" 1060) :: (.str "_law_size" 1061) :: (.str "_law_keeper" 1062) :: (.str "_law_c" 1063) :: [])
def XPn : Obj := fq "law" "law" (top 62)
def XIn : Obj := cp "law" "law" 1057 (vI 405 :: vI 1 :: vI 0 :: vI 0 :: vI 3 :: vR 645 :: (.bool true) :: vI 181 :: vR 646 :: .none :: vR 647 :: vR 648 :: vR 649 :: vI 1064 :: vI 405 :: (.str "/claim/cut.py" 1065) :: [])
def XIx : Obj := fo "law" "law" (top 62) .none .none .none (.str "law_stow_k21_refused" 962) none (.ref 650) .none none
noncomputable def XIm : Params → Heap := fun P => ⟨Array.mk (PySem.W.boot_o_0 P :: PySem.W.boot_o_1 P :: PySem.W.boot_o_2 P :: PySem.W.boot_o_3 P :: PySem.W.boot_o_4 P :: PySem.W.boot_o_5 P :: PySem.W.boot_o_6 P :: PySem.W.boot_o_7 P :: PySem.W.boot_o_8 P :: PySem.W.boot_o_9 P :: PySem.W.boot_o_10 P :: ho0 :: ho1 :: ho2 :: ho3 :: []), ⟨[], [], [], 0, [], [], false, #[], [], 0, false, false, false, 0, [2000, 10, 10], false, 0, true, [], [], 0, false⟩⟩
def Xsh : List Stmt := PySem.W.behindTheImports PySem.Challenge.pw_stow_k21_refused
def sts0 : List Stmt := (Xsh.drop 0).take 10
def sts1 : List Stmt := (Xsh.drop 10).take 35
def sts2 : List Stmt := (Xsh.drop 45).take 11
def sts3 : List Stmt := (Xsh.drop 56).take 7
def all0 : List Stmt := sts0 ++ (sts1 ++ (sts2 ++ (sts3 ++ [])))
def env0 : Env := { scope := (PySem.Challenge.pw_stow_k21_refused).main.scope, locals := mainNs, globals := mainNs, cells := [], code := (.ref 13), frame := some 14 }
def Xgr : Code := .body all0 env0
theorem pre0 (w : World) (os : OsState) : PySem.W.topGo treeTable PySem.Challenge.pw_stow_k21_refused w 11 (some (.ref 6)) 12 ⟨PySem.W.boot_heap w.params, Array.mk [], PySem.W.boot_drawn, PySem.W.boot_toks, os⟩ (PySem.W.topStub PySem.Challenge.pw_stow_k21_refused) = some (⟨XIm w.params, #[], ⟨0, 0, 0, 0⟩, 187, os⟩, ⟨denote treeTable (.body all0 env0), Xgr, ⟨0, 0, 0, 0⟩, [PySem.W.topFrame ⟨0, 0, 0, 0⟩]⟩) := by kernel_rfl
noncomputable def XGs : Params → PySem.W.BT := fun P => (.node (PySem.W.boot_o_0 P) (.node (PySem.W.boot_o_1 P) (.node (PySem.W.boot_o_3 P) (.node (PySem.W.boot_o_7 P) .nil .nil) (.node ho0 .nil .nil)) (.node (PySem.W.boot_o_5 P) (.node (PySem.W.boot_o_9 P) .nil .nil) (.node ho2 .nil .nil))) (.node (PySem.W.boot_o_2 P) (.node (PySem.W.boot_o_4 P) (.node (PySem.W.boot_o_8 P) .nil .nil) (.node ho1 .nil .nil)) (.node (PySem.W.boot_o_6 P) (.node (PySem.W.boot_o_10 P) .nil .nil) (.node ho3 .nil .nil))))
theorem blk0 (w : World) (os : OsState) : PySem.W.segRun treeTable PySem.Challenge.pw_stow_k21_refused w 11 (some (.ref 6)) 1 1 ⟨XIm w.params, #[], ⟨0, 0, 0, 0⟩, 187, os⟩ (PySem.W.blockOf all0 env0 Xgr ⟨0, 0, 0, 0⟩ [PySem.W.topFrame ⟨0, 0, 0, 0⟩]) = some (.next, (PySem.W.SharedT.mk (XGs w.params) 15 ⟨[], [], [], 0, [], [], false, #[], [], 0, false, false, false, 0, [2000, 10, 10], false, 0, true, [], [], 0, false⟩ #[] ⟨0, 0, 0, 0⟩ 187 os).abs, Xgr, ⟨0, 0, 0, 0⟩) := by kernel_rfl
noncomputable def Xqm : Params → PySem.W.BT := fun P => (.node (PySem.W.boot_o_0 P) (.node (PySem.W.boot_o_1 P) (.node (ho4 P) (.node (PySem.W.boot_o_7 P) (.node ho0 (.node ho22 (.node ho54 .nil .nil) (.node ho86 .nil .nil)) (.node ho26 (.node ho14 .nil .nil) (.node Xpn .nil .nil))) (.node ho14 (.node ho1 (.node ho62 .nil .nil) (.node ho14 .nil .nil)) (.node (ho46 P) (.node ho78 .nil .nil) (.node Xwk .nil .nil)))) (.node ho0 (.node ho10 (.node ho26 (.node ho1 .nil .nil) (.node ho90 .nil .nil)) (.node ho1 (.node ho74 .nil .nil) (.node ho14 .nil .nil))) (.node ho18 (.node (ho34 P) (.node ho66 .nil .nil) (.node ho98 .nil .nil)) (.node ho26 (.node ho14 .nil .nil) (.node Xpa .nil .nil))))) (.node (PySem.W.boot_o_5 P) (.node (PySem.W.boot_o_9 P) (.node ho8 (.node ho24 (.node ho56 .nil .nil) (.node ho0 .nil .nil)) (.node (ho40 P) (.node ho0 .nil .nil) (.node Xte .nil .nil))) (.node ho0 (.node ho32 (.node ho64 .nil .nil) (.node ho0 .nil .nil)) (.node ho48 (.node ho80 .nil .nil) (.node ho0 .nil .nil)))) (.node ho2 (.node ho12 (.node (ho28 P) (.node ho0 .nil .nil) (.node ho92 .nil .nil)) (.node ho44 (.node ho0 .nil .nil) (.node ho0 .nil .nil))) (.node ho0 (.node ho36 (.node ho68 .nil .nil) (.node ho0 .nil .nil)) (.node (ho52 P) (.node ho0 .nil .nil) (.node Xwi .nil .nil)))))) (.node (PySem.W.boot_o_2 P) (.node (PySem.W.boot_o_4 P) (.node (PySem.W.boot_o_8 P) (.node ho1 (.node ho23 (.node ho55 .nil .nil) (.node ho87 .nil .nil)) (.node ho14 (.node (ho71 P) .nil .nil) (.node Xvg .nil .nil))) (.node (ho15 P) (.node ho31 (.node ho63 .nil .nil) (.node (ho95 P) .nil .nil)) (.node ho47 (.node ho79 .nil .nil) (.node Xuc .nil .nil)))) (.node ho5 (.node ho11 (.node ho14 (.node ho59 .nil .nil) (.node ho91 .nil .nil)) (.node ho43 (.node ho75 .nil .nil) (.node (Xpv P) .nil .nil))) (.node ho19 (.node ho35 (.node ho67 .nil .nil) (.node ho99 .nil .nil)) (.node ho14 (.node (ho83 P) .nil .nil) (.node Xtk .nil .nil))))) (.node (PySem.W.boot_o_6 P) (.node (PySem.W.boot_o_10 P) (.node ho0 (.node ho25 (.node ho0 .nil .nil) (.node (ho89 P) .nil .nil)) (.node ho0 (.node ho1 .nil .nil) (.node ho26 .nil .nil))) (.node ho1 (.node ho0 (.node (ho65 P) .nil .nil) (.node ho1 .nil .nil)) (.node ho49 (.node ho26 .nil .nil) (.node (Xpu P) .nil .nil)))) (.node ho3 (.node ho13 (.node ho0 (.node ho61 .nil .nil) (.node ho26 .nil .nil)) (.node ho0 (.node (ho77 P) .nil .nil) (.node ho1 .nil .nil))) (.node (ho21 P) (.node ho37 (.node ho26 .nil .nil) (.node (Xsd P) .nil .nil)) (.node ho0 (.node ho1 .nil .nil) .nil))))))
theorem grp0 (w : World) (os : OsState) : PySem.W.segRunT treeTable PySem.Challenge.pw_stow_k21_refused w 11 (some (.ref 6)) 1 1748 (PySem.W.SharedT.mk (XGs w.params) 15 ⟨[], [], [], 0, [], [], false, #[], [], 0, false, false, false, 0, [2000, 10, 10], false, 0, true, [], [], 0, false⟩ #[] ⟨0, 0, 0, 0⟩ 187 os) (PySem.W.piecesOf sts0 env0 Xgr ⟨0, 0, 0, 0⟩ [PySem.W.topFrame ⟨0, 0, 0, 0⟩]) = some (.next, (PySem.W.SharedT.mk (Xqm w.params) 126 ⟨[], [], [], 0, [], [], false, #[], [], 0, false, false, false, 0, [2000, 10, 10], false, 0, true, [], [], 0, false⟩ #[] ⟨0, 0, 0, 0⟩ 335 os), Xgr, ⟨21, 0, 22, 8⟩) := by kernel_rfl
noncomputable def Xrx : Params → PySem.W.BT := fun P => (.node (PySem.W.boot_o_0 P) (.node (PySem.W.boot_o_1 P) (.node (XPv P) (.node (PySem.W.boot_o_7 P) (.node ho0 (.node Xvm (.node ho54 (.node ho14 (.node ho0 .nil .nil) (.node ho0 .nil .nil)) (.node XBz (.node ho1 .nil .nil) .nil)) (.node ho86 (.node ho0 (.node XBm .nil .nil) (.node XAt .nil .nil)) (.node ho1 (.node Xvb .nil .nil) .nil))) (.node ho26 (.node ho14 (.node Xua (.node XBl .nil .nil) (.node XQm .nil .nil)) (.node Xtr (.node ho0 .nil .nil) .nil)) (.node Xpn (.node Xys (.node Xxg .nil .nil) .nil) (.node Xtt (.node XBf .nil .nil) .nil)))) (.node ho14 (.node ho1 (.node ho62 (.node Xts (.node ho1 .nil .nil) (.node ho1 .nil .nil)) (.node Xtg (.node XBg .nil .nil) .nil)) (.node ho14 (.node ho1 (.node XCg .nil .nil) .nil) (.node XCp (.node Xyz .nil .nil) .nil))) (.node (ho46 P) (.node ho78 (.node Xuh (.node ho0 .nil .nil) (.node ho0 .nil .nil)) (.node ho0 (.node XAi .nil .nil) .nil)) (.node Xwk (.node ho0 (.node ho0 .nil .nil) .nil) (.node Xut (.node XGe .nil .nil) .nil))))) (.node ho0 (.node ho10 (.node ho26 (.node ho1 (.node Xzi (.node XEk .nil .nil) (.node XFt .nil .nil)) (.node ho1 (.node Xtl .nil .nil) .nil)) (.node ho90 (.node Xzv (.node ho14 .nil .nil) .nil) (.node Xsw (.node ho1 .nil .nil) .nil))) (.node ho1 (.node ho74 (.node XFz (.node Xws .nil .nil) (.node XCi .nil .nil)) (.node ho0 (.node ho0 .nil .nil) .nil)) (.node ho14 (.node Xtf (.node ho0 .nil .nil) .nil) (.node XFq (.node XAa .nil .nil) .nil)))) (.node ho18 (.node (ho34 P) (.node ho66 (.node ho1 (.node Xvi .nil .nil) (.node Xta .nil .nil)) (.node XDv (.node Xtn .nil .nil) .nil)) (.node ho98 (.node Xuz (.node Xzj .nil .nil) .nil) (.node Xsv (.node Xzz .nil .nil) .nil))) (.node ho26 (.node ho14 (.node ho0 (.node ho0 .nil .nil) (.node ho0 .nil .nil)) (.node Xzt (.node ho1 .nil .nil) .nil)) (.node Xpa (.node ho0 (.node Xzo .nil .nil) .nil) (.node ho0 (.node ho0 .nil .nil) .nil)))))) (.node (PySem.W.boot_o_5 P) (.node (PySem.W.boot_o_9 P) (.node ho8 (.node ho24 (.node ho56 (.node ho0 (.node XBu .nil .nil) (.node XAx .nil .nil)) (.node Xsp (.node ho0 .nil .nil) .nil)) (.node ho0 (.node XEp (.node Xxb .nil .nil) (.node Xwh .nil .nil)) (.node ho0 (.node XCz .nil .nil) .nil))) (.node (ho40 P) (.node ho0 (.node ho0 (.node XFk .nil .nil) (.node XDk .nil .nil)) (.node ho1 (.node Xuf .nil .nil) .nil)) (.node Xte (.node XDd (.node ho1 .nil .nil) .nil) (.node ho0 (.node ho0 .nil .nil) .nil)))) (.node ho0 (.node ho32 (.node ho64 (.node XAs (.node ho0 .nil .nil) (.node ho0 .nil .nil)) (.node ho0 (.node XEh .nil .nil) .nil)) (.node ho0 (.node ho0 (.node ho0 .nil .nil) .nil) (.node XGb (.node ho0 .nil .nil) .nil))) (.node ho48 (.node ho80 (.node ho1 (.node Xso .nil .nil) (.node Xum .nil .nil)) (.node XBb (.node Xuw .nil .nil) .nil)) (.node ho0 (.node Xxc (.node XEv .nil .nil) .nil) (.node ho1 (.node ho1 .nil .nil) .nil))))) (.node ho2 (.node ho12 (.node (ho28 P) (.node ho0 (.node ho0 (.node Xsx .nil .nil) (.node Xsz .nil .nil)) (.node ho0 (.node ho0 .nil .nil) .nil)) (.node ho92 (.node Xwp (.node ho0 .nil .nil) .nil) (.node ho0 (.node ho0 .nil .nil) .nil))) (.node ho44 (.node ho0 (.node XDp (.node ho1 .nil .nil) (.node ho1 .nil .nil)) (.node Xwd (.node Xyn .nil .nil) .nil)) (.node ho0 (.node ho1 (.node Xwm .nil .nil) .nil) (.node XEm (.node Xzf .nil .nil) .nil)))) (.node ho0 (.node ho36 (.node ho68 (.node ho0 (.node ho0 .nil .nil) (.node XEj .nil .nil)) (.node XDi (.node ho1 .nil .nil) .nil)) (.node ho0 (.node ho0 (.node XFm .nil .nil) .nil) (.node ho1 (.node XBc .nil .nil) .nil))) (.node (ho52 P) (.node ho0 (.node Xtj (.node Xyy .nil .nil) (.node XAl .nil .nil)) (.node Xuy (.node ho0 .nil .nil) .nil)) (.node Xwi (.node XEo (.node XFl .nil .nil) .nil) (.node Xsu (.node XEw .nil .nil) .nil))))))) (.node (PySem.W.boot_o_2 P) (.node (PySem.W.boot_o_4 P) (.node (PySem.W.boot_o_8 P) (.node ho1 (.node ho23 (.node ho55 (.node (Xvy P) (.node ho1 .nil .nil) (.node ho1 .nil .nil)) (.node Xus (.node XFj .nil .nil) .nil)) (.node ho87 (.node ho1 (.node Xwf .nil .nil) (.node Xup .nil .nil)) (.node XDs (.node Xtx .nil .nil) .nil))) (.node ho14 (.node (ho71 P) (.node Xsj (.node ho0 .nil .nil) (.node XAg .nil .nil)) (.node ho0 (.node XCr .nil .nil) .nil)) (.node Xvg (.node ho0 (.node ho0 .nil .nil) .nil) (.node Xwo (.node Xzp .nil .nil) .nil)))) (.node (ho15 P) (.node ho31 (.node ho63 (.node XCk (.node XGh .nil .nil) (.node XAd .nil .nil)) (.node Xvf (.node ho0 .nil .nil) .nil)) (.node (ho95 P) (.node XCd (.node XCm .nil .nil) .nil) (.node ho0 (.node Xzs .nil .nil) .nil))) (.node ho47 (.node ho79 (.node ho0 (.node XBi .nil .nil) (.node Xyk .nil .nil)) (.node ho1 (.node Xsi .nil .nil) .nil)) (.node Xuc (.node XCu (.node ho1 .nil .nil) .nil) (.node ho0 (.node ho0 .nil .nil) .nil))))) (.node XQa (.node ho11 (.node ho14 (.node ho59 (.node XCe (.node Xtm .nil .nil) (.node Xsn .nil .nil)) (.node XAm (.node Xui .nil .nil) .nil)) (.node ho91 (.node Xvd (.node (Xxf P) .nil .nil) .nil) (.node Xve (.node XFv .nil .nil) .nil))) (.node ho43 (.node ho75 (.node ho0 (.node ho0 .nil .nil) (.node ho0 .nil .nil)) (.node XEr (.node ho1 .nil .nil) .nil)) (.node (Xpv P) (.node ho0 (.node Xzk .nil .nil) .nil) (.node ho0 (.node ho0 .nil .nil) .nil)))) (.node ho19 (.node ho35 (.node ho67 (.node XEy (.node Xvv .nil .nil) (.node Xuk .nil .nil)) (.node ho0 (.node ho0 .nil .nil) .nil)) (.node ho99 (.node Xsl (.node ho0 .nil .nil) .nil) (.node ho0 (.node ho0 .nil .nil) .nil))) (.node ho14 (.node (ho83 P) (.node XCj (.node ho1 .nil .nil) (.node ho1 .nil .nil)) (.node Xuj (.node XAy .nil .nil) .nil)) (.node Xtk (.node ho1 (.node XDl .nil .nil) .nil) (.node XEi (.node XBk .nil .nil) .nil)))))) (.node (PySem.W.boot_o_6 P) (.node (PySem.W.boot_o_10 P) (.node ho0 (.node ho25 (.node ho0 (.node ho1 (.node ho0 .nil .nil) (.node ho0 .nil .nil)) (.node ho0 (.node XAp .nil .nil) .nil)) (.node (ho89 P) (.node ho0 (.node ho0 .nil .nil) .nil) (.node Xzu (.node ho0 .nil .nil) .nil))) (.node ho0 (.node ho1 (.node ho1 (.node Xtu .nil .nil) (.node XAu .nil .nil)) (.node XFe (.node Xwy .nil .nil) .nil)) (.node ho26 (.node Xuq (.node XCw .nil .nil) .nil) (.node ho1 (.node ho1 .nil .nil) .nil)))) (.node ho1 (.node ho0 (.node (ho65 P) (.node ho0 (.node XCb .nil .nil) (.node XDw .nil .nil)) (.node ho1 (.node Xwc .nil .nil) .nil)) (.node ho1 (.node XFw (.node ho1 .nil .nil) .nil) (.node Xvt (.node ho1 .nil .nil) .nil))) (.node ho49 (.node ho26 (.node XFg (.node Xsr .nil .nil) (.node Xth .nil .nil)) (.node ho0 (.node ho0 .nil .nil) .nil)) (.node (Xpu P) (.node Xsq (.node ho0 .nil .nil) .nil) (.node XBh (.node Xza .nil .nil) .nil))))) (.node ho3 (.node ho13 (.node ho0 (.node ho61 (.node (Xtd P) (.node ho0 .nil .nil) (.node ho0 .nil .nil)) (.node Xzw (.node ho1 .nil .nil) .nil)) (.node ho26 (.node ho0 (.node XDj .nil .nil) .nil) (.node ho1 (.node XBv .nil .nil) .nil))) (.node ho0 (.node (ho77 P) (.node Xwz (.node XAe .nil .nil) (.node XCf .nil .nil)) (.node Xvs (.node ho0 .nil .nil) .nil)) (.node ho1 (.node Xzn (.node Xtz .nil .nil) .nil) (.node Xub (.node XCc .nil .nil) .nil)))) (.node (ho21 P) (.node ho37 (.node ho26 (.node XFo (.node ho1 .nil .nil) (.node (Xtc P) .nil .nil)) (.node Xwu (.node Xzy .nil .nil) .nil)) (.node (Xsd P) (.node ho1 (.node Xvx .nil .nil) .nil) (.node XFp (.node XAv .nil .nil) .nil))) (.node ho0 (.node ho1 (.node Xuo (.node ho0 .nil .nil) (.node ho0 .nil .nil)) (.node ho0 (.node XAw .nil .nil) .nil)) (.node ho26 (.node ho0 (.node ho0 .nil .nil) .nil) (.node Xwr (.node XGg .nil .nil) .nil))))))))
theorem grp1 (w : World) (os : OsState) : PySem.W.segRunT treeTable PySem.Challenge.pw_stow_k21_refused w 11 (some (.ref 6)) 1 1707 (PySem.W.SharedT.mk (Xqm w.params) 126 ⟨[], [], [], 0, [], [], false, #[], [], 0, false, false, false, 0, [2000, 10, 10], false, 0, true, [], [], 0, false⟩ #[] ⟨0, 0, 0, 0⟩ 335 os) (PySem.W.piecesOf sts1 env0 Xgr ⟨21, 0, 22, 8⟩ [PySem.W.topFrame ⟨0, 0, 0, 0⟩]) = some (.next, (PySem.W.SharedT.mk (Xrx w.params) 418 ⟨[], [], [], 0, [], [], false, #[], [], 0, false, false, false, 0, [2000, 10, 10], false, 0, true, [], [], 0, false⟩ #[] ⟨0, 0, 0, 0⟩ 748 os), Xgr, ⟨213, 0, 213, 8⟩) := by kernel_rfl
noncomputable def Xpo : Params → PySem.W.BT := fun P => (.node (PySem.W.boot_o_0 P) (.node (PySem.W.boot_o_1 P) (.node (XOn P) (.node (PySem.W.boot_o_7 P) (.node ho0 (.node Xvm (.node ho54 (.node ho14 (.node ho0 (.node (XGd P) .nil .nil) .nil) (.node ho0 .nil .nil)) (.node XBz (.node ho1 (.node XKg .nil .nil) .nil) (.node ho0 .nil .nil))) (.node ho86 (.node ho0 (.node XBm (.node XMe .nil .nil) .nil) (.node XAt .nil .nil)) (.node ho1 (.node Xvb .nil .nil) (.node XMx .nil .nil)))) (.node ho26 (.node ho14 (.node Xua (.node XBl (.node XDz .nil .nil) .nil) (.node XAb .nil .nil)) (.node Xtr (.node ho0 (.node ho0 .nil .nil) .nil) (.node ho1 .nil .nil))) (.node Xpn (.node Xys (.node Xxg (.node XGq .nil .nil) .nil) (.node XLz .nil .nil)) (.node Xtt (.node XBf .nil .nil) (.node Xzr .nil .nil))))) (.node ho14 (.node ho1 (.node ho62 (.node Xts (.node ho1 (.node XKf .nil .nil) .nil) (.node ho1 .nil .nil)) (.node Xtg (.node XBg (.node XBr .nil .nil) .nil) (.node ho0 .nil .nil))) (.node ho14 (.node ho1 (.node XCg (.node ho0 .nil .nil) .nil) (.node XDb .nil .nil)) (.node XCp (.node Xyz .nil .nil) (.node XJv .nil .nil)))) (.node (ho46 P) (.node ho78 (.node Xuh (.node ho0 (.node XNh .nil .nil) .nil) (.node ho0 .nil .nil)) (.node ho0 (.node XAi (.node ho1 .nil .nil) .nil) (.node XNl .nil .nil))) (.node Xwk (.node ho0 (.node ho0 (.node ho0 .nil .nil) .nil) (.node XFn .nil .nil)) (.node Xut (.node XGe .nil .nil) (.node XLe .nil .nil)))))) (.node ho0 (.node ho10 (.node ho26 (.node ho1 (.node Xzi (.node XEk (.node Xku .nil .nil) .nil) (.node XFt .nil .nil)) (.node ho1 (.node Xtl (.node XLy .nil .nil) .nil) (.node XHu .nil .nil))) (.node ho90 (.node Xzv (.node ho14 (.node Xyx .nil .nil) .nil) (.node ho1 .nil .nil)) (.node Xsw (.node ho1 .nil .nil) (.node (XAn P) .nil .nil)))) (.node ho1 (.node ho74 (.node XFz (.node Xws (.node XMy .nil .nil) .nil) (.node XCi .nil .nil)) (.node ho0 (.node ho0 (.node XGr .nil .nil) .nil) (.node XCx .nil .nil))) (.node ho14 (.node Xtf (.node ho0 (.node ho0 .nil .nil) .nil) (.node ho0 .nil .nil)) (.node XFq (.node XAa .nil .nil) (.node ho14 .nil .nil))))) (.node ho18 (.node (ho34 P) (.node ho66 (.node ho1 (.node Xvi (.node ho1 .nil .nil) .nil) (.node Xta .nil .nil)) (.node XDv (.node Xtn (.node ho0 .nil .nil) .nil) (.node XIj .nil .nil))) (.node ho98 (.node Xuz (.node Xzj (.node XMk .nil .nil) .nil) (.node (Xyw P) .nil .nil)) (.node Xsv (.node Xzz .nil .nil) (.node XFr .nil .nil)))) (.node ho26 (.node ho14 (.node ho0 (.node ho0 (.node XEe .nil .nil) .nil) (.node ho0 .nil .nil)) (.node Xzt (.node ho1 (.node Xyl .nil .nil) .nil) (.node Xyp .nil .nil))) (.node Xpa (.node ho0 (.node Xzo (.node XDr .nil .nil) .nil) (.node ho0 .nil .nil)) (.node ho0 (.node ho0 .nil .nil) (.node XKr .nil .nil))))))) (.node (PySem.W.boot_o_5 P) (.node (PySem.W.boot_o_9 P) (.node ho8 (.node ho24 (.node ho56 (.node ho0 (.node XBu (.node XJu .nil .nil) .nil) (.node XAx .nil .nil)) (.node Xsp (.node ho0 (.node ho0 .nil .nil) .nil) (.node XHa .nil .nil))) (.node ho0 (.node XEp (.node Xxb (.node XHh .nil .nil) .nil) (.node Xwh .nil .nil)) (.node ho0 (.node XCz .nil .nil) (.node Xku .nil .nil)))) (.node (ho40 P) (.node ho0 (.node ho0 (.node XFk (.node ho0 .nil .nil) .nil) (.node XDk .nil .nil)) (.node ho1 (.node Xuf (.node XGj .nil .nil) .nil) (.node ho0 .nil .nil))) (.node Xte (.node XDd (.node ho1 (.node ho14 .nil .nil) .nil) (.node ho1 .nil .nil)) (.node ho0 (.node ho0 .nil .nil) (.node XIr .nil .nil))))) (.node ho0 (.node ho32 (.node ho64 (.node XAs (.node ho0 (.node XHs .nil .nil) .nil) (.node ho0 .nil .nil)) (.node ho0 (.node XEh (.node ho1 .nil .nil) .nil) (.node XGm .nil .nil))) (.node ho0 (.node ho0 (.node ho0 (.node XFs .nil .nil) .nil) (.node XNd .nil .nil)) (.node XGb (.node ho0 .nil .nil) (.node ho1 .nil .nil)))) (.node ho48 (.node ho80 (.node ho1 (.node Xso (.node ho1 .nil .nil) .nil) (.node Xum .nil .nil)) (.node XBb (.node Xuw (.node ho0 .nil .nil) .nil) (.node XKc .nil .nil))) (.node ho0 (.node Xxc (.node XEv (.node XHp .nil .nil) .nil) (.node ho1 .nil .nil)) (.node ho1 (.node ho1 .nil .nil) (.node ho0 .nil .nil)))))) (.node ho2 (.node ho12 (.node (ho28 P) (.node ho0 (.node ho0 (.node Xsx (.node (XDc P) .nil .nil) .nil) (.node Xsz .nil .nil)) (.node ho0 (.node ho0 (.node XIk .nil .nil) .nil) (.node XCa .nil .nil))) (.node ho92 (.node Xwp (.node ho0 (.node ho1 .nil .nil) .nil) (.node ho0 .nil .nil)) (.node ho0 (.node ho0 .nil .nil) (.node XKs .nil .nil)))) (.node ho44 (.node ho0 (.node XDp (.node ho1 (.node XLi .nil .nil) .nil) (.node ho1 .nil .nil)) (.node Xwd (.node Xyn (.node XGf .nil .nil) .nil) (.node ho0 .nil .nil))) (.node ho0 (.node ho1 (.node Xwm (.node XHd .nil .nil) .nil) (.node XGt .nil .nil)) (.node XEm (.node Xzf .nil .nil) (.node ho0 .nil .nil))))) (.node ho0 (.node ho36 (.node ho68 (.node ho0 (.node ho0 (.node ho0 .nil .nil) .nil) (.node XEj .nil .nil)) (.node XDi (.node ho1 (.node XDa .nil .nil) .nil) (.node XAk .nil .nil))) (.node ho0 (.node ho0 (.node XFm (.node XDn .nil .nil) .nil) (.node XJt .nil .nil)) (.node ho1 (.node XBc .nil .nil) (.node ho0 .nil .nil)))) (.node (ho52 P) (.node ho0 (.node Xtj (.node Xyy (.node ho0 .nil .nil) .nil) (.node XAl .nil .nil)) (.node Xuy (.node ho0 .nil .nil) (.node (Xzq P) .nil .nil))) (.node Xwi (.node XEo (.node XFl (.node (XFa P) .nil .nil) .nil) (.node Xzg .nil .nil)) (.node Xsu (.node XEw .nil .nil) (.node XAf .nil .nil)))))))) (.node (PySem.W.boot_o_2 P) (.node (PySem.W.boot_o_4 P) (.node (PySem.W.boot_o_8 P) (.node ho1 (.node ho23 (.node ho55 (.node (Xvy P) (.node ho1 (.node XDy .nil .nil) .nil) (.node ho1 .nil .nil)) (.node Xus (.node XFj (.node XGx .nil .nil) .nil) (.node ho1 .nil .nil))) (.node ho87 (.node ho1 (.node Xwf (.node ho0 .nil .nil) .nil) (.node Xup .nil .nil)) (.node XDs (.node Xtx .nil .nil) (.node XJy .nil .nil)))) (.node ho14 (.node (ho71 P) (.node Xsj (.node ho0 (.node XEd .nil .nil) .nil) (.node XAg .nil .nil)) (.node ho0 (.node XCr (.node ho1 .nil .nil) .nil) (.node XKi .nil .nil))) (.node Xvg (.node ho0 (.node ho0 (.node Xku .nil .nil) .nil) (.node ho0 .nil .nil)) (.node Xwo (.node Xzp .nil .nil) (.node XGp .nil .nil))))) (.node (ho15 P) (.node ho31 (.node ho63 (.node XCk (.node XGh (.node XNw .nil .nil) .nil) (.node XAd .nil .nil)) (.node Xvf (.node ho0 (.node ho0 .nil .nil) .nil) (.node ho1 .nil .nil))) (.node (ho95 P) (.node XCd (.node XCm (.node XJs .nil .nil) .nil) (.node XEc .nil .nil)) (.node ho0 (.node Xzs .nil .nil) (.node ho0 .nil .nil)))) (.node ho47 (.node ho79 (.node ho0 (.node XBi (.node ho0 .nil .nil) .nil) (.node Xyk .nil .nil)) (.node ho1 (.node Xsi (.node XIv .nil .nil) .nil) (.node ho0 .nil .nil))) (.node Xuc (.node XCu (.node ho1 (.node ho1 .nil .nil) .nil) (.node ho0 .nil .nil)) (.node ho0 (.node ho0 .nil .nil) (.node XLx .nil .nil)))))) (.node XPh (.node ho11 (.node ho14 (.node ho59 (.node XCe (.node Xtm (.node ho14 .nil .nil) .nil) (.node Xsn .nil .nil)) (.node XAm (.node Xui (.node ho0 .nil .nil) .nil) (.node XFh .nil .nil))) (.node ho91 (.node Xvd (.node (Xxf P) (.node ho0 .nil .nil) .nil) (.node XNk .nil .nil)) (.node Xve (.node XFv .nil .nil) (.node ho0 .nil .nil)))) (.node ho43 (.node ho75 (.node ho0 (.node ho0 (.node ho0 .nil .nil) .nil) (.node ho0 .nil .nil)) (.node XEr (.node ho1 (.node XFf .nil .nil) .nil) (.node XBn .nil .nil))) (.node (Xpv P) (.node ho0 (.node Xzk (.node XIf .nil .nil) .nil) (.node XNv .nil .nil)) (.node ho0 (.node ho0 .nil .nil) (.node (XEq P) .nil .nil))))) (.node ho19 (.node ho35 (.node ho67 (.node XEy (.node Xvv (.node XJi .nil .nil) .nil) (.node Xuk .nil .nil)) (.node ho0 (.node ho0 (.node XKm .nil .nil) .nil) (.node Xyq .nil .nil))) (.node ho99 (.node Xsl (.node ho0 (.node (XEz P) .nil .nil) .nil) (.node ho0 .nil .nil)) (.node ho0 (.node ho0 .nil .nil) (.node XCy .nil .nil)))) (.node ho14 (.node (ho83 P) (.node XCj (.node ho1 (.node XFi .nil .nil) .nil) (.node ho1 .nil .nil)) (.node Xuj (.node XAy (.node Xzd .nil .nil) .nil) (.node XNm .nil .nil))) (.node Xtk (.node ho1 (.node XDl (.node ho0 .nil .nil) .nil) (.node XJh .nil .nil)) (.node XEi (.node XBk .nil .nil) (.node XEa .nil .nil))))))) (.node (PySem.W.boot_o_6 P) (.node (PySem.W.boot_o_10 P) (.node ho0 (.node ho25 (.node ho0 (.node ho1 (.node ho0 (.node XMs .nil .nil) .nil) (.node ho0 .nil .nil)) (.node ho0 (.node XAp (.node ho1 .nil .nil) .nil) (.node ho0 .nil .nil))) (.node (ho89 P) (.node ho0 (.node ho0 (.node XEs .nil .nil) .nil) (.node ho0 .nil .nil)) (.node Xzu (.node ho0 .nil .nil) (.node ho14 .nil .nil)))) (.node ho0 (.node ho1 (.node ho1 (.node Xtu (.node ho1 .nil .nil) .nil) (.node XAu .nil .nil)) (.node XFe (.node Xwy (.node ho0 .nil .nil) .nil) (.node XNf .nil .nil))) (.node ho26 (.node Xuq (.node XCw (.node (XEg P) .nil .nil) .nil) (.node XGy .nil .nil)) (.node ho1 (.node ho1 .nil .nil) (.node Xku .nil .nil))))) (.node ho1 (.node ho0 (.node (ho65 P) (.node ho0 (.node XCb (.node ho0 .nil .nil) .nil) (.node XDw .nil .nil)) (.node ho1 (.node Xwc (.node XKb .nil .nil) .nil) (.node ho0 .nil .nil))) (.node ho1 (.node XFw (.node ho1 (.node XAj .nil .nil) .nil) (.node ho14 .nil .nil)) (.node Xvt (.node ho1 .nil .nil) (.node XMo .nil .nil)))) (.node ho49 (.node ho26 (.node XFg (.node Xsr (.node XKh .nil .nil) .nil) (.node Xth .nil .nil)) (.node ho0 (.node ho0 (.node XIs .nil .nil) .nil) (.node XAz .nil .nil))) (.node (Xpu P) (.node Xsq (.node ho0 (.node XCl .nil .nil) .nil) (.node XMz .nil .nil)) (.node XBh (.node Xza .nil .nil) (.node ho1 .nil .nil)))))) (.node ho3 (.node ho13 (.node ho0 (.node ho61 (.node (Xtd P) (.node ho0 (.node ho0 .nil .nil) .nil) (.node ho0 .nil .nil)) (.node Xzw (.node ho1 (.node XFy .nil .nil) .nil) (.node XAo .nil .nil))) (.node ho26 (.node ho0 (.node XDj (.node XJx .nil .nil) .nil) (.node XIz .nil .nil)) (.node ho1 (.node XBv .nil .nil) (.node XIp .nil .nil)))) (.node ho0 (.node (ho77 P) (.node Xwz (.node XAe (.node XLb .nil .nil) .nil) (.node XCf .nil .nil)) (.node Xvs (.node ho0 (.node ho0 .nil .nil) .nil) (.node ho1 .nil .nil))) (.node ho1 (.node Xzn (.node Xtz (.node XLs .nil .nil) .nil) (.node XKx .nil .nil)) (.node Xub (.node XCc .nil .nil) (.node XLw .nil .nil))))) (.node (ho21 P) (.node ho37 (.node ho26 (.node XFo (.node ho1 (.node XMa .nil .nil) .nil) (.node (Xtc P) .nil .nil)) (.node Xwu (.node Xzy (.node XAr .nil .nil) .nil) (.node ho0 .nil .nil))) (.node (Xsd P) (.node ho1 (.node Xvx (.node XLf .nil .nil) .nil) (.node XJl .nil .nil)) (.node XFp (.node XAv .nil .nil) (.node (Xzb P) .nil .nil)))) (.node ho0 (.node ho1 (.node Xuo (.node ho0 (.node ho1 .nil .nil) .nil) (.node ho0 .nil .nil)) (.node ho0 (.node XAw .nil .nil) (.node XEx .nil .nil))) (.node ho26 (.node ho0 (.node ho0 (.node XCn .nil .nil) .nil) (.node Xzc .nil .nil)) (.node Xwr (.node XGg .nil .nil) (.node ho0 .nil .nil)))))))))
theorem grp2 (w : World) (os : OsState) : PySem.W.segRunT treeTable PySem.Challenge.pw_stow_k21_refused w 11 (some (.ref 6)) 1 1726 (PySem.W.SharedT.mk (Xrx w.params) 418 ⟨[], [], [], 0, [], [], false, #[], [], 0, false, false, false, 0, [2000, 10, 10], false, 0, true, [], [], 0, false⟩ #[] ⟨0, 0, 0, 0⟩ 748 os) (PySem.W.piecesOf sts2 env0 Xgr ⟨213, 0, 213, 8⟩ [PySem.W.topFrame ⟨0, 0, 0, 0⟩]) = some (.next, (PySem.W.SharedT.mk (Xpo w.params) 605 ⟨[], [], [], 0, [], [], false, #[], [], 0, false, false, false, 0, [2000, 10, 10], false, 0, true, [], [], 0, false⟩ #[] ⟨0, 0, 0, 0⟩ 990 os), Xgr, ⟨312, 0, 326, 31⟩) := by kernel_rfl
noncomputable def Xhy : Params → PySem.W.BT := fun P => (.node (PySem.W.boot_o_0 P) (.node (PySem.W.boot_o_1 P) (.node (XHw P) (.node (PySem.W.boot_o_7 P) (.node ho0 (.node Xvm (.node ho54 (.node ho14 (.node ho0 (.node (XGd P) .nil .nil) .nil) (.node ho0 (.node XHg .nil .nil) .nil)) (.node XBz (.node ho1 (.node XKg .nil .nil) .nil) (.node ho0 .nil .nil))) (.node ho86 (.node ho0 (.node XBm (.node XMe .nil .nil) .nil) (.node XAt .nil .nil)) (.node ho1 (.node Xvb (.node XOg .nil .nil) .nil) (.node XMx .nil .nil)))) (.node ho26 (.node ho14 (.node Xua (.node XBl (.node XDz .nil .nil) .nil) (.node XAb .nil .nil)) (.node Xtr (.node ho0 (.node ho0 .nil .nil) .nil) (.node ho1 .nil .nil))) (.node Xpn (.node Xys (.node Xxg (.node XGq .nil .nil) .nil) (.node XLz .nil .nil)) (.node Xtt (.node XBf (.node XQf .nil .nil) .nil) (.node Xzr .nil .nil))))) (.node ho14 (.node ho1 (.node ho62 (.node Xts (.node ho1 (.node XKf .nil .nil) .nil) (.node ho1 (.node XOh .nil .nil) .nil)) (.node Xtg (.node XBg (.node XBr .nil .nil) .nil) (.node ho0 .nil .nil))) (.node ho14 (.node ho1 (.node XCg (.node ho0 .nil .nil) .nil) (.node XDb .nil .nil)) (.node XCp (.node Xyz (.node ho0 .nil .nil) .nil) (.node XJv .nil .nil)))) (.node (ho46 P) (.node ho78 (.node Xuh (.node ho0 (.node XNh .nil .nil) .nil) (.node ho0 .nil .nil)) (.node ho0 (.node XAi (.node ho1 .nil .nil) .nil) (.node XNl .nil .nil))) (.node Xwk (.node ho0 (.node ho0 (.node ho0 .nil .nil) .nil) (.node XFn .nil .nil)) (.node Xut (.node XGe (.node XHo .nil .nil) .nil) (.node XLe .nil .nil)))))) (.node ho0 (.node ho10 (.node ho26 (.node ho1 (.node Xzi (.node XEk (.node Xku .nil .nil) .nil) (.node XFt (.node XLc .nil .nil) .nil)) (.node ho1 (.node Xtl (.node XLy .nil .nil) .nil) (.node XHu .nil .nil))) (.node ho90 (.node Xzv (.node ho14 (.node Xyx .nil .nil) .nil) (.node ho1 .nil .nil)) (.node Xsw (.node ho1 (.node XJe .nil .nil) .nil) (.node (XAn P) .nil .nil)))) (.node ho1 (.node ho74 (.node XFz (.node Xws (.node XMy .nil .nil) .nil) (.node XCi .nil .nil)) (.node ho0 (.node ho0 (.node XGr .nil .nil) .nil) (.node XCx .nil .nil))) (.node ho14 (.node Xtf (.node ho0 (.node ho0 .nil .nil) .nil) (.node ho0 .nil .nil)) (.node XFq (.node XAa (.node ho1 .nil .nil) .nil) (.node ho14 .nil .nil))))) (.node ho18 (.node (ho34 P) (.node ho66 (.node ho1 (.node Xvi (.node ho1 .nil .nil) .nil) (.node Xta (.node XIx .nil .nil) .nil)) (.node XDv (.node Xtn (.node ho0 .nil .nil) .nil) (.node XIj .nil .nil))) (.node ho98 (.node Xuz (.node Xzj (.node XMk .nil .nil) .nil) (.node (Xyw P) .nil .nil)) (.node Xsv (.node Xzz (.node ho0 .nil .nil) .nil) (.node XFr .nil .nil)))) (.node ho26 (.node ho14 (.node ho0 (.node ho0 (.node XEe .nil .nil) .nil) (.node ho0 .nil .nil)) (.node Xzt (.node ho1 (.node Xyl .nil .nil) .nil) (.node Xyp .nil .nil))) (.node Xpa (.node ho0 (.node Xzo (.node XDr .nil .nil) .nil) (.node ho0 .nil .nil)) (.node ho0 (.node ho0 (.node XOx .nil .nil) .nil) (.node XKr .nil .nil))))))) (.node (PySem.W.boot_o_5 P) (.node (PySem.W.boot_o_9 P) (.node ho8 (.node ho24 (.node ho56 (.node ho0 (.node XBu (.node XJu .nil .nil) .nil) (.node XAx (.node ho1 .nil .nil) .nil)) (.node Xsp (.node ho0 (.node ho0 .nil .nil) .nil) (.node XHa .nil .nil))) (.node ho0 (.node XEp (.node Xxb (.node XHh .nil .nil) .nil) (.node Xwh .nil .nil)) (.node ho0 (.node XCz (.node XQw .nil .nil) .nil) (.node Xku .nil .nil)))) (.node (ho40 P) (.node ho0 (.node ho0 (.node XFk (.node ho0 .nil .nil) .nil) (.node XDk .nil .nil)) (.node ho1 (.node Xuf (.node XGj .nil .nil) .nil) (.node ho0 .nil .nil))) (.node Xte (.node XDd (.node ho1 (.node ho14 .nil .nil) .nil) (.node ho1 .nil .nil)) (.node ho0 (.node ho0 (.node XHv .nil .nil) .nil) (.node XIr .nil .nil))))) (.node ho0 (.node ho32 (.node ho64 (.node XAs (.node ho0 (.node XHs .nil .nil) .nil) (.node ho0 (.node XPn .nil .nil) .nil)) (.node ho0 (.node XEh (.node ho1 .nil .nil) .nil) (.node XGm .nil .nil))) (.node ho0 (.node ho0 (.node ho0 (.node XFs .nil .nil) .nil) (.node XNd .nil .nil)) (.node XGb (.node ho0 (.node XIw .nil .nil) .nil) (.node ho1 .nil .nil)))) (.node ho48 (.node ho80 (.node ho1 (.node Xso (.node ho1 .nil .nil) .nil) (.node Xum .nil .nil)) (.node XBb (.node Xuw (.node ho0 .nil .nil) .nil) (.node XKc .nil .nil))) (.node ho0 (.node Xxc (.node XEv (.node XHp .nil .nil) .nil) (.node ho1 .nil .nil)) (.node ho1 (.node ho1 (.node ho0 .nil .nil) .nil) (.node ho0 .nil .nil)))))) (.node ho2 (.node ho12 (.node (ho28 P) (.node ho0 (.node ho0 (.node Xsx (.node (XDc P) .nil .nil) .nil) (.node Xsz (.node ho0 .nil .nil) .nil)) (.node ho0 (.node ho0 (.node XIk .nil .nil) .nil) (.node XCa .nil .nil))) (.node ho92 (.node Xwp (.node ho0 (.node ho1 .nil .nil) .nil) (.node ho0 .nil .nil)) (.node ho0 (.node ho0 (.node ho1 .nil .nil) .nil) (.node XKs .nil .nil)))) (.node ho44 (.node ho0 (.node XDp (.node ho1 (.node XLi .nil .nil) .nil) (.node ho1 .nil .nil)) (.node Xwd (.node Xyn (.node XGf .nil .nil) .nil) (.node ho0 .nil .nil))) (.node ho0 (.node ho1 (.node Xwm (.node XHd .nil .nil) .nil) (.node XGt .nil .nil)) (.node XEm (.node Xzf (.node ho0 .nil .nil) .nil) (.node ho0 .nil .nil))))) (.node ho0 (.node ho36 (.node ho68 (.node ho0 (.node ho0 (.node ho0 .nil .nil) .nil) (.node XEj .nil .nil)) (.node XDi (.node ho1 (.node XDa .nil .nil) .nil) (.node XAk .nil .nil))) (.node ho0 (.node ho0 (.node XFm (.node XDn .nil .nil) .nil) (.node XJt .nil .nil)) (.node ho1 (.node XBc (.node XPq .nil .nil) .nil) (.node ho0 .nil .nil)))) (.node (ho52 P) (.node ho0 (.node Xtj (.node Xyy (.node ho0 .nil .nil) .nil) (.node XAl .nil .nil)) (.node Xuy (.node ho0 (.node ho0 .nil .nil) .nil) (.node (Xzq P) .nil .nil))) (.node Xwi (.node XEo (.node XFl (.node (XFa P) .nil .nil) .nil) (.node Xzg .nil .nil)) (.node Xsu (.node XEw (.node XOy .nil .nil) .nil) (.node XAf .nil .nil)))))))) (.node (PySem.W.boot_o_2 P) (.node (PySem.W.boot_o_4 P) (.node (PySem.W.boot_o_8 P) (.node ho1 (.node ho23 (.node ho55 (.node (Xvy P) (.node ho1 (.node XDy .nil .nil) .nil) (.node ho1 (.node ho0 .nil .nil) .nil)) (.node Xus (.node XFj (.node XGx .nil .nil) .nil) (.node ho1 .nil .nil))) (.node ho87 (.node ho1 (.node Xwf (.node ho0 .nil .nil) .nil) (.node Xup .nil .nil)) (.node XDs (.node Xtx (.node ho0 .nil .nil) .nil) (.node XJy .nil .nil)))) (.node ho14 (.node (ho71 P) (.node Xsj (.node ho0 (.node XEd .nil .nil) .nil) (.node XAg .nil .nil)) (.node ho0 (.node XCr (.node ho1 .nil .nil) .nil) (.node XKi .nil .nil))) (.node Xvg (.node ho0 (.node ho0 (.node Xku .nil .nil) .nil) (.node ho0 .nil .nil)) (.node Xwo (.node Xzp (.node XKo .nil .nil) .nil) (.node XGp .nil .nil))))) (.node (ho15 P) (.node ho31 (.node ho63 (.node XCk (.node XGh (.node XNw .nil .nil) .nil) (.node XAd (.node ho0 .nil .nil) .nil)) (.node Xvf (.node ho0 (.node ho0 .nil .nil) .nil) (.node ho1 .nil .nil))) (.node (ho95 P) (.node XCd (.node XCm (.node XJs .nil .nil) .nil) (.node XEc .nil .nil)) (.node ho0 (.node Xzs (.node XPs .nil .nil) .nil) (.node ho0 .nil .nil)))) (.node ho47 (.node ho79 (.node ho0 (.node XBi (.node ho0 .nil .nil) .nil) (.node Xyk .nil .nil)) (.node ho1 (.node Xsi (.node XIv .nil .nil) .nil) (.node ho0 .nil .nil))) (.node Xuc (.node XCu (.node ho1 (.node ho1 .nil .nil) .nil) (.node ho0 .nil .nil)) (.node ho0 (.node ho0 (.node XMp .nil .nil) .nil) (.node XLx .nil .nil)))))) (.node XPx (.node ho11 (.node ho14 (.node ho59 (.node XCe (.node Xtm (.node ho14 .nil .nil) .nil) (.node Xsn (.node XHt .nil .nil) .nil)) (.node XAm (.node Xui (.node ho0 .nil .nil) .nil) (.node XFh .nil .nil))) (.node ho91 (.node Xvd (.node (Xxf P) (.node ho0 .nil .nil) .nil) (.node XNk .nil .nil)) (.node Xve (.node XFv (.node ho0 .nil .nil) .nil) (.node ho0 .nil .nil)))) (.node ho43 (.node ho75 (.node ho0 (.node ho0 (.node ho0 .nil .nil) .nil) (.node ho0 .nil .nil)) (.node XEr (.node ho1 (.node XFf .nil .nil) .nil) (.node XBn .nil .nil))) (.node (Xpv P) (.node ho0 (.node Xzk (.node XIf .nil .nil) .nil) (.node XNv .nil .nil)) (.node ho0 (.node ho0 (.node XQp .nil .nil) .nil) (.node (XEq P) .nil .nil))))) (.node ho19 (.node ho35 (.node ho67 (.node XEy (.node Xvv (.node XJi .nil .nil) .nil) (.node Xuk .nil .nil)) (.node ho0 (.node ho0 (.node XKm .nil .nil) .nil) (.node Xyq .nil .nil))) (.node ho99 (.node Xsl (.node ho0 (.node (XEz P) .nil .nil) .nil) (.node ho0 .nil .nil)) (.node ho0 (.node ho0 (.node ho1 .nil .nil) .nil) (.node XCy .nil .nil)))) (.node ho14 (.node (ho83 P) (.node XCj (.node ho1 (.node XFi .nil .nil) .nil) (.node ho1 .nil .nil)) (.node Xuj (.node XAy (.node Xzd .nil .nil) .nil) (.node XNm .nil .nil))) (.node Xtk (.node ho1 (.node XDl (.node ho0 .nil .nil) .nil) (.node XJh .nil .nil)) (.node XEi (.node XBk (.node ho0 .nil .nil) .nil) (.node XEa .nil .nil))))))) (.node (PySem.W.boot_o_6 P) (.node (PySem.W.boot_o_10 P) (.node ho0 (.node ho25 (.node ho0 (.node ho1 (.node ho0 (.node XMs .nil .nil) .nil) (.node ho0 (.node XNx .nil .nil) .nil)) (.node ho0 (.node XAp (.node ho1 .nil .nil) .nil) (.node ho0 .nil .nil))) (.node (ho89 P) (.node ho0 (.node ho0 (.node XEs .nil .nil) .nil) (.node ho0 .nil .nil)) (.node Xzu (.node ho0 (.node XJf .nil .nil) .nil) (.node ho14 .nil .nil)))) (.node ho0 (.node ho1 (.node ho1 (.node Xtu (.node ho1 .nil .nil) .nil) (.node XAu .nil .nil)) (.node XFe (.node Xwy (.node ho0 .nil .nil) .nil) (.node XNf .nil .nil))) (.node ho26 (.node Xuq (.node XCw (.node (XEg P) .nil .nil) .nil) (.node XGy .nil .nil)) (.node ho1 (.node ho1 (.node ho0 .nil .nil) .nil) (.node Xku .nil .nil))))) (.node ho1 (.node ho0 (.node (ho65 P) (.node ho0 (.node XCb (.node ho0 .nil .nil) .nil) (.node XDw (.node XIn .nil .nil) .nil)) (.node ho1 (.node Xwc (.node XKb .nil .nil) .nil) (.node ho0 .nil .nil))) (.node ho1 (.node XFw (.node ho1 (.node XAj .nil .nil) .nil) (.node ho14 .nil .nil)) (.node Xvt (.node ho1 (.node XMc .nil .nil) .nil) (.node XMo .nil .nil)))) (.node ho49 (.node ho26 (.node XFg (.node Xsr (.node XKh .nil .nil) .nil) (.node Xth .nil .nil)) (.node ho0 (.node ho0 (.node XIs .nil .nil) .nil) (.node XAz .nil .nil))) (.node (Xpu P) (.node Xsq (.node ho0 (.node XCl .nil .nil) .nil) (.node XMz .nil .nil)) (.node XBh (.node Xza (.node ho1 .nil .nil) .nil) (.node ho1 .nil .nil)))))) (.node ho3 (.node ho13 (.node ho0 (.node ho61 (.node (Xtd P) (.node ho0 (.node ho0 .nil .nil) .nil) (.node ho0 (.node ho1 .nil .nil) .nil)) (.node Xzw (.node ho1 (.node XFy .nil .nil) .nil) (.node XAo .nil .nil))) (.node ho26 (.node ho0 (.node XDj (.node XJx .nil .nil) .nil) (.node XIz .nil .nil)) (.node ho1 (.node XBv (.node XQk .nil .nil) .nil) (.node XIp .nil .nil)))) (.node ho0 (.node (ho77 P) (.node Xwz (.node XAe (.node XLb .nil .nil) .nil) (.node XCf .nil .nil)) (.node Xvs (.node ho0 (.node ho0 .nil .nil) .nil) (.node ho1 .nil .nil))) (.node ho1 (.node Xzn (.node Xtz (.node XLs .nil .nil) .nil) (.node XKx .nil .nil)) (.node Xub (.node XCc (.node XPi .nil .nil) .nil) (.node XLw .nil .nil))))) (.node (ho21 P) (.node ho37 (.node ho26 (.node XFo (.node ho1 (.node XMa .nil .nil) .nil) (.node (Xtc P) .nil .nil)) (.node Xwu (.node Xzy (.node XAr .nil .nil) .nil) (.node ho0 .nil .nil))) (.node (Xsd P) (.node ho1 (.node Xvx (.node XLf .nil .nil) .nil) (.node XJl .nil .nil)) (.node XFp (.node XAv (.node ho0 .nil .nil) .nil) (.node (Xzb P) .nil .nil)))) (.node ho0 (.node ho1 (.node Xuo (.node ho0 (.node ho1 .nil .nil) .nil) (.node ho0 .nil .nil)) (.node ho0 (.node XAw (.node ho1 .nil .nil) .nil) (.node XEx .nil .nil))) (.node ho26 (.node ho0 (.node ho0 (.node XCn .nil .nil) .nil) (.node Xzc .nil .nil)) (.node Xwr (.node XGg (.node XKy .nil .nil) .nil) (.node ho0 .nil .nil)))))))))
theorem grp3 (w : World) (os : OsState) : PySem.W.segRunT treeTable PySem.Challenge.pw_stow_k21_refused w 11 (some (.ref 6)) 1 230 (PySem.W.SharedT.mk (Xpo w.params) 605 ⟨[], [], [], 0, [], [], false, #[], [], 0, false, false, false, 0, [2000, 10, 10], false, 0, true, [], [], 0, false⟩ #[] ⟨0, 0, 0, 0⟩ 990 os) (PySem.W.piecesOf sts3 env0 Xgr ⟨312, 0, 326, 31⟩ [PySem.W.topFrame ⟨0, 0, 0, 0⟩]) = some (.next, (PySem.W.SharedT.mk (Xhy w.params) 652 ⟨[], [], [], 0, [], [], false, #[], [], 0, false, false, false, 0, [2000, 10, 10], false, 0, true, [], [], 0, false⟩ #[] ⟨0, 0, 0, 0⟩ 1067 os), Xgr, ⟨405, 0, 418, 67⟩) := by kernel_rfl
theorem fin0 (w : World) (os : OsState) : PySem.W.topRun treeTable PySem.Challenge.pw_stow_k21_refused w 11 (some (.ref 6)) 2 ⟨PySem.W.absHeap (Xhy w.params) 652 ⟨[], [], [], 0, [], [], false, #[], [], 0, false, false, false, 0, [2000, 10, 10], false, 0, true, [], [], 0, false⟩, #[], ⟨0, 0, 0, 0⟩, 1067, os⟩ (PySem.W.restOf [] env0 Xgr ⟨405, 0, 418, 67⟩ [PySem.W.topFrame ⟨0, 0, 0, 0⟩]) = some ⟨PySem.W.absHeap (Xhy w.params) 652 ⟨[], [], [], 0, [], [], false, #[], [], 0, false, false, false, 0, [2000, 10, 10], false, 0, true, [], [], 0, false⟩, #[], ⟨0, 0, 0, 0⟩, 1067, os⟩ := by kernel_rfl
theorem run0 (w : World) (os : OsState) : PySem.W.topRun treeTable PySem.Challenge.pw_stow_k21_refused w 11 (some (.ref 6)) (12 + (1 + (1748 + (1707 + (1726 + (230 + 2)))))) ⟨PySem.W.boot_heap w.params, Array.mk [], PySem.W.boot_drawn, PySem.W.boot_toks, os⟩ (PySem.W.topStub PySem.Challenge.pw_stow_k21_refused) = some ⟨PySem.W.absHeap (Xhy w.params) 652 ⟨[], [], [], 0, [], [], false, #[], [], 0, false, false, false, 0, [2000, 10, 10], false, 0, true, [], [], 0, false⟩, #[], ⟨0, 0, 0, 0⟩, 1067, os⟩ := PySem.W.go_top (pre0 w os) (PySem.W.piece_block (blk0 w os) (PySem.W.piece_app (PySem.W.segRun_of (grp0 w os)) (PySem.W.piece_app (PySem.W.segRun_of (grp1 w os)) (PySem.W.piece_app (PySem.W.segRun_of (grp2 w os)) (PySem.W.piece_app (PySem.W.segRun_of (grp3 w os)) (fin0 w os))))))
theorem XRq (w : World) : (PySem.W.fencedOpening treeTable PySem.Challenge.pw_stow_k21_refused w 6126).map (fun s => (s.heap, s.gens, s.drawn, s.toks)) = some (PySem.W.boot_heap w.params, Array.mk [], PySem.W.boot_drawn, PySem.W.boot_toks) := PySem.W.boot_open (by kernel_rfl) rfl (fun s => by kernel_rfl) w
noncomputable def heap0 : Params → PySem.W.Frag := fun P =>
 (nat_lit 2, PySem.W.boot_o_2 P) ::
 (nat_lit 3, XHw P) ::
 (nat_lit 20, ho11) ::
 (nat_lit 21, ho12) ::
 (nat_lit 24, ho15 P) ::
 (nat_lit 30, ho21 P) ::
 (nat_lit 31, Xvm) ::
 (nat_lit 37, ho28 P) ::
 (nat_lit 43, ho34 P) ::
 (nat_lit 44, ho35) ::
 (nat_lit 49, ho40 P) ::
 (nat_lit 55, ho46 P) ::
 (nat_lit 56, ho47) ::
 (nat_lit 61, ho52 P) ::
 (nat_lit 71, ho62) ::
 (nat_lit 72, ho63) ::
 (nat_lit 74, ho65 P) ::
 (nat_lit 75, ho66) ::
 (nat_lit 80, ho71 P) ::
 (nat_lit 86, ho77 P) ::
 (nat_lit 87, ho78) ::
 (nat_lit 92, ho83 P) ::
 (nat_lit 98, ho89 P) ::
 (nat_lit 99, ho90) ::
 (nat_lit 104, ho95 P) ::
 (nat_lit 110, Xsd P) ::
 (nat_lit 111, Xpn) ::
 (nat_lit 116, Xpv P) ::
 (nat_lit 122, Xpu P) ::
 (nat_lit 123, Xpa) ::
 (nat_lit 128, Xvy P) ::
 (nat_lit 134, Xtd P) ::
 (nat_lit 135, Xts) ::
 (nat_lit 143, Xua) ::
 (nat_lit 144, Xsj) ::
 (nat_lit 150, Xwz) ::
 (nat_lit 151, Xuh) ::
 (nat_lit 157, Xtj) ::
 (nat_lit 158, Xuo) ::
 (nat_lit 164, Xvd) ::
 (nat_lit 165, Xwp) ::
 (nat_lit 171, Xuz) ::
 (nat_lit 172, Xsl) ::
 (nat_lit 178, Xuq) ::
 (nat_lit 179, Xtf) ::
 (nat_lit 185, Xxc) ::
 (nat_lit 186, Xsq) ::
 (nat_lit 192, Xus) ::
 (nat_lit 193, Xsp) ::
 (nat_lit 199, Xtg) ::
 (nat_lit 200, Xvf) ::
 (nat_lit 206, Xwu) ::
 (nat_lit 207, Xtr) ::
 (nat_lit 213, Xwd) ::
 (nat_lit 214, Xvs) ::
 (nat_lit 220, Xuj) ::
 (nat_lit 221, Xuy) ::
 (nat_lit 227, Xsw) ::
 (nat_lit 228, Xve) ::
 (nat_lit 234, Xvt) ::
 (nat_lit 235, Xsv) ::
 (nat_lit 239, Xtt) ::
 (nat_lit 240, Xwo) ::
 (nat_lit 246, Xub) ::
 (nat_lit 247, Xut) ::
 (nat_lit 253, Xsu) ::
 (nat_lit 254, Xwr) ::
 (nat_lit 260, Xtm) ::
 (nat_lit 261, Xsx) ::
 (nat_lit 267, Xvi) ::
 (nat_lit 268, Xvv) ::
 (nat_lit 274, Xtu) ::
 (nat_lit 275, Xws) ::
 (nat_lit 281, Xso) ::
 (nat_lit 282, Xsr) ::
 (nat_lit 288, Xwf) ::
 (nat_lit 289, Xxb) ::
 (nat_lit 292, Xxf P) ::
 (nat_lit 302, Xvx) ::
 (nat_lit 303, Xxg) ::
 (nat_lit 309, Xwm) ::
 (nat_lit 310, Xtz) ::
 (nat_lit 323, Xtl) ::
 (nat_lit 324, Xui) ::
 (nat_lit 330, Xwc) ::
 (nat_lit 331, Xtn) ::
 (nat_lit 337, Xuf) ::
 (nat_lit 338, Xwy) ::
 (nat_lit 344, Xsi) ::
 (nat_lit 345, Xuw) ::
 (nat_lit 351, Xvb) ::
 (nat_lit 352, Xtx) ::
 (nat_lit 388, Xsn) ::
 (nat_lit 389, Xsz) ::
 (nat_lit 395, Xta) ::
 (nat_lit 396, Xuk) ::
 (nat_lit 398, Xtc P) ::
 (nat_lit 399, XAb) ::
 (nat_lit 409, Xum) ::
 (nat_lit 410, Xth) ::
 (nat_lit 416, Xup) ::
 (nat_lit 417, Xwh) ::
 (nat_lit 423, XDb) ::
 (nat_lit 424, XEc) ::
 (nat_lit 427, Xyw P) ::
 (nat_lit 439, XFn) ::
 (nat_lit 445, Xzg) ::
 (nat_lit 446, Xzc) ::
 (nat_lit 452, XFh) ::
 (nat_lit 453, XCa) ::
 (nat_lit 454, XAo) ::
 (nat_lit 460, Xyq) ::
 (nat_lit 461, XAk) ::
 (nat_lit 467, XCx) ::
 (nat_lit 468, XBn) ::
 (nat_lit 474, XAz) ::
 (nat_lit 475, Xyp) ::
 (nat_lit 477, Xzq P) ::
 (nat_lit 478, XEx) ::
 (nat_lit 483, XAn P) ::
 (nat_lit 491, XFr) ::
 (nat_lit 492, XCy) ::
 (nat_lit 494, Xzb P) ::
 (nat_lit 495, Xzr) ::
 (nat_lit 500, XEq P) ::
 (nat_lit 508, XEa) ::
 (nat_lit 509, XAf) ::
 (nat_lit 511, XGd P) ::
 (nat_lit 512, XDy) ::
 (nat_lit 517, XDc P) ::
 (nat_lit 527, XDz) ::
 (nat_lit 528, XEd) ::
 (nat_lit 539, XEe) ::
 (nat_lit 540, XFi) ::
 (nat_lit 546, XEs) ::
 (nat_lit 547, Xyx) ::
 (nat_lit 553, XFs) ::
 (nat_lit 554, XAj) ::
 (nat_lit 556, XEz P) ::
 (nat_lit 557, XDn) ::
 (nat_lit 562, XEg P) ::
 (nat_lit 570, XCl) ::
 (nat_lit 571, XDr) ::
 (nat_lit 573, XFa P) ::
 (nat_lit 574, XCn) ::
 (nat_lit 582, XFy) ::
 (nat_lit 583, XBr) ::
 (nat_lit 589, XDa) ::
 (nat_lit 590, XAr) ::
 (nat_lit 596, XFf) ::
 (nat_lit 597, XGf) ::
 (nat_lit 603, Xyl) ::
 (nat_lit 604, Xzd) ::
 (nat_lit 610, XJf) ::
 (nat_lit 611, XJe) ::
 (nat_lit 617, XIw) ::
 (nat_lit 618, XMc) ::
 (nat_lit 624, XKo) ::
 (nat_lit 625, XHv) ::
 (nat_lit 631, XHo) ::
 (nat_lit 632, XMp) ::
 (nat_lit 638, XKy) ::
 (nat_lit 639, XHg) ::
 (nat_lit 643, XLc) ::
 (nat_lit 644, XHt) ::
 (nat_lit 650, XIn) ::
 (nat_lit 651, XIx) ::
 []
def at0 : List Addr := 2 :: 3 :: 20 :: 21 :: 24 :: 30 :: 31 :: 37 :: 43 :: 44 :: 49 :: 55 :: 56 :: 61 :: 71 :: 72 :: 74 :: 75 :: 80 :: 86 :: 87 :: 92 :: 98 :: 99 :: 104 :: 110 :: 111 :: 116 :: 122 :: 123 :: 128 :: 134 :: 135 :: 143 :: 144 :: 150 :: 151 :: 157 :: 158 :: 164 :: 165 :: 171 :: 172 :: 178 :: 179 :: 185 :: 186 :: 192 :: 193 :: 199 :: 200 :: 206 :: 207 :: 213 :: 214 :: 220 :: 221 :: 227 :: 228 :: 234 :: 235 :: 239 :: 240 :: 246 :: 247 :: 253 :: 254 :: 260 :: 261 :: 267 :: 268 :: 274 :: 275 :: 281 :: 282 :: 288 :: 289 :: 292 :: 302 :: 303 :: 309 :: 310 :: 323 :: 324 :: 330 :: 331 :: 337 :: 338 :: 344 :: 345 :: 351 :: 352 :: 388 :: 389 :: 395 :: 396 :: 398 :: 399 :: 409 :: 410 :: 416 :: 417 :: 423 :: 424 :: 427 :: 439 :: 445 :: 446 :: 452 :: 453 :: 454 :: 460 :: 461 :: 467 :: 468 :: 474 :: 475 :: 477 :: 478 :: 483 :: 491 :: 492 :: 494 :: 495 :: 500 :: 508 :: 509 :: 511 :: 512 :: 517 :: 527 :: 528 :: 539 :: 540 :: 546 :: 547 :: 553 :: 554 :: 556 :: 557 :: 562 :: 570 :: 571 :: 573 :: 574 :: 582 :: 583 :: 589 :: 590 :: 596 :: 597 :: 603 :: 604 :: 610 :: 611 :: 617 :: 618 :: 624 :: 625 :: 631 :: 632 :: 638 :: 639 :: 643 :: 644 :: 650 :: 651 :: []
def XHc : List Str := "_wall" :: "StowError" :: "NoName" :: "NoSize" :: "Broken" :: "NoPiece" :: "NoCell" :: "NoAsk" :: "NoBound" :: "NoRoom" :: "MARKS" :: "check_ask" :: "check_plain_ask" :: "mark_of" :: "long_of" :: "live_of" :: "LEAST_LIVE" :: "can_begin" :: "bad_of_piece" :: "looked" :: "fresh_room" :: "laid" :: "laid_free" :: "piece_at" :: "live_at" :: "free_at" :: "begin_around" :: "free_begin" :: "free_end" :: "cut_out" :: "freed" :: "joined_pieces" :: "joined" :: "carried" :: "Keeper" :: "first_place" :: "spots_for" :: "least_place" :: "Stretches" :: "First" :: "Best" :: "Next" :: "Likes" :: "stretches_of" :: "_law_cell_at" :: "_law_walk" :: "_law_word" :: "_law_done" :: "_law_tried" :: "_law_room_for" :: "_law_stays" :: "_law_due" :: "_law_step" :: []
theorem at0_eq (P : Params) : at0 = (heap0 P).map (·.1) := by kernel_rfl
abbrev XQy (s : Shared) : Bool := PySem.W.recOk (PySem.W.RowW.records (PySem.W.OpenRow.toRowW (PySem.Challenge.rw_stow_k21_refused).row)) s
theorem left0 : PySem.W.LeftO PySem.Challenge.pw_stow_k21_refused (PySem.W.view PySem.Challenge.pw_stow_k21_refused [62]) XHc XQy (fun s => at0.map s.heap.get?) (fun w => (heap0 w.params).map fun p => some p.2) 6126 :=
 PySem.W.LeftO.of_pieces (H₁ := fun P => PySem.W.absHeap (Xhy P) 652 ⟨[], [], [], 0, [], [], false, #[], [], 0, false, false, false, 0, [2000, 10, 10], false, 0, true, [], [], 0, false⟩) (gs₁ := #[]) (d₁ := ⟨0, 0, 0, 0⟩) (k₁ := 1067) (m₀ := 11) (ann := (some (.ref 6))) XRq (fun w => by kernel_rfl) run0 rfl (fun w => funext fun os => by kernel_rfl)
end Stow
set_option Elab.async false
set_option linter.all false
set_option maxRecDepth 100000
namespace L2
open PySem PySem.Spec PyProof.Rows
abbrev Key := Sum Int Str
def XNu : Key → Value → Bool
 | .inl k, v => Value.isInt k v
 | .inr x, v => Value.isStrOf x v
def keyH (w : World) : Key → Int
 | .inl k => hashInt k
 | .inr x => hashStr w x
theorem Xbt : ∀ {k : Key} {v : Value}, XNu k v = true → (∃ i t, k = Sum.inl i ∧ v = Value.int i t) ∨ (∃ x t, k = Sum.inr x ∧ v = Value.str x t)
 | .inl i, v, h => by
   obtain ⟨t, e⟩ := Value.isInt_shape (k := i) (v := v) h
   exact .inl ⟨i, t, rfl, e⟩
 | .inr x, v, h => by
   obtain ⟨t, e⟩ := Value.isStrOf_shape (x := x) (v := v) h
   exact .inr ⟨x, t, rfl, e⟩
theorem XJc (a b : Int) : decide ((Sum.inl a : Key) = Sum.inl b) = (a == b) := by
 by_cases e : a = b
 · subst e; simp
 · have h : ¬ (Sum.inl a : Key) = Sum.inl b := fun q => e (Sum.inl.inj q)
   rw [decide_eq_false h]
   exact (beq_eq_false_iff_ne.mpr e).symm
theorem XMq (a b : Str) : decide ((Sum.inr a : Key) = Sum.inr b) = decide (a = b) := by
 by_cases e : a = b
 · subst e; simp
 · have h : ¬ (Sum.inr a : Key) = Sum.inr b := fun q => e (Sum.inr.inj q)
   rw [decide_eq_false h, decide_eq_false e]
theorem XIb (a : Int) (b : Str) : decide ((Sum.inl a : Key) = Sum.inr b) = false := decide_eq_false (fun q => nomatch q)
theorem XIl (a : Str) (b : Int) : decide ((Sum.inr a : Key) = Sum.inl b) = false := decide_eq_false (fun q => nomatch q)
def Xla (prog : Program) (w : World) : PySem.KeyKind prog w Key where
 is := XNu
 hash := keyH w
 inj := fun v a b ha hb => by
   rcases Xbt ha with ⟨i, t, rfl, rfl⟩ | ⟨x, t, rfl, rfl⟩
   · rcases Xbt hb with ⟨j, u, rfl, e⟩ | ⟨y, u, rfl, e⟩
     · injection e with e1 _; rw [e1]
     · exact nomatch e
   · rcases Xbt hb with ⟨j, u, rfl, e⟩ | ⟨y, u, rfl, e⟩
     · exact nomatch e
     · injection e with e1 _; rw [e1]
 byValue := fun k v h => by
   rcases Xbt h with ⟨i, t, rfl, rfl⟩ | ⟨x, t, rfl, rfl⟩ <;> rfl
 pyHash := fun hv h => by
   rcases Xbt hv with ⟨i, t, rfl, rfl⟩ | ⟨x, t, rfl, rfl⟩
   · exact wpAny_pyHash_int h
   · exact wpAny_pyHash_str h
 eqBool := fun hu hv h => by
   rcases Xbt hu with ⟨i, t, rfl, rfl⟩ | ⟨x, t, rfl, rfl⟩
   · rcases Xbt hv with ⟨j, u, rfl, rfl⟩ | ⟨y, u, rfl, rfl⟩
     · rw [XJc] at h; exact wpAny_eqBool_int h
     · rw [XIb] at h; exact SeqAt.EqAt.int_str i t y u _ _ _ _ h
   · rcases Xbt hv with ⟨j, u, rfl, rfl⟩ | ⟨y, u, rfl, rfl⟩
     · rw [XIl] at h; exact SeqAt.EqAt.str_int x t j u _ _ _ _ h
     · rw [XMq] at h; exact wpAny_eqBool_str h
 «strs» := fun k x t v h => by
   rcases Xbt h with ⟨i, u, rfl, e⟩ | ⟨y, u, rfl, e⟩
   · exact nomatch e
   · injection e with e1 _
     subst e1
     cases v <;> rfl
end L2
namespace L2
open PySem PySem.Spec PyProof.Rows
inductive V where
 | non | bl (b : Bool) | int (i : Int) | str (x : Str) | byt (b : Array UInt8) | flt (b : UInt64) | ref (a : Addr) | ty (n : String)
 deriving DecidableEq
def RelV : V → Value → Prop
 | .non, u => u = Value.none
 | .bl b, u => u = Value.bool b
 | .int i, u => ∃ t, u = Value.int i t
 | .str x, u => ∃ t, u = Value.str x t
 | .byt b, u => ∃ t, u = Value.bytes b t
 | .flt b, u => ∃ t, u = Value.float b t
 | .ref a, u => u = Value.ref a
 | .ty n, u => u = Value.type n
abbrev Vals : List V → List Value → Prop := Paired RelV
theorem Vals.length {xs : List V} {us : List Value} (r : Vals xs us) : xs.length = us.length := Paired.length r
theorem Vals.get : ∀ {xs : List V} {us : List Value} {i : Nat} {x : V}, Vals xs us → xs[i]? = some x → ∃ u, us[i]? = some u ∧ RelV x u
 | _, _, _, _, .nil, e => by simp at e
 | _, _, 0, _, .cons r _, e => by simp at e; subst e; exact ⟨_, rfl, r⟩
 | _, _, i + 1, x, .cons _ t, e => by
   obtain ⟨u, h1, h2⟩ := Vals.get (i := i) (x := x) t (by simpa using e)
   exact ⟨u, by simpa using h1, h2⟩
theorem Vals.set {x : V} {u : Value} (r : RelV x u) : ∀ {xs : List V} {us : List Value} (i : Nat), Vals xs us → Vals (xs.set i x) (us.set i u)
 | _, _, _, .nil => .nil
 | _, _, 0, .cons _ t => .cons r t
 | _, _, i + 1, .cons q t => .cons q (Vals.set r i t)
theorem Vals.append : ∀ {xs ys : List V} {us ws : List Value}, Vals xs us → Vals ys ws → Vals (xs ++ ys) (us ++ ws)
 | _, _, _, _, .nil, s => s
 | _, _, _, _, .cons r t, s => .cons r (Vals.append t s)
theorem Vals.take : ∀ {xs : List V} {us : List Value} (n : Nat), Vals xs us → Vals (xs.take n) (us.take n)
 | _, _, 0, _ => .nil
 | _, _, _ + 1, .nil => .nil
 | _, _, n + 1, .cons r t => .cons r (Vals.take n t)
theorem Vals.drop : ∀ {xs : List V} {us : List Value} (n : Nat), Vals xs us → Vals (xs.drop n) (us.drop n)
 | _, _, 0, r => r
 | _, _, _ + 1, .nil => .nil
 | _, _, n + 1, .cons _ t => Vals.drop n t
theorem Vals.none_of : ∀ {xs : List V} {us : List Value} {i : Nat}, Vals xs us → xs[i]? = none → us[i]? = none := fun {xs us i} r e => by
 have h1 := r.length
 have h2 : xs.length ≤ i := List.getElem?_eq_none_iff.mp e
 exact List.getElem?_eq_none_iff.mpr (by omega)
def RelO : Option V → Option Value → Prop
 | some v, some u => RelV v u
 | none, none => True
 | _, _ => False
def KV {κ : Type} : List (κ × V) → List (κ × Value) → Prop := Paired fun (p : κ × V) (q : κ × Value) => p.1 = q.1 ∧ RelV p.2 q.2
def kV : Key → V
 | .inl i => .int i
 | .inr x => .str x
inductive HO where
 /-- a list -/
 | lst (xs : List V)
 /-- a tuple (never changes) -/
 | tup (xs : List V)
 /-- a dict whose keys are ints and texts; one whose keys are tuples of ints and texts (the empty one is both) -/
 | dK (kvs : List (Key × V)) | dT (kvs : List (List Key × V))
 /-- a set of ints: its members, its size -/
 | set (S : Int → Bool) (n : Nat)
 /-- an instance of the class at C, its dict at dx, its attributes -/
 | ins (C dx : Addr) (fs : List (Str × V))
 /-- the dict of the instance at x -/
 | own (x : Addr)
 /-- the dict of an exception -/
 | xd (fs : List (Str × V))
 /-- a bound method, f of x -/
 | met (f x : Addr)
 /-- a range object lo, lo + 1, .. below hi -/
 | rng (lo hi : Int)
 /-- a thing that is known to the object (the script; a dict while a loop walks it): read, never written while it is so -/
 | frz (o : Obj) (u : HO)
 /-- a code object's table -/
 | tbl (ps : Array Value)
 /-- any other thing, by what is true of its one object (a def of one's own: SetO a S n := HO.ext fun h => ..) -/
 | ext (φ : Heap → Prop)
abbrev Hp := Addr → Option HO
def upd (H : Hp) (a : Addr) (o : HO) : Hp := fun b => if b = a then some o else H b
theorem upd_same {H : Hp} {a : Addr} {o : HO} : upd H a o a = some o := by unfold upd; rw [if_pos rfl]
theorem Xap {H : Hp} {a b : Addr} {o : HO} (h : b ≠ a) : upd H a o b = H b := by unfold upd; rw [if_neg h]
theorem Xan {H : Hp} {a b : Addr} {o : HO} (h : H a = some o) (h' : H b = none) : a ≠ b := by
 intro e; subst e; rw [h] at h'; cases h'
section
variable (P : Program) (w : World)
def Xdr (H : Hp) (h : Heap) (a : Addr) : HO → Prop
 | .lst xs => xs.length ≤ sizeLine ∧ ∃ (its : List Value) (n : Nat), Vals xs its ∧ h.get? a = some { cls := .type "list", data := .seq its.toArray n }
 | .tup xs => xs.length ≤ sizeLine ∧ ∃ its : List Value, Vals xs its ∧ IsTup h a its.toArray
 | .dK kvs => kvs.length ≤ sizeLine ∧ (a == sysModules) = false ∧ ∃ vs, KV kvs vs ∧ h.DictOf (Xla P w) a vs
 | .dT kvs => kvs.length ≤ sizeLine ∧ (a == sysModules) = false ∧ ∃ xs : List (List Key × Addr × Value),
     Paired (fun (p : List Key × V) (q : List Key × Addr × Value) => p.1 = q.1 ∧ H q.2.1 = some (.tup (p.1.map kV)) ∧ RelV p.2 q.2.2) kvs xs ∧
     ∃ o es ep, h.get? a = some o ∧ o.ExactDict ∧ o.data = .dict es ep ∧ es.toList = xs.map (entryOfKey (tupleKind (Xla P w))) ∧ (xs.map (·.1)).Nodup
 | .set S n => h.SetOf (intKind P w) a S n
 | .ins C dx fs => H dx = some (.own a) ∧ fs.length ≤ 1000 ∧ dx ≠ a ∧ h.get? a = some (PySem.W.instObj C dx) ∧
     ∃ mA, h.Ns1 dx mA ∧ (∀ f, RelO (fs.lookup f) (mA f)) ∧ PySem.Within mA (fs.map (·.1))
 | .own _ => ∃ o, h.get? a = some o
 | .xd fs => ∃ mA, h.Ns1 a mA ∧ ∀ f, RelO (fs.lookup f) (mA f)
 | .rng lo hi => ∃ t u v, h.get? a = some { cls := .type "range", data := .fields #[.int lo t, .int hi u, .int 1 v] }
 | .frz o u => h.get? a = some o ∧ Xdr H h a u
 | .tbl ps => h.get? a = some { cls := .none, data := .fields ps }
 | .met f x => h.get? a = some (PySem.W.methodObj (.ref f) (.ref x))
 | .ext φ => φ h ∧ (∃ o, h.get? a = some o) ∧ ∀ h1 h2 : Heap, φ h1 → (∀ o, h1.get? a = some o → h2.get? a = some o) → φ h2
def HOk (H : Hp) (h : Heap) : Prop := ∀ a o, H a = some o → Xdr P w H h a o
end
section
variable {P : Program} {w : World} {H H' : Hp} {h h' : Heap} {a : Addr} {o : HO}
theorem Xdr.lt (x : Xdr P w H h a o) : a < h.objs.size := by
 cases o with
 | lst xs => obtain ⟨_, _, _, _, e⟩ := x; exact Heap.lt_size e
 | tup xs => obtain ⟨_, _, _, p⟩ := x; exact p.lt
 | dK kvs => obtain ⟨_, _, _, _, o, _, _, e, _⟩ := x; exact Heap.lt_size e
 | dT kvs => obtain ⟨_, _, _, _, o, _, _, e, _⟩ := x; exact Heap.lt_size e
 | set S n => obtain ⟨o, _, _, _, e, _⟩ := x; exact Heap.lt_size e
 | ins C dx fs => obtain ⟨_, _, _, e, _⟩ := x; exact Heap.lt_size e
 | own y => obtain ⟨_, e⟩ := x; exact Heap.lt_size e
 | xd fs => obtain ⟨_, ⟨_, _, _, e, _⟩, _⟩ := x; exact Heap.lt_size e
 | rng lo hi => obtain ⟨_, _, _, e⟩ := x; exact Heap.lt_size e
 | frz ob u => obtain ⟨e, _⟩ := x; exact Heap.lt_size e
 | tbl ps => exact Heap.lt_size (show h.get? a = some _ from x)
 | met f y => exact Heap.lt_size (show h.get? a = some _ from x)
 | ext φ => obtain ⟨_, ⟨_, e⟩, _⟩ := x; exact Heap.lt_size e
theorem Paired.mapP {α β : Type} {F G : α → β → Prop} : ∀ {l₁ : List α} {l₂ : List β}, Paired F l₁ l₂ → (∀ a b, F a b → G a b) → Paired G l₁ l₂
 | _, _, .nil, _ => .nil
 | _, _, .cons r t, f => .cons (f _ _ r) (Paired.mapP t f)
theorem Xdr.stay (x : Xdr P w H h a o) (k : ∀ b u, (b = a ∨ H b = some (.own a)) → h.get? b = some u → h'.get? b = some u)
   (ho : ∀ b, H b = some (.own a) → H' b = some (.own a)) (ht : ∀ b xs, H b = some (.tup xs) → H' b = some (.tup xs)) : Xdr P w H' h' a o := by
 induction o with
 | lst xs => obtain ⟨z, its, n, r, e⟩ := x; exact ⟨z, its, n, r, k _ _ (.inl rfl) e⟩
 | tup xs => obtain ⟨z, its, r, ob, e, c⟩ := x; exact ⟨z, its, r, ob, k _ _ (.inl rfl) e, c⟩
 | dK kvs => obtain ⟨z, y, vs, r, ob, es, ep, e, c⟩ := x; exact ⟨z, y, vs, r, ob, es, ep, k _ _ (.inl rfl) e, c⟩
 | dT kvs =>
   obtain ⟨z, y, xs, r, ob, es, ep, e, c⟩ := x
   exact ⟨z, y, xs, Paired.mapP r fun p q z => ⟨z.1, ht _ _ z.2.1, z.2.2⟩, ob, es, ep, k _ _ (.inl rfl) e, c⟩
 | set S n => obtain ⟨ob, es, ep, t, e, c⟩ := x; exact ⟨ob, es, ep, t, k _ _ (.inl rfl) e, c⟩
 | ins C dx fs =>
   obtain ⟨d, z, ne, e, mA, ⟨od, es, ep, e2, c⟩, r⟩ := x
   exact ⟨ho _ d, z, ne, k _ _ (.inl rfl) e, mA, ⟨od, es, ep, k _ _ (.inr d) e2, c⟩, r⟩
 | own y => obtain ⟨ob, e⟩ := x; exact ⟨ob, k _ _ (.inl rfl) e⟩
 | xd fs => obtain ⟨mA, ⟨od, es, ep, e, c⟩, r⟩ := x; exact ⟨mA, ⟨od, es, ep, k _ _ (.inl rfl) e, c⟩, r⟩
 | rng lo hi => obtain ⟨t, u, v, e⟩ := x; exact ⟨t, u, v, k _ _ (.inl rfl) e⟩
 | frz ob u ih => obtain ⟨e, q⟩ := x; exact ⟨k _ _ (.inl rfl) e, ih q⟩
 | tbl ps =>
   have e : h.get? a = some { cls := .none, data := .fields ps } := x
   show h'.get? a = some { cls := .none, data := .fields ps }
   exact k a _ (.inl rfl) e
 | met f y =>
   have e : h.get? a = some (PySem.W.methodObj (.ref f) (.ref y)) := x
   show h'.get? a = some (PySem.W.methodObj (.ref f) (.ref y))
   exact k a _ (.inl rfl) e
 | ext φ => obtain ⟨p, ⟨o, e⟩, st⟩ := x; exact ⟨st _ _ p fun o q => k _ _ (.inl rfl) q, ⟨o, k _ _ (.inl rfl) e⟩, st⟩
theorem HOk.lt (x : HOk P w H h) (e : H a = some o) : a < h.objs.size := (x a o e).lt
theorem HOk.fresh (x : HOk P w H h) (e : h.objs.size ≤ a) : H a = none := by
 cases q : H a with
 | none => rfl
 | some u => exact absurd (Nat.lt_of_lt_of_le (x.lt q) e) (Nat.lt_irrefl _)
theorem HOk.kept (x : HOk P w H h) (k : ∀ b u, h.get? b = some u → h'.get? b = some u) : HOk P w H h' := fun a o e =>
 (x a o e).stay (fun b u _ q => k b u q) (fun _ q => q) fun _ _ q => q
theorem HOk.laid (x : HOk P w H h) (k : ∀ b u, h.get? b = some u → h'.get? b = some u) (hp : h.objs.size ≤ a) (new : Xdr P w (upd H a o) h' a o) : HOk P w (upd H a o) h' := fun b u e => by
 have hn := x.fresh hp
 by_cases hb : b = a
 · subst hb; rw [upd_same] at e; cases e; exact new
 · rw [Xap hb] at e
   exact (x b u e).stay (fun c v _ q => k c v q) (fun c q => by rw [Xap (Xan q hn)]; exact q) fun c xs q => by rw [Xap (Xan q hn)]; exact q
end
def Rd (H : Hp) (a : Addr) (u : HO) : Prop := H a = some u ∨ ∃ o, H a = some (.frz o u)
theorem Rd.of {H : Hp} {a : Addr} {u : HO} (h : H a = some u) : Rd H a u := .inl h
theorem Rd.ok {P : Program} {w : World} {H : Hp} {h : Heap} {a : Addr} {u : HO} (r : Rd H a u) (x : HOk P w H h) : Xdr P w H h a u := by
 rcases r with r | ⟨o, r⟩
 · exact x a u r
 · obtain ⟨_, q⟩ := x a _ r
   exact q
def Mut : Option HO → Prop
 | some (.lst _) => True
 | some (.dK _) => True
 | some (.dT _) => True
 | some (.set _ _) => True
 | some (.ins _ _ _) => True
 | some (.ext _) => True
 | _ => False
section
variable {P : Program} {w : World} {H : Hp} {h h' : Heap} {x e : Addr} {o' : HO}
theorem HOk.write (ok : HOk P w H h) (mu : Mut (H x)) (he : e = x ∨ H e = some (.own x)) (k : ∀ b u, b ≠ e → h.get? b = some u → h'.get? b = some u) (heo : ∃ u, h'.get? e = some u)
   (new : Xdr P w (upd H x o') h' x o') : HOk P w (upd H x o') h' := fun b u q => by
 have nown : ∀ c y, H c = some (.own y) → c ≠ x := fun c y r z => by subst z; rw [r] at mu; exact mu
 have ntup : ∀ c xs, H c = some (.tup xs) → c ≠ x := fun c xs r z => by subst z; rw [r] at mu; exact mu
 by_cases hb : b = x
 · subst hb; rw [upd_same] at q; cases q; exact new
 · rw [Xap hb] at q
   by_cases hbe : b = e
   · have q' : H b = some (.own x) := by
       rcases he with z | z
       · exact absurd (hbe.trans z) hb
       · rw [hbe]; exact z
     rw [q] at q'; cases q'
     obtain ⟨v, hv⟩ := heo
     exact ⟨v, by rw [hbe]; exact hv⟩
   · refine (ok b u q).stay (fun c v hc r => k c v ?_ r) (fun c r => by rw [Xap (nown c b r)]; exact r) fun c xs r => by rw [Xap (ntup c xs r)]; exact r
     rcases hc with rfl | hc
     · exact hbe
     · rintro rfl
       rcases he with z | z
       · exact nown c b hc z
       · rw [hc] at z; cases z; exact hb rfl
end
structure Un (fs ex : List Addr) (H H' : Hp) (h h' : Heap) : Prop where
 keep : ∀ b o, h.get? b = some o → H b = none → b ∉ fs → b ∉ ex → h'.get? b = some o
 slot : ∀ b o, h.get? b = some o → H b = none → b ∈ fs → b ∉ ex → ∃ sl, h'.get? b = some { o with slots := sl }
 free : ∀ b o, h.get? b = some o → H b = none → b ∉ ex → H' b = none
 there : ∀ b o, h.get? b = some o → b ∉ ex → ∃ o', h'.get? b = some o'
 tups : ∀ b xs, H b = some (.tup xs) → H' b = some (.tup xs)
 frzs : ∀ b o u, H b = some (.frz o u) → H' b = some (.frz o u)
 tbls : ∀ b ps, H b = some (.tbl ps) → ∃ more, H' b = some (.tbl (ps ++ more))
section
variable {fs fs' ex ex' : List Addr} {H H1 H2 : Hp} {h h1 h2 h' : Heap} {a x e : Addr} {o : HO}
theorem Un.any (u : Un fs ex H H1 h h1) {b : Addr} {ob : Obj} (q : h.get? b = some ob) (n : H b = none) (hx : b ∉ ex) : ∃ sl, h1.get? b = some { ob with slots := sl } := by
 by_cases hb : b ∈ fs
 · exact u.slot b ob q n hb hx
 · exact ⟨ob.slots, u.keep b ob q n hb hx⟩
theorem Un.trans (a : Un fs ex H H1 h h1) (b : Un fs ex H1 H2 h1 h2) : Un fs ex H H2 h h2 where
 keep := fun c ob q n hc hx => b.keep c ob (a.keep c ob q n hc hx) (a.free c ob q n hx) hc hx
 slot := fun c ob q n hc hx => by
   obtain ⟨sl, e1⟩ := a.slot c ob q n hc hx
   obtain ⟨sl', e2⟩ := b.slot c _ e1 (a.free c ob q n hx) hc hx
   exact ⟨sl', e2⟩
 free := fun c ob q n hx => by
   obtain ⟨o', e1⟩ := a.there c ob q hx
   exact b.free c o' e1 (a.free c ob q n hx) hx
 there := fun c ob q hx => by
   obtain ⟨o', e1⟩ := a.there c ob q hx
   exact b.there c o' e1 hx
 tups := fun c xs q => b.tups c xs (a.tups c xs q)
 frzs := fun c ob xs q => b.frzs c ob xs (a.frzs c ob xs q)
 tbls := fun c ps q => by
   obtain ⟨m1, e1⟩ := a.tbls c ps q
   obtain ⟨m2, e2⟩ := b.tbls c _ e1
   exact ⟨m1 ++ m2, by rw [e2, Array.append_assoc]⟩
theorem Un.kept (k : ∀ b u, h.get? b = some u → h'.get? b = some u) : Un fs ex H H h h' :=
 ⟨fun b ob q _ _ _ => k b ob q, fun b ob q _ _ _ => ⟨ob.slots, k b ob q⟩, fun _ _ _ n _ => n, fun b ob q _ => ⟨ob, k b ob q⟩, fun _ _ q => q, fun _ _ _ q => q, fun _ ps q => ⟨#[], by rw [q]; simp⟩⟩
theorem Un.refl : Un fs ex H H h h := Un.kept fun _ _ q => q
theorem Un.laid (k : ∀ b u, h.get? b = some u → h'.get? b = some u) (hp : h.objs.size ≤ a) (hn : H a = none) : Un fs ex H (upd H a o) h h' where
 keep := fun b u q _ _ _ => k b u q
 slot := fun b u q _ _ _ => ⟨u.slots, k b u q⟩
 free := fun b u q n _ => by rw [Xap (Nat.ne_of_lt (Nat.lt_of_lt_of_le (Heap.lt_size q) hp))]; exact n
 there := fun b u q _ => ⟨u, k b u q⟩
 tups := fun b xs q => by rw [Xap (Xan q hn)]; exact q
 frzs := fun b u xs q => by rw [Xap (Xan q hn)]; exact q
 tbls := fun b ps q => ⟨#[], by rw [Xap (Xan q hn), q]; simp⟩
theorem Un.write (mu : Mut (H x)) (he : e = x ∨ H e = some (.own x)) (k : ∀ b u, b ≠ e → h.get? b = some u → h'.get? b = some u) (heo : ∃ u, h'.get? e = some u) : Un fs ex H (upd H x o) h h' := by
 have hx : ∀ b, H b = none → b ≠ x := fun b n z => by subst z; rw [n] at mu; exact mu
 have hb : ∀ b, H b = none → b ≠ e := fun b n z => by
   subst z
   rcases he with r | r
   · exact hx b n r
   · rw [n] at r; cases r
 have hm : ∀ b u, H b = some u → ¬ Mut (some u) → b ≠ x := fun b u q nm z => by subst z; rw [q] at mu; exact nm mu
 refine ⟨fun b u q n _ _ => k b u (hb b n) q, fun b u q n _ _ => ⟨u.slots, k b u (hb b n) q⟩, fun b u q n _ => by rw [Xap (hx b n)]; exact n, fun b u q _ => ?_,
   fun b xs q => by rw [Xap (hm b _ q fun z => z)]; exact q, fun b u xs q => by rw [Xap (hm b _ q fun z => z)]; exact q, fun b ps q => ⟨#[], by rw [Xap (hm b _ q fun z => z), q]; simp⟩⟩
 by_cases hbe : b = e
 · subst hbe; exact heo
 · exact ⟨u, k b u hbe q⟩
theorem Un.mono (u : Un fs ex H H1 h h1) (hs : ∀ b ∈ fs, b ∈ fs') (hx : ∀ b ∈ ex, b ∈ ex') : Un fs' ex' H H1 h h1 :=
 ⟨fun b ob q n hb he => u.keep b ob q n (fun z => hb (hs b z)) fun z => he (hx b z), fun _ _ q n _ he => u.any q n fun z => he (hx _ z), fun b ob q n he => u.free b ob q n fun z => he (hx b z), fun b ob q he => u.there b ob q fun z => he (hx b z), u.tups, u.frzs, u.tbls⟩
end
def trk (h : Heap) (H : Hp) : List Addr := (List.range h.objs.size).filter fun a => (H a).isSome
def hidT (h : Heap) (H : Hp) : Heap := PySem.W.hideAll h (trk h H)
theorem Xqx (h : Heap) (H : Hp) : (hidT h H).objs.size = h.objs.size := PySem.W.hideAll_size _ _
theorem Xvz {h : Heap} {H : Hp} {b : Addr} {o : Obj} (e : h.get? b = some o) (n : H b = none) : (hidT h H).get? b = some o :=
 PySem.W.hideAll_get _ e fun hm => by
   have q : (H b).isSome = true := (List.mem_filter.mp hm).2
   rw [n] at q; simp at q
theorem XBw {h : Heap} {H : Hp} {b : Addr} {o : Obj} (e : (hidT h H).get? b = some o) : h.get? b = some o ∧ H b = none := by
 have e' : h.get? b = some o := PySem.W.of_hideAll (trk h H) e
 refine ⟨e', ?_⟩
 cases q : H b with
 | none => rfl
 | some x =>
   have hm : b ∈ trk h H := List.mem_filter.mpr ⟨List.mem_range.mpr (Heap.lt_size e'), by simp [q]⟩
   have z : (hidT h H).get? b = none := PySem.W.hideAll_none (trk h H) hm
   rw [z] at e; cases e
def XDm (g h : Heap) (L : Addr) : List (Addr × Obj) := (List.range h.objs.size).filterMap fun a => if a = L ∨ (g.get? a).isSome = true then none else (h.get? a).map fun o => (a, o)
def rest (g h : Heap) (L d : Addr) : List (Addr × Obj) := (XDm g h L).filter fun p => decide (p.1 ≠ d)
end L2
namespace L2
open PySem PySem.Spec PyProof.Rows
structure Mod (K : PySem.W.Frag) (mg : Str → Option Value) (base : Heap) : Prop where
 kin : K.In base
 glob : base.Ns mainGlobals mg
 blt : ∃ mb, base.Ns builtinsNs mb ∧ ∀ x : Str, x ≠ "__name__" → mb x = bootBuiltins x
 nolimit : base.NoLimit
structure Cx where
 prog : Program
 w : World
 K : PySem.W.Frag
 mg : Str → Option Value
 base : Heap
 A : Around
 N : List Str
 s₀ : Shared
 H₀ : Hp
 env : Env
 outer : List Env
 stack : List Env
 ex : List Addr
 fn : Str → Bool
 calm : Bool
 pn : List (Addr × Obj)
 xe : Value → Shared → Prop
def frs (l : List Env) : List Addr := l.filterMap (·.frame)
abbrev Cx.fs (X : Cx) : List Addr := frs X.outer
def Vis (sc : Scope) (x : Str) : Prop := sc.names.lookup x = some .local ∨ sc.names.lookup x = some .cell ∨ sc.names.lookup x = some .free
def Loc (sc : Scope) (x : Str) : Prop := sc.names.lookup x = some .local ∨ sc.names.lookup x = some .cell
def Look (env : Env) (h : Heap) (m : Str → Option Value) (x : Str) (u : Value) : Prop :=
 (env.kindOf x = some .local ∧ m x = some u) ∨ ((env.kindOf x = some .cell ∨ env.kindOf x = some .free) ∧ ∃ c, env.cells.lookup x = some c ∧ h.IsCell c (some u))
structure Cx.Ok (X : Cx) : Prop where
 mod : Mod X.K X.mg X.base
 kind : X.env.scope.kind = .function
 glob : X.env.globals = mainGlobals
 blt : X.env.builtins = builtinsNs
 above : X.s₀.heap.objs.size ≤ X.env.locals
 inj : ∀ x y c, X.env.cells.lookup x = some c → X.env.cells.lookup y = some c → x = y
 has : ∀ x, (X.env.kindOf x = some .cell ∨ X.env.kindOf x = some .free) → ∃ c, X.env.cells.lookup x = some c
 cab : ∀ x c, X.fn x = true → X.env.cells.lookup x = some c → X.s₀.heap.objs.size ≤ c
 hd : X.calm = true → X.A.handled = none
 frames : X.A.frames = some X.stack
 stk : X.stack = X.outer ∨ (X.stack = X.env :: X.outer ∧ X.env.frame = some X.env.locals)
 exf : ∀ b ∈ X.ex, b ≠ X.env.locals ∧ ∀ x c, X.env.cells.lookup x = some c → c ≠ b
 bs : ∀ b o, X.base.get? b = some o → X.s₀.heap.get? b = some o ∧ X.H₀ b = none
 bsz : X.base.objs.size ≤ X.s₀.heap.objs.size
 noex : ∀ b o, X.base.get? b = some o → b ∉ X.ex
 exfs : ∀ b ∈ X.ex, b ∉ X.fs
 funs : X.s₀.heap.FunFrames X.base X.outer
 frf : ∀ b ∈ X.fs, X.H₀ b = none
structure Inv (X : Cx) (pins : List (Addr × Obj)) (σ : List (Option V)) (H : Hp) (s : Shared) : Prop where
 ok : X.Ok
 os : s.os = X.s₀.os
 bare : AllBare s.gens
 base : Un X.fs X.ex X.H₀ H X.s₀.heap s.heap
 loc : ∃ m, s.heap.Ns X.env.locals m ∧ ∀ (i : Nat) (x : Str) (v : V), X.N[i]? = some x → σ[i]? = some (some v) → Vis X.env.scope x → ∃ u, RelV v u ∧ Look X.env s.heap m x u
 cell : ∀ x c, X.env.cells.lookup x = some c → ∃ v, s.heap.IsCell c v
 free : H X.env.locals = none
 freeC : ∀ x c, X.env.cells.lookup x = some c → H c = none
 pin : ∀ p ∈ X.pn ++ pins, s.heap.get? p.1 = some p.2 ∧ H p.1 = none ∧ p.1 ≠ X.env.locals ∧ p.1 ∉ X.fs ∧ ∀ v, p.2.data ≠ .cell v
 hok : HOk X.prog X.w H s.heap
 len : σ.length = X.N.length
section
variable {X : Cx} {pins : List (Addr × Obj)} {σ : List (Option V)} {H H' : Hp} {s : Shared} {h' : Heap}
theorem Cx.Ok.nofr (ok : X.Ok) {b : Addr} {o : Obj} (e : X.base.get? b = some o) : b ∉ X.fs := fun hb => by
 have := (ok.funs.mem hb).1
 rw [e] at this; cases this
theorem Inv.bs (I : Inv X pins σ H s) : ∀ b o, X.base.get? b = some o → s.heap.get? b = some o ∧ H b = none := fun b o e =>
 ⟨I.base.keep b o (I.ok.bs b o e).1 (I.ok.bs b o e).2 (I.ok.nofr e) (I.ok.noex b o e), I.base.free b o (I.ok.bs b o e).1 (I.ok.bs b o e).2 (I.ok.noex b o e)⟩
theorem Inv.bk (I : Inv X pins σ H s) : ∀ b o, X.base.get? b = some o → s.heap.get? b = some o := fun b o e => (I.bs b o e).1
theorem Inv.mod (I : Inv X pins σ H s) : Mod X.K X.mg X.base := I.ok.mod
theorem Inv.kIn (I : Inv X pins σ H s) : X.K.In s.heap := I.ok.mod.kin.keeps I.bk
theorem Inv.nolimit (I : Inv X pins σ H s) : s.heap.NoLimit := I.ok.mod.nolimit.keeps I.bk
theorem Inv.fr (I : Inv X pins σ H s) : ∃ m, Fr X.base X.env.locals s.heap m :=
 let ⟨m, hn, _⟩ := I.loc
 ⟨m, hn, I.bk, Nat.le_trans I.ok.bsz I.ok.above⟩
theorem Inv.lt (I : Inv X pins σ H s) : X.env.locals < s.heap.objs.size := let ⟨_, hn, _⟩ := I.loc; hn.lt
theorem Inv.sz (I : Inv X pins σ H s) : X.s₀.heap.objs.size ≤ s.heap.objs.size := Nat.le_trans I.ok.above (Nat.le_of_lt I.lt)
theorem Inv.nofs (I : Inv X pins σ H s) {a : Addr} (h : s.heap.objs.size ≤ a) : a ∉ X.fs := fun hb => by
 obtain ⟨_, o, ho, _⟩ := I.ok.funs.mem hb
 exact absurd (Nat.lt_of_lt_of_le (Heap.lt_size ho) (Nat.le_trans I.sz h)) (Nat.lt_irrefl _)
theorem Inv.cne (I : Inv X pins σ H s) : ∀ x c, X.env.cells.lookup x = some c → c ≠ X.env.locals := fun x c e z => by
 obtain ⟨v, o, ho, hd⟩ := I.cell x c e
 obtain ⟨m, ⟨o', es, ep, ho', hd', _⟩, _⟩ := I.loc
 rw [z, ho'] at ho; cases ho; rw [hd'] at hd; cases hd
theorem Inv.funs (I : Inv X pins σ H s) : s.heap.FunFrames X.base X.outer := by
 have all : ∀ (l : List Env), (∀ b ∈ frs l, b ∈ X.fs) → X.s₀.heap.FunFrames X.base l → s.heap.FunFrames X.base l := by
   intro l
   induction l with
   | nil => intro _ _; trivial
   | cons env r ih =>
     intro hs hl
     obtain ⟨hk, ⟨L, o, hf, hn, ho, hd⟩, hr⟩ := hl
     have hL : L ∈ X.fs := hs L (by unfold frs; rw [List.filterMap_cons, hf]; exact List.mem_cons_self)
     obtain ⟨sl, e⟩ := I.base.slot L o ho (I.ok.frf L hL) hL fun z => I.ok.exfs L z hL
     exact ⟨hk, ⟨L, _, hf, hn, e, hd⟩, ih (fun b hb => hs b (by unfold frs; rw [List.filterMap_cons, hf]; exact List.mem_cons_of_mem _ hb)) hr⟩
 exact all X.outer (fun _ hb => hb) I.ok.funs
theorem Inv.stack (I : Inv X pins σ H s) : s.heap.FunFrames X.base X.stack := by
 rcases I.ok.stk with e | ⟨e, hf⟩
 · rw [e]; exact I.funs
 · rw [e]
   obtain ⟨m, hn, _⟩ := I.loc
   refine .cons (by rw [I.ok.kind]; decide) hf hn ?_ I.funs
   exact Heap.get?_none_of_le (Nat.le_trans I.ok.bsz I.ok.above)
theorem Inv.stkSub (I : Inv X pins σ H s) : ∀ b ∈ frs X.stack, b ∈ X.env.locals :: X.fs := fun b hb => by
 rcases I.ok.stk with e | ⟨e, hf⟩
 · rw [e] at hb; exact List.mem_cons_of_mem _ hb
 · rw [e] at hb
   unfold frs at hb
   rw [List.filterMap_cons, hf] at hb
   exact hb
theorem Inv.stkFree (I : Inv X pins σ H s) : ∀ b ∈ frs X.stack, H b = none := fun b hb => by
 rcases List.mem_cons.mp (I.stkSub b hb) with e | hb
 · rw [e]; exact I.free
 · obtain ⟨_, o, ho, _⟩ := I.ok.funs.mem hb
   exact I.base.free b o ho (I.ok.frf b hb) fun z => I.ok.exfs b z hb
theorem Inv.step {g' : Array GenState} {t' : Nat} {d' : Drawn} {ch : List Addr} (I : Inv X pins σ H s)
   (hch : ∀ b ∈ ch, (b ∈ X.ex ∨ X.s₀.heap.objs.size ≤ b) ∧ b ≠ X.env.locals ∧ (∀ x c, X.env.cells.lookup x = some c → c ≠ b) ∧ ∀ p ∈ X.pn ++ pins, p.1 ≠ b)
   (keep : ∀ b o, b ≠ X.env.locals → b ∉ X.fs → b ∉ ch → s.heap.get? b = some o → H b = none → h'.get? b = some o)
   (slot : ∀ b o, b ≠ X.env.locals → b ∈ X.fs → b ∉ ch → s.heap.get? b = some o → H b = none → ∃ sl, h'.get? b = some { o with slots := sl }) (free : ∀ b o, b ∉ ch → s.heap.get? b = some o → H b = none → H' b = none)
   (there : ∀ b o, b ∉ ch → s.heap.get? b = some o → ∃ o', h'.get? b = some o')
   (tups : ∀ b xs, H b = some (.tup xs) → H' b = some (.tup xs)) (frzs : ∀ b o u, H b = some (.frz o u) → H' b = some (.frz o u)) (tbls : ∀ b ps, H b = some (.tbl ps) → ∃ more, H' b = some (.tbl (ps ++ more)))
   (ns : ∀ m, s.heap.Ns X.env.locals m → h'.Ns X.env.locals m) (hok : HOk X.prog X.w H' h') (hg : AllBare g') :
   Inv X pins σ H' { s with heap := h', gens := g', drawn := d', toks := t' } := by
 have neL : ∀ b o, X.s₀.heap.get? b = some o → b ≠ X.env.locals := fun b o e => Nat.ne_of_lt (Nat.lt_of_lt_of_le (Heap.lt_size e) I.ok.above)
 have neC : ∀ b o, X.s₀.heap.get? b = some o → b ∉ X.ex → b ∉ ch := fun b o e hx hb => by
   rcases (hch b hb).1 with z | z
   · exact hx z
   · exact absurd (Nat.lt_of_lt_of_le (Heap.lt_size e) z) (Nat.lt_irrefl _)
 have cellK : ∀ x c, X.env.cells.lookup x = some c → ∀ v, s.heap.IsCell c v → h'.IsCell c v := fun x c e v ⟨o, ho, hd⟩ => by
   have nch : c ∉ ch := fun z => (hch c z).2.2.1 x c e rfl
   by_cases hc : c ∈ X.fs
   · obtain ⟨sl, q⟩ := slot c o (I.cne x c e) hc nch ho (I.freeC x c e)
     exact ⟨_, q, hd⟩
   · exact ⟨o, keep c o (I.cne x c e) hc nch ho (I.freeC x c e), hd⟩
 refine ⟨I.ok, I.os, hg, ⟨fun b o e n hb hx => ?_, fun b o e n hb hx => ?_, fun b o e n hx => ?_, fun b o e hx => ?_, fun b xs e => tups b xs (I.base.tups b xs e), fun b o xs e => frzs b o xs (I.base.frzs b o xs e), fun b ps e => ?_⟩, ?_, fun x c e => ?_, ?_, fun x c e => ?_, fun p hp => ?_, hok, I.len⟩
 · exact keep b o (neL b o e) hb (neC b o e hx) (I.base.keep b o e n hb hx) (I.base.free b o e n hx)
 · obtain ⟨sl, e1⟩ := I.base.slot b o e n hb hx
   obtain ⟨sl', e2⟩ := slot b _ (neL b o e) hb (neC b o e hx) e1 (I.base.free b o e n hx)
   exact ⟨sl', e2⟩
 · obtain ⟨o', e1⟩ := I.base.there b o e hx
   exact free b o' (neC b o e hx) e1 (I.base.free b o e n hx)
 · obtain ⟨o', e1⟩ := I.base.there b o e hx
   exact there b o' (neC b o e hx) e1
 · obtain ⟨m1, e1⟩ := I.base.tbls b ps e
   obtain ⟨m2, e2⟩ := tbls b _ e1
   exact ⟨m1 ++ m2, by rw [e2, Array.append_assoc]⟩
 · obtain ⟨m, hn, hl⟩ := I.loc
   refine ⟨m, ns m hn, fun i x v e1 e2 e3 => ?_⟩
   obtain ⟨u, r, l⟩ := hl i x v e1 e2 e3
   refine ⟨u, r, ?_⟩
   rcases l with l | ⟨k, c, e, z⟩
   · exact .inl l
   · exact .inr ⟨k, c, e, cellK x c e _ z⟩
 · obtain ⟨v, z⟩ := I.cell x c e
   exact ⟨v, cellK x c e v z⟩
 · obtain ⟨m, ⟨o, _, _, ho, _⟩, _⟩ := I.loc
   exact free _ o (fun z => (hch _ z).2.1 rfl) ho I.free
 · obtain ⟨v, o, ho, hd⟩ := I.cell x c e
   exact free c o (fun z => (hch c z).2.2.1 x c e rfl) ho (I.freeC x c e)
 · obtain ⟨e, n, ne, nf, d⟩ := I.pin p hp
   have nch : p.1 ∉ ch := fun z => (hch p.1 z).2.2.2 p hp rfl
   exact ⟨keep p.1 p.2 ne nf nch e n, free p.1 p.2 nch e n, ne, nf, d⟩
theorem Inv.un {t' : Nat} (I : Inv X pins σ H s) (u : Un X.fs [] H H' s.heap h') (hok : HOk X.prog X.w H' h') : Inv X pins σ H' { s with heap := h', toks := t' } := by
 obtain ⟨m, ⟨o, es, ep, ho, r⟩, _⟩ := id I.loc
 obtain ⟨sl, hL⟩ := u.any ho I.free (by simp)
 exact I.step (g' := s.gens) (d' := s.drawn) (ch := []) (fun _ z => nomatch z) (fun b o _ hb _ e n => u.keep b o e n hb (by simp)) (fun b o _ hb _ e n => u.slot b o e n hb (by simp)) (fun b o _ e n => u.free b o e n (by simp)) (fun b o _ e => u.there b o e (by simp)) u.tups u.frzs u.tbls (fun m' hm => by
   obtain ⟨o', es', ep', ho', r'⟩ := hm
   rw [ho] at ho'; cases ho'
   exact ⟨_, es', ep', hL, r'⟩) hok I.bare
theorem Inv.call {g' : Array GenState} {t' : Nat} {d' : Drawn} {ch : List Addr} (I : Inv X pins σ H s) (u : Un (frs X.stack) ch H H' s.heap h') (hok : HOk X.prog X.w H' h') (hg : AllBare g')
   (hch : ∀ b ∈ ch, (b ∈ X.ex ∨ X.s₀.heap.objs.size ≤ b) ∧ b ≠ X.env.locals ∧ (∀ x c, X.env.cells.lookup x = some c → c ≠ b) ∧ ∀ p ∈ X.pn ++ pins, p.1 ≠ b) :
   Inv X pins σ H' { s with heap := h', gens := g', drawn := d', toks := t' } := by
 obtain ⟨m, ⟨o, es, ep, ho, r⟩, _⟩ := id I.loc
 obtain ⟨sl, hL⟩ := u.any ho I.free fun z => (hch _ z).2.1 rfl
 exact I.step (ch := ch) hch (fun b o hL hb hc e n => u.keep b o e n (fun z => (List.mem_cons.mp (I.stkSub b z)).elim hL hb) hc) (fun b o _ _ hc e n => u.any e n hc) (fun b o hc e n => u.free b o e n hc) (fun b o hc e => u.there b o e hc) u.tups u.frzs u.tbls (fun m' hm => by
   obtain ⟨o', es', ep', ho', r'⟩ := hm
   rw [ho] at ho'; cases ho'
   exact ⟨_, es', ep', hL, r'⟩) hok hg
theorem Inv.turned {t' : Nat} {it : Addr} (I : Inv X pins σ H s) (k : ∀ b o, b ≠ it → s.heap.get? b = some o → h'.get? b = some o) (hn : H it = none) (hL : it ≠ X.env.locals)
   (h1 : it ∈ X.ex ∨ X.s₀.heap.objs.size ≤ it) (h2 : ∀ x c, X.env.cells.lookup x = some c → c ≠ it) (h3 : ∀ p ∈ X.pn ++ pins, p.1 ≠ it) : Inv X pins σ H { s with heap := h', toks := t' } := by
 have nit : ∀ b u, H b = some u → b ≠ it := fun b u e z => by rw [z, hn] at e; cases e
 refine I.step (g' := s.gens) (d' := s.drawn) (ch := [it]) (fun b hb => ?_) (fun b o _ _ hc e _ => k b o (fun z => hc (by simp [z])) e) (fun b o _ _ hc e _ => ⟨o.slots, k b o (fun z => hc (by simp [z])) e⟩) (fun _ _ _ _ n => n)
   (fun b o hc e => ⟨o, k b o (fun z => hc (by simp [z])) e⟩) (fun _ _ e => e) (fun _ _ _ e => e) (fun b ps e => ⟨#[], by rw [e]; simp⟩) (fun m hm => ?_) (fun b u e => ?_) I.bare
 · have e : b = it := by simpa using hb
   subst e
   exact ⟨h1, hL, h2, h3⟩
 · obtain ⟨o, es, ep, ho, r⟩ := hm
   exact ⟨o, es, ep, k _ o (Ne.symm hL) ho, r⟩
 · refine (I.hok b u e).stay (fun c v hc q => k c v ?_ q) (fun _ q => q) fun _ _ q => q
   rcases hc with z | z
   · rw [z]; exact nit b u e
   · exact nit c _ z
theorem Inv.tok (I : Inv X pins σ H s) (t : Nat) : Inv X pins σ H { s with toks := t } := I.un (h' := s.heap) (t' := t) Un.refl I.hok
theorem Inv.kept {t' : Nat} (I : Inv X pins σ H s) (k : ∀ b u, s.heap.get? b = some u → h'.get? b = some u) : Inv X pins σ H { s with heap := h', toks := t' } := I.un (Un.kept k) (I.hok.kept k)
theorem Inv.laid {a : Addr} {o : HO} {t' : Nat} (I : Inv X pins σ H s) (k : ∀ b u, s.heap.get? b = some u → h'.get? b = some u) (hp : s.heap.objs.size ≤ a) (new : Xdr X.prog X.w (upd H a o) h' a o) :
   Inv X pins σ (upd H a o) { s with heap := h', toks := t' } := I.un (Un.laid k hp (I.hok.fresh hp)) (I.hok.laid k hp new)
theorem Inv.write {x e : Addr} {o : HO} {t' : Nat} (I : Inv X pins σ H s) (mu : Mut (H x)) (he : e = x ∨ H e = some (.own x)) (k : ∀ b u, b ≠ e → s.heap.get? b = some u → h'.get? b = some u) (heo : ∃ u, h'.get? e = some u)
   (new : Xdr X.prog X.w (upd H x o) h' x o) : Inv X pins σ (upd H x o) { s with heap := h', toks := t' } := I.un (Un.write mu he k heo) (I.hok.write mu he k heo new)
theorem Inv.pins_of {pins' : List (Addr × Obj)} (I : Inv X pins σ H s) (h : ∀ p ∈ pins', s.heap.get? p.1 = some p.2 ∧ H p.1 = none ∧ p.1 ≠ X.env.locals ∧ p.1 ∉ X.fs ∧ ∀ v, p.2.data ≠ .cell v) : Inv X pins' σ H s :=
 ⟨I.ok, I.os, I.bare, I.base, I.loc, I.cell, I.free, I.freeC, fun p hp => (List.mem_append.mp hp).elim (fun z => I.pin p (List.mem_append_left _ z)) (h p), I.hok, I.len⟩
theorem Xjm {N : List Str} (hN : N.Nodup) {i j : Nat} {x : Str} (a : N[i]? = some x) (b : N[j]? = some x) : i = j := by
 obtain ⟨h1, e1⟩ := List.getElem?_eq_some_iff.mp a
 obtain ⟨h2, e2⟩ := List.getElem?_eq_some_iff.mp b
 exact (List.getElem_inj hN).mp (e1.trans e2.symm)
theorem Xkn {M : Model} {A : Around} {E : Value → Shared → Prop} {i : Nat} {x : Str} {v : V} {u : Value} {Q : Unit → Shared → Prop} (I : Inv X pins σ H s) (hN : X.N.Nodup) (hi : X.N[i]? = some x) (hx : Loc X.env.scope x) (r : RelV v u)
   (h : ∀ s', Inv X pins (σ.set i (some v)) H s' → (∃ a, Heap.SameBut a s.heap s'.heap ∧ (a = X.env.locals ∨ X.env.cells.lookup x = some a)) → Q () s') (hf : X.fn x = true ∨ X.env.scope.names.lookup x = some .local := by first | exact .inl rfl | exact .inr rfl | assumption) : wpAny M A (storeName X.env x u) Q E s := by
 obtain ⟨m, hn, hl⟩ := id I.loc
 have hcls : (X.env.scope.kind == .class || (X.env.scope.kind == .module && X.env.locals != X.env.globals)) = false := by rw [I.ok.kind]; rfl
 have hiσ : i < σ.length := by rw [I.len]; exact (List.getElem?_eq_some_iff.mp hi).1
 have cne := I.cne
 have tracked : ∀ {a : Addr} {h' : Heap}, (∃ o, s.heap.get? a = some o ∧ H a = none) → Heap.SameBut a s.heap h' → HOk X.prog X.w H h' := fun {a h'} ha hs b ob e => by
   obtain ⟨_, _, hfree⟩ := ha
   refine (I.hok b ob e).stay (fun c w' hc q => (hs.2 c ?_).trans q) (fun _ q => q) fun _ _ q => q
   rintro rfl
   rcases hc with rfl | hc
   · rw [hfree] at e; cases e
   · rw [hfree] at hc; cases hc
 rcases hx with hk | hk
 · refine wpAny_storeName_local hk hn (fun h' hn' hs => ?_) hcls
   obtain ⟨oL, _, _, hoL, _⟩ := id hn
   refine h _ ⟨I.ok, I.os, I.bare, ⟨fun b o e n hb hx => ?_, fun b o e n hb hx => ?_, I.base.free, fun b o e hx => ?_, I.base.tups, I.base.frzs, I.base.tbls⟩, ⟨_, hn', fun j y v' e1 e2 e3 => ?_⟩, fun y c e => ?_, I.free, I.freeC, fun p hp => ?_, tracked ⟨oL, hoL, I.free⟩ hs, by simpa using I.len⟩ ⟨_, hs, .inl rfl⟩
   · exact (hs.2 b (Nat.ne_of_lt (Nat.lt_of_lt_of_le (Heap.lt_size e) I.ok.above))).trans (I.base.keep b o e n hb hx)
   · obtain ⟨sl, e1⟩ := I.base.slot b o e n hb hx
     exact ⟨sl, (hs.2 b (Nat.ne_of_lt (Nat.lt_of_lt_of_le (Heap.lt_size e) I.ok.above))).trans e1⟩
   · obtain ⟨o', e1⟩ := I.base.there b o e hx
     exact ⟨o', (hs.2 b (Nat.ne_of_lt (Nat.lt_of_lt_of_le (Heap.lt_size e) I.ok.above))).trans e1⟩
   · by_cases hj : j = i
     · subst hj
       rw [hi] at e1; cases e1
       rw [List.getElem?_set_self hiσ] at e2
       cases e2
       exact ⟨u, r, .inl ⟨hk, by simp⟩⟩
     · rw [List.getElem?_set_ne (Ne.symm hj)] at e2
       obtain ⟨u', r', q⟩ := hl j y v' e1 e2 e3
       refine ⟨u', r', ?_⟩
       rcases q with ⟨k, e⟩ | ⟨k, c, e, z⟩
       · refine .inl ⟨k, ?_⟩
         have : y ≠ x := fun e => hj (Xjm hN e1 (e ▸ hi))
         simp [this, e]
       · exact .inr ⟨k, c, e, z.sameBut hs (cne y c e)⟩
   · obtain ⟨w', z⟩ := I.cell y c e
     exact ⟨w', z.sameBut hs (cne y c e)⟩
   · obtain ⟨e, n, ne, nf, d⟩ := I.pin p hp
     exact ⟨(hs.2 p.1 ne).trans e, n, ne, nf, d⟩
 · have hfn : X.fn x = true := by
     rcases hf with z | z
     · exact z
     · rw [z] at hk; cases hk
   obtain ⟨c, hc⟩ := I.ok.has x (.inl hk)
   obtain ⟨w', z⟩ := I.cell x c hc
   refine wpAny_storeName_cell I.ok.kind hk hc z (fun h' hc' hs => ?_)
   obtain ⟨oc, hoc, hocd⟩ := id z
   refine h { s with heap := h' } ⟨I.ok, I.os, I.bare, ⟨fun b o e n hb hx => ?_, fun b o e n hb hx => ?_, I.base.free, fun b o e hx => ?_, I.base.tups, I.base.frzs, I.base.tbls⟩, ⟨m, hn.sameBut hs (Ne.symm (cne x c hc)), fun j y v' e1 e2 e3 => ?_⟩, fun y c' e => ?_, I.free, I.freeC, fun p hp => ?_, tracked ⟨oc, hoc, I.freeC x c hc⟩ hs, by simpa using I.len⟩ ⟨c, hs, .inr hc⟩
   · exact (hs.2 b (Nat.ne_of_lt (Nat.lt_of_lt_of_le (Heap.lt_size e) (I.ok.cab x c hfn hc)))).trans (I.base.keep b o e n hb hx)
   · obtain ⟨sl, e1⟩ := I.base.slot b o e n hb hx
     exact ⟨sl, (hs.2 b (Nat.ne_of_lt (Nat.lt_of_lt_of_le (Heap.lt_size e) (I.ok.cab x c hfn hc)))).trans e1⟩
   · obtain ⟨o', e1⟩ := I.base.there b o e hx
     exact ⟨o', (hs.2 b (Nat.ne_of_lt (Nat.lt_of_lt_of_le (Heap.lt_size e) (I.ok.cab x c hfn hc)))).trans e1⟩
   · by_cases hj : j = i
     · subst hj
       rw [hi] at e1; cases e1
       rw [List.getElem?_set_self hiσ] at e2
       cases e2
       exact ⟨u, r, .inr ⟨.inl hk, c, hc, hc'⟩⟩
     · rw [List.getElem?_set_ne (Ne.symm hj)] at e2
       obtain ⟨u', r', q⟩ := hl j y v' e1 e2 e3
       refine ⟨u', r', ?_⟩
       rcases q with q | ⟨k, c', e, z'⟩
       · exact .inl q
       · refine .inr ⟨k, c', e, z'.sameBut hs ?_⟩
         rintro rfl
         exact hj (Xjm hN e1 (I.ok.inj _ _ _ e hc ▸ hi))
   · by_cases hcc : c' = c
     · subst hcc; exact ⟨_, hc'⟩
     · obtain ⟨w2, z2⟩ := I.cell y c' e
       exact ⟨w2, z2.sameBut hs hcc⟩
   · obtain ⟨e, n, ne, nf, d⟩ := I.pin p hp
     refine ⟨(hs.2 p.1 ?_).trans e, n, ne, nf, d⟩
     intro q
     rw [q, hoc] at e
     have q' : oc = p.2 := Option.some.inj e
     exact d w' (by rw [← q']; exact hocd)
theorem Xjh {M : Model} {A : Around} {E : Value → Shared → Prop} {i : Nat} {x : Str} {v : V} {u : Value} {Q : Unit → Shared → Prop} (I : Inv X pins σ H s) (hN : X.N.Nodup) (hi : X.N[i]? = some x) (hx : Loc X.env.scope x) (r : RelV v u)
   (h : ∀ s', Inv X pins (σ.set i (some v)) H s' → Q () s') (hf : X.fn x = true ∨ X.env.scope.names.lookup x = some .local := by first | exact .inl rfl | exact .inr rfl | assumption) : wpAny M A (storeName X.env x u) Q E s :=
 Xkn I hN hi hx r (fun s' I' _ => h s' I') hf
theorem Inv.call' {s' : Shared} {ch : List Addr} (I : Inv X pins σ H s) (ho : s'.os = s.os) (u : Un (frs X.stack) ch H H' s.heap s'.heap) (hok : HOk X.prog X.w H' s'.heap) (hg : AllBare s'.gens)
   (hch : ∀ b ∈ ch, (b ∈ X.ex ∨ X.s₀.heap.objs.size ≤ b) ∧ b ≠ X.env.locals ∧ (∀ x c, X.env.cells.lookup x = some c → c ≠ b) ∧ ∀ p ∈ X.pn ++ pins, p.1 ≠ b) : Inv X pins σ H' s' := by
 obtain ⟨h', g', d', t', o'⟩ := s'
 have e : o' = s.os := ho
 subst e
 exact I.call (g' := g') (t' := t') (d' := d') u hok hg hch
end
abbrev XK := Value → Option Addr → Hp → Prop
abbrev St := List (Option V)
abbrev VK := V → Hp → Prop
abbrev TE := St → Hp → VK → Prop
abbrev TT := St → Hp → (Bool → Hp → Prop) → Prop
abbrev TA := St → Hp → (List V → Hp → Prop) → Prop
structure Ends where
 nx : St → Hp → Prop
 rt : VK
 bk : St → Hp → Prop := fun _ _ => False
 ct : St → Hp → Prop := fun _ _ => False
abbrev TS := Ends → St → Hp → Prop
def EP (X : Cx) (pins : List (Addr × Obj)) (σ : St) (Q : VK) (u : Value) (s' : Shared) : Prop := ∃ v H', Inv X pins σ H' s' ∧ RelV v u ∧ Q v H'
def TP (X : Cx) (pins : List (Addr × Obj)) (σ : St) (Q : Bool → Hp → Prop) (b : Bool) (s' : Shared) : Prop := ∃ H', Inv X pins σ H' s' ∧ Q b H'
def AP (X : Cx) (pins : List (Addr × Obj)) (σ : St) (Q : List V → Hp → Prop) (us : List Value) (s' : Shared) : Prop := ∃ vs H', Inv X pins σ H' s' ∧ Vals vs us ∧ Q vs H'
def SP (X : Cx) (pins : List (Addr × Obj)) (D : Ends) (f : Flow) (s' : Shared) : Prop :=
 match f with
 | .next => ∃ σ' H', Inv X pins σ' H' s' ∧ D.nx σ' H'
 | .brk => ∃ σ' H', Inv X pins σ' H' s' ∧ D.bk σ' H'
 | .cont => ∃ σ' H', Inv X pins σ' H' s' ∧ D.ct σ' H'
 | .ret u => ∃ v σ' H', Inv X pins σ' H' s' ∧ RelV v u ∧ D.rt v H'
def PE (X : Cx) (e : Expr) (t : TE) : Prop :=
 ∀ (pins : List (Addr × Obj)) (s : Shared) (σ : St) (H : Hp) (Q : VK), Inv X pins σ H s → t σ H Q → wpAny (model X.prog X.w) X.A (eval e X.env) (EP X pins σ Q) X.xe s
def PT (X : Cx) (e : Expr) (t : TT) : Prop :=
 ∀ (pins : List (Addr × Obj)) (s : Shared) (σ : St) (H : Hp) (Q : Bool → Hp → Prop), Inv X pins σ H s → t σ H Q → wpAny (model X.prog X.w) X.A (isTrue e X.env (eval e X.env)) (TP X pins σ Q) X.xe s
def PW (X : Cx) (e : Expr) (t : TT) : Prop :=
 ∀ (whole : Sem Value) (pins : List (Addr × Obj)) (s : Shared) (σ : St) (H : Hp) (Q : Bool → Hp → Prop), Inv X pins σ H s → t σ H Q → wpAny (model X.prog X.w) X.A (isTrue e X.env whole) (TP X pins σ Q) X.xe s
theorem PW.pt {X : Cx} {e : Expr} {t : TT} (h : PW X e t) : PT X e t := h _
def PA (X : Cx) (es : List Expr) (t : TA) : Prop :=
 ∀ (pos : Pos) (pins : List (Addr × Obj)) (s : Shared) (σ : St) (H : Hp) (Q : List V → Hp → Prop), Inv X pins σ H s → t σ H Q → wpAny (model X.prog X.w) X.A (spliced (backTo pos (starEach es X.env))) (AP X pins σ Q) X.xe s
def PS (X : Cx) (st : Stmt) (t : TS) : Prop :=
 ∀ (pins : List (Addr × Obj)) (s : Shared) (σ : St) (H : Hp) (D : Ends), Inv X pins σ H s → t D σ H → wpAny (model X.prog X.w) X.A (exec st X.env) (SP X pins D) X.xe s
def PSs (X : Cx) (st : List Stmt) (t : TS) : Prop :=
 ∀ (pins : List (Addr × Obj)) (s : Shared) (σ : St) (H : Hp) (D : Ends), Inv X pins σ H s → t D σ H → wpAny (model X.prog X.w) X.A (execs st X.env) (SP X pins D) X.xe s
theorem thn {α : Type} {t : Sem α} {Q Q' : α → Shared → Prop} {M : Model} {A : Around} {E : Value → Shared → Prop} {s : Shared} (h : wpAny M A t Q E s) (hQ : ∀ a s, Q a s → Q' a s) : wpAny M A t Q' E s := wpAny_mono h hQ fun _ _ x => x
end L2
namespace L2
open PySem PySem.Spec PyProof.Rows
section
variable {X : Cx}
theorem bin {a b : Expr} {ta tb : TE} (ha : PE X a ta) (hb : PE X b tb) {pins : List (Addr × Obj)} {s : Shared} {σ : St} {H : Hp} {R : V → V → Hp → Prop} (I : Inv X pins σ H s) (h : ta σ H fun x H1 => tb σ H1 fun y H2 => R x y H2)
   {α : Type} {Q : α → Shared → Prop} {f : Value → Value → Sem α}
   (hf : ∀ v u s2 x y H2, Inv X pins σ H2 s2 → RelV x v → RelV y u → R x y H2 → wpAny (model X.prog X.w) X.A (f v u) Q X.xe s2) :
   wpAny (model X.prog X.w) X.A (eval a X.env) (fun v s₁ => wpAny (model X.prog X.w) X.A (eval b X.env) (fun u s₂ => wpAny (model X.prog X.w) X.A (f v u) Q X.xe s₂) X.xe s₁) X.xe s := by
 refine thn (ha pins s σ H _ I h) fun v s1 ⟨x, H1, I1, r1, q1⟩ => ?_
 refine thn (hb pins s1 σ H1 _ I1 q1) fun u s2 ⟨y, H2, I2, r2, q2⟩ => ?_
 exact hf v u s2 x y H2 I2 r1 r2 q2
def tVar (i : Nat) : TE := fun σ H Q => ∃ v, σ[i]? = some (some v) ∧ Q v H
def tC (v : V) : TE := fun _ H Q => Q v H
theorem XMi {i : Nat} {x : Str} {pos : Pos} (hN : X.N[i]? = some x) (hv : Vis X.env.scope x) (hd : (x == ("__debug__" : Str)) = false := by decide) (hcd : (x == ("__classdict__" : Str)) = false := by decide) : PE X (.Name x pos) (tVar i) := by
 intro pins s σ H Q I h
 obtain ⟨v, e, h⟩ := h
 obtain ⟨m, hn, hl⟩ := I.loc
 obtain ⟨u, r, l⟩ := hl i x v hN e hv
 have fin : EP X pins σ Q u s := ⟨v, H, I, r, h⟩
 rcases l with ⟨hk, hm⟩ | ⟨hk, c, hc, hcell⟩
 · exact wpAny_Name (wpAny_loadName_local I.ok.kind hk hn hm fin) hd
 · rcases hk with hk | hk
   · exact wpAny_Name (wpAny_loadName_cell I.ok.kind hk hc hcell fin) hd
   · exact wpAny_Name (wpAny_loadName_free I.ok.kind hk hc hcell fin hcd) hd
theorem Xaf {i j pos} : PE X (.Constant (.int i) j pos) (tC (.int i)) := fun _ _ _ H _ I h => wpAny_Constant_int ⟨.int i, H, I.tok _, ⟨_, rfl⟩, h⟩
theorem Xey {b j pos} : PE X (.Constant (.bool b) j pos) (tC (.bl b)) := fun _ _ _ H _ I h => Constant_bool ⟨.bl b, H, I, rfl, h⟩
theorem Xgj {j pos} : PE X (.Constant .none j pos) (tC .non) := fun _ _ _ H _ I h => Constant_none ⟨.non, H, I, rfl, h⟩
theorem Xbd {x j pos} : PE X (.Constant (.str x) j pos) (tC (.str x)) := fun _ _ _ H _ I h => Calls.Constant_str ⟨.str x, H, I.tok _, ⟨_, rfl⟩, h⟩
def Gl (X : Cx) (x : Str) : Prop := X.env.kindOf x = some .globalImplicit
theorem Xdo {E : Value → Shared → Prop} {pins : List (Addr × Obj)} {s : Shared} {σ : St} {H : Hp} {x : Str} {u : Value} {pos : Pos} {Q : Value → Shared → Prop} (I : Inv X pins σ H s) (hg : Gl X x) (hm : X.mg x = some u) (h : Q u s)
   (hd : (x == ("__debug__" : Str)) = false := by decide) : wpAny (model X.prog X.w) X.A (eval (.Name x pos) X.env) Q E s :=
 Calls.Name_function_global I.ok.kind hg (Calls.loadGlobal_global (by rw [I.ok.glob]; exact I.mod.glob.keeps I.bk) hm h) hd
theorem Xxn {E : Value → Shared → Prop} {pins : List (Addr × Obj)} {s : Shared} {σ : St} {H : Hp} {x : Str} {u : Value} {pos : Pos} {Q : Value → Shared → Prop} (I : Inv X pins σ H s) (hg : Gl X x) (hm : X.mg x = none) (hv : bootBuiltins x = some u) (h : Q u s)
   (hn : x ≠ "__name__" := by decide) (hd : (x == ("__debug__" : Str)) = false := by decide) : wpAny (model X.prog X.w) X.A (eval (.Name x pos) X.env) Q E s := by
 obtain ⟨mb, h1, h2⟩ := I.mod.blt
 exact Calls.Name_function_global I.ok.kind hg (Calls.loadGlobal_builtin (by rw [I.ok.glob]; exact I.mod.glob.keeps I.bk) hm (by rw [I.ok.blt]; exact h1.keeps I.bk) ((h2 x hn).trans hv) h) hd
theorem Xdd {x : Str} {v : V} {u : Value} {pos : Pos} (hg : Gl X x) (hm : X.mg x = some u) (r : RelV v u) (hd : (x == ("__debug__" : Str)) = false := by decide) : PE X (.Name x pos) (tC v) :=
 fun _ _ _ H _ I h => Xdo I hg hm ⟨v, H, I, r, h⟩ hd
variable {a b : Expr} {ta tb : TE} {pos : Pos}
def PC (X : Cx) (op : CmpOp) (a b : Expr) (t : TE) : Prop :=
 ∀ (pins : List (Addr × Obj)) (s : Shared) (σ : St) (H : Hp) (Q : VK), Inv X pins σ H s → t σ H Q →
   wpAny (model X.prog X.w) X.A (eval a X.env) (fun v s₁ => wpAny (model X.prog X.w) X.A (eval b X.env) (fun u s₂ => wpAny (model X.prog X.w) X.A (compareOp op v u) (EP X pins σ Q) X.xe s₂) X.xe s₁) X.xe s
theorem Xwb (b : Expr) {op : CmpOp} (h : op ≠ .In) (h2 : op ≠ .NotIn) : behindInMarks op b = false := by
 have e1 : (op == CmpOp.In) = false := by cases op <;> first | rfl | exact absurd rfl h
 have e2 : (op == CmpOp.NotIn) = false := by cases op <;> first | rfl | exact absurd rfl h2
 cases b <;> simp [behindInMarks, e1, e2]
def tB (t : TE) : TT := fun σ H Q => t σ H fun x H1 => ∃ c, x = .bl c ∧ Q c H1
theorem XRv {op : CmpOp} {t : TE} (h : PC X op a b t) (h1 : behindInMarks op b = false := by first | exact Xwb _ (by decide) (by decide) | rfl) : PT X (.Compare a [op] [b] pos) (tB t) := by
 intro pins s σ H Q I hw
 refine wpAny_isTrue_Compare1 (thn (h pins s σ H _ I hw) fun v s1 h1 => thn h1 fun u s2 h2 => thn h2 fun c s3 ⟨x, H1, I1, r1, q1⟩ => ?_) h1
 obtain ⟨d, rfl, q⟩ := q1
 cases r1
 exact wpAny_truthy_bool ⟨H1, I1, q⟩
theorem Xea {e : Expr} {t : TE} (h : PE X e t) (he : ∀ whole, isTrue e X.env whole = (do let v ← whole; standAt e.pos; holding [v] (truthy v)) := by intro _; rfl) : PT X e (tB t) := by
 intro pins s σ H Q I hw
 refine isTrue_plain (thn (h pins s σ H _ I hw) fun v s1 ⟨x, H1, I1, r1, q1⟩ => ?_) (he _)
 obtain ⟨d, rfl, q⟩ := q1
 cases r1
 exact wpAny_truthy_bool ⟨H1, I1, q⟩
variable {tA tB' : TT} {rest : List Expr}
def tAnd (t u : TT) : TT := fun σ H Q => t σ H fun c H1 => if c = true then u σ H1 Q else Q false H1
def tOr (t u : TT) : TT := fun σ H Q => t σ H fun c H1 => if c = true then Q true H1 else u σ H1 Q
def tNot (t : TT) : TT := fun σ H Q => t σ H fun c H1 => Q (!c) H1
theorem Xde (ha : PT X a tA) : PW X (.BoolOp .And [a] pos) tA := by
 intro wh pins s σ H Q I h
 refine isTrue_and (thn (ha pins s σ H Q I h) fun c s1 e => ?_)
 cases c with
 | true => exact isTrue_and_nil e
 | false => exact e
theorem Xdg (ha : PT X a tA) : PW X (.BoolOp .Or [a] pos) tA := by
 intro wh pins s σ H Q I h
 refine isTrue_or (thn (ha pins s σ H Q I h) fun c s1 e => ?_)
 cases c with
 | false => exact isTrue_or_nil e
 | true => exact e
theorem Xdp (ha : PT X a tA) (hb : PW X (.BoolOp .And (b :: rest) pos) tB') : PW X (.BoolOp .And (a :: b :: rest) pos) (tAnd tA tB') := by
 intro wh pins s σ H Q I h
 refine isTrue_and (thn (ha pins s σ H _ I h) fun c s1 ⟨H1, I1, q1⟩ => ?_)
 cases c with
 | true => exact hb wh pins s1 σ H1 Q I1 q1
 | false => exact ⟨H1, I1, q1⟩
theorem Xez (ha : PT X a tA) (hb : PW X (.BoolOp .Or (b :: rest) pos) tB') : PW X (.BoolOp .Or (a :: b :: rest) pos) (tOr tA tB') := by
 intro wh pins s σ H Q I h
 refine isTrue_or (thn (ha pins s σ H _ I h) fun c s1 ⟨H1, I1, q1⟩ => ?_)
 cases c with
 | true => exact ⟨H1, I1, q1⟩
 | false => exact hb wh pins s1 σ H1 Q I1 q1
theorem Xfc (ha : PT X a tA) : PT X (.UnaryOp .Not a pos) (tNot tA) := by
 intro pins s σ H Q I h
 exact isTrue_not (ha pins s σ H (fun c H1 => Q (!c) H1) I h)
def Xwl (ta tb : TE) : TE := fun σ H Q => ta σ H fun x H1 => ∃ c, x = .bl c ∧ if c = true then tb σ H1 Q else Q (.bl false) H1
def tOrV (ta tb : TE) : TE := fun σ H Q => ta σ H fun x H1 => ∃ c, x = .bl c ∧ if c = true then Q (.bl true) H1 else tb σ H1 Q
def XMf (ta : TE) : TE := fun σ H Q => ta σ H fun x H1 => ∃ c, x = .bl c ∧ Q (.bl (!c)) H1
theorem Xyi {op} {t : TE} (h : PE X a t) : PE X (.BoolOp op [a] pos) t := fun pins s σ H Q I hw => BoolOp_one (h pins s σ H Q I hw)
theorem XJz (ha : PE X a ta) (hb : PE X (.BoolOp .And (b :: rest) pos) tb) : PE X (.BoolOp .And (a :: b :: rest) pos) (Xwl ta tb) := by
 intro pins s σ H Q I h
 refine BoolOp_and (thn (ha pins s σ H _ I h) fun v s1 ⟨x, H1, I1, r1, q1⟩ => ?_)
 obtain ⟨c, rfl, q1⟩ := q1
 cases r1
 refine wpAny_truthy_bool ?_
 cases c with
 | true => exact hb pins s1 σ H1 Q I1 q1
 | false => exact ⟨.bl false, H1, I1, rfl, q1⟩
theorem XOd (ha : PE X a ta) (hb : PE X (.BoolOp .Or (b :: rest) pos) tb) : PE X (.BoolOp .Or (a :: b :: rest) pos) (tOrV ta tb) := by
 intro pins s σ H Q I h
 refine BoolOp_or (thn (ha pins s σ H _ I h) fun v s1 ⟨x, H1, I1, r1, q1⟩ => ?_)
 obtain ⟨c, rfl, q1⟩ := q1
 cases r1
 refine wpAny_truthy_bool ?_
 cases c with
 | false => exact hb pins s1 σ H1 Q I1 q1
 | true => exact ⟨.bl true, H1, I1, rfl, q1⟩
theorem XMh (ha : PE X a ta) : PE X (.UnaryOp .Not a pos) (XMf ta) := by
 intro pins s σ H Q I h
 refine UnaryOp_ (thn (ha pins s σ H _ I h) fun v s1 ⟨x, H1, I1, r1, q1⟩ => ?_)
 obtain ⟨c, rfl, q1⟩ := q1
 cases r1
 exact not_of (wpAny_truthy_bool ⟨.bl (!c), H1, I1, rfl, q1⟩)
def tIf (t : TT) (ta tb : TE) : TE := fun σ H Q => t σ H fun c H1 => if c = true then ta σ H1 Q else tb σ H1 Q
theorem Xtw {c : Expr} (hc : PT X c tA) (ha : PE X a ta) (hb : PE X b tb) : PE X (.IfExp c a b pos) (tIf tA ta tb) := by
 intro pins s σ H Q I h
 refine wpAny_IfExp (thn (hc pins s σ H _ I h) fun d s1 ⟨H1, I1, q1⟩ => ?_)
 cases d with
 | true => exact ha pins s1 σ H1 Q I1 q1
 | false => exact hb pins s1 σ H1 Q I1 q1
end
end L2
namespace L2
open PySem PySem.Spec PyProof.Rows
def SqL (K : PySem.W.Frag) (H : Hp) (a : Addr) (xs : List V) : Prop :=
 Rd H a (.lst xs) ∨
   ∃ (o : Obj) (its : Array Value) (n : Nat), K.lookup a = some o ∧ o.cls = .type "list" ∧ o.dict = none ∧ o.data = .seq its n ∧ its.size ≤ sizeLine ∧ Vals xs its.toList
def SqT (K : PySem.W.Frag) (H : Hp) (a : Addr) (xs : List V) : Prop :=
 Rd H a (.tup xs) ∨
   ∃ (o : Obj) (its : Array Value) (n : Nat), K.lookup a = some o ∧ o.cls = .type "tuple" ∧ o.data = .seq its n ∧ its.size ≤ sizeLine ∧ Vals xs its.toList
def absV : Value → Option V
 | .none => some .non
 | .bool b => some (.bl b)
 | .int i _ => some (.int i)
 | .str x _ => some (.str x)
 | .bytes b _ => some (.byt b)
 | .float b _ => some (.flt b)
 | .ref a => some (.ref a)
 | .type n => some (.ty n)
 | _ => none
theorem RelV.abs {x : V} {u : Value} (r : RelV x u) : absV u = some x := by
 cases x with
 | non => cases r; rfl
 | bl _ => cases r; rfl
 | int _ => obtain ⟨t, rfl⟩ := r; rfl
 | str _ => obtain ⟨t, rfl⟩ := r; rfl
 | byt _ => obtain ⟨t, rfl⟩ := r; rfl
 | flt _ => obtain ⟨t, rfl⟩ := r; rfl
 | ref _ => cases r; rfl
 | ty _ => cases r; rfl
theorem RelV.inj {x y : V} {u : Value} (r : RelV x u) (q : RelV y u) : x = y := Option.some.inj (r.abs.symm.trans q.abs)
theorem Vals.inj : ∀ {xs ys : List V} {us : List Value}, Vals xs us → Vals ys us → xs = ys
 | _, _, _, .nil, .nil => rfl
 | _, _, _, .cons r t, .cons r' t' => by rw [r.inj r', Vals.inj t t']
section
variable {X : Cx} {pins : List (Addr × Obj)} {σ : St} {H : Hp} {s : Shared} {a : Addr} {xs ys : List V}
theorem SqL.of {K : PySem.W.Frag} (h : H a = some (.lst xs)) : SqL K H a xs := .inl (.inl h)
theorem SqT.of {K : PySem.W.Frag} (h : H a = some (.tup xs)) : SqT K H a xs := .inl (.inl h)
theorem Inv.list (I : Inv X pins σ H s) (h : SqL X.K H a xs) : ∃ its : List Value, Vals xs its ∧ PlainL s.heap a its.toArray ∧ xs.length ≤ sizeLine := by
 rcases h with h | ⟨o, its, n, hk, hc, hd, hs, hz, r⟩
 · obtain ⟨z, its, n, r, e⟩ := h.ok I.hok
   exact ⟨its, r, ⟨_, n, e, rfl, rfl, rfl⟩, z⟩
 · refine ⟨its.toList, r, ⟨o, n, I.kIn a o hk, hc, hd, by simpa using hs⟩, ?_⟩
   have e := r.length
   simp only [Array.length_toList] at e
   omega
theorem Inv.tuple (I : Inv X pins σ H s) (h : SqT X.K H a xs) : ∃ its : List Value, Vals xs its ∧ IsTup s.heap a its.toArray ∧ xs.length ≤ sizeLine := by
 rcases h with h | ⟨o, its, n, hk, hc, hs, hz, r⟩
 · obtain ⟨z, its, r, p⟩ := h.ok I.hok
   exact ⟨its, r, p, z⟩
 · refine ⟨its.toList, r, ⟨o, I.kIn a o hk, hc, n, by simpa using hs⟩, ?_⟩
   have e := r.length
   simp only [Array.length_toList] at e
   omega
theorem Inv.list_inj (I : Inv X pins σ H s) (h : SqL X.K H a xs) (h' : SqL X.K H a ys) : xs = ys := by
 obtain ⟨its, r, ⟨o, n, e, _, _, d⟩, _⟩ := I.list h
 obtain ⟨its', r', ⟨o', n', e', _, _, d'⟩, _⟩ := I.list h'
 rw [e] at e'; cases e'
 rw [d] at d'
 injection d' with d1 _
 have : its = its' := by simpa using congrArg Array.toList d1
 subst this
 exact r.inj r'
end
abbrev Cx.wish (X : Cx) (E : Value → Shared → Prop) : Cx := { X with xe := E }
abbrev Cx.nox (X : Cx) : Cx := X.wish fun _ _ => False
theorem Cx.Ok.wish {X : Cx} (ok : X.Ok) (E : Value → Shared → Prop) : (X.wish E).Ok :=
 ⟨ok.mod, ok.kind, ok.glob, ok.blt, ok.above, ok.inj, ok.has, ok.cab, ok.hd, ok.frames, ok.stk, ok.exf, ok.bs, ok.bsz, ok.noex, ok.exfs, ok.funs, ok.frf⟩
theorem Cx.Ok.unwish {X : Cx} {E : Value → Shared → Prop} (ok : (X.wish E).Ok) : X.Ok :=
 ⟨ok.mod, ok.kind, ok.glob, ok.blt, ok.above, ok.inj, ok.has, ok.cab, ok.hd, ok.frames, ok.stk, ok.exf, ok.bs, ok.bsz, ok.noex, ok.exfs, ok.funs, ok.frf⟩
section
variable {X : Cx} {pins : List (Addr × Obj)} {σ : St} {H : Hp} {s : Shared} {E : Value → Shared → Prop}
theorem Inv.wish (I : Inv X pins σ H s) (E : Value → Shared → Prop) : Inv (X.wish E) pins σ H s := ⟨I.ok.wish E, I.os, I.bare, I.base, I.loc, I.cell, I.free, I.freeC, I.pin, I.hok, I.len⟩
theorem Inv.unwish (I : Inv (X.wish E) pins σ H s) : Inv X pins σ H s := ⟨I.ok.unwish, I.os, I.bare, I.base, I.loc, I.cell, I.free, I.freeC, I.pin, I.hok, I.len⟩
theorem SP.unwish {D : Ends} {f : Flow} {s' : Shared} (h : SP (X.wish E) pins D f s') : SP X pins D f s' := by
 cases f with
 | next => obtain ⟨σ', H', I, q⟩ := h; exact ⟨σ', H', I.unwish, q⟩
 | brk => obtain ⟨σ', H', I, q⟩ := h; exact ⟨σ', H', I.unwish, q⟩
 | cont => obtain ⟨σ', H', I, q⟩ := h; exact ⟨σ', H', I.unwish, q⟩
 | ret u => obtain ⟨v, σ', H', I, r, q⟩ := h; exact ⟨v, σ', H', I.unwish, r, q⟩
theorem PE.nox {e : Expr} {t : TE} (h : PE X.nox e t) : PE X e t := fun pins s σ H Q I hw =>
 wpAny_mono (h pins s σ H Q (I.wish _) hw) (fun _ _ ⟨v, H', I', r, q⟩ => ⟨v, H', I'.unwish, r, q⟩) fun _ _ z => False.elim z
theorem PT.nox {e : Expr} {t : TT} (h : PT X.nox e t) : PT X e t := fun pins s σ H Q I hw =>
 wpAny_mono (h pins s σ H Q (I.wish _) hw) (fun _ _ ⟨H', I', q⟩ => ⟨H', I'.unwish, q⟩) fun _ _ z => False.elim z
theorem PSs.nox {st : List Stmt} {t : TS} (h : PSs X.nox st t) : PSs X st t := fun pins s σ H D I hw =>
 wpAny_mono (h pins s σ H D (I.wish _) hw) (fun _ _ q => q.unwish) fun _ _ z => False.elim z
end
section
variable {X : Cx} {st : Stmt} {rest : List Stmt} {t u : TS} {e : Expr} {te : TE} {pos : Pos}
def XCo : TS := fun D σ H => D.nx σ H
def tSeq (t u : TS) : TS := fun D σ H => t { D with nx := u D } σ H
theorem Xak : PSs X [] XCo := fun _ _ σ H _ I h => wpAny_execs_nil ⟨σ, H, I, h⟩
theorem Xab (h1 : PS X st t) (h2 : PSs X rest u) : PSs X (st :: rest) (tSeq t u) := by
 intro pins s σ H D I h
 refine wpAny_execs_cons (thn (h1 pins s σ H { D with nx := u D } I h) fun f s1 q => ?_)
 cases f with
 | next =>
   obtain ⟨σ', H', I', q⟩ := q
   exact h2 pins s1 σ' H' D I' q
 | ret v => exact q
 | brk => exact q
 | cont => exact q
theorem Xac (h1 : PS X st t) : PSs X [st] t := by
 intro pins s σ H D I h
 refine wpAny_execs_cons (thn (h1 pins s σ H D I h) fun f s1 q => ?_)
 cases f with
 | next => exact wpAny_execs_nil q
 | ret v => exact q
 | brk => exact q
 | cont => exact q
theorem XCt : PS X (.Pass pos) XCo := fun _ _ σ H _ I h => wpAny_Pass ⟨σ, H, I, h⟩
theorem Inv.quiet {pins : List (Addr × Obj)} {σ : St} {H : Hp} {s : Shared} (I : Inv X pins σ H s) : interactive X.env = false := by simp [interactive, I.ok.kind]
def XKn (te : TE) : TS := fun D σ H => te σ H fun _ H1 => D.nx σ H1
theorem Xau (he : PE X e te) (hs : swapsWith e none pos.line X.env = pure false := by rfl) : PS X (.Expr e pos) (XKn te) := by
 intro pins s σ H D I h
 exact wpAny_Expr_any (thn (he pins s σ H _ I h) fun v s1 ⟨x, H1, I1, r1, q1⟩ => ⟨σ, H1, I1, q1⟩) I.quiet hs
def tRet (te : TE) : TS := fun D σ H => te σ H D.rt
theorem Xao (he : PE X e te) : PS X (.Return (some e) pos) (tRet te) := by
 intro pins s σ H D I h
 exact wpAny_Return_some (thn (he pins s σ H _ I h) fun v s1 ⟨x, H1, I1, r1, q1⟩ => ⟨x, σ, H1, I1, r1, q1⟩)
def tIfS (c : TT) (t u : TS) : TS := fun D σ H => c σ H fun b H1 => if b = true then t D σ H1 else u D σ H1
theorem Xax {c : Expr} {a b : List Stmt} {tc : TT} (hc : PT X c tc) (ha : PSs X a t) (hb : PSs X b u) : PS X (.If c a b pos) (tIfS tc t u) := by
 intro pins s σ H D I h
 refine wpAny_If (thn (hc pins s σ H _ I h) fun d s1 ⟨H1, I1, q1⟩ => ?_)
 cases d with
 | true => exact ha pins s1 σ H1 D I1 q1
 | false => exact hb pins s1 σ H1 D I1 q1
end
abbrev TG := V → St → Hp → (St → Hp → Prop) → Prop
abbrev TGs := List V → St → Hp → (St → Hp → Prop) → Prop
def PG (X : Cx) (target : Expr) (t : TG) : Prop :=
 ∀ (pins : List (Addr × Obj)) (s : Shared) (σ : St) (H : Hp) (v : V) (u : Value) (Q : St → Hp → Prop), Inv X pins σ H s → RelV v u → t v σ H Q →
   wpAny (model X.prog X.w) X.A (assign target X.env u) (fun _ s' => ∃ σ' H', Inv X pins σ' H' s' ∧ Q σ' H') X.xe s
def PGs (X : Cx) (ts : List Expr) (t : TGs) : Prop :=
 ∀ (pins : List (Addr × Obj)) (s : Shared) (σ : St) (H : Hp) (vs : List V) (us : List Value) (Q : St → Hp → Prop), Inv X pins σ H s → Vals vs us → t vs σ H Q →
   wpAny (model X.prog X.w) X.A (assignInOrder ((assignEach ts X.env).map (·.2)) us) (fun _ s' => ∃ σ' H', Inv X pins σ' H' s' ∧ Q σ' H') X.xe s
abbrev TSet := V → V → V → Hp → (Hp → Prop) → Prop
def PSet (X : Cx) (t : TSet) : Prop :=
 ∀ (pins : List (Addr × Obj)) (s : Shared) (σ : St) (H : Hp) (o i v : V) (ov iv u : Value) (Q : Hp → Prop), Inv X pins σ H s → RelV o ov → RelV i iv → RelV v u → t o i v H Q →
   wpAny (model X.prog X.w) X.A (setItem ov iv u) (fun _ s' => ∃ H', Inv X pins σ H' s' ∧ Q H') X.xe s
section
variable {X : Cx} {pos : Pos}
def Xmd (i : Nat) : TG := fun v σ H Q => Q (σ.set i (some v)) H
theorem Xas {i : Nat} {x : Str} (hN : X.N.Nodup) (hi : X.N[i]? = some x) (hx : Loc X.env.scope x) (hf : X.fn x = true ∨ X.env.scope.names.lookup x = some .local := by first | exact .inl rfl | exact .inr rfl | assumption) : PG X (.Name x pos) (Xmd i) := by
 intro pins s σ H v u Q I r h
 exact wpAny_assign_Name (Xjh I hN hi hx r (fun s' I' => ⟨_, H, I', h⟩) hf)
def gNil : TGs := fun vs σ H Q => vs = [] ∧ Q σ H
def XJq (t : TG) (u : TGs) : TGs := fun vs σ H Q => ∃ v r, vs = v :: r ∧ t v σ H fun σ' H' => u r σ' H' Q
theorem Xcx : PGs X [] gNil := by
 intro pins s σ H vs us Q I r h
 obtain ⟨e, h⟩ := h
 subst e
 cases r
 exact assignInOrder_nil ⟨σ, H, I, h⟩
theorem Xar {e : Expr} {es : List Expr} {t : TG} {u : TGs} (h1 : PG X e t) (h2 : PGs X es u)
   (hs : (assignEach (e :: es) X.env).map (·.2) = assign e X.env :: (assignEach es X.env).map (·.2) := by rfl) : PGs X (e :: es) (XJq t u) := by
 intro pins s σ H vs us Q I r h
 obtain ⟨v, vr, e1, h⟩ := h
 subst e1
 cases r with
 | cons r rr =>
   rw [hs]
   refine assignInOrder_cons (thn (h1 pins s σ H _ _ _ I r h) fun _ s1 ⟨σ1, H1, I1, q1⟩ => ?_)
   exact h2 pins s1 σ1 H1 _ _ Q I1 rr q1
def gTup (K : PySem.W.Frag) (n : Nat) (t : TGs) : TG := fun v σ H Q => ∃ a xs, v = .ref a ∧ SqT K H a xs ∧ xs.length = n ∧ t xs σ H Q
theorem Xgm {es : List Expr} {k : Nat} {t : TGs} {n : Nat} (hc : X.calm = true) (h : PGs X es t)
   (hn : (assignEach es X.env).length = n := by rfl) (hst : (assignEach es X.env).findIdx? (·.1) = none := by rfl) : PG X (.Tuple es k pos) (gTup X.K n t) := by
 intro pins s σ H v u Q I r hw
 obtain ⟨a, xs, e1, hq, hl, hw⟩ := hw
 subst e1
 cases r
 obtain ⟨its, rv, ht, hz⟩ := I.tuple hq
 refine assign_Tuple_tuple (I.ok.hd hc) ht (by simp [hn, ← hl, rv.length]) hst fun h' hx => ?_
 have I1 : Inv X pins σ H { s with heap := h' } := I.kept (t' := s.toks) fun b o e => hx b o (Nat.ne_of_lt (Heap.lt_size e)) e
 exact h pins _ σ H xs _ Q I1 (by simpa using rv) hw
def gSub (to ti : TE) (t : TSet) : TG := fun v σ H Q => to σ H fun o H1 => ti σ H1 fun i H2 => t o i v H2 fun H3 => Q σ H3
theorem Xip {o i : Expr} {to ti : TE} {t : TSet} (ho : PE X o to) (hi : PE X i ti) (hs : PSet X t)
   (ha : ∀ v, assign (.Subscript o i pos) X.env v = (do
     let ov ← holding [v] (eval o X.env)
     let iv ← holding [v, ov] (eval i X.env)
     standAt pos
     holding [v, ov, iv] (setItem ov iv v)
     release [v, ov, iv] []) := by intro _; rfl) : PG X (.Subscript o i pos) (gSub to ti t) := by
 intro pins s σ H v u Q I r h
 rw [ha]
 refine wpAny_bind (wpAny_holding (thn (ho pins s σ H _ I h) fun ov s1 ⟨x, H1, I1, r1, q1⟩ => ?_))
 refine wpAny_bind (wpAny_holding (thn (hi pins s1 σ H1 _ I1 q1) fun iv s2 ⟨y, H2, I2, r2, q2⟩ => ?_))
 refine wpAny_bind (wpAny_standAt (wpAny_bind (wpAny_holding (thn (hs pins s2 σ H2 x y v ov iv u _ I2 r1 r2 r q2) fun _ s3 ⟨H3, I3, q3⟩ => ?_))))
 exact wpAny_release ⟨σ, H3, I3, q3⟩
def tAsg (te : TE) (g : TG) : TS := fun D σ H => te σ H fun x H1 => g x σ H1 D.nx
theorem Xel {tg e : Expr} {te : TE} {g : TG} (he : PE X e te) (hg : PG X tg g) (hs : swapsWithSole [tg] e pos.line X.env = pure false := by rfl) (hw : swappedStores [tg] e X.env = pure none := by rfl)
   (h1 : (assignEach [tg] X.env).map (·.2) = [assign tg X.env] := by rfl) : PS X (.Assign [tg] e pos) (tAsg te g) := by
 intro pins s σ H D I h
 refine wpAny_Assign_stores (thn (he pins s σ H _ I h) fun v s1 ⟨x, H1, I1, r1, q1⟩ => ?_) hs hw
 rw [h1]
 exact thn (hg pins s1 σ H1 x v _ I1 r1 q1) fun _ s2 q => q
theorem Xaq {i : Nat} {x : Str} {e : Expr} {te : TE} {pos' : Pos} (hN : X.N.Nodup) (hi : X.N[i]? = some x) (hx : Loc X.env.scope x) (he : PE X e te) (hs : swapsWith e (some (.Name x pos')) pos.line X.env = pure false := by rfl) (hf : X.fn x = true ∨ X.env.scope.names.lookup x = some .local := by first | exact .inl rfl | exact .inr rfl | assumption) :
   PS X (.Assign [.Name x pos'] e pos) (tAsg te (Xmd i)) := by
 intro pins s σ H D I h
 refine wpAny_Assign_Name (thn (he pins s σ H _ I h) fun v s1 ⟨y, H1, I1, r1, q1⟩ => ?_) hs
 exact Xjh I1 hN hi hx r1 (fun s2 I2 => ⟨_, H1, I2, q1⟩) hf
end
section
variable {X : Cx} {pos : Pos}
def XHl (c : TT) (tb : TS) : TS := fun D σ H => ∃ W : Nat → St → Hp → Prop, (∃ m, W m σ H) ∧ ∀ m σ H, W m σ H →
 c σ H fun b H1 => if b = true then ∃ N : St → Hp → Prop, (∀ σ' H', N σ' H' → ∃ m', m' < m ∧ W m' σ' H') ∧ tb { D with nx := N, ct := N, bk := D.nx } σ H1 else D.nx σ H1
theorem Xmo {c : Expr} {body : List Stmt} {tc : TT} {tb : TS} (hp : PassesOwn (model X.prog X.w) X.A X.env X.xe) (hc : PT X c tc) (hb : PSs X body tb) : PS X (.While c body [] pos) (XHl tc tb) := by
 intro pins s σ H D I h
 obtain ⟨W, ⟨m0, w0⟩, turn⟩ := h
 refine wpAny_While (codeAny_whileLoop (fun n s' => ∃ σ' H', Inv X pins σ' H' s' ∧ W n σ' H') ?_ m0 ⟨σ, H, I, w0⟩)
 rintro n s1 ⟨σ1, H1, I1, w1⟩
 refine wpAny_passesOwn hp (thn (hc pins s1 σ1 H1 _ I1 (turn n σ1 H1 w1)) fun b s2 ⟨H2, I2, q2⟩ => ?_)
 cases b with
 | true =>
   obtain ⟨N, hN, q2⟩ := q2
   rw [if_pos rfl]
   refine wpAny_passesOwn hp (thn (hb pins s2 σ1 H2 _ I2 q2) fun f s3 q3 => ?_)
   cases f with
   | next =>
     obtain ⟨σ3, H3, I3, n3⟩ := q3
     obtain ⟨m', hm, w3⟩ := hN σ3 H3 n3
     exact ⟨m', hm, σ3, H3, I3, w3⟩
   | cont =>
     obtain ⟨σ3, H3, I3, n3⟩ := q3
     obtain ⟨m', hm, w3⟩ := hN σ3 H3 n3
     exact ⟨m', hm, σ3, H3, I3, w3⟩
   | brk => exact q3
   | ret v => exact q3
 | false =>
   rw [if_neg Bool.false_ne_true]
   exact wpAny_execs_nil ⟨σ1, H2, I2, q2⟩
end
structure It where
 go : Nat → Hp → Prop
 yld : Nat → Hp → V → Hp → Prop
 stop : Nat → Hp → Prop
def FpOk (X : Cx) (pins : List (Addr × Obj)) (H : Hp) (b : Addr) : Prop :=
 H b = none ∧ b ≠ X.env.locals ∧ b ∉ X.fs ∧ (b ∈ X.ex ∨ X.s₀.heap.objs.size ≤ b) ∧ (∀ x c, X.env.cells.lookup x = some c → c ≠ b) ∧ ∀ p ∈ X.pn ++ pins, p.1 ≠ b
theorem Inv.fpOk {X : Cx} {pins : List (Addr × Obj)} {σ : St} {H H' : Hp} {s : Shared} {b : Addr} (I : Inv X pins σ H s) (hb : s.heap.objs.size ≤ b) (hn : H' b = none) : FpOk X pins H' b := by
 refine ⟨hn, Nat.ne_of_gt (Nat.lt_of_lt_of_le I.lt hb), I.nofs hb, .inr (Nat.le_trans I.sz hb), fun x c e z => ?_, fun p hp z => ?_⟩
 · obtain ⟨v, q⟩ := I.cell x c e
   exact absurd (Nat.lt_of_lt_of_le q.lt (by rw [z]; exact hb)) (Nat.lt_irrefl _)
 · exact absurd (Nat.lt_of_lt_of_le (Heap.lt_size (I.pin p hp).1) (by rw [z]; exact hb)) (Nat.lt_irrefl _)
structure Turn (P : Program) (w : World) (K : PySem.W.Frag) (tg : Expr) (J : It) (fp : List Addr) (it : Addr) (tn : Nat → Heap → Prop) : Prop where
 mem : it ∈ fp
 obj : ∀ i h, tn i h → ∀ b ∈ fp, ∃ o, h.get? b = some o ∧ ∀ v, o.data ≠ .cell v
 keep : ∀ i h h', tn i h → (∀ b ∈ fp, ∀ o, h.get? b = some o → h'.get? b = some o) → tn i h'
 item : ∀ (X : Cx), X.prog = P → X.w = w → X.K = K → X.calm = true → ∀ (i : Nat) (pins : List (Addr × Obj)) (s : Shared) (σ : St) (H : Hp) (E : Value → Shared → Prop), Inv X pins σ H s → (∀ b ∈ fp, FpOk X pins H b) → tn i s.heap → J.go i H →
   wpAny (model P w) X.A (pyNext (.ref it)) (fun r s1 => ∃ u, r = some u ∧
     wpAny (model P w) X.A (letOwnedTupleGo tg (.ref it) u) (fun _ s2 => ∃ x H', Inv X pins σ H' s2 ∧ RelV x u ∧ J.yld i H x H' ∧ tn (i + 1) s2.heap ∧ ∀ b ∈ fp, H' b = none) E s1) E s
 done : ∀ (X : Cx), X.prog = P → X.w = w → X.K = K → X.calm = true → ∀ (i : Nat) (pins : List (Addr × Obj)) (s : Shared) (σ : St) (H : Hp) (E : Value → Shared → Prop), Inv X pins σ H s → (∀ b ∈ fp, FpOk X pins H b) → tn i s.heap → J.stop i H →
   wpAny (model P w) X.A (pyNext (.ref it)) (fun r s1 => r = none ∧ Inv X pins σ H s1) E s
 self : ∀ (A : Around) (i : Nat) (s : Shared) (Q : Value → Shared → Prop) (E : Value → Shared → Prop), tn i s.heap → Q (.ref it) s → wpAny (model P w) A (pyIter (.ref it)) Q E s
abbrev TI := St → Hp → (It → Hp → Prop) → Prop
def PIE (X : Cx) (pins : List (Addr × Obj)) (σ : St) (tg : Expr) (R : It → Hp → Prop) (itv : Value) (s2 : Shared) : Prop :=
 ∃ (it : Addr) (fp : List Addr) (tn : Nat → Heap → Prop) (J : It) (H' : Hp), itv = .ref it ∧ Inv X pins σ H' s2 ∧ Turn X.prog X.w X.K tg J fp it tn ∧ tn 0 s2.heap ∧ (∀ b ∈ fp, FpOk X pins H' b) ∧ R J H'
def PI (X : Cx) (tg iter : Expr) (wi : TI) : Prop :=
 ∀ (pins : List (Addr × Obj)) (s : Shared) (σ : St) (H : Hp) (R : It → Hp → Prop), Inv X pins σ H s → wi σ H R →
   wpAny (model X.prog X.w) X.A (eval iter X.env) (fun v s1 => wpAny (model X.prog X.w) X.A (pyIter v) (PIE X pins σ tg R) X.xe s1) X.xe s
theorem XOz {M : Model} {A : Around} {E : Value → Shared → Prop} {s : Shared} {tg : Expr} {it : Addr} {u : Value} {o : Obj} {n : String} {vs : Array Value} {Q : Unit → Shared → Prop} (ho : s.heap.get? it = some o) (hc : o.cls = .type n) (hd : o.data = .fields vs)
   (hn : ["enumerate", "zip", "dict_itemiterator", "dict_reverseitemiterator", "odict_iterator", "itertools.zip_longest", "itertools.pairwise"].contains n = false) (hQ : Q () s) : wpAny M A (letOwnedTupleGo tg (.ref it) u) Q E s := by
 unfold letOwnedTupleGo
 cases tg <;> first
   | exact wpAny_pure hQ
   | (cases u <;> first
       | exact wpAny_pure hQ
       | (refine wpAny_bind (wpAny_load ho ?_)
          rw [hc, hd]
          show wpAny M A (if (["enumerate", "zip", "dict_itemiterator", "dict_reverseitemiterator", "odict_iterator", "itertools.zip_longest", "itertools.pairwise"].contains n && vs[0]? == some (rawInt _)) = true then _ else _) Q E s
          rw [if_neg (by intro h; rw [hn, Bool.false_and] at h; cases h)]
          exact wpAny_pure hQ))
def Itl (K : PySem.W.Frag) (a : Addr) : It :=
 ⟨fun i H => ∃ xs x, SqL K H a xs ∧ xs[i]? = some x, fun i H x H' => H' = H ∧ ∀ xs, SqL K H a xs → xs[i]? = some x, fun i H => ∃ xs, SqL K H a xs ∧ xs.length ≤ i⟩
theorem Xrp {P : Program} {w : World} {K : PySem.W.Frag} {tg : Expr} (a it : Addr) : Turn P w K tg (Itl K a) [it] it (fun i h => h.IsListIter it a i) where
 mem := by simp
 obj := fun i h st b hb => by
   have e : b = it := by simpa using hb
   subst e
   obtain ⟨o, e, c, d⟩ := st
   exact ⟨o, e, fun v z => by rw [d] at z; cases z⟩
 keep := fun i h h' st k => st.at fun o e => k it (by simp) o e
 item := by
   intro X hP hw hK hc i pins s σ H E I hf st hg
   subst hP hw hK
   obtain ⟨xs, x, hq, hx⟩ := hg
   obtain ⟨its, rv, p, hz⟩ := I.list hq
   obtain ⟨u, hu, ru⟩ := rv.get hx
   obtain ⟨f0, f1, f2, f3, f4, f5⟩ := hf it (by simp)
   refine wpAny_pyNext_list_item st p.isList (x := u) (by simpa using hu) fun h' st' sb => ?_
   have I1 : Inv X pins σ H { s with heap := h' } := I.turned (t' := s.toks) (fun b o hb e => (sb.2 b hb).trans e) f0 f1 f3 f4 f5
   obtain ⟨o, e, c, d⟩ := id st'
   exact ⟨u, rfl, XOz (s := { s with heap := h' }) e c d (by decide) ⟨x, H, I1, ru, ⟨rfl, fun ys hy => by rw [I.list_inj hy hq]; exact hx⟩, st', fun b hb => (hf b hb).1⟩⟩
 done := by
   intro X hP hw hK hc i pins s σ H E I hf st hg
   subst hP hw hK
   obtain ⟨xs, hq, hx⟩ := hg
   obtain ⟨its, rv, p, hz⟩ := I.list hq
   obtain ⟨f0, f1, f2, f3, f4, f5⟩ := hf it (by simp)
   have hl := rv.length
   exact wpAny_pyNext_list_end (I.ok.hd hc) st p.isList (by simp; omega) fun h' eb => ⟨rfl, I.turned (t' := s.toks) (fun b o hb e => eb b o hb e) f0 f1 f3 f4 f5⟩
 self := fun _ _ _ _ _ st h => wpAny_pyIter_listiter st h
end L2
namespace L2
open PySem PySem.Spec PyProof.Rows
section
variable {X : Cx} {tg : Expr}
def XMu (K : PySem.W.Frag) (tl : TE) : TI := fun σ H R => tl σ H fun x H1 => ∃ a, x = .ref a ∧ (∃ xs, SqL K H1 a xs) ∧ R (Itl K a) H1
theorem Xcm {l : Expr} {tl : TE} (hl : PE X l tl) : PI X tg l (XMu X.K tl) := by
 intro pins s σ H R I h
 refine thn (hl pins s σ H _ I h) fun v s1 ⟨x, H1, I1, r1, q1⟩ => ?_
 obtain ⟨a, e, ⟨xs, hq⟩, q⟩ := q1
 subst e
 cases r1
 obtain ⟨its, rv, p, hz⟩ := I1.list hq
 refine wpAny_pyIter_list p.isList ?_
 refine ⟨s1.heap.objs.size, [s1.heap.objs.size], _, _, H1, rfl, I1.kept (t' := s1.toks) fun b o e => Heap.get?_push_of_some _ e, Xrp a _, ⟨_, Heap.get?_push_size _ rfl, rfl, rfl⟩, fun b hb => ?_, q⟩
 have e : b = s1.heap.objs.size := by simpa using hb
 subst e
 exact I1.fpOk (Nat.le_refl _) (I1.hok.fresh (Nat.le_refl _))
def tFor (wi : TI) (g : TG) (tb : TS) : TS := fun D σ H => wi σ H fun J H1 => ∃ W : Nat → Nat → St → Hp → Prop, (∃ m, W 0 m σ H1) ∧ ∀ i m σ H, W i m σ H →
 (J.stop i H ∧ D.nx σ H) ∨ (J.go i H ∧ ∃ N : St → Hp → Prop, (∀ σ' H', N σ' H' → ∃ m', m' < m ∧ W (i + 1) m' σ' H') ∧ ∀ x H', J.yld i H x H' → g x σ H' fun σ2 H2 => tb { D with nx := N, ct := N, bk := D.nx } σ2 H2)
def Xks (fp : List Addr) (h : Heap) : List (Addr × Obj) := fp.filterMap fun b => (h.get? b).map fun o => (b, o)
theorem Xex {fp : List Addr} {h : Heap} {b : Addr} {o : Obj} (hb : b ∈ fp) (e : h.get? b = some o) : (b, o) ∈ Xks fp h := List.mem_filterMap.mpr ⟨b, hb, by rw [e]; rfl⟩
theorem Xrh {fp : List Addr} {h : Heap} {p : Addr × Obj} (hp : p ∈ Xks fp h) : p.1 ∈ fp ∧ h.get? p.1 = some p.2 := by
 obtain ⟨b, hb, e⟩ := List.mem_filterMap.mp hp
 cases q : h.get? b with
 | none => rw [q] at e; cases e
 | some o =>
   rw [q] at e
   have e' : (b, o) = p := Option.some.inj e
   subst e'
   exact ⟨hb, q⟩
theorem Inv.pinned {pins : List (Addr × Obj)} {σ : St} {H : Hp} {s : Shared} {fp : List Addr} (I : Inv X pins σ H s) (hf : ∀ b ∈ fp, FpOk X pins H b) (ho : ∀ b ∈ fp, ∃ o, s.heap.get? b = some o ∧ ∀ v, o.data ≠ .cell v) : Inv X (pins ++ Xks fp s.heap) σ H s :=
 I.pins_of fun p hp => (List.mem_append.mp hp).elim (fun z => I.pin p (List.mem_append_right _ z)) fun z => by
   obtain ⟨hb, e⟩ := Xrh z
   obtain ⟨f0, f1, f2, _⟩ := hf p.1 hb
   obtain ⟨o, e', d⟩ := ho p.1 hb
   rw [e] at e'; cases e'
   exact ⟨e, f0, f1, f2, d⟩
theorem Inv.unpinned {pins pl : List (Addr × Obj)} {σ : St} {H : Hp} {s : Shared} (I : Inv X (pins ++ pl) σ H s) : Inv X pins σ H s := I.pins_of fun p hp => I.pin p (List.mem_append_right _ (List.mem_append_left _ hp))
theorem Xgl {iter : Expr} {body : List Stmt} {wi : TI} {g : TG} {tb : TS} {pos : Pos} (hp : PassesOwn (model X.prog X.w) X.A X.env X.xe) (hc : X.calm = true) (hi : PI X tg iter wi) (hg : PG X tg g) (hb : PSs X body tb)
   (hs : ∀ x, foldedSetIterable iter X.env x = pure x := by intro _; rfl) : PS X (.For tg iter body [] pos) (tFor wi g tb) := by
 intro pins s σ H D I h
 refine wpAny_For (thn (hi pins s σ H _ I h) fun v s1 h1 => thn h1 fun itv s2 h2 => ?_) hs
 obtain ⟨it, fp, tn, J, H2, e, I2, T, st2, f2, W, ⟨m0, w0⟩, turn⟩ := h2
 subst e
 -- what stays true of the iterator's objects through the loop
 have stat : ∀ {H' : Hp}, (∀ b ∈ fp, H' b = none) → ∀ b ∈ fp, FpOk X pins H' b := fun hn b hb => ⟨hn b hb, (f2 b hb).2⟩
 refine codeAny_forLoop_any (fun n s' => ∃ i σ' H', Inv X pins σ' H' s' ∧ tn i s'.heap ∧ (∀ b ∈ fp, H' b = none) ∧ W i n σ' H') ?_ m0 ⟨0, σ, H2, I2, st2, fun b hb => (f2 b hb).1, w0⟩
 rintro n s3 ⟨i, σ3, H3, I3, st3, fr3, w3⟩
 rcases turn i n σ3 H3 w3 with ⟨stop, qn⟩ | ⟨go, N, hN, step⟩
 · refine wpAny_passesOwn hp (thn (T.done X rfl rfl rfl hc i pins s3 σ3 H3 X.xe I3 (stat fr3) st3 stop) fun r s4 ⟨hr, I4⟩ => ?_)
   subst hr
   exact wpAny_execs_nil ⟨σ3, H3, I4, qn⟩
 · refine wpAny_passesOwn hp (thn (T.item X rfl rfl rfl hc i pins s3 σ3 H3 X.xe I3 (stat fr3) st3 go) fun r s4 ⟨u, hr, h4⟩ => ?_)
   subst hr
   refine wpAny_passesOwn hp (thn h4 fun _ s5 ⟨x, H5, I5, r5, y5, st5, fr5⟩ => ?_)
   have I5' := I5.pinned (stat fr5) (T.obj _ _ st5)
   refine wpAny_passesOwn hp (thn (hg _ s5 σ3 H5 x u _ I5' r5 (step x H5 y5)) fun _ s6 ⟨σ6, H6, I6, q6⟩ => ?_)
   refine wpAny_passesOwn hp (thn (hb _ s6 σ6 H6 _ I6 q6) fun f s7 q7 => ?_)
   have again : ∀ {σ7 : St} {H7 : Hp}, Inv X (pins ++ Xks fp s5.heap) σ7 H7 s7 → N σ7 H7 → ∃ m, m < n ∧ ∃ i σ' H', Inv X pins σ' H' s7 ∧ tn i s7.heap ∧ (∀ b ∈ fp, H' b = none) ∧ W i m σ' H' := fun {σ7 H7} I7 n7 => by
     obtain ⟨m', hm, w7⟩ := hN σ7 H7 n7
     refine ⟨m', hm, i + 1, σ7, H7, I7.unpinned, T.keep _ _ _ st5 fun b hb o e => (I7.pin (b, o) (List.mem_append_right _ (List.mem_append_right _ (Xex hb e)))).1, fun b hb => ?_, w7⟩
     obtain ⟨o, e, d⟩ := T.obj _ _ st5 b hb
     exact (I7.pin (b, o) (List.mem_append_right _ (List.mem_append_right _ (Xex hb e)))).2.1
   cases f with
   | next => obtain ⟨σ7, H7, I7, n7⟩ := q7; exact again I7 n7
   | cont => obtain ⟨σ7, H7, I7, n7⟩ := q7; exact again I7 n7
   | brk => obtain ⟨σ7, H7, I7, q7⟩ := q7; exact ⟨σ7, H7, I7.unpinned, q7⟩
   | ret v => obtain ⟨x7, σ7, H7, I7, r7, q7⟩ := q7; exact ⟨x7, σ7, H7, I7.unpinned, r7, q7⟩
end
theorem Xdm {K : PySem.W.Frag} {a : Addr} {xs : List V} {g : TG} {tb : TS} {D : Ends} {σ : St} {H : Hp} (Pv : Nat → St → Hp → Prop) (h0 : Pv 0 σ H) (hl : ∀ i σ H, i ≤ xs.length → Pv i σ H → SqL K H a xs)
   (hs : ∀ i x σ H, xs[i]? = some x → Pv i σ H → g x σ H fun σ2 H2 => tb { D with nx := Pv (i + 1), ct := Pv (i + 1), bk := D.nx } σ2 H2) (hd : ∀ σ H, Pv xs.length σ H → D.nx σ H) :
   ∃ W : Nat → Nat → St → Hp → Prop, (∃ m, W 0 m σ H) ∧ ∀ i m σ H, W i m σ H →
     ((Itl K a).stop i H ∧ D.nx σ H) ∨ ((Itl K a).go i H ∧ ∃ N : St → Hp → Prop, (∀ σ' H', N σ' H' → ∃ m', m' < m ∧ W (i + 1) m' σ' H') ∧ ∀ x H', (Itl K a).yld i H x H' → g x σ H' fun σ2 H2 => tb { D with nx := N, ct := N, bk := D.nx } σ2 H2) := by
 refine ⟨fun i m σ H => m = xs.length - i ∧ i ≤ xs.length ∧ Pv i σ H, ⟨xs.length, by simp, Nat.zero_le _, h0⟩, ?_⟩
 rintro i m σ H ⟨rfl, hi, p⟩
 have q := hl i σ H hi p
 by_cases hlt : i < xs.length
 · refine .inr ⟨⟨xs, xs[i], q, by simp [hlt]⟩, Pv (i + 1), fun σ' H' p' => ⟨xs.length - (i + 1), by omega, rfl, hlt, p'⟩, fun x H' y => ?_⟩
   obtain ⟨e, y⟩ := y
   subst e
   exact hs i x σ _ (y xs q) p
 · have e : i = xs.length := by omega
   subst e
   exact .inl ⟨⟨xs, q, Nat.le_refl _⟩, hd σ H p⟩
end L2
namespace L2
open PySem PySem.Spec PyProof.Rows
abbrev R2 := V → V → Hp → VK → Prop
def OpR (X : Cx) (f : Value → Value → Sem Value) (r : R2) : Prop :=
 ∀ (pins : List (Addr × Obj)) (s : Shared) (σ : St) (H : Hp) (x y : V) (v u : Value) (Q : VK), Inv X pins σ H s → RelV x v → RelV y u → r x y H Q →
   wpAny (model X.prog X.w) X.A (f v u) (EP X pins σ Q) X.xe s
def UnR (X : Cx) (f : Value → Sem Value) (r : V → Hp → VK → Prop) : Prop :=
 ∀ (pins : List (Addr × Obj)) (s : Shared) (σ : St) (H : Hp) (x : V) (v : Value) (Q : VK), Inv X pins σ H s → RelV x v → r x H Q →
   wpAny (model X.prog X.w) X.A (f v) (EP X pins σ Q) X.xe s
def Xkg (X : Cx) (f : Value) (r : List V → Hp → VK → Prop) : Prop :=
 ∀ (pins : List (Addr × Obj)) (s : Shared) (σ : St) (H : Hp) (xs : List V) (us : List Value) (Q : VK), Inv X pins σ H s → Vals xs us → r xs H Q →
   wpAny (model X.prog X.w) X.A (call f us) (EP X pins σ Q) X.xe s
def TruR (X : Cx) (r : V → Hp → (Bool → Hp → Prop) → Prop) : Prop :=
 ∀ (pins : List (Addr × Obj)) (s : Shared) (σ : St) (H : Hp) (x : V) (v : Value) (Q : Bool → Hp → Prop), Inv X pins σ H s → RelV x v → r x H Q →
   wpAny (model X.prog X.w) X.A (truthy v) (TP X pins σ Q) X.xe s
def tOp (r : R2) (ta tb : TE) : TE := fun σ H Q => ta σ H fun x H1 => tb σ H1 fun y H2 => r x y H2 Q
def tUn (r : V → Hp → VK → Prop) (ta : TE) : TE := fun σ H Q => ta σ H fun x H1 => r x H1 Q
def rI (C : Int → Int → Prop) (g : Int → Int → V) : R2 := fun x y H Q => ∃ i j, x = .int i ∧ y = .int j ∧ C i j ∧ Q (g i j) H
def rI0 (g : Int → Int → V) : R2 := fun x y H Q => ∃ i j, x = .int i ∧ y = .int j ∧ Q (g i j) H
def rU (g : Int → V) : V → Hp → VK → Prop := fun x H Q => ∃ i, x = .int i ∧ Q (g i) H
section
variable {X : Cx} {a b c : Expr} {ta tb tc : TE} {pos : Pos}
theorem binT (ha : PE X a ta) (hb : PE X b tb) {pins : List (Addr × Obj)} {s : Shared} {σ : St} {H : Hp} {R : V → V → Hp → Prop} (I : Inv X pins σ H s)
   (h : ta σ H fun x H1 => tb σ H1 fun y H2 => R x y H2) {Q : Value → Shared → Prop} {f : Value → Value → Sem Value}
   (hf : ∀ v u s2 x y H2, Inv X pins σ H2 s2 → RelV x v → RelV y u → R x y H2 → wpAny (model X.prog X.w) X.A (f v u) Q X.xe s2) :
   wpAny (model X.prog X.w) X.A (eval a X.env) (fun v s₁ => wpAny (model X.prog X.w) X.A (eval b X.env) (fun u s₂ => wpAny (model X.prog X.w) X.A (f v u) Q X.xe s₂) X.xe s₁) X.xe s := by
 refine thn (ha pins s σ H _ I h) fun v s1 ⟨x, H1, I1, r1, q1⟩ => ?_
 refine thn (hb pins s1 σ H1 _ I1 q1) fun u s2 ⟨y, H2, I2, r2, q2⟩ => ?_
 exact hf v u s2 x y H2 I2 r1 r2 q2
theorem Xal {op : Operator} {r : R2} (ho : OpR X (binaryOp op) r) (ha : PE X a ta) (hb : PE X b tb) : PE X (.BinOp a op b pos) (tOp r ta tb) := by
 intro pins s σ H Q I h
 exact wpAny_BinOp (binT ha hb I h fun v u s2 x y H2 I2 rx ry q => ho pins s2 σ H2 x y v u Q I2 rx ry q)
theorem Xnl {op : UnaryOp} {r : V → Hp → VK → Prop} (ho : UnR X (unaryOp op) r) (ha : PE X a ta) : PE X (.UnaryOp op a pos) (tUn r ta) := by
 intro pins s σ H Q I h
 exact UnaryOp_ (thn (ha pins s σ H _ I h) fun v s1 ⟨x, H1, I1, r1, q1⟩ => ho pins s1 σ H1 x v Q I1 r1 q1)
theorem opI {f : Value → Value → Sem Value} {C : Int → Int → Prop} {g : Int → Int → Int}
   (rule : ∀ (i j : Int) (t u : Tok) (s : Shared) (Q : Value → Shared → Prop) (E : Value → Shared → Prop), C i j → Q (.int (g i j) s.toks) { s with toks := s.toks + 1 } → wpAny (model X.prog X.w) X.A (f (.int i t) (.int j u)) Q E s) :
   OpR X f (rI C fun i j => .int (g i j)) := by
 intro pins s σ H x y v u Q I rx ry h
 obtain ⟨i, j, rfl, rfl, hc, q⟩ := h
 obtain ⟨t, rfl⟩ := rx
 obtain ⟨t', rfl⟩ := ry
 exact rule i j t t' s _ _ hc ⟨.int (g i j), H, I.tok _, ⟨_, rfl⟩, q⟩
theorem opI0 {f : Value → Value → Sem Value} {g : Int → Int → Int}
   (rule : ∀ (i j : Int) (t u : Tok) (s : Shared) (Q : Value → Shared → Prop) (E : Value → Shared → Prop), Q (.int (g i j) s.toks) { s with toks := s.toks + 1 } → wpAny (model X.prog X.w) X.A (f (.int i t) (.int j u)) Q E s) :
   OpR X f (rI0 fun i j => .int (g i j)) := by
 intro pins s σ H x y v u Q I rx ry h
 obtain ⟨i, j, rfl, rfl, q⟩ := h
 obtain ⟨t, rfl⟩ := rx
 obtain ⟨t', rfl⟩ := ry
 exact rule i j t t' s _ _ ⟨.int (g i j), H, I.tok _, ⟨_, rfl⟩, q⟩
theorem opB0 {f : Value → Value → Sem Value} {g : Int → Int → Bool}
   (rule : ∀ (i j : Int) (t u : Tok) (s : Shared) (Q : Value → Shared → Prop) (E : Value → Shared → Prop), Q (.bool (g i j)) s → wpAny (model X.prog X.w) X.A (f (.int i t) (.int j u)) Q E s) :
   OpR X f (rI0 fun i j => .bl (g i j)) := by
 intro pins s σ H x y v u Q I rx ry h
 obtain ⟨i, j, rfl, rfl, q⟩ := h
 obtain ⟨t, rfl⟩ := rx
 obtain ⟨t', rfl⟩ := ry
 exact rule i j t t' s _ _ ⟨.bl (g i j), H, I, rfl, q⟩
def CDiv (i j : Int) : Prop := 0 < j ∧ j < 1073741824
def CPow (i j : Int) : Prop := 0 ≤ j ∧ j ≤ 1000000 ∧ i.natAbs < 2 ^ 64
def CMul (i j : Int) : Prop := (-(2 ^ 64) < i ∧ i < 2 ^ 64) ∨ (-(2 ^ 64) < j ∧ j < 2 ^ 64)
theorem CMul.ok {i j : Int} (h : CMul i j) : IntMulOk i j := by
 rcases h with ⟨h1, h2⟩ | ⟨h1, h2⟩
 · exact .of_left (intBits_le_64 h1 h2)
 · exact .of_right (intBits_le_64 h1 h2)
theorem Xnn (k : Nat) : (0 : Int) ≤ 2 ^ k := by
 rw [two_pow_cast]
 exact Int.natCast_nonneg _
theorem Xba : OpR X (binaryOp .Add) (rI0 fun i j => .int (i + j)) := opI0 fun _ _ _ _ _ _ _ q => add_int q
theorem Xby : OpR X (binaryOp .Sub) (rI0 fun i j => .int (i - j)) := opI0 fun _ _ _ _ _ _ _ q => sub_int q
theorem Xfl : OpR X (binaryOp .Mult) (rI CMul fun i j => .int (i * j)) := opI fun _ _ _ _ _ _ _ hc q => mul_int q hc.ok
theorem XBd : OpR X (binaryOp .FloorDiv) (rI CDiv fun i j => .int (i / j)) := opI fun i j _ _ _ _ _ hc q => by
 have h1 : (0 : Int) < j := hc.1
 have h2 : j < 1073741824 := hc.2
 exact floordiv_int (by omega) (by rw [Int.fdiv_eq_ediv_of_nonneg i (by omega)]; exact q) (.inl (PyProof.noPylong_small (by omega)))
theorem Xbw : OpR X (binaryOp .Mod) (rI (fun _ j => 0 < j) fun i j => .int (i % j)) := opI fun i j _ _ _ _ _ hc q => by
 have h1 : (0 : Int) < j := hc
 exact mod_int' (by omega) (by rw [Int.fmod_eq_emod_of_nonneg i (by omega)]; exact q)
theorem Xxv : OpR X (binaryOp .Pow) (rI CPow fun i j => .int (i ^ j.toNat)) := opI fun _ _ _ _ _ _ _ hc q => pow_int_small hc.1 hc.2.1 hc.2.2 q
theorem XLq : OpR X (binaryOp .RShift) (rI (fun _ j => 0 ≤ j) fun i j => .int (i / 2 ^ j.toNat)) := opI fun i j _ _ _ _ _ hc q =>
 rshift_int hc (by rw [Int.fdiv_eq_ediv_of_nonneg i (Xnn _)]; exact q)
theorem XLr : OpR X (binaryOp .BitAnd) (rI0 fun i j => .int (Builtin.bitAnd i j)) := opI0 fun _ _ _ _ _ _ _ q => and_int q
theorem XOc : OpR X (binaryOp .BitOr) (rI0 fun i j => .int (Builtin.bitOr i j)) := opI0 fun _ _ _ _ _ _ _ q => or_int q
theorem unI {f : Value → Sem Value} {g : Int → Int}
   (rule : ∀ (i : Int) (t : Tok) (s : Shared) (Q : Value → Shared → Prop) (E : Value → Shared → Prop), Q (.int (g i) s.toks) { s with toks := s.toks + 1 } → wpAny (model X.prog X.w) X.A (f (.int i t)) Q E s) :
   UnR X f (rU fun i => .int (g i)) := by
 intro pins s σ H x v Q I rx h
 obtain ⟨i, rfl, q⟩ := h
 obtain ⟨t, rfl⟩ := rx
 exact rule i t s _ _ ⟨.int (g i), H, I.tok _, ⟨_, rfl⟩, q⟩
theorem Xiv : UnR X (unaryOp .USub) (rU fun i => .int (-i)) := unI fun _ _ _ _ _ q => neg_int q
end
def scal : V → V → Bool
 | .non, .non => true | .non, .int _ => true | .int _, .non => true | .non, .bl _ => true | .bl _, .non => true | .non, .str _ => true | .str _, .non => true
 | .int _, .int _ => true | .bl _, .bl _ => true | .str _, .str _ => true | .byt _, .byt _ => true
 | .int _, .str _ => true | .str _, .int _ => true | .bl _, .str _ => true | .str _, .bl _ => true
 | _, _ => false
def rEq : R2 := fun x y H Q => scal x y = true ∧ Q (.bl (decide (x = y))) H
def rNe : R2 := fun x y H Q => scal x y = true ∧ Q (.bl (!decide (x = y))) H
theorem Xjl {i j : Int} : decide (V.int i = V.int j) = (i == j) := by
 rw [Bool.eq_iff_iff]
 simp
theorem Xyh {i j : Bool} : decide (V.bl i = V.bl j) = (i == j) := by
 rw [Bool.eq_iff_iff]
 simp
theorem Xmb {i j : Str} : decide (V.str i = V.str j) = (i == j) := by
 rw [Bool.eq_iff_iff]
 simp
theorem Xod {i j : Array UInt8} : decide (V.byt i = V.byt j) = (i.toList == j.toList) := by
 rw [Bool.eq_iff_iff]
 cases i
 cases j
 simp
section
variable {X : Cx} {a b c : Expr} {ta tb tc : TE} {pos : Pos}
theorem Xbn {pins : List (Addr × Obj)} {σ : St} {H : Hp} {s : Shared} {Q : VK} {k k' : Bool} (I : Inv X pins σ H s) (q : Q (.bl k) H) (e : k = k') : EP X pins σ Q (.bool k') s := by
 subst e
 exact ⟨.bl k, H, I, rfl, q⟩
theorem Xcr : OpR X (compareOp .Eq) rEq := by
 intro pins s σ H x y v u Q I rx ry h
 obtain ⟨hs, q⟩ := h
 cases x with
 | non =>
   cases rx
   cases y with
   | non => cases ry; exact PySem.EqNone.eq_none_none (Xbn I q (by simp))
   | bl j => cases ry; exact PySem.EqNone.eq_none_bool (Xbn I q (by simp))
   | int j => obtain ⟨t', rfl⟩ := ry; exact PySem.EqNone.eq_none_int (Xbn I q (by simp))
   | str j => obtain ⟨t', rfl⟩ := ry; exact PySem.EqNone.eq_none_str (Xbn I q (by simp))
   | _ => exact absurd (show false = true from hs) Bool.false_ne_true
 | bl i =>
   cases rx
   cases y with
   | non => cases ry; exact PySem.EqNone.eq_bool_none (Xbn I q (by simp))
   | bl j => cases ry; exact eq_bool (Xbn I q Xyh)
   | str j => obtain ⟨t', rfl⟩ := ry; exact PySem.EqMixed.eq_bool_str (Xbn I q (by simp))
   | _ => exact absurd (show false = true from hs) Bool.false_ne_true
 | int i =>
   obtain ⟨t, rfl⟩ := rx
   cases y with
   | non => cases ry; exact PySem.EqNone.eq_int_none (Xbn I q (by simp))
   | int j => obtain ⟨t', rfl⟩ := ry; exact eq_int (Xbn I q Xjl)
   | str j => obtain ⟨t', rfl⟩ := ry; exact PySem.EqMixed.eq_int_str (Xbn I q (by simp))
   | _ => exact absurd (show false = true from hs) Bool.false_ne_true
 | str i =>
   obtain ⟨t, rfl⟩ := rx
   cases y with
   | non => cases ry; exact PySem.EqNone.eq_str_none (Xbn I q (by simp))
   | bl j => cases ry; exact PySem.EqMixed.eq_str_bool (Xbn I q (by simp))
   | int j => obtain ⟨t', rfl⟩ := ry; exact PySem.EqMixed.eq_str_int (Xbn I q (by simp))
   | str j => obtain ⟨t', rfl⟩ := ry; exact eq_str (Xbn I q Xmb)
   | _ => exact absurd (show false = true from hs) Bool.false_ne_true
 | byt i =>
   obtain ⟨t, rfl⟩ := rx
   cases y with
   | byt j => obtain ⟨t', rfl⟩ := ry; exact PySem.W.eq_bytes (Xbn I q Xod)
   | _ => exact absurd (show false = true from hs) Bool.false_ne_true
 | _ => cases y <;> exact absurd (show false = true from hs) Bool.false_ne_true
theorem Xjg : OpR X (compareOp .NotEq) rNe := by
 intro pins s σ H x y v u Q I rx ry h
 obtain ⟨hs, q⟩ := h
 cases x with
 | non =>
   cases rx
   cases y with
   | non => cases ry; exact PySem.EqNone.ne_none_none (Xbn I q (by simp))
   | bl j => cases ry; exact PySem.EqNone.ne_none_bool (Xbn I q (by simp))
   | int j => obtain ⟨t', rfl⟩ := ry; exact PySem.EqNone.ne_none_int (Xbn I q (by simp))
   | str j => obtain ⟨t', rfl⟩ := ry; exact PySem.EqNone.ne_none_str (Xbn I q (by simp))
   | _ => exact absurd (show false = true from hs) Bool.false_ne_true
 | bl i =>
   cases rx
   cases y with
   | non => cases ry; exact PySem.EqNone.ne_bool_none (Xbn I q (by simp))
   | bl j => cases ry; exact ne_bool (Xbn I q (congrArg not Xyh))
   | str j => obtain ⟨t', rfl⟩ := ry; exact PySem.EqMixed.ne_bool_str (Xbn I q (by simp))
   | _ => exact absurd (show false = true from hs) Bool.false_ne_true
 | int i =>
   obtain ⟨t, rfl⟩ := rx
   cases y with
   | non => cases ry; exact PySem.EqNone.ne_int_none (Xbn I q (by simp))
   | int j => obtain ⟨t', rfl⟩ := ry; exact ne_int (Xbn I q (congrArg not Xjl))
   | str j => obtain ⟨t', rfl⟩ := ry; exact PySem.EqMixed.ne_int_str (Xbn I q (by simp))
   | _ => exact absurd (show false = true from hs) Bool.false_ne_true
 | str i =>
   obtain ⟨t, rfl⟩ := rx
   cases y with
   | non => cases ry; exact PySem.EqNone.ne_str_none (Xbn I q (by simp))
   | bl j => cases ry; exact PySem.EqMixed.ne_str_bool (Xbn I q (by simp))
   | int j => obtain ⟨t', rfl⟩ := ry; exact PySem.EqMixed.ne_str_int (Xbn I q (by simp))
   | str j => obtain ⟨t', rfl⟩ := ry; exact ne_str (Xbn I q (congrArg not Xmb))
   | _ => exact absurd (show false = true from hs) Bool.false_ne_true
 | byt i =>
   obtain ⟨t, rfl⟩ := rx
   cases y with
   | byt j => obtain ⟨t', rfl⟩ := ry; exact PySem.W.ne_bytes (Xbn I q (congrArg not Xod))
   | _ => exact absurd (show false = true from hs) Bool.false_ne_true
 | _ => cases y <;> exact absurd (show false = true from hs) Bool.false_ne_true
theorem Xef : OpR X (compareOp .Lt) (rI0 fun i j => .bl (decide (i < j))) := opB0 fun _ _ _ _ _ _ _ q => lt_int q
theorem Xyv : OpR X (compareOp .LtE) (rI0 fun i j => .bl (decide (i ≤ j))) := opB0 fun _ _ _ _ _ _ _ q => le_int q
theorem Xkl : OpR X (compareOp .Gt) (rI0 fun i j => .bl (decide (j < i))) := opB0 fun _ _ _ _ _ _ _ q => gt_int q
theorem Xti : OpR X (compareOp .GtE) (rI0 fun i j => .bl (decide (j ≤ i))) := opB0 fun _ _ _ _ _ _ _ q => ge_int q
theorem XJn : OpR X (compareOp .Is) (fun x y H Q => y = .non ∧ Q (.bl (decide (x = .non))) H) := by
 intro pins s σ H x y v u Q I rx ry h
 obtain ⟨rfl, q⟩ := h
 cases ry
 refine is_none_gen (Xbn I q ?_)
 cases x <;> first
   | (cases rx; rfl)
   | (obtain ⟨t, rfl⟩ := rx; rfl)
theorem Xlq : OpR X (compareOp .IsNot) (fun x y H Q => y = .non ∧ Q (.bl (!decide (x = .non))) H) := by
 intro pins s σ H x y v u Q I rx ry h
 obtain ⟨rfl, q⟩ := h
 cases ry
 refine isnot_none_gen (Xbn I q ?_)
 cases x <;> first
   | (cases rx; rfl)
   | (obtain ⟨t, rfl⟩ := rx; rfl)
theorem Xam (b : Expr) {op : CmpOp} (h : op ≠ .In := by decide) (h2 : op ≠ .NotIn := by decide) : behindInMarks op b = false := by
 have e1 : (op == CmpOp.In) = false := by cases op <;> first | rfl | exact absurd rfl h
 have e2 : (op == CmpOp.NotIn) = false := by cases op <;> first | rfl | exact absurd rfl h2
 cases b <;> simp [behindInMarks, e1, e2]
theorem Xfy {op : CmpOp} {r : R2} (ho : OpR X (compareOp op) r) (ha : PE X a ta) (hb : PE X b tb) (hm : behindInMarks op b = false) : PE X (.Compare a [op] [b] pos) (tOp r ta tb) := by
 intro pins s σ H Q I h
 exact wpAny_Compare1 (binT ha hb I h fun v u s2 x y H2 I2 rx ry q => ho pins s2 σ H2 x y v u Q I2 rx ry q) hm
def XJg (t : TE) : TT := fun σ H Q => t σ H fun x H' => ∃ k, x = .bl k ∧ Q k H'
theorem Xah {op : CmpOp} {r : R2} (ho : OpR X (compareOp op) r) (ha : PE X a ta) (hb : PE X b tb) (hm : behindInMarks op b = false) : PT X (.Compare a [op] [b] pos) (XJg (tOp r ta tb)) := by
 intro pins s σ H Q I h
 refine wpAny_isTrue_Compare1 (thn (ha pins s σ H _ I h) fun v s1 ⟨x, H1, I1, r1, q1⟩ => thn (hb pins s1 σ H1 _ I1 q1) fun u s2 ⟨y, H2, I2, r2, q2⟩ =>
   thn (ho pins s2 σ H2 x y v u _ I2 r1 r2 q2) fun c s3 ⟨z, H3, I3, r3, k, e, q3⟩ => ?_) hm
 subst e
 cases r3
 exact wpAny_truthy_bool ⟨H3, I3, q3⟩
def TruV (K : PySem.W.Frag) (x : V) (H : Hp) (k : Bool) : Prop :=
 match x with
 | .non => k = false
 | .bl b => k = b
 | .int i => k = (i != 0)
 | .str y => y.length ≤ sizeLine ∧ k = ((y.length : Int) != 0)
 | .byt y => y.size ≤ sizeLine ∧ k = ((y.size : Int) != 0)
 | .ref p => (∃ xs, SqL K H p xs ∧ k = !xs.isEmpty) ∨ (∃ xs, SqT K H p xs ∧ k = !xs.isEmpty) ∨ ∃ kvs, H p = some (.dK kvs) ∧ k = !kvs.isEmpty
 | _ => False
theorem Xny {κ : Type} {kvs : List (κ × V)} {vs : List (κ × Value)} (r : KV kvs vs) : (!vs.isEmpty) = !kvs.isEmpty := by
 cases r <;> rfl
theorem Xit {xs : List V} {its : List Value} (r : Vals xs its) : (!its.toArray.isEmpty) = !xs.isEmpty := by
 cases r <;> simp
theorem Xkt : (sizeLine : Nat) < 2 ^ 63 := by rw [sizeLine_eq]; decide
theorem XGz : TruR X (fun x H Q => ∃ k, TruV X.K x H k ∧ Q k H) := by
 intro pins s σ H x v Q I rx h
 obtain ⟨k, e, q⟩ := h
 have hl := Xkt
 have hs : sizeLine = 16777216 := sizeLine_eq
 cases x with
 | non =>
   cases rx
   have e' : k = false := e
   subst e'
   exact truthy_none ⟨H, I, q⟩
 | bl b =>
   cases rx
   have e' : k = b := e
   subst e'
   exact wpAny_truthy_bool ⟨H, I, q⟩
 | int i =>
   obtain ⟨t, rfl⟩ := rx
   have e' : k = (i != 0) := e
   subst e'
   exact PySem.P.truthy_int ⟨H, I, q⟩
 | str y =>
   obtain ⟨t, rfl⟩ := rx
   obtain ⟨hy, e'⟩ : y.length ≤ sizeLine ∧ k = ((y.length : Int) != 0) := e
   subst e'
   exact PySem.P.truthy_str (by omega) ⟨H, I.tok _, q⟩
 | byt y =>
   obtain ⟨t, rfl⟩ := rx
   obtain ⟨hy, e'⟩ : y.size ≤ sizeLine ∧ k = ((y.size : Int) != 0) := e
   subst e'
   exact PySem.W.truthy_bytes (by omega) ⟨H, I.tok _, q⟩
 | ref p =>
   cases rx
   have e' : (∃ xs, SqL X.K H p xs ∧ k = !xs.isEmpty) ∨ (∃ xs, SqT X.K H p xs ∧ k = !xs.isEmpty) ∨ ∃ kvs, H p = some (.dK kvs) ∧ k = !kvs.isEmpty := e
   rcases e' with ⟨xs, hx, e'⟩ | ⟨xs, hx, e'⟩ | ⟨kvs, hx, e'⟩
   · subst e'
     obtain ⟨its, r, pl, hz⟩ := I.list hx
     have hlen := r.length
     exact wpAny_truthy_list pl.isList (by simp only [List.size_toArray]; omega) ⟨H, I.tok _, by rw [Xit r]; exact q⟩
   · subst e'
     obtain ⟨its, r, pl, hz⟩ := I.tuple hx
     have hlen := r.length
     exact truthy_tuple pl (by simp only [List.size_toArray]; omega) ⟨H, I.tok _, by rw [Xit r]; exact q⟩
   · subst e'
     obtain ⟨hz, hS, vs, r, m⟩ : kvs.length ≤ sizeLine ∧ (p == sysModules) = false ∧ ∃ vs, KV kvs vs ∧ s.heap.DictOf (Xla X.prog X.w) p vs := I.hok p _ hx
     have hlen : kvs.length = vs.length := Paired.length r
     exact wpAny_truthy_dict hS m (by omega) ⟨H, I.tok _, by rw [Xny r]; exact q⟩
 | _ => exact (show False from e).elim
theorem Xcd (ha : PE X a ta) (he : ∀ whole, isTrue a X.env whole = (do let v ← whole; standAt a.pos; holding [v] (truthy v))) :
   PT X a (fun σ H Q => ta σ H fun x H' => ∃ k, TruV X.K x H' k ∧ Q k H') := by
 intro pins s σ H Q I h
 exact isTrue_plain (thn (ha pins s σ H _ I h) fun v s1 ⟨x, H1, I1, r1, q1⟩ => XGz pins s1 σ H1 x v Q I1 r1 q1) (he _)
theorem XKu {x : V} {us : List Value} (r : Vals [x] us) : ∃ u, us = [u] ∧ RelV x u := by
 cases r with
 | cons r1 r2 => cases r2; exact ⟨_, rfl, r1⟩
theorem XCs {x y : V} {us : List Value} (r : Vals [x, y] us) : ∃ u w', us = [u, w'] ∧ RelV x u ∧ RelV y w' := by
 cases r with
 | cons r1 r2 =>
   cases r2 with
   | cons r3 r4 => cases r4; exact ⟨_, _, rfl, r1, r3⟩
theorem Xpc (hc : X.calm = true) : Xkg X (.builtin "min") (fun xs H Q => ∃ i j, xs = [.int i, .int j] ∧ Q (.int (if j < i then j else i)) H) := by
 intro pins s σ H xs us Q I r h
 obtain ⟨i, j, rfl, q⟩ := h
 obtain ⟨u, w', rfl, ⟨t, rfl⟩, ⟨t', rfl⟩⟩ := XCs r
 refine min_two_ints (I.ok.hd hc) fun h' tk k => ⟨_, H, I.kept k, ?_, q⟩
 by_cases hj : j < i
 · rw [if_pos hj, if_pos hj]; exact ⟨_, rfl⟩
 · rw [if_neg hj, if_neg hj]; exact ⟨_, rfl⟩
end
end L2
namespace L2
open PySem PySem.Spec PyProof.Rows
structure ObjM (h : Heap) (x dx C : Addr) (mA : Str → Option Value) : Prop where
 obj : h.get? x = some (PySem.W.instObj C dx)
 ns : h.Ns1 dx mA
 ne : dx ≠ x
theorem Xpg {h : Heap} {dx : Addr} {mA : Str → Option Value} (n : h.Ns1 dx mA) : ∃ od, h.get? dx = some od ∧ ∀ name, PySem.W.lookIn name od = some (mA name) := by
 obtain ⟨o, es, ep, ho, hd, hk, _, hm⟩ := n
 refine ⟨o, ho, fun name => ?_⟩
 have e := hm name
 unfold nsFind findBy at e
 rw [← Array.find?_toList] at e
 unfold PySem.W.lookIn
 rw [hd]
 dsimp only
 split
 · rename_i y q
   rw [q] at e
   exact congrArg some e
 · rename_i q
   rw [q] at e
   have a : es.toList.any (·.refKey) = false := by
     rw [List.any_eq_false]
     intro y hy
     obtain ⟨z, t, hkey⟩ := hk y (Array.mem_toList_iff.mp hy)
     simp [DictEntry.refKey, hkey]
   have a' : ¬ es.toList.any (·.refKey) = true := by rw [a]; exact Bool.false_ne_true
   rw [if_neg a']
   exact congrArg some e
theorem ObjM.look {h : Heap} {x dx C : Addr} {mA : Str → Option Value} (I : ObjM h x dx C mA) : ∃ od, PySem.W.InstAt h x (PySem.W.instObj C dx) C (some od) ∧ ∀ name, PySem.W.lookIn name od = some (mA name) :=
 let ⟨od, ho, hl⟩ := Xpg I.ns
 ⟨od, ⟨I.obj, rfl, rfl, ho⟩, hl⟩
section
variable {prog : Program} {w : World} {A : Around} {E : Value → Shared → Prop} {s : Shared} {K : PySem.W.Frag} {x dx C f : Addr} {mA : Str → Option Value} {name : Str} {v : Value}
theorem XFd {expr : Bool} {Q : Value → Shared → Prop} (X : K.In s.heap) (I : ObjM s.heap x dx C mA) (hg : PySem.W.plainGet K C name = true) (hh : PySem.W.hasDictIn K C = true)
   (ha : PySem.W.findIn K (.ref C) name = some none) (hv : mA name = some v) (hv' : PySem.W.handedIn v = true) (h : Q v { s with toks := s.toks + 1 }) :
   wpAny (model prog w) A (getAttr (.ref x) name expr) Q E s := by
 obtain ⟨od, J, hl⟩ := I.look
 exact PySem.W.get_value X J (PySem.W.plainGet_of hg).1 (PySem.W.findObj_own hh ha rfl (by rw [hl, hv])) hv' h
theorem Xsm {pl : Sem Bool} {Q : Value × List Value → Shared → Prop} (X : K.In s.heap) (I : ObjM s.heap x dx C mA) (hg : PySem.W.plainGet K C name = true)
   (hf : PySem.W.findIn K (.ref C) name = some (some (.ref f))) (ht : PySem.W.isFn K (.ref f) = true) (hv : mA name = none) (h : Q (.ref f, [.ref x]) s) :
   wpAny (model prog w) A (getMethod (.ref x) name pl) Q E s := by
 obtain ⟨od, J, hl⟩ := I.look
 exact PySem.W.method_fn X J (PySem.W.plainGet_of hg).1 (PySem.W.plainGet_of hg).2 hf (beq_iff_eq.mp ht) (by show (PySem.W.lookIn name od).map (·.isSome) = some false; rw [hl, hv]; rfl) h
theorem Xyo {ns : List Str} {Q : Unit → Shared → Prop} (X : K.In s.heap) (I : ObjM s.heap x dx C mA)
   (hs : PySem.W.findIn K (.ref C) "__setattr__" = some (some (.builtin "object.__setattr__"))) (hp : PySem.W.plainOver K C = true) (ht : PySem.W.takerIn K C name = some none) (hh : PySem.W.hasDictIn K C = true)
   (hw : PySem.Within mA ns) (hsz : ns.length ≤ sizeLine)
   (h : ∀ h', ObjM h' x dx C (fun y => if y = name then some v else mA y) → Heap.SameBut dx s.heap h' → Q () { s with heap := h', toks := s.toks + 2 }) :
   wpAny (model prog w) A (setAttr (.ref x) name v) Q E s := by
 obtain ⟨od, J, hl⟩ := I.look
 refine PySem.W.set_plain X J hs (PySem.W.osa_open (s := { s with toks := s.toks + 1 }) (r := none) X J hp ht fun b => ?_)
 obtain ⟨cd, hc, hd'⟩ := PySem.W.any_some hh
 have hx : s.heap.get? x = some ⟨.ref C, some dx, .plain, #[]⟩ := I.obj
 refine wpAny_bind (wpAny_pure (wpAny_bind (wpAny_bind (wpAny_loadPart hx (wpAny_bind (PySem.W.Looks.here (s := { s with toks := s.toks + 1 }) (PySem.W.looks_clsIn X hc) ?_))))))
 rw [hd']
 refine wpAny_pure (a := some dx) (wpAny_bind (wpAny_pure (wpAny_bind ?_)))
 refine wpAny_nsSet1 (s := { s with toks := s.toks + 1 }) I.ns fun h' hn2 hs2 => ?_
 obtain ⟨oD, esD, epD, hoD, hdD, hcD⟩ := hn2.count (PySem.Within.cons name v hw)
 refine wpAny_bind (wpAny_lookBehind hoD (by rw [hdD]; exact pastItsLine_dict (Nat.le_trans hcD (by rw [List.length_cons]; omega))) ?_)
 exact wpAny_pure (h _ ⟨(hs2.2 _ (Ne.symm I.ne)).trans I.obj, hn2, I.ne⟩ hs2)
theorem Xwx {R : Result → Shared → Prop} {vs : List Value} {kw : List (Str × Value)} (X : K.In s.heap) (hm : PySem.W.makesIn K C = true)
   (hi : PySem.W.findIn K (.ref C) "__init__" = some (some (.ref f))) (hf : PySem.W.typeIn K (.ref f) = some (.type "function"))
   (h : codeAny (model prog w) (A.under (.builtin "type.__call__" ⟨.ref C :: vs, kw⟩)) (.call (.ref f) ⟨.ref (s.heap.objs.size + 1) :: vs, kw⟩) (PySem.W.InitBack (s.heap.objs.size + 1) R)
     { s with heap := (s.heap.push PySem.W.emptyDict).push (PySem.W.instObj C s.heap.objs.size) }) :
   codeAny (model prog w) A (.call (.ref C) ⟨vs, kw⟩) R s := by
 obtain ⟨hh, g, d, t, os⟩ := s
 exact PySem.W.make_core (PySem.W.makes_of X hm) (PySem.W.looks_findIn X hi) (fun self => PySem.W.bind_fn X self hf) (.inl rfl) h
end
def putF (f : Str) (v : V) : List (Str × V) → List (Str × V)
 | [] => [(f, v)]
 | (g, x) :: r => if g = f then (g, v) :: r else (g, x) :: putF f v r
theorem Xhg (f g : Str) (v : V) : ∀ fs : List (Str × V), (putF f v fs).lookup g = if g = f then some v else fs.lookup g
 | [] => by
   show List.lookup g [(f, v)] = _
   by_cases h : g = f
   · have hb : (g == f) = true := beq_iff_eq.mpr h
     simp only [List.lookup, hb, if_pos h]
   · have hb : (g == f) = false := beq_eq_false_iff_ne.mpr h
     simp only [List.lookup, hb, if_neg h]
 | (k, x) :: r => by
   have ih := Xhg f g v r
   rw [show putF f v ((k, x) :: r) = (if k = f then (k, v) :: r else (k, x) :: putF f v r) from rfl]
   by_cases hk : k = f
   · rw [if_pos hk]
     by_cases h : g = k
     · have hb : (g == k) = true := beq_iff_eq.mpr h
       simp only [List.lookup, hb, if_pos (h.trans hk)]
     · have hb : (g == k) = false := beq_eq_false_iff_ne.mpr h
       simp only [List.lookup, hb, if_neg (fun e : g = f => h (e.trans hk.symm))]
   · rw [if_neg hk]
     by_cases h : g = k
     · have hb : (g == k) = true := beq_iff_eq.mpr h
       simp only [List.lookup, hb, if_neg (fun e : g = f => hk (h.symm.trans e))]
     · have hb : (g == k) = false := beq_eq_false_iff_ne.mpr h
       simp only [List.lookup, hb]
       exact ih
theorem Xho (f : Str) (v : V) : ∀ fs : List (Str × V), f ∈ (putF f v fs).map (·.1) ∧ ∀ g, g ∈ fs.map (·.1) → g ∈ (putF f v fs).map (·.1)
 | [] => ⟨by simp [putF], fun g h => by simp at h⟩
 | (k, x) :: r => by
   obtain ⟨i1, i2⟩ := Xho f v r
   rw [show putF f v ((k, x) :: r) = (if k = f then (k, v) :: r else (k, x) :: putF f v r) from rfl]
   by_cases hk : k = f
   · rw [if_pos hk]
     subst hk
     exact ⟨by simp, fun g h => by simpa using h⟩
   · rw [if_neg hk]
     refine ⟨?_, fun g h => ?_⟩
     · rw [List.map_cons]
       exact List.mem_cons_of_mem _ i1
     · rw [List.map_cons] at h ⊢
       rcases List.mem_cons.mp h with e | e
       · exact List.mem_cons.mpr (.inl e)
       · exact List.mem_cons_of_mem _ (i2 g e)
theorem Xhv (f : Str) (v : V) : ∀ fs : List (Str × V), (putF f v fs).length ≤ fs.length + 1
 | [] => by simp [putF]
 | (k, x) :: r => by
   have ih := Xhv f v r
   rw [show putF f v ((k, x) :: r) = (if k = f then (k, v) :: r else (k, x) :: putF f v r) from rfl]
   by_cases hk : k = f
   · rw [if_pos hk, List.length_cons, List.length_cons]; omega
   · rw [if_neg hk, List.length_cons, List.length_cons]; omega
theorem RelO.some_of {v : V} {o : Option Value} (r : RelO (some v) o) : ∃ u, o = some u ∧ RelV v u := by
 cases o with
 | none => exact (show False from r).elim
 | some u => exact ⟨u, rfl, r⟩
theorem RelO.none_of {o : Option Value} (r : RelO none o) : o = none := by
 cases o with
 | none => rfl
 | some u => exact (show False from r).elim
theorem Xrd {v : V} {u : Value} (r : RelV v u) : PySem.W.handedIn u = true := by
 cases v with
 | non => cases (show u = Value.none from r); rfl
 | bl b => cases (show u = Value.bool b from r); rfl
 | int i => obtain ⟨t, e⟩ := (show ∃ t, u = Value.int i t from r); cases e; rfl
 | str x => obtain ⟨t, e⟩ := (show ∃ t, u = Value.str x t from r); cases e; rfl
 | byt b => obtain ⟨t, e⟩ := (show ∃ t, u = Value.bytes b t from r); cases e; rfl
 | flt b => obtain ⟨t, e⟩ := (show ∃ t, u = Value.float b t from r); cases e; rfl
 | ref a => cases (show u = Value.ref a from r); rfl
 | ty n => cases (show u = Value.type n from r); rfl
section
variable {P : Program} {w : World} {H H' : Hp} {h h' : Heap} {a C dx : Addr} {fs fs' : List (Str × V)}
theorem Xjt (hok : HOk P w H h) (e : H a = some (.ins C dx fs)) : ∃ mA, ObjM h a dx C mA ∧ (∀ f, RelO (fs.lookup f) (mA f)) ∧ PySem.Within mA (fs.map (·.1)) ∧ fs.length ≤ 1000 ∧ H dx = some (.own a) := by
 obtain ⟨d, z, ne, ob, mA, n, r, q⟩ := (show Xdr P w H h a (.ins C dx fs) from hok a _ e)
 exact ⟨mA, ⟨ob, n, ne⟩, r, q, z, d⟩
end
structure Cls (K : PySem.W.Frag) (C : Addr) : Prop where
 pg : PySem.W.plainGet K C Str.empty = true
 hd : PySem.W.hasDictIn K C = true
 po : PySem.W.plainOver K C = true
 sa : PySem.W.findIn K (.ref C) "__setattr__" = some (some (.builtin "object.__setattr__"))
theorem Cls.get {K : PySem.W.Frag} {C : Addr} (c : Cls K C) (f : Str) : PySem.W.plainGet K C f = true := c.pg
def Xck (K : PySem.W.Frag) (C : Addr) (f : Str) : Prop := PySem.W.findIn K (.ref C) f = some none
theorem Xck.taker {K : PySem.W.Frag} {C : Addr} {f : Str} (n : Xck K C f) : PySem.W.takerIn K C f = some none := by
 unfold PySem.W.takerIn
 rw [show PySem.W.findIn K (.ref C) f = some none from n]
 rfl
structure Con (K : PySem.W.Frag) (C : Addr) (f : Str) (v : V) (u : Value) : Prop where
 at_ : PySem.W.findIn K (.ref C) f = some (some u)
 rel : RelV v u
 get : PySem.W.specialIn K u "__get__" = some none
 cp : PySem.W.copiedNames.contains f = false
structure Meth (K : PySem.W.Frag) (C : Addr) (m : Str) (f : Addr) : Prop where
 at_ : PySem.W.findIn K (.ref C) m = some (some (.ref f))
 fn : PySem.W.isFn K (.ref f) = true
 kp : PySem.W.keepIn K (.ref f) = true
section
variable {X : Cx} {pins : List (Addr × Obj)} {σ : St} {H : Hp} {s : Shared} {a C dx : Addr} {fs : List (Str × V)} {f : Str} {v : V} {A : Around} {E : Value → Shared → Prop}
theorem Xnw {b : Bool} {Q : Value → Shared → Prop} (I : Inv X pins σ H s) (e : H a = some (.ins C dx fs)) (c : Cls X.K C) (n : Xck X.K C f) (l : fs.lookup f = some v)
   (h : ∀ u s', Inv X pins σ H s' → RelV v u → Q u s') : wpAny (model X.prog X.w) A (getAttr (.ref a) f b) Q E s := by
 obtain ⟨mA, O, r, _, _, _⟩ := Xjt I.hok e
 obtain ⟨u, hu, ru⟩ := RelO.some_of (v := v) (o := mA f) (by rw [← l]; exact r f)
 exact XFd I.kIn O (c.get f) c.hd n hu (Xrd ru) (h u _ (I.tok _) ru)
theorem Xgg {m : Str} {g : Addr} {pl : Sem Bool} {Q : Value × List Value → Shared → Prop} (I : Inv X pins σ H s) (e : H a = some (.ins C dx fs)) (c : Cls X.K C) (k : Meth X.K C m g) (l : fs.lookup m = none)
   (h : Q (.ref g, [.ref a]) s) : wpAny (model X.prog X.w) A (getMethod (.ref a) m pl) Q E s := by
 obtain ⟨mA, O, r, _, _, _⟩ := Xjt I.hok e
 have hn : mA m = none := RelO.none_of (by rw [← l]; exact r m)
 exact Xsm I.kIn O (c.get m) k.at_ k.fn hn h
theorem Xnr {y : V} {u : Value} {Q : Unit → Shared → Prop} (I : Inv X pins σ H s) (e : H a = some (.ins C dx fs)) (c : Cls X.K C) (n : Xck X.K C f) (hl : fs.length < 1000) (ry : RelV y u)
   (h : ∀ s', Inv X pins σ (upd H a (.ins C dx (putF f y fs))) s' → Q () s') : wpAny (model X.prog X.w) A (setAttr (.ref a) f u) Q E s := by
 obtain ⟨mA, O, r, wi, _, ho⟩ := Xjt I.hok e
 have hz : (fs.map (·.1)).length ≤ sizeLine := by rw [List.length_map, sizeLine_eq]; omega
 refine Xyo I.kIn O c.sa c.po n.taker c.hd wi hz fun h' O' sb => h _ ?_
 have hd : ∃ o, h'.get? dx = some o := let ⟨o, _, _, e', _⟩ := O'.ns; ⟨o, e'⟩
 refine I.write (x := a) (e := dx) (by rw [e]; exact True.intro) (.inr ho) (fun b q hb z => (sb.2 b hb).trans z) hd ?_
 refine ⟨by rw [Xap O.ne]; exact ho, ?_, O.ne, O'.obj, _, O'.ns, fun g => ?_, fun g hg => ?_⟩
 · have := Xhv f y fs; omega
 · show RelO ((putF f y fs).lookup g) (if g = f then some u else mA g)
   rw [Xhg]
   by_cases q : g = f
   · rw [if_pos q, if_pos q]; exact ry
   · rw [if_neg q, if_neg q]; exact r g
 · by_cases q : g = f
   · rw [q]; exact (Xho f y fs).1
   · refine (Xho f y fs).2 g (wi g fun z => hg ?_)
     show (if g = f then some u else mA g) = none
     rw [if_neg q]; exact z
theorem Inv.made (I : Inv X pins σ H s) : Inv X pins σ (upd (upd H s.heap.objs.size (.own (s.heap.objs.size + 1))) (s.heap.objs.size + 1) (.ins C s.heap.objs.size []))
   { s with heap := (s.heap.push PySem.W.emptyDict).push (PySem.W.instObj C s.heap.objs.size) } := by
 have e1 : (s.heap.push PySem.W.emptyDict).get? s.heap.objs.size = some PySem.W.emptyDict := Heap.get?_push_size s.heap rfl
 have e2 : ((s.heap.push PySem.W.emptyDict).push (PySem.W.instObj C s.heap.objs.size)).get? (s.heap.objs.size + 1) = some (PySem.W.instObj C s.heap.objs.size) := by
   have := Heap.get?_push_size (s.heap.push PySem.W.emptyDict) (o := PySem.W.instObj C s.heap.objs.size) rfl
   rwa [Heap.size_push] at this
 have e3 : (s.heap.push PySem.W.emptyDict).Ns s.heap.objs.size (fun _ => none) := ⟨PySem.W.emptyDict, #[], _, e1, rfl, (fun e he => absurd he (by simp)), fun _ => rfl⟩
 have I1 := I.laid (a := s.heap.objs.size) (o := .own (s.heap.objs.size + 1)) (h' := s.heap.push PySem.W.emptyDict) (t' := s.toks) (fun b u q => Heap.get?_push_of_some _ q) (Nat.le_refl _) ⟨_, e1⟩
 refine I1.laid (a := s.heap.objs.size + 1) (o := .ins C s.heap.objs.size []) (t' := s.toks) (fun b u q => Heap.get?_push_of_some _ q) (Nat.le_of_eq (Heap.size_push _ _)) ?_
 have ne : s.heap.objs.size ≠ s.heap.objs.size + 1 := Nat.ne_of_lt (Nat.lt_succ_self _)
 refine ⟨by rw [Xap ne, upd_same], Nat.zero_le _, ne, e2, fun _ => none, (Heap.Ns1.of_empty e3).at fun o q => Heap.get?_push_of_some _ q, fun _ => True.intro, fun y hy => absurd rfl hy⟩
theorem XBt {prog : Program} {w : World} {env : Env} {e : Expr} {f : Str} {pos : Pos} {s : Shared} {Q : Value → Shared → Prop} (hb : attributeBase e f env (eval e env) = eval e env)
   (h : wpAny (model prog w) A (eval e env) (fun o s₁ => wpAny (model prog w) A (getAttr o f true) Q E s₁) E s) : wpAny (model prog w) A (eval (.Attribute e f pos) env) Q E s :=
 Attribute_any_ h (by rw [arm_eval_Attribute, hb])
end
def tFld (K : PySem.W.Frag) (ta : TE) (f : Str) : TE := fun σ H Q => ta σ H fun x H1 => ∃ a C dx fs v, x = .ref a ∧ H1 a = some (.ins C dx fs) ∧ Cls K C ∧ Xck K C f ∧ fs.lookup f = some v ∧ Q v H1
def sFld (K : PySem.W.Frag) (ta tv : TE) (f : Str) : TS := fun D σ H => tv σ H fun y H1 => ta σ H1 fun x H2 => ∃ a C dx fs, x = .ref a ∧ H2 a = some (.ins C dx fs) ∧ Cls K C ∧ Xck K C f ∧ fs.length < 1000 ∧
 D.nx σ (upd H2 a (.ins C dx (putF f y fs)))
section
variable {X : Cx} {o e value : Expr} {f : Str} {pos pos' tpos : Pos} {ta tv : TE}
theorem Xcp (he : PE X e ta) (hb : attributeBase e f X.env (eval e X.env) = eval e X.env) : PE X (.Attribute e f pos) (tFld X.K ta f) := by
 intro pins s σ H Q I h
 refine XBt hb (thn (he pins s σ H _ I h) fun u s1 ⟨x, H1, I1, rx, a, C, dx, fs, v, ex, ea, c, n, l, q⟩ => ?_)
 subst ex
 obtain rfl : u = Value.ref a := rx
 exact Xnw I1 ea c n l fun u' s2 I2 ru => ⟨v, H1, I2, ru, q⟩
theorem Xdy (ha : PE X o ta) (hv : PE X value tv) (hs : swapsWith value (some (.Attribute o f pos')) pos.line X.env = pure false) : PS X (.Assign [.Attribute o f pos'] value pos) (sFld X.K ta tv f) := by
 intro pins s σ H D I h
 refine plainObj_wpAny_Assign_Attribute (thn (hv pins s σ H _ I h) fun u s1 ⟨y, H1, I1, ry, q⟩ => thn (ha pins s1 σ H1 _ I1 q) fun ov s2 ⟨x, H2, I2, rx, a, C, dx, fs, ex, ea, c, n, l, q2⟩ => ?_) hs
 subst ex
 obtain rfl : ov = Value.ref a := rx
 exact Xnr I2 ea c n l ry fun s3 I3 => ⟨σ, _, I3, q2⟩
end
section
variable {X : Cx} {pins : List (Addr × Obj)} {σ : St} {H : Hp} {s : Shared} {A : Around} {E : Value → Shared → Prop} {Q : Value → Shared → Prop} {c : Value} {b : Bool}
inductive TyOf (K : PySem.W.Frag) (H : Hp) : V → Value → Prop where
 | non : TyOf K H .non (.type "NoneType")
 | bl (x : Bool) : TyOf K H (.bl x) (.type "bool")
 | int (i : Int) : TyOf K H (.int i) (.type "int")
 | str (x : Str) : TyOf K H (.str x) (.type "str")
 | flt (x : UInt64) : TyOf K H (.flt x) (.type "float")
 | lst {a : Addr} {xs : List V} (e : H a = some (.lst xs)) : TyOf K H (.ref a) (.type "list")
 | frz {a : Addr} {o : Obj} {xs : List V} (e : H a = some (.frz o (.lst xs))) : TyOf K H (.ref a) (.type "list")
 | tup {a : Addr} {xs : List V} (e : H a = some (.tup xs)) : TyOf K H (.ref a) (.type "tuple")
 | dK {a : Addr} {kvs : List (Key × V)} (e : H a = some (.dK kvs)) : TyOf K H (.ref a) (.type "dict")
 | dT {a : Addr} {kvs : List (List Key × V)} (e : H a = some (.dT kvs)) : TyOf K H (.ref a) (.type "dict")
 | ins {a C dx : Addr} {fs : List (Str × V)} (e : H a = some (.ins C dx fs)) (cl : Cls K C) (ha : PySem.W.findIn K (.ref C) "__class__" = some (some (.builtin "object.__class__")))
     (hn : PySem.W.specialIn K (.builtin "object.__class__") "__get__" = some (some (.builtin "getset_descriptor.__get__"))) (htk : PySem.W.takesIn K (.builtin "object.__class__") = some true)
     (hm : PySem.W.mroIn K C (.type "object") = some true) : TyOf K H (.ref a) (.ref C)
theorem Xps {x : V} {u t : Value} (I : Inv X pins σ H s) (rx : RelV x u) (ty : TyOf X.K H x t) (e : PySem.W.kitOne X.K t c = some b) (h : ∀ tk, Q (.bool b) { s with toks := tk }) :
   wpAny (model X.prog X.w) A (call (.builtin "isinstance") [u, c]) Q E s := by
 cases ty with
 | non => cases (show u = Value.none from rx); exact PySem.W.kia_one PySem.W.kitx_none I.kIn True.intro e (fun z => nomatch z) h
 | bl y => cases (show u = Value.bool y from rx); exact PySem.W.kia_one PySem.W.kitx_bool I.kIn True.intro e (fun z => nomatch z) h
 | int i => obtain ⟨t, q⟩ := (show ∃ t, u = Value.int i t from rx); cases q; exact PySem.W.kia_one PySem.W.kitx_int I.kIn True.intro e (fun z => nomatch z) h
 | str y => obtain ⟨t, q⟩ := (show ∃ t, u = Value.str y t from rx); cases q; exact PySem.W.kia_one PySem.W.kitx_str I.kIn True.intro e (fun z => nomatch z) h
 | flt y => obtain ⟨t, q⟩ := (show ∃ t, u = Value.float y t from rx); cases q; exact PySem.W.kia_one PySem.W.kitx_float I.kIn True.intro e (fun z => nomatch z) h
 | @lst a xs ea =>
   cases (show u = Value.ref a from rx)
   obtain ⟨_, _, n, _, h1⟩ := (show Xdr X.prog X.w H s.heap a (.lst xs) from I.hok a _ ea)
   exact PySem.W.kia_one PySem.W.kitx_list I.kIn ⟨_, h1, rfl⟩ e (fun z => nomatch z) h
 | @frz a ob xs ea =>
   cases (show u = Value.ref a from rx)
   obtain ⟨_, _, _, n, _, h1⟩ := (show Xdr X.prog X.w H s.heap a (.frz ob (.lst xs)) from I.hok a _ ea)
   exact PySem.W.kia_one PySem.W.kitx_list I.kIn ⟨_, h1, rfl⟩ e (fun z => nomatch z) h
 | @tup a xs ea =>
   cases (show u = Value.ref a from rx)
   obtain ⟨_, _, _, p⟩ := (show Xdr X.prog X.w H s.heap a (.tup xs) from I.hok a _ ea)
   obtain ⟨o, h1, h2, _⟩ := p
   exact PySem.W.kia_one PySem.W.kitx_tuple I.kIn ⟨o, h1, h2⟩ e (fun z => nomatch z) h
 | @dK a kvs ea =>
   cases (show u = Value.ref a from rx)
   obtain ⟨_, _, vs, _, p⟩ := (show Xdr X.prog X.w H s.heap a (.dK kvs) from I.hok a _ ea)
   obtain ⟨o, es, ep, h1, h2, _⟩ := p
   exact PySem.W.kia_one PySem.W.kitx_dict I.kIn ⟨o, h1, h2.1⟩ e (fun z => nomatch z) h
 | @dT a kvs ea =>
   cases (show u = Value.ref a from rx)
   obtain ⟨_, _, xs, _, o, es, ep, h1, h2, _⟩ := (show Xdr X.prog X.w H s.heap a (.dT kvs) from I.hok a _ ea)
   exact PySem.W.kia_one PySem.W.kitx_dict I.kIn ⟨o, h1, h2.1⟩ e (fun z => nomatch z) h
 | @ins a C dx fs ea cl ha hn htk hm =>
   cases (show u = Value.ref a from rx)
   obtain ⟨mA, O, _⟩ := Xjt I.hok ea
   obtain ⟨od, J, _⟩ := O.look
   exact PySem.W.kia_one (PySem.W.kitx_own (cl.get _) cl.hd ha hn htk hm) I.kIn J e (fun z => nomatch z) h
end
end L2
namespace L2
open PySem PySem.Spec PyProof.Rows
structure Room (k : Nat) (A : Around) : Prop where
 hd : A.handled = none
 dp : A.depth + 3 * k + 5 < recursionLimit
 un : A.units + 16 * k + 200 < cLine
theorem Room.mono {j k : Nat} {A : Around} (r : Room k A) (h : j ≤ k) : Room j A := ⟨r.hd, by have := r.dp; omega, by have := r.un; omega⟩
theorem Room.deeper {k : Nat} {A : Around} (r : Room (k + 1) A) (env : Env) : Room k (A.deeper env) :=
 ⟨r.hd, by have := r.dp; show A.depth + 1 + 3 * k + 5 < _; omega, by have := r.un; show A.units + 3 + 16 * k + 200 < _; omega⟩
theorem Room.in1 {k : Nat} {A : Around} (r : Room (k + 1) A) : Room k A.in1 :=
 ⟨r.hd, by have := r.dp; show A.depth + 3 * k + 5 < _; omega, by have := r.un; show A.units + 1 + 16 * k + 200 < _; omega⟩
theorem Xns {A : Around} {C : Addr} {us : List Value} {kw : List (Str × Value)} : (A.under (.builtin "type.__call__" ⟨.ref C :: us, kw⟩)).depth = A.depth + 1 := by
 first | rfl | simp [Around.under, Code.weight, Code.isCreation, Code.isGuard, Code.isCaller, Code.frames, Code.isFrame, guardIds]
theorem Xnp {A : Around} {C : Addr} {us : List Value} {kw : List (Str × Value)} : (A.under (.builtin "type.__call__" ⟨.ref C :: us, kw⟩)).units = A.units + 1 := by
 first | rfl | simp [Around.under, Code.cUnits, Code.frames, Code.isFrame]
theorem Room.make {k : Nat} {A : Around} (r : Room (k + 1) A) (C : Addr) (us : List Value) (kw : List (Str × Value)) : Room k (A.under (.builtin "type.__call__" ⟨.ref C :: us, kw⟩)) :=
 ⟨r.hd, by have := r.dp; rw [Xns]; omega, by have := r.un; rw [Xnp]; omega⟩
theorem Room.depth {k : Nat} {A : Around} (r : Room k A) : A.depth < recursionLimit := by have := r.dp; omega
theorem Room.units {k : Nat} {A : Around} (r : Room k A) : A.units + 64 < cLine := by have := r.un; omega
def tNil : TA := fun _ H Q => Q [] H
def XNs (ta : TE) (tr : TA) : TA := fun σ H Q => ta σ H fun x H1 => tr σ H1 fun xs H2 => Q (x :: xs) H2
section
variable {X : Cx} {e : Expr} {es : List Expr} {te : TE} {t : TA} {pos : Pos}
theorem Xad : PA X [] tNil := fun _ _ _ _ H Q I h => Calls.spliced_nil ⟨[], H, I, .nil, h⟩
theorem Xaa (ha : PE X e te) (hr : PA X es t) (hs : starEach (e :: es) X.env = (false, eval e X.env) :: starEach es X.env := by rfl) : PA X (e :: es) (XNs te t) := by
 intro pos pins s σ H Q I h
 rw [hs]
 show wpAny _ _ (spliced ((false, eval e X.env) :: backTo pos (starEach es X.env))) _ _ s
 refine Calls.spliced_cons (thn (ha pins s σ H _ I h) fun u s1 ⟨x, H1, I1, r1, q1⟩ => ?_)
 exact thn (hr pos pins s1 σ H1 _ I1 q1) fun us s2 ⟨xs, H2, I2, r2, q2⟩ => ⟨x :: xs, H2, I2, .cons r1 r2, q2⟩
def tTup (t : TA) : TE := fun σ H Q => t σ H fun xs H1 => xs.length ≤ sizeLine ∧ ∀ p, H1 p = none → Q (.ref p) (upd H1 p (.tup xs))
def tLst (t : TA) : TE := fun σ H Q => t σ H fun xs H1 => xs.length ≤ sizeLine ∧ ∀ p, H1 p = none → Q (.ref p) (upd H1 p (.lst xs))
theorem Xfb {x1} (h : PA X es t) : PE X (.Tuple es x1 pos) (tTup t) := by
 intro pins s σ H Q I hq
 refine wpAny_Tuple_spliced (thn (h pos pins s σ H _ I hq) fun us s1 ⟨xs, H1, I1, r, z, q⟩ => ⟨by rw [← r.length]; exact z, ?_⟩)
 have hf : H1 s1.heap.objs.size = none := I1.hok.fresh (Nat.le_refl _)
 refine ⟨.ref s1.heap.objs.size, upd H1 s1.heap.objs.size (.tup xs), I1.laid (t' := s1.toks) (fun b u e => Heap.get?_push_of_some _ e) (Nat.le_refl _) ?_, rfl, q _ hf⟩
 exact ⟨z, us, r, ⟨_, Heap.get?_push_size _ rfl, rfl, _, rfl⟩⟩
theorem Xdw (h : PA X es t) : PE X (.List es pos) (tLst t) := by
 intro pins s σ H Q I hq
 refine wpAny_List_spliced (thn (h pos pins s σ H _ I hq) fun us s1 ⟨xs, H1, I1, r, z, q⟩ => ⟨by rw [← r.length]; exact z, ?_⟩)
 have hf : H1 s1.heap.objs.size = none := I1.hok.fresh (Nat.le_refl _)
 refine ⟨.ref s1.heap.objs.size, upd H1 s1.heap.objs.size (.lst xs), I1.laid (t' := s1.toks) (fun b u e => Heap.get?_push_of_some _ e) (Nat.le_refl _) ?_, rfl, q _ hf⟩
 exact ⟨z, us, 0, r, Heap.get?_push_size _ rfl⟩
end
abbrev Sp := List V → Hp → VK → XK → Prop
abbrev CXT := List Env → Hp → Shared → XK → Value → Shared → Prop
structure Env0 (P : Program) (w : World) (K : PySem.W.Frag) (mg : Str → Option Value) (base : Heap) (A : Around) (outer : List Env) (s : Shared) (H : Hp) : Prop where
 frames : A.frames = some outer
 mod : Mod K mg base
 bs : ∀ b o, base.get? b = some o → s.heap.get? b = some o ∧ H b = none
 bsz : base.objs.size ≤ s.heap.objs.size
 funs : s.heap.FunFrames base outer
 frf : ∀ b ∈ frs outer, H b = none
 hok : HOk P w H s.heap
 bare : AllBare s.gens
def CE (outer : List Env) (P : Program) (w : World) (H : Hp) (s : Shared) (Q : VK) (u : Value) (s' : Shared) : Prop :=
 ∃ v H', s'.os = s.os ∧ AllBare s'.gens ∧ Un (frs outer) [] H H' s.heap s'.heap ∧ HOk P w H' s'.heap ∧ RelV v u ∧ Q v H'
def CR (CX : CXT) (outer : List Env) (P : Program) (w : World) (H : Hp) (s : Shared) (Q : VK) (E : XK) (r : Result) (s' : Shared) : Prop :=
 match r with
 | .ok (.ret u) => CE outer P w H s Q u s'
 | .ok _ => False
 | .error e => CX outer H s E e s'
structure FnOk (P : Program) (w : World) (K : PySem.W.Frag) (mg : Str → Option Value) (base : Heap) (CX : CXT) (k : Nat) (f : Addr) (fd : FuncData) (ps : List Str) (sp : Sp) : Prop where
 len : ∀ vs H Q E, sp vs H Q E → vs.length = ps.length
 run : ∀ (A : Around) (outer : List Env) (s : Shared) (H : Hp) (args : Args) (us : List Value) (vs : List V) (Q : VK) (E : XK), Room k A → Env0 P w K mg base A outer s H → BindsTo s fd args (ps.zip us) → Vals vs us → sp vs H Q E →
   codeAny (model P w) A (.call (.ref f) args) (CR CX outer P w H s Q E) s
theorem FnOk.mono {P : Program} {w : World} {K : PySem.W.Frag} {mg : Str → Option Value} {base : Heap} {CX : CXT} {j k : Nat} {f : Addr} {fd : FuncData} {ps : List Str} {sp : Sp} (F : FnOk P w K mg base CX j f fd ps sp) (h : j ≤ k) :
   FnOk P w K mg base CX k f fd ps sp := ⟨F.len, fun A outer s H args us vs Q E hr => F.run A outer s H args us vs Q E (hr.mono h)⟩
theorem FnOk.imp {P : Program} {w : World} {K : PySem.W.Frag} {mg : Str → Option Value} {base : Heap} {CX : CXT} {k : Nat} {f : Addr} {fd : FuncData} {ps : List Str} {sp sp' : Sp} (F : FnOk P w K mg base CX k f fd ps sp)
   (h : ∀ vs H Q E, sp' vs H Q E → sp vs H Q E) : FnOk P w K mg base CX k f fd ps sp' :=
 ⟨fun vs H Q E q => F.len vs H Q E (h _ _ _ _ q), fun A outer s H args us vs Q E hr he hb hv hs => F.run A outer s H args us vs Q E hr he hb hv (h _ _ _ _ hs)⟩
theorem Env0.make {P : Program} {w : World} {K : PySem.W.Frag} {mg : Str → Option Value} {base : Heap} {A : Around} {outer : List Env} {s : Shared} {H : Hp} (e : Env0 P w K mg base A outer s H) (C : Addr) (us : List Value) (kw : List (Str × Value)) :
   Env0 P w K mg base (A.under (.builtin "type.__call__" ⟨.ref C :: us, kw⟩)) outer s H := ⟨by first | exact e.frames | (simpa [Around.under, Code.envs, Code.isFrame, pushEnvs] using e.frames), e.mod, e.bs, e.bsz, e.funs, e.frf, e.hok, e.bare⟩
theorem Env0.in1 {P : Program} {w : World} {K : PySem.W.Frag} {mg : Str → Option Value} {base : Heap} {A : Around} {outer : List Env} {s : Shared} {H : Hp} (e : Env0 P w K mg base A outer s H) :
   Env0 P w K mg base A.in1 outer s H := ⟨e.frames, e.mod, e.bs, e.bsz, e.funs, e.frf, e.hok, e.bare⟩
section
variable {X : Cx} {pins : List (Addr × Obj)} {σ : St} {H : Hp} {s s' : Shared}
theorem Inv.env0 (I : Inv X pins σ H s) : Env0 X.prog X.w X.K X.mg X.base X.A X.stack s H :=
 ⟨I.ok.frames, I.ok.mod, I.bs, Nat.le_trans I.ok.bsz I.sz, I.stack, I.stkFree, I.hok, I.bare⟩
theorem Inv.after {Q : VK} {u : Value} (I : Inv X pins σ H s) (h : CE X.stack X.prog X.w H s Q u s') : EP X pins σ Q u s' := by
 obtain ⟨v, H', os, bare, un, hok, r, q⟩ := h
 obtain ⟨hh, g, d, t, os'⟩ := s'
 obtain rfl : os' = s.os := os
 exact ⟨v, H', I.call (h' := hh) (g' := g) (d' := d) (t' := t) (ch := []) un hok bare (fun b z => absurd z (by simp)), r, q⟩
end
def Xnf (sp : Sp) (dvs : List V) (E : XK) (t : TA) : TE := fun σ H Q => t σ H fun vs H1 => sp (vs ++ dvs) H1 Q E
def Xvk (C : Addr) (sp : Sp) (dvs : List V) (E : XK) (t : TA) : TE := fun σ H Q => t σ H fun vs H1 => ∀ x dx, H1 x = none → H1 dx = none → dx ≠ x →
 sp (.ref x :: (vs ++ dvs)) (upd (upd H1 dx (.own x)) x (.ins C dx [])) (fun v H2 => v = .non ∧ Q (.ref x) H2) E
def Xco (K : PySem.W.Frag) (fd : FuncData) (ps : List Str) (ds : List Value) : Prop :=
 ∀ (s : Shared) (us : List Value), K.In s.heap → (us ++ ds).length = ps.length → BindsTo s fd ⟨us, []⟩ (ps.zip (us ++ ds))
theorem Xco.all {K : PySem.W.Frag} {fd : FuncData} {ps : List Str} (h : ∀ us : List Value, us.length = ps.length → bindArgs fd ⟨us, []⟩ = pure (ps.zip us)) : Xco K fd ps [] := fun s us _ hl => by
 rw [List.append_nil] at hl ⊢
 exact .of_eq (h us hl)
def Xfe (CX : CXT) (X : Cx) (E : XK) : Prop := ∀ (pins : List (Addr × Obj)) (σ : St) (H : Hp) (s : Shared) (e : Value) (s' : Shared), Inv X pins σ H s → CX X.stack H s E e s' → X.xe e s'
section
variable {X : Cx} {CX : CXT} {k : Nat} {f C : Addr} {fd : FuncData} {ps : List Str} {sp : Sp} {dvs : List V} {ds : List Value} {E : XK} {x m : Str} {p pos apos : Pos} {e o : Expr} {es : List Expr} {ta : TE} {t : TA}
theorem Xmh {pins : List (Addr × Obj)} {σ : St} {H : Hp} {s : Shared} {Q : VK} {us : List Value} {vs : List V} (F : FnOk X.prog X.w X.K X.mg X.base CX k f fd ps sp) (hr : Room k X.A) (hb : Xco X.K fd ps ds) (hd : Vals dvs ds) (hx : Xfe CX X E)
   (I : Inv X pins σ H s) (r : Vals vs us) (h : sp (vs ++ dvs) H Q E) : wpAny (model X.prog X.w) X.A (call (.ref f) us) (EP X pins σ Q) X.xe s := by
 have r2 : Vals (vs ++ dvs) (us ++ ds) := r.append hd
 have hl : (us ++ ds).length = ps.length := by rw [← r2.length]; exact F.len _ _ _ _ h
 refine wpAny_call (codeAny_mono (F.run X.A X.stack s H ⟨us, []⟩ (us ++ ds) (vs ++ dvs) Q E hr I.env0 (hb s us I.kIn hl) r2 h) fun r s' hq => ?_)
 cases r with
 | error e => exact hx pins σ H s e s' I hq
 | ok fl =>
   cases fl with
   | ret u => exact I.after hq
   | next => exact False.elim hq
   | brk => exact False.elim hq
   | cont => exact False.elim hq
theorem Xqh (F : FnOk X.prog X.w X.K X.mg X.base CX k f fd ps sp) (hr : Room k X.A) (hg : Gl X x) (hm : X.mg x = some (.ref f)) (hk : PySem.W.keepIn X.K (.ref f) = true) (hb : Xco X.K fd ps ds) (hd : Vals dvs ds) (hx : Xfe CX X E)
   (ha : PA X (e :: es) t) (hdb : (x == ("__debug__" : Str)) = false := by decide) (he : starEach (e :: es) X.env = (false, eval e X.env) :: starEach es X.env := by rfl) (hpl : (backTo pos (starEach es X.env)).any (·.1) = false := by rfl) :
   PE X (.Call (.Name x p) (e :: es) [] pos) (Xnf sp dvs E t) := by
 intro pins s σ H Q I h
 refine wpAny_Call_Name_kw (Xdo I hg hm ?_ hdb)
 refine PySem.W.callWith_K (h₀ := X.base) I.ok.mod.kin hk (thn (ha pos pins s σ H _ I h) fun us s1 ⟨vs, H1, I1, r, q⟩ => ⟨I1.kIn, ?_⟩) he hpl
 exact Xmh F hr hb hd hx I1 r q
structure Mk (K : PySem.W.Frag) (C f : Addr) : Prop where
 makes : PySem.W.makesIn K C = true
 init : PySem.W.findIn K (.ref C) "__init__" = some (some (.ref f))
 fn : PySem.W.isFn K (.ref f) = true
 kp : PySem.W.keepIn K (.ref C) = true
theorem Xwg {pins : List (Addr × Obj)} {σ : St} {H : Hp} {s : Shared} {Q : VK} {us : List Value} {vs : List V} (M : Mk X.K C f) (F : FnOk X.prog X.w X.K X.mg X.base CX k f fd ps sp) (hr : Room (k + 1) X.A) (hb : Xco X.K fd ps ds) (hd : Vals dvs ds)
   (hx : Xfe CX X E) (I : Inv X pins σ H s) (r : Vals vs us)
   (h : ∀ x dx, H x = none → H dx = none → dx ≠ x → sp (.ref x :: (vs ++ dvs)) (upd (upd H dx (.own x)) x (.ins C dx [])) (fun v H2 => v = .non ∧ Q (.ref x) H2) E) :
   wpAny (model X.prog X.w) X.A (call (.ref C) us) (EP X pins σ Q) X.xe s := by
 have hq := h (s.heap.objs.size + 1) s.heap.objs.size (I.hok.fresh (Nat.le_succ _)) (I.hok.fresh (Nat.le_refl _)) (Nat.ne_of_lt (Nat.lt_succ_self _))
 have I2 := Inv.made (C := C) I
 have r2 : Vals (V.ref (s.heap.objs.size + 1) :: (vs ++ dvs)) (Value.ref (s.heap.objs.size + 1) :: (us ++ ds)) := .cons rfl (r.append hd)
 have hl : (Value.ref (s.heap.objs.size + 1) :: us ++ ds).length = ps.length := by
   have e := r2.length
   rw [F.len _ _ _ _ hq] at e
   exact e.symm
 refine wpAny_call (Xwx (f := f) I.kIn M.makes M.init (beq_iff_eq.mp M.fn) (codeAny_mono (F.run _ X.stack _ _ ⟨Value.ref (s.heap.objs.size + 1) :: us, []⟩ (Value.ref (s.heap.objs.size + 1) :: (us ++ ds)) _ _ E (hr.make C us [])
   (I2.env0.make C us []) (hb _ (Value.ref (s.heap.objs.size + 1) :: us) I2.kIn hl) r2 hq) fun r s' hq' => ?_))
 cases r with
 | error e => exact hx pins σ _ _ e s' I2 hq'
 | ok fl =>
   cases fl with
   | ret u =>
     obtain ⟨v, H', I3, rv, ev, q3⟩ := I2.after hq'
     subst ev
     exact ⟨rv, ⟨V.ref (s.heap.objs.size + 1), H', I3, rfl, q3⟩⟩
   | next => exact False.elim hq'
   | brk => exact False.elim hq'
   | cont => exact False.elim hq'
theorem XFu (M : Mk X.K C f) (F : FnOk X.prog X.w X.K X.mg X.base CX k f fd ps sp) (hr : Room (k + 1) X.A) (hg : Gl X x) (hm : X.mg x = some (.ref C)) (hb : Xco X.K fd ps ds) (hd : Vals dvs ds) (hx : Xfe CX X E)
   (ha : PA X (e :: es) t) (hdb : (x == ("__debug__" : Str)) = false := by decide) (he : starEach (e :: es) X.env = (false, eval e X.env) :: starEach es X.env := by rfl) (hpl : (backTo pos (starEach es X.env)).any (·.1) = false := by rfl) :
   PE X (.Call (.Name x p) (e :: es) [] pos) (Xvk C sp dvs E t) := by
 intro pins s σ H Q I h
 refine wpAny_Call_Name_kw (Xdo I hg hm ?_ hdb)
 refine PySem.W.callWith_K (h₀ := X.base) I.ok.mod.kin M.kp (thn (ha pos pins s σ H _ I h) fun us s1 ⟨vs, H1, I1, r, q⟩ => ⟨I1.kIn, ?_⟩) he hpl
 exact Xwg M F hr hb hd hx I1 r q
end
section
variable {X : Cx} {CX : CXT} {k : Nat} {f C : Addr} {fd : FuncData} {ps ks : List Str} {sp : Sp} {E : XK} {x m : Str} {p pos apos kpos : Pos} {e o : Expr} {es : List Expr} {kws : List Keyword} {te ta : TE} {t tk : TA} {nm : Option Str}
structure KBinds (K : PySem.W.Frag) (fd : FuncData) (ps ks : List Str) (g : List Value → List Value → List Value) (gV : List V → List V → List V) : Prop where
 to : ∀ (s : Shared) (us ws : List Value), K.In s.heap → (g us ws).length = ps.length → BindsTo s fd ⟨us, ks.zip ws⟩ (ps.zip (g us ws))
 rel : ∀ {vs : List V} {us : List Value} {zs : List V} {ws : List Value}, Vals vs us → Vals zs ws → Vals (gV vs zs) (g us ws)
variable {g : List Value → List Value → List Value} {gV : List V → List V → List V}
end
structure FnScope (N P : List Str) (sc : Scope) : Prop where
 kind : sc.kind = .function
 co : sc.isCoroutine = false
 gen : sc.isGenerator = false
 nd : N.Nodup
 pre : N.take P.length = P
 par : ∀ x ∈ P, sc.names.lookup x = some .local ∨ sc.names.lookup x = some .cell
 nofree : ∀ y ∈ sc.names, y.2 ≠ .free
theorem Xjy {kindOf : Str → Option NameKind} {x : Str} : ∀ {binds : List (Str × Value)} {m : Str → Option Value}, (∀ v, (x, v) ∉ binds) → bindL kindOf binds m x = m x
 | [], _, _ => rfl
 | (n, v) :: r, m, h => by
   unfold bindL
   rw [Xjy fun w hw => h w (List.mem_cons_of_mem _ hw)]
   split
   · have : x ≠ n := by rintro rfl; exact h v List.mem_cons_self
     simp [this]
   · rfl
theorem Xko {kindOf : Str → Option NameKind} {x : Str} : ∀ {binds : List (Str × Value)} {m : Str → Option Value}, (∀ v, (x, v) ∉ binds) → bindC kindOf binds m x = m x
 | [], _, _ => rfl
 | (n, v) :: r, m, h => by
   unfold bindC
   rw [Xko fun w hw => h w (List.mem_cons_of_mem _ hw)]
   split
   · rfl
   · have : x ≠ n := by rintro rfl; exact h v List.mem_cons_self
     simp [this]
theorem Xkw {kindOf : Str → Option NameKind} {x : Str} {v : Value} : ∀ {P : List Str} {vs : List Value} {i : Nat} {m : Str → Option Value}, P.Nodup → P[i]? = some x → vs[i]? = some v → kindOf x = some .local →
   bindL kindOf (P.zip vs) m x = some v
 | [], _, _, _, _, h, _, _ => by simp at h
 | _ :: _, [], _, _, _, _, h, _ => by simp at h
 | p :: P, w :: vs, 0, m, nd, h1, h2, hk => by
   simp at h1 h2; subst h1; subst h2
   show bindL kindOf ((p, w) :: P.zip vs) m p = _
   unfold bindL
   rw [Xjy fun v hv => (List.nodup_cons.mp nd).1 (List.of_mem_zip hv).1, if_pos hk]
   simp
 | p :: P, w :: vs, i + 1, m, nd, h1, h2, hk => by
   show bindL kindOf ((p, w) :: P.zip vs) m x = _
   unfold bindL
   exact Xkw (i := i) (List.nodup_cons.mp nd).2 (by simpa using h1) (by simpa using h2) hk
theorem Xkk {kindOf : Str → Option NameKind} {x : Str} {v : Value} : ∀ {P : List Str} {vs : List Value} {i : Nat} {m : Str → Option Value}, P.Nodup → P[i]? = some x → vs[i]? = some v → kindOf x ≠ some .local →
   bindC kindOf (P.zip vs) m x = some v
 | [], _, _, _, _, h, _, _ => by simp at h
 | _ :: _, [], _, _, _, _, h, _ => by simp at h
 | p :: P, w :: vs, 0, m, nd, h1, h2, hk => by
   simp at h1 h2; subst h1; subst h2
   show bindC kindOf ((p, w) :: P.zip vs) m p = _
   unfold bindC
   rw [Xko fun v hv => (List.nodup_cons.mp nd).1 (List.of_mem_zip hv).1, if_neg hk]
   simp
 | p :: P, w :: vs, i + 1, m, nd, h1, h2, hk => by
   show bindC kindOf ((p, w) :: P.zip vs) m x = _
   unfold bindC
   exact Xkk (i := i) (List.nodup_cons.mp nd).2 (by simpa using h1) (by simpa using h2) hk
def start (N : List Str) (vs : List V) : St := vs.map some ++ List.replicate (N.length - vs.length) none
def cxOf (CX : CXT) (P : Program) (w : World) (K : PySem.W.Frag) (mg : Str → Option Value) (base : Heap) (N : List Str) (qual : Str) (scope : Scope) (f : Addr) (cd : Value) (A : Around) (outer : List Env) (s : Shared) (H : Hp) (E : XK) : Cx where
 prog := P
 w := w
 K := K
 mg := mg
 base := base
 A := A.deeper (envOfC qual scope s.heap.objs.size f cd)
 N := N
 s₀ := s
 H₀ := H
 env := envOfC qual scope s.heap.objs.size f cd
 outer := outer
 stack := envOfC qual scope s.heap.objs.size f cd :: outer
 ex := []
 calm := true
 fn := fun _ => true
 pn := []
 xe := fun e s' => wpAny (model P w) (A.deeper (envOfC qual scope s.heap.objs.size f cd)) (leaving (envOfC qual scope s.heap.objs.size f cd) e) (fun _ s'' => CX outer H s E e s'') (fun e' s'' => CX outer H s E e' s'') s'
theorem Xmw {sc : Scope} {n : Nat} {x : Str} (h : sc.names.lookup x = some .cell) : ∃ c, (cellsFrom n sc.names []).lookup x = some c := by
 have q := PySem.W.cellsFrom_some sc.names n [] (.inl h)
 exact Option.isSome_iff_exists.mp q
theorem Xkj {CX : CXT} {P : Program} {w : World} {K : PySem.W.Frag} {mg : Str → Option Value} {base : Heap} {N ps : List Str} {qual : Str} {scope : Scope} {f : Addr} {cd : Value} {A : Around} {outer : List Env} {s s1 : Shared} {H : Hp} {E : XK} {us : List Value} {vs : List V}
   (S : FnScope N ps scope) (hd : A.handled = none) (e0 : Env0 P w K mg base A outer s H) (hl : vs.length = ps.length) (r : Vals vs us)
   (x : InCallC s s.heap.objs.size (bindL (envOfC qual scope s.heap.objs.size f cd).kindOf (ps.zip us) fun _ => none) (cellsFrom (s.heap.objs.size + 1) scope.names []) (bindC (envOfC qual scope s.heap.objs.size f cd).kindOf (ps.zip us) fun _ => none) s1) :
   Inv (cxOf CX P w K mg base N qual scope f cd A outer s H E) [] (start N vs) H s1 := by
 have hpl : ps.length ≤ N.length := by have := congrArg List.length S.pre; rw [List.length_take] at this; omega
 obtain ⟨h1, tk, rfl, hk⟩ := x.done
 have noA : ∀ b : Addr, b ∉ (cxOf CX P w K mg base N qual scope f cd A outer s H E).ex := fun b z => absurd (show b ∈ ([] : List Addr) from z) (by simp)
 refine ⟨⟨e0.mod, S.kind, rfl, rfl, Nat.le_refl _, fun y z c h1 h2 => ?_, fun y hy => ?_, fun y c _ h => ?_, fun _ => hd, Around.frames_deeper e0.frames, .inr ⟨rfl, rfl⟩, fun b z => absurd z (noA b), e0.bs, e0.bsz, fun b _ _ => noA b, fun b z => absurd z (noA b), e0.funs, e0.frf⟩,
   rfl, e0.bare, Un.kept hk, ⟨_, x.toInCall.ns, fun i y v h1 h2 h3 => ?_⟩, fun y c h => ⟨_, x.cell y c h⟩, e0.hok.fresh (Nat.le_refl _), fun y c h => ?_, fun p hp => absurd (show p ∈ ([] : List (Addr × Obj)) from hp) (by simp), e0.hok.kept hk, ?_⟩
 · exact name_of_addr x.apart (PySem.mem_of_lookup h1) (PySem.mem_of_lookup h2)
 · have hy : scope.names.lookup y = some .cell ∨ scope.names.lookup y = some .free := hy
   rcases hy with hy | hy
   · exact Xmw hy
   · exact absurd rfl (S.nofree _ (PySem.mem_of_lookup hy))
 · exact Nat.le_of_lt (x.above y c (PySem.mem_of_lookup h))
 · have hi : i < vs.length := by
     unfold start at h2
     by_cases hi : i < vs.length
     · exact hi
     · rw [List.getElem?_append_right (by simpa using hi)] at h2
       rw [List.getElem?_replicate] at h2
       split at h2 <;> cases h2
   have ha : vs[i]? = some v := by
     unfold start at h2
     rw [List.getElem?_append_left (by simpa using hi), List.getElem?_map] at h2
     cases e : vs[i]? with
     | none => rw [e] at h2; cases h2
     | some a => rw [e] at h2; cases h2; rfl
   obtain ⟨u, hu, rv⟩ := r.get ha
   have hp : ps[i]? = some y := by
     rw [← S.pre, List.getElem?_take_of_lt (by omega)]; exact h1
   have ndP : ps.Nodup := by rw [← S.pre]; exact S.nd.sublist (List.take_sublist _ _)
   refine ⟨u, rv, ?_⟩
   rcases S.par y (List.mem_of_getElem? hp) with k | k
   · exact .inl ⟨k, Xkw ndP hp hu k⟩
   · obtain ⟨c, e⟩ := Xmw (n := s.heap.objs.size + 1) k
     refine .inr ⟨.inl k, c, e, ?_⟩
     have q := x.cell y c e
     rw [Xkk ndP hp hu (by show scope.names.lookup y ≠ _; rw [k]; decide)] at q
     exact q
 · exact e0.hok.fresh (Nat.le_of_lt (x.above y c (PySem.mem_of_lookup h)))
 · unfold start
   show _ = N.length
   rw [List.length_append, List.length_map, List.length_replicate]
   omega
theorem Xzh {CX : CXT} {P : Program} {w : World} {K : PySem.W.Frag} {mg : Str → Option Value} {base : Heap} {k : Nat} {f : Addr} {name qual : Str} {params : Arguments} {body : List Stmt} {scope : Scope} {dV kV doc pm cdv ct oc : Value} {an od : Option Addr}
   {osl : Array (Option Value)} {N ps : List Str} {sp : Sp} (lk : K.lookup f = some ⟨oc, od, .func (PySem.W.fnOf name qual params body scope dV kV doc pm an cdv ct), osl⟩) (hcd : PySem.W.codeIn K cdv qual = true) (S : FnScope N ps scope)
   (len : ∀ vs H Q E, sp vs H Q E → vs.length = ps.length)
   (hbody : ∀ (A : Around) (outer : List Env) (s : Shared) (H : Hp) (vs : List V) (Q : VK) (E : XK), Room k (A.deeper (envOfC qual scope s.heap.objs.size f cdv)) → sp vs H Q E →
     ∃ t, PSs (cxOf CX P w K mg base N qual scope f cdv A outer s H E) body t ∧ t { nx := fun _ H' => Q .non H', rt := Q } (start N vs) H) :
   FnOk P w K mg base CX (k + 1) f (PySem.W.fnOf name qual params body scope dV kV doc pm an cdv ct) ps sp := by
 refine ⟨len, fun A outer s H args us vs Q E hr e0 hb r hsp => ?_⟩
 have hl := len _ _ _ _ hsp
 have KX : K.In s.heap := e0.mod.kin.keeps fun b o e => (e0.bs b o e).1
 have lim : s.heap.NoLimit := e0.mod.nolimit.keeps fun b o e => (e0.bs b o e).1
 have hkind : ∀ y ∈ ps.zip us, scope.names.lookup y.1 = some .local ∨ (scope.names.lookup y.1 = some .cell ∧ ((cellsFrom (s.heap.objs.size + 1) scope.names []).lookup y.1).isSome = true) := fun ⟨n, v⟩ hy => by
   rcases S.par n (List.of_mem_zip hy).1 with q | q
   · exact .inl q
   · exact .inr ⟨q, PySem.W.cellsFrom_some _ _ _ (.inl q)⟩
 refine codeAny_call_function hr.depth (KX _ _ lk) rfl S.co S.gen rfl (PySem.W.codeRec_of KX hcd) (hb _ _ _ _ ?_)
 refine wpAny_newFunctionEnv_cells S.kind hkind fun env he s1 x => ?_
 subst he
 refine ⟨lim.keeps x.toInCall.keep, codeAny_func ?_⟩
 obtain ⟨t, ht, hq⟩ := hbody A outer s H vs Q E (hr.deeper _) hsp
 have I : Inv (cxOf CX P w K mg base N qual scope f cdv A outer s H E) [] (start N vs) H s1 := Xkj S hr.hd e0 hl r x
 refine wpAny_mono (ht [] s1 (start N vs) H _ I hq) (fun fl s' hs => ?_) fun e s' hs => hs
 have fin : ∀ {σ' : St} {H' : Hp} {v : V} {u : Value}, Inv (cxOf CX P w K mg base N qual scope f cdv A outer s H E) [] σ' H' s' → RelV v u → Q v H' → CE outer P w H s Q u s' :=
   fun {σ' H' v u} J rv q => ⟨v, H', J.os, J.bare, J.base, J.hok, rv, q⟩
 cases fl with
 | ret u =>
   obtain ⟨v, σ', H', J, rv, q⟩ := hs
   exact fin J rv q
 | next =>
   obtain ⟨σ', H', J, q⟩ := hs
   exact fin (v := V.non) (u := Value.none) J rfl q
 | brk =>
   obtain ⟨_, _, _, q⟩ := hs
   exact False.elim q
 | cont =>
   obtain ⟨_, _, _, q⟩ := hs
   exact False.elim q
end L2
namespace L2
open PySem PySem.Spec PyProof.Rows
section
variable {X : Cx} {x : Str} {p pos : Pos} {e : Expr} {es : List Expr} {t : TA} {id T : String} {r : List V → Hp → VK → Prop}
def tCB (r : List V → Hp → VK → Prop) (t : TA) : TE := fun σ H Q => t σ H fun vs H1 => r vs H1 Q
theorem Xbm (hc : Xkg X (.builtin id) r) (hg : Gl X x) (hm : X.mg x = none) (hv : bootBuiltins x = some (.builtin id)) (ha : PA X (e :: es) t) (hn : x ≠ "__name__" := by decide) (hdb : (x == ("__debug__" : Str)) = false := by decide)
   (he : starEach (e :: es) X.env = (false, eval e X.env) :: starEach es X.env := by rfl) (hpl : (backTo pos (starEach es X.env)).any (·.1) = false := by rfl) : PE X (.Call (.Name x p) (e :: es) [] pos) (tCB r t) := by
 intro pins s σ H Q I h
 refine wpAny_Call_Name_kw (Xxn I hg hm hv ?_ hn hdb)
 exact PyProof.Rows.callWith_builtin1 (thn (ha pos pins s σ H _ I h) fun us s1 ⟨vs, H1, I1, r1, q1⟩ => hc pins s1 σ H1 vs us Q I1 r1 q1) he hpl
theorem Xen (hc : Xkg X (.type T) r) (hg : Gl X x) (hm : X.mg x = none) (hv : bootBuiltins x = some (.type T)) (ha : PA X (e :: es) t) (hn : x ≠ "__name__" := by decide) (hdb : (x == ("__debug__" : Str)) = false := by decide)
   (he : starEach (e :: es) X.env = (false, eval e X.env) :: starEach es X.env := by rfl) (hpl : (backTo pos (starEach es X.env)).any (·.1) = false := by rfl) : PE X (.Call (.Name x p) (e :: es) [] pos) (tCB r t) := by
 intro pins s σ H Q I h
 refine wpAny_Call_Name_kw (Xxn I hg hm hv ?_ hn hdb)
 exact PyProof.Rows.callWith_type1 (thn (ha pos pins s σ H _ I h) fun us s1 ⟨vs, H1, I1, r1, q1⟩ => hc pins s1 σ H1 vs us Q I1 r1 q1) he hpl
end
end L2
namespace HT
open PySem PyProof.Rows
def lexLt : List Int → List Int → Bool
 | [], [] => false
 | [], _ :: _ => true
 | _ :: _, [] => false
 | x :: xs, y :: ys => if x = y then lexLt xs ys else decide (x < y)
theorem Xng (x y : Int) (xs ys : List Int) : lexLt (x :: xs) (y :: ys) = if x = y then lexLt xs ys else decide (x < y) := rfl
theorem Xjn : lexLt [] [] = false := rfl
theorem Xij (y : Int) (ys : List Int) : lexLt [] (y :: ys) = true := rfl
theorem Xig (x : Int) (xs : List Int) : lexLt (x :: xs) [] = false := rfl
theorem Xxj (A : Around) (s : Shared) (a : Int) (t : Tok) (c : Int) (u : Tok) : ∃ e, SeqAt.EqAt A s (.int a t) (.int c u) e ∧ (e = true ↔ a = c) :=
 ⟨(a == c), SeqAt.EqAt.int_int a t c u, by simp⟩
theorem Xxi (A : Around) (s : Shared) (a : Int) (t : Tok) (c : Int) (u : Tok) (prog : Program) (w : World) (E : Value → Shared → Prop) (Q : Value → Shared → Prop) (h : Q (.bool (decide (a < c))) s) :
   wpAny (model prog w) A (richCompare .Lt (.int a t) (.int c u)) Q E s :=
 (PyProof.Rows.lt_int h : wpAny (model prog w) A (compareOp .Lt (.int a t) (.int c u)) Q E s)
section
open PySem.SeqAt
open PySem.AutoSeq1 (wpAny_loadPart')
open PySem.MeetsSeq PySem.MeetsSeq2 PySem.MeetsSeq3
theorem Xjc (l b : Addr) (items items2 : Array Value) (n n2 : Nat) (dd dd2 : Option Addr) (sl sl2 : Array (Option Value)) (ns ms : List Int) (hi : IntsAre items.toList ns) (hj : IntsAre items2.toList ms) :
   Meets (Builtin.«tuple.__lt__» ⟨[.ref l, .ref b], []⟩)
     (fun _ R s => s.heap.get? l = some { cls := .type "tuple", dict := dd, data := .seq items n, slots := sl } ∧ s.heap.get? b = some { cls := .type "tuple", dict := dd2, data := .seq items2 n2, slots := sl2 } ∧
       R (.ok (.ret (.bool (lexLt ns ms)))) s) :=
 .of_wp fun prog w A R s h => by
   obtain ⟨hp, g, d, tk, os⟩ := s; obtain ⟨hl, hb, h⟩ := h
   have f2 := AutoSeq1.sub_tuple_tuple
   have z1 : items.size = ns.length := by rw [← hi.length]; simp
   have z2 : items2.size = ms.length := by rw [← hj.length]; simp
   wp_walk using wpAny_loadPart' hl, wpAny_loadPart' hb, wpAny_forIn_list _ (fun rest b s' => b.1 = none ∧ s' = ⟨hp, g, d, tk, os⟩ ∧ ∃ (vs ws : List Value) (ns' ms' : List Int), rest = vs.zip ws ∧
     IntsAre vs ns' ∧ IntsAre ws ms' ∧ ns'.length + items2.size = ms'.length + items.size ∧ R (.ok (.ret (.bool (lexLt ns' ms')))) ⟨hp, g, d, tk, os⟩) _
   case turn =>
     rintro ⟨y, x⟩ rest b s' ⟨hb', rfl, vs, ws, ns', ms', hz, hvi, hwi, hlen, hR⟩
     cases hvi with
     | nil => rw [List.zip_nil_left] at hz; cases hz
     | cons a t hvi' =>
       cases hwi with
       | nil => rw [List.zip_nil_right] at hz; cases hz
       | cons c u hwi' =>
         rw [List.zip_cons_cons] at hz
         injection hz with hyx hrest
         injection hyx with hy hx
         subst hy hx
         rw [Xng] at hR
         simp only [List.length_cons] at hlen
         obtain ⟨e, he, hiff⟩ := Xxj A.in1 ⟨hp, g, d, tk, os⟩ a t c u
         refine wpAny_bind (he prog w _ _ ?_)
         cases e with
         | true =>
           rw [if_pos (hiff.mp rfl)] at hR
           wp_walk
           exact ⟨rfl, rfl, _, _, _, _, hrest, hvi', hwi', by omega, hR⟩
         | false =>
           rw [if_neg (fun q => absurd (hiff.mpr q) Bool.false_ne_true)] at hR
           have hri := Xxi A.in1 ⟨hp, g, d, tk, os⟩ a t c u prog w
           wp_walk using hri
           exact ⟨_, rfl, by simpa using hR⟩
   case fin =>
     rintro ⟨b1, b2⟩ s' ⟨hb', rfl, vs, ws, ns', ms', hz, hvi, hwi, hlen, hR⟩
     simp only at hb'
     subst hb'
     have hv : lexLt ns' ms' = decide (items.size < items2.size) := by
       cases hvi with
       | nil =>
         cases hwi with
         | nil =>
           simp only [List.length_nil] at hlen
           rw [Xjn]
           exact (decide_eq_false (by omega)).symm
         | cons c u hw =>
           simp only [List.length_nil, List.length_cons] at hlen
           rw [Xij]
           exact (decide_eq_true (by omega)).symm
       | cons a t hv =>
         cases hwi with
         | nil =>
           simp only [List.length_nil, List.length_cons] at hlen
           rw [Xig]
           exact (decide_eq_false (by omega)).symm
         | cons c u hw =>
           rw [List.zip_cons_cons] at hz
           cases hz
     rw [hv] at hR
     wp_walk
     exact ⟨_, rfl, by simpa [Builtin.Tuple.tupleCompareSizes] using hR⟩
   case h =>
     exact ⟨rfl, rfl, items.toList, items2.toList, ns, ms, rfl, hi, hj, by omega, h⟩
end
section
variable {prog : Program} {w : World} {A : Around} {E : Value → Shared → Prop} {s : Shared}
theorem lt_tupInts {l b : Addr} {items items2 : Array Value} {ns ms : List Int} {Q : Value → Shared → Prop} (hl : IsTup s.heap l items) (hb : IsTup s.heap b items2) (hi : IntsAre items.toList ns) (hj : IntsAre items2.toList ms)
   (hu : A.units < cLine) (h : Q (.bool (lexLt ns ms)) s) : wpAny (model prog w) A (compareOp .Lt (.ref l) (.ref b)) Q E s := by
 obtain ⟨⟨cls, dd, data, sl⟩, ho, hc, n, hd⟩ := id hl
 obtain ⟨⟨cls2, dd2, data2, sl2⟩, ho2, hc2, n2, hd2⟩ := id hb
 simp only at hc hd hc2 hd2
 subst hc hd hc2 hd2
 exact richCompare_meets_room (op := .Lt) ⟨_, ho, rfl⟩ ⟨_, ho2, rfl⟩ PySem.F.slot_tuple_lt PySem.F.entry_tuple_lt (PySem.F.args_tuple_lt_2 _ _) (Xjc l b items items2 n n2 dd dd2 sl sl2 ns ms hi hj)
   ⟨ho, ho2, show Value.bool (lexLt ns ms) ≠ Value.notImplemented ∧ Q (.bool (lexLt ns ms)) s from ⟨(fun x => nomatch x), h⟩⟩ hu
def sIx (n d : Nat) : Option Int → Nat
 | none => d
 | some v => if v < 0 then (v + (n : Int)).toNat else min v.toNat n
theorem sIx_none (n d : Nat) : sIx n d none = d := rfl
theorem sIx_nat (n d k : Nat) : sIx n d (some (k : Int)) = min k n := by
 show (if (k : Int) < 0 then ((k : Int) + (n : Int)).toNat else min (k : Int).toNat n) = min k n
 rw [if_neg (by omega), Int.toNat_natCast]
end
end HT
namespace L2
open PySem PySem.Spec PyProof.Rows
abbrev TO := St → Hp → (Option Int → Hp → Prop) → Prop
def PO (X : Cx) (e : Option Expr) (t : TO) : Prop :=
 ∀ (pins : List (Addr × Obj)) (s : Shared) (σ : St) (H : Hp) (Q : Option Int → Hp → Prop), Inv X pins σ H s → t σ H Q →
   wpAny (model X.prog X.w) X.A (evalPart e X.env) (fun u s' => ∃ o H', Inv X pins σ H' s' ∧ IsPart u o ∧ Q o H') X.xe s
def Xro : TO := fun _ H Q => Q none H
def XMd (t : TE) : TO := fun σ H Q => t σ H fun x H1 => ∃ i, x = .int i ∧ Q (some i) H1
theorem Xge {ns : List Int} : ∀ {us : List Value}, Vals (ns.map V.int) us → IntsAre us ns := by
 induction ns with
 | nil => intro us r; rw [List.map_nil] at r; cases r; exact .nil
 | cons n ns ih =>
   intro us r
   rw [List.map_cons] at r
   cases r with
   | cons r1 r2 =>
     obtain ⟨t, e⟩ := r1
     subst e
     exact .cons n t (ih r2)
section
variable {X : Cx} {e : Expr} {te : TE} {lo hi : Option Expr} {tl th : TO} {pos p2 : Pos}
theorem Xlz : PO X none Xro := by
 intro pins s σ H Q I h
 rw [evalPart_none]
 exact wpAny_pure ⟨none, H, I, .none, h⟩
theorem Xfg (h : PE X e te) : PO X (some e) (XMd te) := by
 intro pins s σ H Q I hw
 rw [evalPart_some]
 refine thn (h pins s σ H _ I hw) fun u s1 ⟨x, H1, I1, r1, q1⟩ => ?_
 obtain ⟨i, rfl, q⟩ := q1
 obtain ⟨t, rfl⟩ := r1
 exact ⟨some i, H1, I1, .int i t, q⟩
def SlR (X : Cx) (r : V → Option Int → Option Int → Hp → VK → Prop) : Prop :=
 ∀ (pins : List (Addr × Obj)) (s : Shared) (σ : St) (H : Hp) (x : V) (v vl vu : Value) (lo hi : Option Int) (sl : Addr) (Q : VK), Inv X pins σ H s → RelV x v → s.heap.IsSliceOf sl vl vu .none → IsPart vl lo → IsPart vu hi → r x lo hi H Q →
   ∃ T id, typeLookup (.type T) "__getitem__" = pure (some (.builtin id)) ∧ s.TypeIs v T ∧ wpAny (model X.prog X.w) X.A (getItem v (.ref sl)) (EP X pins σ Q) X.xe s
def tSl (r : V → Option Int → Option Int → Hp → VK → Prop) (te : TE) (tl th : TO) : TE := fun σ H Q => te σ H fun x H1 => tl σ H1 fun l H2 => th σ H2 fun u H3 => r x l u H3 Q
theorem Xfs {r : V → Option Int → Option Int → Hp → VK → Prop} (hr : SlR X r) (he : PE X e te) (hl : PO X lo tl) (hu : PO X hi th) : PE X (.Subscript e (.Slice lo hi none p2) pos) (tSl r te tl th) := by
 intro pins s σ H Q I h
 refine Subscript_ (thn (he pins s σ H _ I h) fun v s1 ⟨x, H1, I1, r1, q1⟩ => ?_)
 refine wpAny_Slice (thn (hl pins s1 σ H1 _ I1 q1) fun vl s2 ⟨l, H2, I2, pl, q2⟩ => thn (hu pins s2 σ H2 _ I2 q2) fun vu s3 ⟨u, H3, I3, pu, q3⟩ => ?_)
 rw [evalPart_none]
 refine wpAny_pure ?_
 have I4 : Inv X pins σ H3 { s3 with heap := s3.heap.push { cls := .type "slice", data := .fields #[vl, vu, .none] } } := I3.kept (t' := s3.toks) fun b ob q => Heap.get?_push_of_some _ q
 obtain ⟨T, id, hT, ht, hg⟩ := hr pins { s3 with heap := s3.heap.push { cls := .type "slice", data := .fields #[vl, vu, .none] } } σ H3 x v vl vu l u s3.heap.objs.size Q I4 r1 (Heap.IsSliceOf.new ..) pl pu q3
 show wpAny (model X.prog X.w) X.A (subscriptTail e (.Slice lo hi none p2) v (.ref s3.heap.objs.size)) (EP X pins σ Q) X.xe { s3 with heap := s3.heap.push { cls := .type "slice", data := .fields #[vl, vu, .none] } }
 exact tail_any (ops := [.ref s3.heap.objs.size, v]) ht hT hg (by with_unfolding_all rfl)
def cutV (xs : List V) (lo hi : Option Int) : List V := (xs.drop (HT.sIx xs.length 0 lo)).take (HT.sIx xs.length xs.length hi - HT.sIx xs.length 0 lo)
theorem Xlc (xs : List V) (lo hi : Option Int) : (cutV xs lo hi).length ≤ xs.length := by
 unfold cutV
 rw [List.length_take, List.length_drop]
 omega
end
end L2
namespace L2
open PySem PySem.Spec PyProof.Rows
def ixN (n : Nat) (i : Int) : Option Nat := if 0 ≤ i then (if i < n then some i.toNat else none) else if -(n : Int) ≤ i then some (i + n).toNat else none
def atI {α : Type} (xs : List α) (i : Int) : Option α := (ixN xs.length i).bind fun j => xs[j]?
theorem Xpy {n : Nat} {i : Int} {j : Nat} (h : ixN n i = some j) : seqIndex? i n = some j ∧ j < n ∧ -(n : Int) ≤ i ∧ i < n := by
 unfold ixN at h
 by_cases h0 : 0 ≤ i
 · rw [if_pos h0] at h
   by_cases h1 : i < n
   · rw [if_pos h1] at h
     have e : i.toNat = j := Option.some.inj h
     exact ⟨by rw [seqIndex_of h0 h1, e], by omega, by omega, h1⟩
   · rw [if_neg h1] at h; cases h
 · rw [if_neg h0] at h
   by_cases h1 : -(n : Int) ≤ i
   · rw [if_pos h1] at h
     have e : (i + n).toNat = j := Option.some.inj h
     exact ⟨by rw [seqIndex_neg (by omega) h1, e], by omega, h1, by omega⟩
   · rw [if_neg h1] at h; cases h
theorem Xon {α : Type} {xs : List α} {i : Int} {v : α} (h : atI xs i = some v) : ∃ j, seqIndex? i xs.length = some j ∧ xs[j]? = some v ∧ j < xs.length ∧ -(xs.length : Int) ≤ i ∧ i < xs.length := by
 unfold atI at h
 cases e : ixN xs.length i with
 | none => rw [e] at h; cases h
 | some j =>
   rw [e] at h
   obtain ⟨h1, h2, h3, h4⟩ := Xpy e
   exact ⟨j, h1, h, h2, h3, h4⟩
theorem Xlm {α : Type} {xs : List α} {j : Nat} {v : α} (h : xs[j]? = some v) : atI xs (j : Int) = some v := by
 have hj : j < xs.length := (List.getElem?_eq_some_iff.mp h).1
 have e : ixN xs.length (j : Int) = some j := by
   unfold ixN
   rw [if_pos (by omega), if_pos (by omega)]; simp
 unfold atI; rw [e]; exact h
theorem Xtb {α : Type} (xs : List α) (v : α) : atI (xs ++ [v]) (-1) = some v := by
 have hl : (xs ++ [v]).length = xs.length + 1 := by simp
 have e : ixN (xs ++ [v]).length (-1) = some xs.length := by
   unfold ixN
   rw [hl, if_neg (by decide), if_pos (by omega)]
   congr 1
   omega
 unfold atI
 rw [e]
 show (xs ++ [v])[xs.length]? = some v
 simp
def XGi (b : Expr) : Prop := ∀ o i, subscripted b false o i = operate [o, i] (getItem o i)
def IxR (X : Cx) (r : R2) : Prop :=
 ∀ (value slice : Expr) (pins : List (Addr × Obj)) (s : Shared) (σ : St) (H : Hp) (x y : V) (v u : Value) (Q : VK), Inv X pins σ H s → RelV x v → RelV y u → r x y H Q →
   subscripted slice false v u = operate [v, u] (getItem v u) → wpAny (model X.prog X.w) X.A (subscriptTail value slice v u) (EP X pins σ Q) X.xe s
def MtR (X : Cx) (id : String) (r : V → List V → Hp → VK → Prop) : Prop :=
 ∀ (pins : List (Addr × Obj)) (s : Shared) (σ : St) (H : Hp) (x : V) (xs : List V) (v : Value) (us : List Value) (Q : VK), Inv X pins σ H s → RelV x v → Vals xs us → r x xs H Q →
   wpAny (model X.prog X.w) X.A (call (.builtin id) (v :: us)) (EP X pins σ Q) X.xe s
section
variable {X : Cx} {a b : Expr} {ta tb : TE} {pos : Pos}
theorem Xbj {r : R2} (hr : IxR X r) (ha : PE X a ta) (hb : PE X b tb) (hs : XGi b) : PE X (.Subscript a b pos) (tOp r ta tb) := by
 intro pins s σ H Q I h
 exact Subscript_ (binT ha hb I h fun v u s2 x y H2 I2 rx ry q => hr a b pins s2 σ H2 x y v u Q I2 rx ry q (hs _ _))
def rIxL (K : PySem.W.Frag) : R2 := fun x y H Q => ∃ p xs i v, x = .ref p ∧ y = .int i ∧ SqL K H p xs ∧ atI xs i = some v ∧ Q v H
def rIxT (K : PySem.W.Frag) : R2 := fun x y H Q => ∃ p xs i v, x = .ref p ∧ y = .int i ∧ SqT K H p xs ∧ atI xs i = some v ∧ Q v H
theorem Xbh : IxR X (rIxL X.K) := by
 intro value slice pins s σ H x y v u Q I rx ry h hs
 obtain ⟨p, xs, i, z, rfl, rfl, hq, he, q⟩ := h
 cases rx
 obtain ⟨t, rfl⟩ := ry
 obtain ⟨its, r, pl, hz⟩ := I.list hq
 obtain ⟨j, h1, h2, h3, h4, h5⟩ := Xon he
 obtain ⟨w, ew, rw'⟩ := r.get h2
 have hl := r.length
 have hn := Xkt
 have fin : EP X pins σ Q w s := ⟨z, H, I, rw', q⟩
 by_cases h0 : 0 ≤ i
 · have hj : i.toNat = j := by
     rw [seqIndex_of h0 h5] at h1
     exact Option.some.inj h1
   exact item_listR pl.isList h0 (by omega) (by rw [hj]; simpa using ew) fin hs
 · have hj : (i + (its.toArray.size : Int)).toNat = j := by
     rw [seqIndex_neg (by omega) h4] at h1
     rw [List.size_toArray, ← hl]
     exact Option.some.inj h1
   exact subscriptTail_builtinR (x := w) pl.isList.typeIs slot_list_getitem.lookup
     (wpAny_getItem_list_neg (Q := fun r s' => r = w ∧ EP X pins σ Q r s') pl.isList (by omega) (by rw [List.size_toArray] <;> omega) (by omega) (by rw [hj]; simpa using ew) ⟨rfl, fin⟩) hs
theorem Xbz : IxR X (rIxT X.K) := by
 intro value slice pins s σ H x y v u Q I rx ry h hs
 obtain ⟨p, xs, i, z, rfl, rfl, hq, he, q⟩ := h
 cases rx
 obtain ⟨t, rfl⟩ := ry
 obtain ⟨its, r, pl, hz⟩ := I.tuple hq
 obtain ⟨j, h1, h2, h3, h4, h5⟩ := Xon he
 obtain ⟨w, ew, rw'⟩ := r.get h2
 have hl := r.length
 have hn := Xkt
 have fin : EP X pins σ Q w s := ⟨z, H, I, rw', q⟩
 exact subscriptTail_builtinR (x := w) pl.typeIs slot_tuple_getitem.lookup
   (getItem_tuple (j := j) (Q := fun r s' => r = w ∧ EP X pins σ Q r s') pl (by omega) (by omega) (by rw [List.size_toArray, ← hl]; exact h1) (by simpa using ew) ⟨rfl, fin⟩) hs
theorem Xoc (its : List Value) (n j : Nat) (u : Value) : Obj.mapSeq (·.setIfInBounds j u) { cls := .type "list", data := .seq its.toArray n } = { cls := .type "list", data := .seq (its.set j u).toArray n } := by
 simp [Obj.mapSeq]
theorem Inv.lst {pins : List (Addr × Obj)} {σ : St} {H : Hp} {s : Shared} {p : Addr} {xs : List V} (I : Inv X pins σ H s) (h : H p = some (.lst xs)) :
   ∃ (its : List Value) (n : Nat), Vals xs its ∧ s.heap.get? p = some { cls := .type "list", data := .seq its.toArray n } ∧ xs.length ≤ sizeLine := by
 obtain ⟨z, its, n, r, e⟩ := I.hok p _ h
 exact ⟨its, n, r, e, z⟩
theorem Inv.lstUpd {pins : List (Addr × Obj)} {σ : St} {H : Hp} {s : Shared} {p : Addr} {xs ys : List V} {its its' : List Value} {n n' : Nat} {f : Obj → Obj} (I : Inv X pins σ H s) (h : H p = some (.lst xs))
   (ho : s.heap.get? p = some { cls := .type "list", data := .seq its.toArray n }) (hf : f { cls := .type "list", data := .seq its.toArray n } = { cls := .type "list", data := .seq its'.toArray n' }) (r : Vals ys its') (hz : ys.length ≤ sizeLine) (t : Nat) :
   Inv X pins σ (upd H p (.lst ys)) { s with heap := s.heap.update p f, toks := t } := by
 have e : (s.heap.update p f).get? p = some { cls := .type "list", data := .seq its'.toArray n' } := by
   rw [Heap.get?_update_self f ho (by rw [hf] <;> rfl), hf]
 refine I.write (x := p) (e := p) (by rw [h]; trivial) (.inl rfl) (fun b u hb q => (Heap.get?_update_other _ _ (Ne.symm hb)).trans q) ⟨_, e⟩ ?_
 exact ⟨hz, its', n', r, e⟩
def XBp : V → V → V → Hp → (Hp → Prop) → Prop := fun o i v H Q => ∃ p xs k j, o = .ref p ∧ i = .int k ∧ H p = some (.lst xs) ∧ ixN xs.length k = some j ∧ Q (upd H p (.lst (xs.set j v)))
theorem Xew : PSet X XBp := by
 intro pins s σ H o i v ov iv u Q I ro ri rv h
 obtain ⟨p, xs, k, j, rfl, rfl, hp, hj, q⟩ := h
 cases ro
 obtain ⟨t, rfl⟩ := ri
 obtain ⟨its, n, r, ho, hz⟩ := I.lst hp
 obtain ⟨h1, h2, h3, h4⟩ := Xpy hj
 have hl := r.length
 have hn := Xkt
 have I' : Inv X pins σ (upd H p (.lst (xs.set j v))) { s with heap := s.heap.update p (Obj.mapSeq (·.setIfInBounds j u)) } :=
   I.lstUpd hp ho (Xoc its n j u) (r.set rv j) (by rw [List.length_set]; exact hz) s.toks
 by_cases h0 : 0 ≤ k
 · have hk : k.toNat = j := by
     rw [seqIndex_of h0 h4] at h1
     exact Option.some.inj h1
   exact PySem.W.ki_setAt ho h0 (by omega) (by rw [List.size_toArray, ← hl]; exact h4) (by rw [hk]; exact ⟨_, I', q⟩)
 · have hk : (k + (its.toArray.size : Int)).toNat = j := by
     rw [seqIndex_neg (by omega) h3] at h1
     rw [List.size_toArray, ← hl]
     exact Option.some.inj h1
   exact PySem.W.ki_setBack ho (by omega) (by rw [List.size_toArray, ← hl]; exact h3) (by omega) (by rw [hk]; exact ⟨_, I', q⟩)
theorem Xkd (lo hi : Option Int) (n : Nat) : (sliceBounds lo hi none n).1 = ((HT.sIx n 0 lo : Nat) : Int) ∧ (sliceBounds lo hi none n).2.1 = ((HT.sIx n n hi : Nat) : Int) ∧ (sliceBounds lo hi none n).2.2 = 1 := by
 refine ⟨?_, ?_, rfl⟩
 · cases lo with
   | none => simp [sliceBounds, HT.sIx]
   | some i =>
     simp only [sliceBounds, HT.sIx, Option.getD_none, show (1 : Int) > 0 by decide, if_true]
     by_cases h : i < 0
     · simp only [h, if_true] <;> omega
     · simp only [h, if_false] <;> omega
 · cases hi with
   | none => simp [sliceBounds, HT.sIx]
   | some i =>
     simp only [sliceBounds, HT.sIx, Option.getD_none, show (1 : Int) > 0 by decide, if_true]
     by_cases h : i < 0
     · simp only [h, if_true] <;> omega
     · simp only [h, if_false] <;> omega
theorem Xjb (its : List Value) (lo hi : Option Int) : slicePick its.toArray lo hi none = ((its.drop (HT.sIx its.length 0 lo)).take (HT.sIx its.length its.length hi - HT.sIx its.length 0 lo)).toArray := by
 obtain ⟨h1, h2, h3⟩ := Xkd lo hi its.toArray.size
 unfold slicePick
 rw [h1, h2, h3]
 simp only [sliceRange_one, pick_run, List.size_toArray] <;> rfl
def rSlL (K : PySem.W.Frag) : V → Option Int → Option Int → Hp → VK → Prop := fun x lo hi H Q => ∃ a xs, x = .ref a ∧ SqL K H a xs ∧ ∀ p, H p = none → Q (.ref p) (upd H p (.lst (cutV xs lo hi)))
theorem Xhn : SlR X (rSlL X.K) := by
 intro pins s σ H x v vl vu lo hi sl Q I rx hs pl pu h
 obtain ⟨a, xs, rfl, hx, q⟩ := h
 cases rx
 obtain ⟨its, r, ht, hz⟩ := I.list hx
 have hlen := r.length
 refine ⟨"list", _, slot_list_getitem.lookup, ht.isList.typeIs, ?_⟩
 refine wpAny_getItem_list_slice ht.isList hs pl pu .none (by simp) ?_ (by rw [List.size_toArray] <;> omega)
 rw [Xjb, ← hlen]
 refine ⟨.ref s.heap.objs.size, _, I.laid (t' := s.toks) (o := .lst (cutV xs lo hi)) (fun b ob q => Heap.get?_push_of_some _ q) (Nat.le_refl _) ?_, rfl, q _ (I.hok.fresh (Nat.le_refl _))⟩
 exact ⟨Nat.le_trans (Xlc xs lo hi) hz, _, 0, (r.drop (HT.sIx xs.length 0 lo)).take (HT.sIx xs.length xs.length hi - HT.sIx xs.length 0 lo), Heap.get?_push_size _ rfl⟩
def Xic : V → Bool
 | .non => true
 | .bl _ => true
 | .int _ => true
 | .str _ => true
 | _ => false
def eqV : V → V → Bool
 | .non, .non => true
 | .bl a, .bl b => a == b
 | .bl a, .int b => (if a then 1 else 0) == b
 | .int a, .bl b => a == (if b then 1 else 0)
 | .int a, .int b => a == b
 | .str a, .str b => a == b
 | _, _ => false
theorem XMj {A : Around} {s : Shared} {y x : V} {u v : Value} (ry : RelV y u) (rx : RelV x v) (fy : Xic y = true) (fx : Xic x = true) : SeqAt.EqAt A s u v (eqV y x) := by
 cases y with
 | non =>
   cases ry
   cases x with
   | non => cases rx; exact SeqAt.EqAt.same _
   | bl b => cases rx; exact SeqAt.EqAt.none_bool b
   | int b => obtain ⟨t, rfl⟩ := rx; exact SeqAt.EqAt.none_int b t
   | str b => obtain ⟨t, rfl⟩ := rx; exact SeqAt.EqAt.none_str b t
   | _ => exact absurd (show false = true from fx) Bool.false_ne_true
 | bl a =>
   cases ry
   cases x with
   | non => cases rx; exact SeqAt.EqAt.bool_none a
   | bl b => cases rx; exact SeqAt.EqAt.bool_bool a b
   | int b => obtain ⟨t, rfl⟩ := rx; exact SeqAt.EqAt.bool_int a b t
   | str b => obtain ⟨t, rfl⟩ := rx; exact SeqAt.EqAt.bool_str a b t
   | _ => exact absurd (show false = true from fx) Bool.false_ne_true
 | int a =>
   obtain ⟨t', rfl⟩ := ry
   cases x with
   | non => cases rx; exact SeqAt.EqAt.int_none a t'
   | bl b => cases rx; exact SeqAt.EqAt.int_bool a t' b
   | int b => obtain ⟨t, rfl⟩ := rx; exact SeqAt.EqAt.int_int a t' b t
   | str b => obtain ⟨t, rfl⟩ := rx; exact SeqAt.EqAt.int_str a t' b t
   | _ => exact absurd (show false = true from fx) Bool.false_ne_true
 | str a =>
   obtain ⟨t', rfl⟩ := ry
   cases x with
   | non => cases rx; exact SeqAt.EqAt.str_none a t'
   | bl b => cases rx; exact SeqAt.EqAt.str_bool a t' b
   | int b => obtain ⟨t, rfl⟩ := rx; exact SeqAt.EqAt.str_int a t' b t
   | str b => obtain ⟨t, rfl⟩ := rx; exact SeqAt.EqAt.str_str a t' b t
   | _ => exact absurd (show false = true from fx) Bool.false_ne_true
 | _ => exact absurd (show false = true from fy) Bool.false_ne_true
theorem Xbo : Xkg X (.builtin "len") (fun xs H Q => ∃ p ys, xs = [.ref p] ∧ (SqL X.K H p ys ∨ SqT X.K H p ys) ∧ Q (.int ys.length) H) := by
 intro pins s σ H xs us Q I r h
 obtain ⟨p, ys, rfl, hq, q⟩ := h
 obtain ⟨u, rfl, rx⟩ := XKu r
 cases rx
 have hn := Xkt
 rcases hq with hq | hq
 · obtain ⟨its, r', pl, hz⟩ := I.list hq
   have hlen := r'.length
   exact Calls.call_len_list pl.isList (by simp only [List.size_toArray] <;> omega) ⟨.int ys.length, H, I.tok _, ⟨s.toks + 1, by rw [List.size_toArray, hlen]⟩, q⟩
 · obtain ⟨its, r', pl, hz⟩ := I.tuple hq
   have hlen := r'.length
   exact len_tuple pl (by simp only [List.size_toArray] <;> omega) ⟨.int ys.length, H, I.tok _, ⟨s.toks + 1, by rw [List.size_toArray, hlen]⟩, q⟩
theorem Xcw : Xkg X (.type "list") (fun xs H Q => ∃ p ys, xs = [.ref p] ∧ (SqL X.K H p ys ∨ SqT X.K H p ys) ∧ ∀ l, H l = none → Q (.ref l) (upd H l (.lst ys))) := by
 intro pins s σ H xs us Q I r h
 obtain ⟨p, ys, rfl, hq, q⟩ := h
 obtain ⟨u, rfl, rx⟩ := XKu r
 cases rx
 have fin : ∀ (its : List Value), Vals ys its → ys.length ≤ sizeLine → ∀ (h' : Heap) (c' : Nat), (∀ b o', s.heap.get? b = some o' → h'.get? b = some o') →
     h'.get? s.heap.objs.size = some { cls := .type "list", dict := none, data := .seq its.toArray c', slots := #[] } → EP X pins σ Q (.ref s.heap.objs.size) { s with heap := h' } := fun its r' hz h' c' kp e =>
   ⟨.ref s.heap.objs.size, _, I.laid (t' := s.toks) kp (Nat.le_refl _) (show Xdr X.prog X.w _ h' _ (.lst ys) from ⟨hz, its, c', r', e⟩), rfl, q _ (I.hok.fresh (Nat.le_refl _))⟩
 rcases hq with hq | hq
 · obtain ⟨its, r', pl, hz⟩ := I.list hq
   have hlen := r'.length
   obtain ⟨o, ho, hc, n, hd⟩ := pl.isList
   exact call_list_seq p (.inl rfl) ho hc hd (fun h' c' kp e => fin its r' hz h' c' kp e) (by simp only [List.size_toArray] <;> omega)
 · obtain ⟨its, r', pl, hz⟩ := I.tuple hq
   have hlen := r'.length
   obtain ⟨o, ho, hc, n, hd⟩ := pl
   exact call_list_seq p (.inr rfl) ho hc hd (fun h' c' kp e => fin its r' hz h' c' kp e) (by simp only [List.size_toArray] <;> omega)
def tyV (K : PySem.W.Frag) (T : String) (x : V) (H : Hp) : Prop := match x with
 | .str _ => T = "str"
 | .int _ => T = "int"
 | .ref p => (T = "list" ∧ ∃ xs, SqL K H p xs) ∨ (T = "tuple" ∧ ∃ o, K.lookup p = some o ∧ o.cls = .type "tuple" ∧ o.dict = none) ∨
     (T = "dict" ∧ ((∃ kvs, H p = some (.dK kvs)) ∨ ∃ kvs, H p = some (.dT kvs))) ∨ (T = "set" ∧ ∃ S n, H p = some (.set S n))
 | _ => False
theorem Xyj {pins : List (Addr × Obj)} {σ : St} {H : Hp} {s : Shared} {T : String} {x : V} {v : Value} (I : Inv X pins σ H s) (r : RelV x v) (ty : tyV X.K T x H) :
   s.TypeIs v T ∧ ∀ a, v = .ref a → ∃ ob, s.heap.get? a = some ob ∧ ob.dict = none := by
 cases x with
 | str z =>
   obtain ⟨t, rfl⟩ := r
   cases (show T = "str" from ty)
   exact ⟨typeIs_str s z t, fun _ e => nomatch e⟩
 | int i =>
   obtain ⟨t, rfl⟩ := r
   cases (show T = "int" from ty)
   exact ⟨typeIs_int s i t, fun _ e => nomatch e⟩
 | ref p =>
   cases r
   rcases ty with ⟨rfl, xs, hq⟩ | ⟨rfl, o, hk, hc, hd⟩ | ⟨rfl, hk⟩ | ⟨rfl, S, n, hk⟩
   · obtain ⟨its, _, pl, _⟩ := I.list hq
     refine ⟨pl.isList.typeIs, fun a e => ?_⟩
     cases e
     obtain ⟨o, n, e, c, hd, _⟩ := pl
     exact ⟨o, e, hd⟩
   · refine ⟨⟨o, I.kIn p o hk, hc⟩, fun a e => ?_⟩
     cases e
     exact ⟨o, I.kIn _ o hk, hd⟩
   · have z : ∃ o, s.heap.get? p = some o ∧ o.ExactDict := by
       rcases hk with ⟨kvs, hk⟩ | ⟨kvs, hk⟩
       · obtain ⟨_, _, _, _, o, _, _, e, ex, _⟩ := I.hok p _ hk
         exact ⟨o, e, ex⟩
       · obtain ⟨_, _, _, _, o, _, _, e, ex, _⟩ := I.hok p _ hk
         exact ⟨o, e, ex⟩
     obtain ⟨o, e, ex⟩ := z
     refine ⟨⟨o, e, ex.1⟩, fun a e2 => ?_⟩
     cases e2
     exact ⟨o, e, ex.2.1⟩
   · obtain ⟨o, _, _, _, e, ex, _⟩ := I.hok p _ hk
     refine ⟨⟨o, e, ex.1⟩, fun a e2 => ?_⟩
     cases e2
     exact ⟨o, e, ex.2.1⟩
 | _ => exact False.elim ty
def tBM0 (K : PySem.W.Frag) (T : String) (r : V → List V → Hp → VK → Prop) (to : TE) : TE := fun σ H Q => to σ H fun x H1 => tyV K T x H1 ∧ r x [] H1 Q
def tBM (K : PySem.W.Frag) (T : String) (r : V → List V → Hp → VK → Prop) (to : TE) (t : TA) : TE := fun σ H Q => to σ H fun x H1 => tyV K T x H1 ∧ t σ H1 fun xs H2 => r x xs H2 Q
variable {o e : Expr} {es : List Expr} {to : TE} {t : TA} {name : Str} {apos cpos : Pos} {T id : String} {r : V → List V → Hp → VK → Prop}
theorem XIg (pa : PlainAttrs T) (slot : Slot T name id) (hty : typeOf (.builtin id) = pure (.type "method_descriptor")) (hm : MtR X id r) (ho : PE X o to)
   (hbase : attributeBase o name X.env (eval o X.env) = eval o X.env := by rfl) (hline : (apos.endLine == cpos.line) = true := by rfl) : PE X (.Call (.Attribute o name apos) [] [] cpos) (tBM0 X.K T r to) := by
 intro pins s σ H Q I h
 refine wpAny_Call_method0_late hbase hline (thn (ho pins s σ H _ I h) fun v s1 ⟨x, H1, I1, r1, ty, q1⟩ => ?_)
 obtain ⟨h1, h2⟩ := Xyj I1 r1 ty
 exact ⟨T, id, pa, slot, hty, h1, h2, Calls.callWith_builtin rfl (PySem.evalArgs_none (hm pins s1 σ H1 x [] v [] Q I1 r1 .nil q1))⟩
theorem Xhs (pa : PlainAttrs T) (slot : Slot T name id) (hty : typeOf (.builtin id) = pure (.type "method_descriptor")) (hm : MtR X id r) (ho : PE X o to) (ha : PA X (e :: es) t)
   (hbase : attributeBase o name X.env (eval o X.env) = eval o X.env := by rfl)
   (hfew : ((backTo cpos (starEach (e :: es) X.env)).all (fun x => !x.1) && (backToKw cpos (keywordEach [] X.env)).all (fun x => x.1.isSome)
     && decide ((e :: es).length + ([] : List Keyword).length + (if ([] : List Keyword).isEmpty then 0 else 1) < 30)) = true := by rfl)
   (hline : (apos.endLine == cpos.line) = true := by rfl) (hs : starEach (e :: es) X.env = (false, eval e X.env) :: starEach es X.env := by rfl) (hplain : (backTo cpos (starEach es X.env)).any (·.1) = false := by rfl) :
   PE X (.Call (.Attribute o name apos) (e :: es) [] cpos) (tBM X.K T r to t) := by
 intro pins s σ H Q I h
 refine wpAny_Call_method_late hbase hfew hline rfl (thn (ho pins s σ H _ I h) fun v s1 ⟨x, H1, I1, r1, ty, q1⟩ => ?_)
 obtain ⟨h1, h2⟩ := Xyj I1 r1 ty
 refine ⟨T, id, pa, slot, hty, h1, h2, ?_⟩
 have hA := ha cpos pins s1 σ H1 _ I1 q1
 rw [hs] at hA ⊢
 refine Calls.callWith_builtin (by show (false || (backTo cpos (starEach es X.env)).any (·.1)) = false; rw [hplain] <;> rfl) (Calls.evalArgs_plain ?_)
 exact thn hA fun us s2 ⟨vs, H2, I2, r2, q2⟩ => hm pins s2 σ H2 x vs v us Q I2 r1 r2 q2
/- xs.append(e), list.index on a module's tuple .. are MtR facts of 06m -/
end
end L2
namespace L2
open PySem PySem.Spec PyProof.Rows
def MtM (X : Cx) (id : String) (r : V → List V → Hp → VK → Prop) : Prop :=
 ∀ (pins : List (Addr × Obj)) (s : Shared) (σ : St) (H : Hp) (x : V) (xs : List V) (v : Value) (us : List Value) (Q : VK), Inv X pins σ H s → RelV x v → Vals xs us → r x xs H Q →
   wpAny (model X.prog X.w) X.A (call (.builtin id) (v :: us)) (EP X pins σ Q) X.xe s
theorem Vals.one : ∀ {x : V} {us : List Value}, Vals [x] us → ∃ u, us = [u] ∧ RelV x u
 | _, _, .cons r .nil => ⟨_, rfl, r⟩
theorem Vals.zero : ∀ {us : List Value}, Vals [] us → us = []
 | _, .nil => rfl
theorem Vals.dropLast {xs : List V} {us : List Value} (h : Vals xs us) : Vals xs.dropLast us.dropLast := by
 induction h with
 | nil => exact .nil
 | cons r t ih =>
   cases t with
   | nil => exact .nil
   | cons q t' => exact .cons r ih
theorem Vals.rep {xs : List V} {us : List Value} (h : Vals xs us) : ∀ k : Nat, Vals (List.replicate k xs).flatten (List.replicate k us).flatten
 | 0 => .nil
 | k + 1 => by
   rw [List.replicate_succ, List.replicate_succ, List.flatten_cons, List.flatten_cons]
   exact Vals.append h (Vals.rep h k)
theorem Xkx (its : List Value) : ∀ (k : Nat) (acc : List Value),
   List.foldl (fun x1 x2 => x1 ++ x2) acc.toArray (List.replicate k its.toArray) = (acc ++ (List.replicate k its).flatten).toArray
 | 0, acc => by simp
 | k + 1, acc => by
   have e : acc.toArray ++ its.toArray = (acc ++ its).toArray := by simp
   have e2 : (acc ++ its) ++ (List.replicate k its).flatten = acc ++ (List.replicate (k + 1) its).flatten := by
     rw [List.replicate_succ, List.flatten_cons, List.append_assoc]
   rw [← e2, ← Xkx its k (acc ++ its), ← e, List.replicate_succ, List.foldl_cons]
section
variable {X : Cx} {pins : List (Addr × Obj)} {σ : St} {H : Hp} {s : Shared} {l b : Addr} {xs ys zs : List V}
theorem Inv.lset {its its' : List Value} {n : Nat} {f : Array Value → Array Value} {t' : Nat} (I : Inv X pins σ H s) (hH : H l = some (.lst xs))
   (e : s.heap.get? l = some { cls := .type "list", data := .seq its.toArray n }) (hf : f its.toArray = its'.toArray) (hv : Vals ys its') (hz : ys.length ≤ sizeLine) :
   Inv X pins σ (upd H l (.lst ys)) { s with heap := s.heap.update l (Obj.mapSeq f), toks := t' } := by
 have q := PySem.IsL.update e f
 rw [hf] at q
 refine I.write (x := l) (e := l) (by rw [hH]; exact trivial) (.inl rfl) (fun b' u hb hu => (Heap.get?_update_other s.heap (Obj.mapSeq f) (Ne.symm hb)).trans hu) ⟨_, q⟩ ?_
 exact ⟨hz, its', _, hv, q⟩
theorem Inv.lnew {its : List Value} {t' : Nat} (I : Inv X pins σ H s) (hv : Vals ys its) (hz : ys.length ≤ sizeLine) :
   Inv X pins σ (upd H s.heap.objs.size (.lst ys)) { s with heap := s.heap.push { cls := .type "list", data := .seq its.toArray }, toks := t' } :=
 I.laid (fun _ _ q => Heap.get?_push_of_some _ q) (Nat.le_refl _) ⟨hz, its, 0, hv, Heap.get?_push_size _ rfl⟩
theorem Inv.fresh (I : Inv X pins σ H s) : H s.heap.objs.size = none := I.hok.fresh (Nat.le_refl _)
theorem Inv.lstM (I : Inv X pins σ H s) (hH : H l = some (.lst xs)) : xs.length ≤ sizeLine ∧ ∃ (its : List Value) (n : Nat), Vals xs its ∧ xs.length = its.length ∧ s.heap.get? l = some { cls := .type "list", data := .seq its.toArray n } := by
 obtain ⟨z, its, n, r, e⟩ := I.hok l _ hH
 exact ⟨z, its, n, r, r.length, e⟩
theorem Xna {n : Nat} (h : n ≤ sizeLine) : Builtin.List.listTooLong n = false := by
 unfold Builtin.List.listTooLong
 exact decide_eq_false (by omega)
end
section
variable {X : Cx}
def Xre : V → List V → Hp → VK → Prop := fun x vs H Q => ∃ l xs y, x = .ref l ∧ vs = [y] ∧ H l = some (.lst xs) ∧ xs.length < sizeLine ∧ Q .non (upd H l (.lst (xs ++ [y])))
theorem Xca : MtM X "list.append" Xre := by
 intro pins s σ H x vs v us Q I rx rv h
 obtain ⟨l, xs, y, rfl, rfl, hH, hz, q⟩ := h
 cases rx
 obtain ⟨u, rfl, ru⟩ := rv.one
 obtain ⟨z, its, n, r, hl, e⟩ := I.lstM hH
 refine call_meets F.slot_list_append ⟨_, e, rfl⟩ F.entry_list_append (F.args_list_append_2 _ _) (PySem.list_append l its.toArray n u (by rw [List.size_toArray]; omega)) ⟨e, ?_⟩
 refine ⟨.non, _, I.lset (its' := its ++ [u]) hH e (by simp) (r.append (.cons ru .nil)) ?_, rfl, q⟩
 rw [List.length_append, List.length_singleton]
 omega
def Xzm : V → List V → Hp → VK → Prop := fun x vs H Q => ∃ l b xs zs, x = .ref l ∧ vs = [.ref b] ∧ H l = some (.lst xs) ∧ H b = some (.lst zs) ∧ xs.length + zs.length ≤ sizeLine ∧ Q .non (upd H l (.lst (xs ++ zs)))
theorem XNj : MtM X "list.extend" Xzm := by
 intro pins s σ H x vs v us Q I rx rv h
 obtain ⟨l, b, xs, zs, rfl, rfl, hH, hB, hz, q⟩ := h
 cases rx
 obtain ⟨u, rfl, ru⟩ := rv.one
 cases ru
 obtain ⟨z, its, n, r, hl, e⟩ := I.lstM hH
 obtain ⟨z2, its2, n2, r2, hl2, e2⟩ := I.lstM hB
 have hsz : its.toArray.size + its2.toArray.size ≤ sizeLine := by rw [List.size_toArray, List.size_toArray]; omega
 have hlong : ¬ (!its.toArray.isEmpty && Builtin.List.listTooLong (its.toArray.size + its2.toArray.size)) = true := by
   rw [Xna hsz, Bool.and_false]
   exact Bool.false_ne_true
 refine call_meets F.slot_list_extend ⟨_, e, rfl⟩ F.entry_list_extend (F.args_list_extend_2 _ _)
   (AutoSeq1.list_extend_list_list_0 l its.toArray n b its2.toArray n2 hlong (by rw [List.size_toArray]; omega) (by omega)) ⟨e, e2, ?_⟩
 refine ⟨.non, _, I.lset (its' := its ++ its2) hH e (by simp) (r.append r2) ?_, rfl, q⟩
 rw [List.length_append]
 omega
def rCat : R2 := fun x y H Q => ∃ l b xs zs, x = .ref l ∧ y = .ref b ∧ H l = some (.lst xs) ∧ H b = some (.lst zs) ∧ xs.length + zs.length ≤ sizeLine ∧ ∀ p, H p = none → Q (.ref p) (upd H p (.lst (xs ++ zs)))
theorem Xmy : OpR X (binaryOp .Add) rCat := by
 intro pins s σ H x y v u Q I rx ry h
 obtain ⟨l, b, xs, zs, rfl, rfl, hH, hB, hz, q⟩ := h
 cases rx
 cases ry
 obtain ⟨z, its, n, r, hl, e⟩ := I.lstM hH
 obtain ⟨z2, its2, n2, r2, hl2, e2⟩ := I.lstM hB
 refine PySem.P.add_list e e2 ?_ (by rw [List.size_toArray, List.size_toArray]; omega)
 have ea : its.toArray ++ its2.toArray = (its ++ its2).toArray := by simp
 rw [ea]
 exact ⟨.ref _, _, I.lnew (t' := s.toks) (r.append r2) (by rw [List.length_append]; omega), rfl, q _ I.fresh⟩
def rRep : R2 := fun x y H Q => ∃ l k xs, x = .ref l ∧ y = .int k ∧ H l = some (.lst xs) ∧ -(2 ^ 63) ≤ k ∧ k < 2 ^ 63 ∧ xs.length * k.toNat ≤ sizeLine ∧
 ∀ p, H p = none → Q (.ref p) (upd H p (.lst (List.replicate k.toNat xs).flatten))
theorem Xyr {α : Type} (xs : List α) (k : Nat) : (List.replicate k xs).flatten.length = k * xs.length := by
 induction k with
 | zero => simp
 | succ k ih => rw [List.replicate_succ, List.flatten_cons, List.length_append, ih, Nat.succ_mul, Nat.add_comm]
theorem XMl : OpR X (binaryOp .Mult) rRep := by
 intro pins s σ H x y v u Q I rx ry h
 obtain ⟨l, k, xs, rfl, rfl, hH, h1, h2, hz, q⟩ := h
 cases rx
 obtain ⟨t, rfl⟩ := ry
 obtain ⟨z, its, n, r, hl, e⟩ := I.lstM hH
 have hlen : its.toArray.size * k.toNat ≤ sizeLine := by rw [List.size_toArray, ← hl]; exact hz
 have hcap : ¬ its.toArray.size * k.toNat > (2 ^ 63 - 1) / 8 := by
   have : (sizeLine : Nat) ≤ (2 ^ 63 - 1) / 8 := by decide
   omega
 have hfit : ¬ (!Builtin.List.listFitsIndex k) = true := by
   rw [fitsIndex_both h1 h2]
   exact Bool.false_ne_true
 have hlong : ¬ Builtin.List.listTooLong (its.toArray.size * k.toNat) = true := by
   rw [Xna hlen]
   exact Bool.false_ne_true
 have hnew : List.foldl (fun x1 x2 => x1 ++ x2) #[] (List.replicate (if its.toArray.isEmpty = true then 0 else k.toNat) its.toArray) = (List.replicate k.toNat its).flatten.toArray := by
   have f0 : ∀ m : Nat, List.foldl (fun x1 x2 => x1 ++ x2) #[] (List.replicate m its.toArray) = (List.replicate m its).flatten.toArray := fun m => by
     have := Xkx its m []
     rw [List.nil_append] at this
     exact this
   rw [f0]
   cases its with
   | nil => simp
   | cons a r' => rw [if_neg (by simp)]
 refine wpAny_binaryOp_repeat_ref (T := "list") (U := "int") (by decide) ⟨_, e, rfl⟩ (fun s' => typeIs_int s' k t) noFill_list_mul F.fills_int_mul F.slot_int_rmul repeat_list F.slot_int_index.lookup
   (call_meets F.slot_int_rmul (typeIs_int s k t) F.entry_int_rmul (F.args_int_rmul_2 _ _) (int___rmul___int_list k t l its.toArray n)
     ⟨e, rfl, ⟨_, e, rfl⟩, call_meets F.slot_list_mul ⟨_, e, rfl⟩ F.entry_list_mul (F.args_list_mul_2 _ _) (AutoListH.list___mul___list_int_3 l its.toArray n k t hfit hcap hlong) ⟨e, ?_⟩⟩)
 rw [hnew]
 exact ⟨.ref _, _, I.lnew (t' := s.toks) (r.rep k.toNat) (by rw [Xyr, Nat.mul_comm]; exact hz), rfl, q _ I.fresh⟩
end
section
variable {prog : Program} {w : World} {A : Around} {E : Value → Shared → Prop} {s : Shared}
end
section
variable {X : Cx}
end
end L2
namespace Att
open PySem PySem.W PySem.Calls PyProof.Rows
theorem Xhw {P : Params} {h : Heap} : ∀ (ns : List Int) (vs : List Value), WellAll P h vs (ns.map WData.int) → IntsAre vs ns := by
 intro ns
 induction ns with
 | nil =>
   intro vs w
   rw [List.map_nil] at w
   cases w
   exact .nil
 | cons n ns ih =>
   intro vs w
   rw [List.map_cons] at w
   cases w with
   | cons a b =>
     cases a
     exact .cons _ _ (ih _ b)
theorem Xpi {l : OpenLaw} {n : Nat} (hn : l.most = some n) {P : Params} {h : Heap} {args : List WData} {vals : List Value}
   (hpre : l.row.toRowW.claim.pre args = true) (hwl : WellAll P h vals args) :
   ∃ a vs ns, vals = [Value.ref a] ∧ args = [WData.list (ns.map WData.int)] ∧ h.get? a = some { cls := .type "list", data := .seq vs.toArray } ∧ IntsAre vs ns ∧ ns.length ≤ n := by
 have hsh : WShape.hasAll [] args [.list .int] = true := (pre_splitW hpre).1
 have hc : l.pre.holds [] { args := args } = true := (pre_splitW hpre).2
 obtain ⟨d, r, rfl, h1, h2⟩ := hasAllW_cons hsh
 obtain rfl := hasAllW_nil h2
 obtain ⟨xs, rfl, h3⟩ := hasW_list h1
 obtain ⟨ns, rfl⟩ := items_int h3
 have hlen : ns.length ≤ n := by
   unfold OpenLaw.pre at hc
   have h4 : (WTm.not (.lt (.lit (.int (n : Int))) (.len (.arg 0)))).holds [] { args := [.list (ns.map .int)] } = true := by
     have h4 := (holds_andW hc).1
     rw [hn] at h4
     exact h4
   have h5 := condW_of h4 (w_not (w_lt w_lit (w_len_list (w_arg rfl))))
   rw [List.length_map] at h5
   refine Nat.le_of_not_lt fun q => ?_
   have q' : (n : Int) < ((ns.length : Nat) : Int) := by omega
   first
     | (rw [decide_eq_true q'] at h5; exact absurd h5 (by decide))
     | (simp at h5; omega)
 cases hwl with
 | cons w1 w2 =>
   cases w2
   cases w1 with
   | list ho hall => exact ⟨_, _, ns, rfl, rfl, ho, Xhw ns _ hall, hlen⟩
theorem Xrt (l : OpenLaw) (args : List WData) : l.row.toRowW.claim.post args (.bool true) args = true :=
 postW_of (r := l.row.toRowW) (X := (true == true))
   (show WShape.has [] (.bool true) .bool = true by first | rfl | decide | simp [WShape.has, WShape.arms, WShape.armsAll])
   (show (WTm.eq .res (.lit (.bool true))).value [] { args := args, res := some (.bool true), after := args } = some (.bool (true == true)) from w_eq_bool (w_res rfl) w_lit) rfl
theorem attach_call {l : OpenLaw} {n : Nat} {q : Program} {loose : List Str} {XP : (Str → Option Value) → Heap → Prop} {YP : World → Heap → Prop} {d : DefRec}
   (hn : l.most = some n) (hdf : d.params.defaults = [])
   (call : ∀ (w : World) (s₀ s₁ : Shared) (mg mb : Str → Option Value) (fa : Addr) (o : Obj) (pm cd doc : Value) (a : Addr) (vs : List Value) (ns : List Int),
     Ground q loose [] XP w s₀ mg mb s₁.heap → YP w s₁.heap →
     s₁.heap.get? fa = some o → o.data = .func (docDef d.name d.params d.body d.scope pm cd doc) → s₁.heap.CodeRec cd d.name → mg d.name = some (.ref fa) →
     s₁.heap.get? a = some { cls := .type "list", data := .seq vs.toArray } → IntsAre vs ns → ns.length ≤ n → s₁.gens = #[] →
     codeAny (model l.prog w) callerA (.call (.ref fa) ⟨[.ref a], []⟩) (fun r s' => r = .ok (.ret (.bool true)) ∧ OldK s₁.heap s'.heap ∧ s'.os = s₁.os ∧ AllBare s'.gens) s₁) :
   WalkO q loose XP YP l.row.toRowW d [] (fun f vs => PySem.call f vs) := by
 intro w s₀ s₁ mg mb G Y fa o pm cd doc dV kV ho hd hcd hD hmg hg args vals as hpre hlay hrd hwl hlo
 obtain rfl : dV = .none := Dflts.none hD hdf
 obtain rfl : kV = .none := Dflts.noKw hD
 obtain ⟨a, vs, ns, rfl, rfl, hobj, hints, hlen⟩ := Xpi hn hpre hwl
 refine enter_call (codeAny_mono (call w s₀ s₁ mg mb fa o pm cd doc a vs ns G Y ho (fd_plain hd) hcd hmg hobj hints hlen hg) fun r s' hq => ?_)
 obtain ⟨rfl, h2, h3, h4⟩ := hq
 exact ⟨.inl ⟨.bool true, .bool true, [], rfl, fun _ => rfl, .bool true, Xrt l _, fun _ => ⟨List.Pairwise.nil, fun _ hm => (nomatch hm)⟩⟩, h2, h3, h4⟩
section
variable {prog : Program} {w : World} {A : Around} {E : Value → Shared → Prop} {s : Shared} {K : Frag}
end
end Att
namespace L2
open PySem PySem.Spec PyProof.Rows
theorem Xjz : ∀ {vs : List Value} {ns : List Int}, IntsAre vs ns → Vals (ns.map V.int) vs
 | _, _, .nil => .nil
 | _, _, .cons n t h => .cons ⟨t, rfl⟩ (Xjz h)
def Only (H : Hp) : Prop := ∀ b, H b = none ∨ ∃ o xs, H b = some (.frz o (.lst xs))
theorem Xwv {P : Program} {w : World} {K : PySem.W.Frag} {mg mb : Str → Option Value} {CX : CXT} {k : Nat} {fa a : Addr} {fd : FuncData} {x : Str} {sp : Sp} {s₁ : Shared} {vs : List Value} {ns : List Int}
   (KX : K.In s₁.heap) (hns : s₁.heap.Ns mainGlobals mg) (hb : s₁.heap.Ns builtinsNs mb) (hbb : ∀ x : Str, x ≠ "__name__" → mb x = bootBuiltins x) (hlim : s₁.heap.NoLimit) (hg : s₁.gens = #[])
   (ha : s₁.heap.get? a = some { cls := .type "list", data := .seq vs.toArray }) (hi : IntsAre vs ns) (hl : ns.length ≤ sizeLine) (hr : Room k callerA)
   (F : ∀ base : Heap, K.In base → base.Ns mainGlobals mg → FnOk P w K mg base CX k fa fd [x] sp) (hbind : ∀ (s : Shared) (u : Value), BindsTo s fd ⟨[u], []⟩ [(x, u)])
   (hsp : ∀ H : Hp, Only H → SqL K H a (ns.map V.int) → sp [.ref a] H (fun v _ => v = .bl true) fun _ _ _ => False)
   (hCX : ∀ H e s', CX [] H s₁ (fun _ _ _ => False) e s' → False) :
   codeAny (model P w) callerA (.call (.ref fa) ⟨[.ref a], []⟩) (fun r s' => r = .ok (.ret (.bool true)) ∧ OldK s₁.heap s'.heap ∧ s'.os = s₁.os ∧ AllBare s'.gens) s₁ := by
 have rv := Xjz hi
 have lenV := hi.length
 -- from an abstract heap in which nothing but the script may be tracked
 have core : ∀ H : Hp, Only H → SqL K H a (ns.map V.int) → HOk P w H s₁.heap → (∀ b, H b ≠ none → b = a) → (H a ≠ none → K.lookup a = none) →
     codeAny (model P w) callerA (.call (.ref fa) ⟨[.ref a], []⟩) (fun r s' => r = .ok (.ret (.bool true)) ∧ OldK s₁.heap s'.heap ∧ s'.os = s₁.os ∧ AllBare s'.gens) s₁ := by
   intro H hO hS hok hA hK
   have base_of : ∀ {b : Addr} {o : Obj}, s₁.heap.get? b = some o → H b = none → (hidT s₁.heap H).get? b = some o := fun e n => Xvz e n
   have noA : ∀ {b : Addr} {o : Obj} {es : Array DictEntry} {ep : Nat}, s₁.heap.get? b = some o → o.data = .dict es ep → H b = none := fun {b o es ep} e d => by
     cases q : H b with
     | none => rfl
     | some u =>
       have e' : b = a := hA b (by rw [q]; simp)
       subst e'
       rw [ha] at e; cases e
       have d' : Data.seq vs.toArray _ = Data.dict es ep := d
       cases d'
   have nsK : ∀ {b : Addr} {m : Str → Option Value}, s₁.heap.Ns b m → (hidT s₁.heap H).Ns b m := fun {b m} ⟨o, es, ep, e, d, r⟩ => ⟨o, es, ep, base_of e (noA e d), d, r⟩
   have hKb : K.In (hidT s₁.heap H) := fun b o e => base_of (KX b o e) (by
     cases q : H b with
     | none => rfl
     | some u =>
       have e' : b = a := hA b (by rw [q]; simp)
       subst e'
       rw [hK (by rw [q]; simp)] at e; cases e)
   have hM : Mod K mg (hidT s₁.heap H) := ⟨hKb, nsK hns, ⟨mb, nsK hb, hbb⟩, let ⟨mc, h1, h2⟩ := hlim; ⟨mc, nsK h1, h2⟩⟩
   have e0 : Env0 P w K mg (hidT s₁.heap H) callerA [] s₁ H := ⟨rfl, hM, fun b o e => XBw e, Nat.le_of_eq (Xqx _ _), trivial, fun b hb => absurd (show b ∈ ([] : List Addr) from hb) (by simp), hok, .of_eq hg⟩
   refine codeAny_mono ((F _ hKb (nsK hns)).run callerA [] s₁ H ⟨[.ref a], []⟩ [.ref a] [.ref a] _ _ hr e0 (hbind s₁ (.ref a)) (.cons rfl .nil) (hsp H hO hS)) fun r s' h => ?_
   cases r with
   | error e => exact (hCX H e s' h).elim
   | ok fl =>
     cases fl with
     | next => exact False.elim h
     | brk => exact False.elim h
     | cont => exact False.elim h
     | ret u =>
       obtain ⟨v, H', os, bare, un, hok', r', q⟩ := h
       have q' : v = .bl true := q
       subst q'
       obtain rfl : u = Value.bool true := r'
       refine ⟨rfl, OldK.of_keep fun b o e => ?_, os, bare⟩
       cases q : H b with
       | none => exact un.keep b o e q (by intro z; exact absurd (show b ∈ ([] : List Addr) from z) (by simp)) (by simp)
       | some u =>
         rcases hO b with z | ⟨ob, xs, z⟩
         · rw [q] at z; cases z
         · have z2 := un.frzs b ob _ z
           obtain ⟨e1, _⟩ := hok b _ z
           obtain ⟨e2, _⟩ := hok' b _ z2
           rw [e] at e1; cases e1
           exact e2
 cases hk : K.lookup a with
 | some o =>
   -- the script is one of the module's own objects
   have e := KX a o hk
   rw [ha] at e
   cases e
   refine core (fun _ => none) (fun _ => .inl rfl) (.inr ⟨_, vs.toArray, _, hk, rfl, rfl, rfl, by rw [List.size_toArray, lenV]; exact hl, by simpa using rv⟩) (fun b u z => by have z' : (none : Option HO) = some u := z; cases z') (fun b z => absurd rfl z) fun z => absurd rfl z
 | none =>
   refine core (fun b => if b = a then some (.frz { cls := .type "list", data := .seq vs.toArray } (.lst (ns.map V.int))) else none) (fun b => ?_) (.inl (.inr ⟨{ cls := .type "list", data := .seq vs.toArray }, if_pos rfl⟩)) (fun b u z => ?_) (fun b z => ?_) fun _ => hk
   · by_cases hb : b = a
     · exact .inr ⟨_, _, if_pos hb⟩
     · exact .inl (if_neg hb)
   · by_cases hb : b = a
     · have z' := (if_pos hb).symm.trans z
       cases z'
       subst hb
       exact ⟨ha, by rw [List.length_map]; exact hl, vs, _, rv, ha⟩
     · have z' := (if_neg hb).symm.trans z
       cases z'
   · by_cases hb : b = a
     · exact hb
     · exact absurd (if_neg hb) z
end L2
namespace L2
open PySem PySem.Spec PyProof.Rows
theorem walk_of {l : PySem.W.OpenLaw} {n k : Nat} {q : Program} {loose : List Str} {XP : (Str → Option Value) → Heap → Prop} {YP : World → Heap → Prop} {d : DefRec} {K : Params → PySem.W.Frag} {CX : World → CXT} {sp : World → Sp} {x : Str}
   (hn : l.most = some n) (hn2 : n ≤ sizeLine) (hdf : d.params.defaults = []) (hr : Room k callerA)
   (hY : ∀ (w : World) (h : Heap), YP w h → (K w.params).In h)
   (F : ∀ (w : World) (mg : Str → Option Value) (fa : Addr) (h : Heap), (K w.params).In h → h.Ns mainGlobals mg → mg d.name = some (.ref fa) →
     ∃ fd : FuncData, (∀ (s : Shared) (u : Value), BindsTo s fd ⟨[u], []⟩ [(x, u)]) ∧
       ∀ base : Heap, (K w.params).In base → base.Ns mainGlobals mg → FnOk l.prog w (K w.params) mg base (CX w) k fa fd [x] (sp w))
   (hsp : ∀ (w : World) (H : Hp) (a : Addr) (ns : List Int), ns.length ≤ n → Only H → SqL (K w.params) H a (ns.map V.int) → sp w [.ref a] H (fun v _ => v = .bl true) fun _ _ _ => False)
   (hCX : ∀ (w : World) (H : Hp) (s : Shared) (e : Value) (s' : Shared), CX w [] H s (fun _ _ _ => False) e s' → False) :
   PySem.W.WalkO q loose XP YP l.row.toRowW d [] (fun f vs => PySem.call f vs) := by
 refine Att.attach_call hn hdf fun w s₀ s₁ mg mb fa o pm cd doc a vs ns G Y ho hd hcd hmg hobj hints hlen hg => ?_
 have KX := hY w _ Y
 obtain ⟨fd, hb, hF⟩ := F w mg fa _ KX G.T.g hmg
 exact Xwv KX G.T.g G.T.b G.T.builtins G.T.nolimit hg hobj hints (Nat.le_trans hlen hn2) hr hF hb (fun H hO hS => hsp w H a ns hlen hO hS) fun H e s' => hCX w H s₁ e s'
end L2
namespace L2
open PySem PySem.Spec PyProof.Rows
abbrev CX0 : CXT := fun _ _ _ _ _ _ => False
abbrev E0 : XK := fun _ _ _ => False
structure Fun (K : PySem.W.Frag) (x qual : Str) (st : Stmt) (f : Addr) (fd : FuncData) : Prop where
 ex : ∃ (oc : Value) (od : Option Addr) (kV doc pm : Value) (an : Option Addr) (cdv ct : Value) (osl : Array (Option Value)),
   fd = PySem.W.fnOf x qual (Xbp st) (Xaz st) (Xae st) .none kV doc pm an cdv ct ∧ K.lookup f = some ⟨oc, od, .func fd, osl⟩ ∧ PySem.W.codeIn K cdv qual = true
 kp : PySem.W.keepIn K (.ref f) = true
section
variable {P : Program} {w : World} {K : PySem.W.Frag} {mg : Str → Option Value} {base : Heap}
theorem Fun.ok {x qual : Str} {st : Stmt} {f : Addr} {fd : FuncData} {N ps : List Str} {k : Nat} {sp : Sp} (F : Fun K x qual st f fd) (S : FnScope N ps (Xae st)) (len : ∀ vs H Q E, sp vs H Q E → vs.length = ps.length)
   (hbody : ∀ (cdv : Value) (A : Around) (outer : List Env) (s : Shared) (H : Hp) (vs : List V) (Q : VK) (E : XK), Room k (A.deeper (envOfC qual (Xae st) s.heap.objs.size f cdv)) → sp vs H Q E →
     ∃ t, PSs (cxOf CX0 P w K mg base N qual (Xae st) f cdv A outer s H E).nox (Xaz st) t ∧ t { nx := fun _ H' => Q .non H', rt := Q } (start N vs) H) : FnOk P w K mg base CX0 (k + 1) f fd ps sp := by
 obtain ⟨oc, od, kV, doc, pm, an, cdv, ct, osl, rfl, lk, hcd⟩ := F.ex
 refine Xzh lk hcd S len fun A outer s H vs Q E hr hsp => ?_
 obtain ⟨t, h, q⟩ := hbody cdv A outer s H vs Q E hr hsp
 exact ⟨t, h.nox, q⟩
theorem Fun.binds {x qual : Str} {st : Stmt} {f : Addr} {fd : FuncData} {ps : List Str} (F : Fun K x qual st f fd)
   (h : ∀ (kV doc pm : Value) (an : Option Addr) (cdv ct : Value) (us : List Value), us.length = ps.length → bindArgs (PySem.W.fnOf x qual (Xbp st) (Xaz st) (Xae st) .none kV doc pm an cdv ct) ⟨us, []⟩ = pure (ps.zip us)) : Xco K fd ps [] := by
 obtain ⟨oc, od, kV, doc, pm, an, cdv, ct, osl, rfl, lk, hcd⟩ := F.ex
 exact .all (h kV doc pm an cdv ct)
theorem Xbx {x qual : Str} {st : Stmt} {f : Addr} {oc : Value} {od an : Option Addr} {osl : Array (Option Value)} {kV doc pm cdv ct : Value} (l : K.lookup f = some ⟨oc, od, .func (PySem.W.fnOf x qual (Xbp st) (Xaz st) (Xae st) .none kV doc pm an cdv ct), osl⟩)
   (c : PySem.W.codeIn K cdv qual = true) (k : PySem.W.keepIn K (.ref f) = true) : Fun K x qual st f (PySem.W.fnOf x qual (Xbp st) (Xaz st) (Xae st) .none kV doc pm an cdv ct) := ⟨⟨oc, od, kV, doc, pm, an, cdv, ct, osl, rfl, l, c⟩, k⟩
end
theorem small1000 {n : Nat} (h : n ≤ 1000) : n < sizeLine := Nat.lt_of_le_of_lt h (by decide)
section
variable {X : Cx}
theorem pv (i : Nat) {x : Str} {pos : Pos} (hN : X.N[i]? = some x := by rfl) (hv : Vis X.env.scope x := by first | exact Or.inl rfl | exact Or.inr (Or.inl rfl) | exact Or.inr (Or.inr rfl)) (hd : (x == ("__debug__" : Str)) = false := by decide)
   (hcd : (x == ("__classdict__" : Str)) = false := by decide) : PE X (.Name x pos) (tVar i) := XMi hN hv hd hcd
end
theorem iteF {A B : Prop} (h : B) : if false = true then A else B := by
 rw [if_neg Bool.false_ne_true]
 exact h
theorem iteT {A B : Prop} (h : A) : if true = true then A else B := by
 rw [if_pos rfl]
 exact h
def Same (H H' : Hp) : Prop := ∀ b o, H b = some o → H' b = some o
theorem Same.refl (H : Hp) : Same H H := fun _ _ h => h
theorem Same.trans {H H1 H2 : Hp} (a : Same H H1) (b : Same H1 H2) : Same H H2 := fun c o h => b c o (a c o h)
theorem Same.free {H H' : Hp} (e : Same H H') {l : Addr} (h : H' l = Option.none) : H l = Option.none := by
 cases q : H l with
 | none => rfl
 | some o =>
   rw [e l o q] at h
   cases h
theorem Same.seq {K : PySem.W.Frag} {H H' : Hp} {a : Addr} {xs : List V} (e : Same H H') (h : SqL K H a xs) : SqL K H' a xs := by
 rcases h with (h | ⟨o, h⟩) | h
 · exact .inl (.inl (e _ _ h))
 · exact .inl (.inr ⟨o, e _ _ h⟩)
 · exact .inr h
end L2
set_option Elab.async false
set_option linter.all false
set_option maxRecDepth 100000
set_option maxHeartbeats 4000000
namespace Stow
structure Pc where
 a : Int
 l : Int
 v : Bool
 deriving DecidableEq
def mkOf (l : Int) (v : Bool) : Int := l * 2 + (if v then 1 else 0)
def Pc.mk' (p : Pc) : Int := mkOf p.l p.v
def Xai : Int → List Pc → Int → Prop
 | s, [], e => s = e
 | s, p :: r, e => p.a = s ∧ 1 ≤ p.l ∧ (p.v = true → 3 ≤ p.l) ∧ Xai (s + p.l) r e
theorem Xai.le : ∀ {ps : List Pc} {s e : Int}, Xai s ps e → s + ps.length ≤ e
 | [], s, e, h => by have h : s = e := h; simp [h]
 | p :: r, s, e, h => by
   obtain ⟨_, h1, _, h2⟩ := h
   have := Xai.le h2
   simp only [List.length_cons]; omega
theorem Xai.app : ∀ {ps qs : List Pc} {s m e : Int}, Xai s ps m → Xai m qs e → Xai s (ps ++ qs) e
 | [], _, s, m, e, h, k => by have h : s = m := h; subst h; exact k
 | p :: r, qs, s, m, e, h, k => by
   obtain ⟨h0, h1, h2, h3⟩ := h
   exact ⟨h0, h1, h2, Xai.app h3 k⟩
theorem Xai.one {p : Pc} (h1 : 1 ≤ p.l) (h3 : p.v = true → 3 ≤ p.l) : Xai p.a [p] (p.a + p.l) := ⟨rfl, h1, h3, rfl⟩
theorem Xai.snoc {ps : List Pc} {s : Int} {p : Pc} (h : Xai s ps p.a) (h1 : 1 ≤ p.l) (h3 : p.v = true → 3 ≤ p.l) : Xai s (ps ++ [p]) (p.a + p.l) := h.app (.one h1 h3)
theorem Xai.mem : ∀ {ps : List Pc} {s e : Int}, Xai s ps e → ∀ p ∈ ps, s ≤ p.a ∧ 1 ≤ p.l ∧ (p.v = true → 3 ≤ p.l) ∧ p.a + p.l ≤ e
 | [], _, _, _, p, hp => by cases hp
 | q :: r, s, e, h, p, hp => by
   obtain ⟨h0, h1, h2, h3⟩ := h
   rcases List.mem_cons.mp hp with rfl | hp
   · have := h3.le
     exact ⟨by omega, h1, h2, by omega⟩
   · obtain ⟨a, b, c, d⟩ := Xai.mem h3 p hp
     exact ⟨by omega, b, c, d⟩
def Xbg (cs : List Int) (ps : List Pc) : Prop := ∀ p ∈ ps, cs[p.a.toNat]? = some p.mk' ∧ cs[(p.a + p.l - 1).toNat]? = some p.mk'
theorem Xbg.nil (cs : List Int) : Xbg cs [] := fun p hp => by cases hp
theorem Xbg.snoc {cs ext : List Int} {ps : List Pc} {p : Pc} (hc : Xai 0 ps p.a) (hl : (cs.length : Int) = p.a) (h1 : 1 ≤ p.l) (he : (ext.length : Int) = p.l) (m : Xbg cs ps) :
   Xbg ((((cs ++ ext).set p.a.toNat p.mk')).set (p.a + p.l - 1).toNat p.mk') (ps ++ [p]) := by
 intro q hq
 have h0 := hc.le
 rcases List.mem_append.mp hq with hq | hq
 · obtain ⟨a1, a2, a3, a4⟩ := hc.mem q hq
   obtain ⟨b1, b2⟩ := m q hq
   have key : ∀ k : Nat, (k : Int) < p.a → ∀ z, cs[k]? = some z → ((((cs ++ ext).set p.a.toNat p.mk')).set (p.a + p.l - 1).toNat p.mk')[k]? = some z := by
     intro k hk z hz
     rw [List.getElem?_set_ne (by omega), List.getElem?_set_ne (by omega), List.getElem?_append_left (by omega)]
     exact hz
   exact ⟨key _ (by omega) _ b1, key _ (by omega) _ b2⟩
 · have e : q = p := by simpa using hq
   subst e
   have len : (cs ++ ext).length = cs.length + ext.length := List.length_append
   constructor
   · by_cases h : (q.a + q.l - 1).toNat = q.a.toNat
     · rw [h, List.getElem?_set_self (by simp; omega)]
     · rw [List.getElem?_set_ne (by omega), List.getElem?_set_self (by simp; omega)]
   · rw [List.getElem?_set_self (by simp; omega)]
theorem Xgd (l : Int) (v : Bool) : mkOf l v / 2 = l := by unfold mkOf; split <;> omega
theorem Xhe (l : Int) (v : Bool) : decide (mkOf l v % 2 = 1) = v := by
 unfold mkOf
 cases v
 · exact decide_eq_false (by simp)
 · exact decide_eq_true (by simp)
def Xbr (ns : List Int) (k : Int) : Bool :=
 if ns.getD k.toNat 0 / 2 < 1 ∨ (ns.length : Int) < k + ns.getD k.toNat 0 / 2 then false else decide (3 ≤ ns.getD k.toNat 0 / 2) || !decide (ns.getD k.toNat 0 % 2 = 1)
def Xdc (ns : List Int) (k : Int) : Option Int :=
 if Xbr ns k = true then (if ns.getD (k + ns.getD k.toNat 0 / 2 - 1).toNat 0 = ns.getD k.toNat 0 then none else some (k + ns.getD k.toNat 0 / 2 - 1)) else some k
theorem Xfz {ns : List Int} {k : Nat} {x : Int} (h : ns[k]? = some x) : ns.getD k 0 = x := by rw [List.getD_eq_getElem?_getD, h]; rfl
theorem Xsg {ns : List Int} {p : Pc} (h1 : 1 ≤ p.l) (h3 : p.v = true → 3 ≤ p.l) (hl : p.a + p.l ≤ ns.length) (m1 : ns[p.a.toNat]? = some p.mk') (m2 : ns[(p.a + p.l - 1).toNat]? = some p.mk') : Xdc ns p.a = none := by
 have e1 := Xfz m1
 have e2 := Xfz m2
 have e3 : ns.getD p.a.toNat 0 / 2 = p.l := by rw [e1]; exact Xgd _ _
 have hc : Xbr ns p.a = true := by
   unfold Xbr
   rw [e3, if_neg (by omega), e1]
   show (decide (3 ≤ p.l) || !decide (mkOf p.l p.v % 2 = 1)) = true
   rw [Xhe]
   cases hv : p.v with
   | false => simp
   | true => simp [h3 hv]
 unfold Xdc
 rw [if_pos hc, e3, e2, e1, if_pos rfl]
end Stow
namespace Stow
theorem Xgi (ns : List Int) (k : Int) : Xbr ns k = true ↔ (1 ≤ ns.getD k.toNat 0 / 2 ∧ k + ns.getD k.toNat 0 / 2 ≤ ns.length ∧ (ns.getD k.toNat 0 % 2 = 1 → 3 ≤ ns.getD k.toNat 0 / 2)) := by
 unfold Xbr
 by_cases h : ns.getD k.toNat 0 / 2 < 1 ∨ (ns.length : Int) < k + ns.getD k.toNat 0 / 2
 · rw [if_pos h]
   constructor
   · intro z; cases z
   · intro z; omega
 · rw [if_neg h]
   simp only [Bool.or_eq_true, decide_eq_true_eq, Bool.not_eq_true', decide_eq_false_iff_not]
   constructor
   · intro z
     refine ⟨by omega, by omega, fun w => ?_⟩
     rcases z with z | z
     · exact z
     · exact absurd w z
   · rintro ⟨_, _, z⟩
     by_cases w : ns.getD k.toNat 0 % 2 = 1
     · exact .inl (z w)
     · exact .inr w
def pcAt (ns : List Int) (k : Int) : Pc := ⟨k, ns.getD k.toNat 0 / 2, decide (ns.getD k.toNat 0 % 2 = 1)⟩
theorem XFx {ns : List Int} {k : Int} (h : Xdc ns k = none) : Xbr ns k = true := by
 unfold Xdc at h
 split at h
 · assumption
 · cases h
theorem Xli {ns : List Int} {k : Int} (h : Xdc ns k = none) : 1 ≤ ns.getD k.toNat 0 / 2 ∧ k + ns.getD k.toNat 0 / 2 ≤ ns.length ∧ (ns.getD k.toNat 0 % 2 = 1 → 3 ≤ ns.getD k.toNat 0 / 2) := (Xgi ns k).mp (XFx h)
theorem Xxz {ns : List Int} {k : Int} (h : Xbr ns k = false) : Xdc ns k = some k := by
 unfold Xdc
 rw [if_neg (by rw [h]; exact Bool.false_ne_true)]
theorem Xsf {ns : List Int} {k : Int} (h : Xbr ns k = true) (h2 : ns.getD (k + ns.getD k.toNat 0 / 2 - 1).toNat 0 ≠ ns.getD k.toNat 0) : Xdc ns k = some (k + ns.getD k.toNat 0 / 2 - 1) := by
 unfold Xdc
 rw [if_pos h, if_neg h2]
theorem Xvr {ns : List Int} {k : Int} (h : Xbr ns k = true) (h2 : ns.getD (k + ns.getD k.toNat 0 / 2 - 1).toNat 0 = ns.getD k.toNat 0) : Xdc ns k = none := by
 unfold Xdc
 rw [if_pos h, if_pos h2]
def Xcn (ns : List Int) (k : Int) : List Pc × Option Int :=
 if h : k < ns.length ∧ Xdc ns k = none then
   (pcAt ns k :: (Xcn ns (k + ns.getD k.toNat 0 / 2)).1, (Xcn ns (k + ns.getD k.toNat 0 / 2)).2)
 else ([], if k < ns.length then Xdc ns k else none)
termination_by (ns.length - k).toNat
decreasing_by
 all_goals
   have := Xli h.2
   omega
theorem Xie {ns : List Int} {k : Int} (h : ¬ k < ns.length) : Xcn ns k = ([], none) := by
 rw [Xcn, dif_neg (fun z => h z.1), if_neg h]
theorem Xkb {ns : List Int} {k b : Int} (h : k < ns.length) (hb : Xdc ns k = some b) : Xcn ns k = ([], some b) := by
 rw [Xcn, dif_neg (fun z => by rw [hb] at z; cases z.2), if_pos h, hb]
theorem Xgf {ns : List Int} {k : Int} (h : k < ns.length) (hb : Xdc ns k = none) : Xcn ns k = (pcAt ns k :: (Xcn ns (k + ns.getD k.toNat 0 / 2)).1, (Xcn ns (k + ns.getD k.toNat 0 / 2)).2) := by
 rw [Xcn, dif_pos ⟨h, hb⟩]
def WPre (ns : List Int) (ds : List Pc) (k : Int) : Prop := Xcn ns 0 = (ds ++ (Xcn ns k).1, (Xcn ns k).2)
theorem WPre.nil (ns : List Int) : WPre ns [] 0 := by unfold WPre; simp
theorem WPre.step {ns : List Int} {ds : List Pc} {k : Int} (w : WPre ns ds k) (h : k < ns.length) (hb : Xdc ns k = none) : WPre ns (ds ++ [pcAt ns k]) (k + ns.getD k.toNat 0 / 2) := by
 unfold WPre at *
 rw [w, Xgf h hb]
 simp
theorem WPre.fin {ns : List Int} {ds : List Pc} {k : Int} (w : WPre ns ds k) (h : ¬ k < ns.length) : Xcn ns 0 = (ds, none) := by
 unfold WPre at w
 rw [w, Xie h]
 simp
theorem WPre.bad {ns : List Int} {ds : List Pc} {k b : Int} (w : WPre ns ds k) (h : k < ns.length) (hb : Xdc ns k = some b) : Xcn ns 0 = (ds, some b) := by
 unfold WPre at w
 rw [w, Xkb h hb]
 simp
end Stow
namespace Stow
theorem Xjv (ns : List Int) : ∀ (n : Nat) (k : Int), 0 ≤ k → (ns.length - k).toNat ≤ n → ((Xcn ns k).1.length : Int) ≤ n
 | n, k, h0, hn => by
   by_cases h : k < ns.length
   · cases hb : Xdc ns k with
     | some b => rw [Xkb h hb]; simp
     | none =>
       obtain ⟨b1, b2, _⟩ := Xli hb
       rw [Xgf h hb]
       cases n with
       | zero => omega
       | succ n =>
         have := Xjv ns n (k + ns.getD k.toNat 0 / 2) (by omega) (by omega)
         simp only [List.length_cons]
         omega
   · rw [Xie h]; simp
 termination_by n => n
end Stow
namespace Stow
theorem XDt {cs : List Int} {p : Pc} (m : cs[p.a.toNat]? = some p.mk') : pcAt cs p.a = p := by
 have e := Xfz m
 unfold pcAt
 rw [e]
 show (⟨p.a, mkOf p.l p.v / 2, decide (mkOf p.l p.v % 2 = 1)⟩ : Pc) = p
 rw [Xgd, Xhe]
theorem Xay {cs : List Int} : ∀ {ps : List Pc} {k : Int}, Xai k ps cs.length → Xbg cs ps → Xcn cs k = (ps, none)
 | [], k, h, _ => by
   have h : k = cs.length := h
   exact Xie (by omega)
 | p :: r, k, h, m => by
   obtain ⟨ea, h1, h3, h4⟩ := h
   have le := h4.le
   obtain ⟨m1, m2⟩ := m p List.mem_cons_self
   have bn := Xsg h1 h3 (by omega) m1 m2
   rw [ea] at bn
   have e2 : cs.getD k.toNat 0 / 2 = p.l := by rw [← ea, Xfz m1]; exact Xgd _ _
   have ih := Xay (cs := cs) h4 fun q hq => m q (List.mem_cons_of_mem _ hq)
   rw [Xgf (by omega) bn, e2, ih, ← ea, XDt m1]
end Stow
namespace Stow
open PySem L2 PyProof.Rows
structure Def (P : Program) (w : World) (K : PySem.W.Frag) (mg : Str → Option Value) (base : Heap) (x : Str) (k : Nat) (ps : List Str) (sp : Sp) : Prop where
 ex : ∃ (f : Addr) (fd : FuncData), FnOk P w K mg base CX0 k f fd ps sp ∧ mg x = some (.ref f) ∧ PySem.W.keepIn K (.ref f) = true ∧ Xco K fd ps []
structure Src (K : PySem.W.Frag) (mg : Str → Option Value) (x : Str) (st : Stmt) : Prop where
 ex : ∃ (f : Addr) (fd : FuncData), Fun K x x st f fd ∧ mg x = some (.ref f)
theorem Xbe {K : PySem.W.Frag} {h : Heap} {mg : Str → Option Value} {x : Str} {st : Stmt} {f : Addr} {oc kV doc pm cdv ct : Value} {od an : Option Addr} {osl : Array (Option Value)} (X : K.In h) (G : h.Ns mainGlobals mg)
   (a : PySem.W.nsIn K mainGlobals x = some (some (.ref f))) (l : K.lookup f = some ⟨oc, od, .func (PySem.W.fnOf x x (Xbp st) (Xaz st) (Xae st) .none kV doc pm an cdv ct), osl⟩)
   (c : PySem.W.codeIn K cdv x = true) (k : PySem.W.keepIn K (.ref f) = true) : Src K mg x st := ⟨f, _, Xbx l c k, PySem.W.mg_of X G a⟩
section
variable {P : Program} {w : World} {K : PySem.W.Frag} {mg : Str → Option Value} {base : Heap}
theorem Src.ok {x : Str} {st : Stmt} {N ps : List Str} {k : Nat} {sp : Sp} (S : Src K mg x st) (sc : FnScope N ps (Xae st))
   (hb : ∀ (kV doc pm : Value) (an : Option Addr) (cdv ct : Value) (us : List Value), us.length = ps.length → bindArgs (PySem.W.fnOf x x (Xbp st) (Xaz st) (Xae st) .none kV doc pm an cdv ct) ⟨us, []⟩ = pure (ps.zip us))
   (len : ∀ vs H Q E, sp vs H Q E → vs.length = ps.length)
   (hbody : ∀ (f : Addr) (cdv : Value) (A : Around) (outer : List Env) (s : Shared) (H : Hp) (vs : List V) (Q : VK) (E : XK), Room k (A.deeper (envOfC x (Xae st) s.heap.objs.size f cdv)) → sp vs H Q E →
     ∃ t, PSs (cxOf CX0 P w K mg base N x (Xae st) f cdv A outer s H E).nox (Xaz st) t ∧ t { nx := fun _ H' => Q .non H', rt := Q } (start N vs) H) : Def P w K mg base x (k + 1) ps sp := by
 obtain ⟨f, fd, F, hm⟩ := S.ex
 exact ⟨f, fd, F.ok sc len (hbody f), hm, F.kp, F.binds hb⟩
end
section
variable {X : Cx}
theorem Xtv {x : V} (h : Xic x = true) : eqV x x = true := by
 cases x <;> first | rfl | (simp [eqV]; done) | (exact absurd h Bool.false_ne_true)
end
theorem _root_.L2.Same.new {H : Hp} {p : Addr} {o : HO} (h : H p = none) : Same H (upd H p o) := fun b u e => by
 rw [Xap (Xan e h)]
 exact e
theorem _root_.L2.Same.put {H H' : Hp} {p : Addr} {o : HO} (s : Same H H') (h : H p = none) : Same H (upd H' p o) := fun b u e => by
 rw [Xap (Xan e h)]
 exact s b u e
theorem small4000 {n : Nat} (h : n ≤ 4000) : n < sizeLine := Nat.lt_of_le_of_lt h (by decide)
theorem two1 : (2 : Int) ^ (1 : Int).toNat = 2 := by decide
theorem XGa (ns : List Int) (k : Int) (h0 : 0 ≤ k) (h : k < ns.length) : atI (ns.map V.int) k = some (.int (ns.getD k.toNat 0)) := by
 have e : (ns.map V.int)[k.toNat]? = some (.int (ns.getD k.toNat 0)) := by
   rw [List.getElem?_map, List.getD_eq_getElem?_getD, List.getElem?_eq_getElem (by omega)]
   rfl
 have := Xlm e
 rwa [Int.toNat_of_nonneg h0] at this
theorem XFb (n : Int) : decide (V.int (Builtin.bitAnd n 1) = V.int 1) = decide (n % 2 = 1) := by
 rw [Xjl, bitAnd_m1]
 rfl
section
variable {K : PySem.W.Frag}
end
end Stow
namespace Stow
open PySem
structure Noted (fr : List Addr) (e : Addr) (oe : Obj) (fl : Value) (h h' : Heap) : Prop where
 keep : ∀ b o, b ≠ e → b ∉ fr → h.get? b = some o → h'.get? b = some o
 slot : ∀ b o, b ≠ e → h.get? b = some o → ∃ sl, h'.get? b = some { o with slots := sl }
 ent : ∃ (T : Addr) (oT : Obj) (ts : Array Value), h.get? T = none ∧ T ≠ e ∧ h'.get? e = some (oe.mapFields (·.setIfInBounds 1 (.ref T))) ∧ h'.get? T = some oT ∧ oT.data = .fields ts ∧ ts[3]? = some fl
section
variable {M : Model} {A : Around} {E : Value → Shared → Prop} {s : Shared}
theorem Xqc {base : Heap} {env : Env} {outer : List Env} {L e : Addr} {oe : Obj} {vs : Array Value} {head : Value} {had : Bool} {Q : Unit → Shared → Prop} (hfr : A.frames = some (env :: outer)) (hl : s.heap.FunFrames base (env :: outer)) (hf : env.frame = some L)
   (he : s.heap.get? e = some oe) (hd : oe.data = .fields vs) (hsz : 1 < vs.size) (h : ∀ h', Noted ((env :: outer).filterMap (·.frame)) e oe (rawInt L) s.heap h' → Q () { s with heap := h' }) :
   wpAny M A (do
     let a ← frameOf env
     let pl ← entryPlaceOf L had
     let b ← EntryCells.newEntry head a .none (rawInt L) .none pl
     setField (.ref e) 1 b) Q E s := by
 have out : e ∉ (env :: outer).filterMap (·.frame) := fun z => by
   obtain ⟨_, o, q, nf⟩ := hl.mem z
   rw [he] at q
   cases q
   exact nf vs hd
 refine wpAny_bind (wpAny_frameOf_fun hfr hl hf fun hA sA => ?_)
 refine wpAny_bind (wpAny_entryPlaceOf fun pl isP => ?_)
 unfold EntryCells.newEntry newFields
 refine wpAny_bind (wpAny_newObj_type ?_ (isP.sizeOk5 _ _ _ _ _))
 have eA : hA.get? e = some oe := (sA.2.1 e out).trans he
 refine wpAny_setField (Heap.get?_push_of_some _ eA) hd hsz (h _ ?_)
 have apart : hA.objs.size ≠ e := Nat.ne_of_gt (Heap.lt_size eA)
 have other : ∀ {ob : Obj} b o, b ≠ e → hA.get? b = some o → ((hA.push ob).update e (Obj.mapFields (·.setIfInBounds 1 (Value.ref hA.objs.size)))).get? b = some o := fun b o nb q => by
   rw [Heap.get?_update_other _ _ (fun z => nb z.symm)]
   exact Heap.get?_push_of_some _ q
 refine ⟨fun b o nb nf q => other b o nb ((sA.2.1 b nf).trans q), fun b o nb q => ?_, hA.objs.size, _, _, ?_, apart, ?_, (Heap.get?_update_other _ _ (fun z => apart z.symm)).trans (Heap.get?_push_size _ rfl), rfl, ?_⟩
 · obtain ⟨sl, q'⟩ := sA.2.2 b o q
   exact ⟨sl, other b _ nb q'⟩
 · rw [sA.1]
   exact Heap.get?_none_of_le (Nat.le_refl _)
 · exact Heap.get?_update_self _ (Heap.get?_push_of_some _ eA) (Obj.isFreed_of_fields (Obj.data_mapFields hd _))
 · first
     | (simp; done)
     | (rcases isP with rfl | ⟨_, _, _, _, _, _, _, rfl⟩ <;> simp)
theorem Xqd (o : Obj) (f : Array Value → Array Value) : (o.mapFields f).dict = o.dict := by
 obtain ⟨c, d, dt, sl⟩ := o
 cases dt <;> rfl
end
def Exc (h : Heap) (x : Addr) (cls : Value) (od : Option Addr) (T : Addr) (fl : Value) : Prop :=
 ∃ (oe : Obj) (vs : Array Value) (oT : Obj) (ts : Array Value), T ≠ x ∧ h.get? x = some oe ∧ oe.cls = cls ∧ oe.dict = od ∧ oe.data = .fields vs ∧ vs[1]? = some (.ref T) ∧ h.get? T = some oT ∧ oT.data = .fields ts ∧ ts[3]? = some fl
def Exc0 (h : Heap) (x : Addr) (cls : Value) (od : Option Addr) : Prop := ∃ (oe : Obj) (vs : Array Value), h.get? x = some oe ∧ oe.cls = cls ∧ oe.dict = od ∧ oe.data = .fields vs ∧ vs[1]? = some .none
structure Upto (fr ex : List Addr) (h h' : Heap) : Prop where
 keep : ∀ b o, b ∉ ex → b ∉ fr → h.get? b = some o → h'.get? b = some o
 slot : ∀ b o, b ∉ ex → h.get? b = some o → ∃ sl, h'.get? b = some { o with slots := sl }
theorem Upto.trans {fr ex ex' : List Addr} {h1 h2 h3 : Heap} (a : Upto fr ex h1 h2) (b : Upto fr ex' h2 h3) : Upto fr (ex ++ ex') h1 h3 :=
 ⟨fun c o n1 n2 q => b.keep c o (fun z => n1 (List.mem_append_right _ z)) n2 (a.keep c o (fun z => n1 (List.mem_append_left _ z)) n2 q), fun c o n1 q => by
   obtain ⟨sl, q1⟩ := a.slot c o (fun z => n1 (List.mem_append_left _ z)) q
   obtain ⟨sl', q2⟩ := b.slot c _ (fun z => n1 (List.mem_append_right _ z)) q1
   exact ⟨sl', q2⟩⟩
theorem Upto.update {fr : List Addr} {h : Heap} {a : Addr} {f : Obj → Obj} : Upto fr [a] h (h.update a f) :=
 ⟨fun b o n _ q => by rw [Heap.get?_update_other _ _ (fun z => n (by simp [z]))]; exact q, fun b o n q => ⟨o.slots, by rw [Heap.get?_update_other _ _ (fun z => n (by simp [z]))]; exact q⟩⟩
section
variable {M : Model} {A : Around} {E : Value → Shared → Prop} {s : Shared}
theorem Xgs {fr : List Addr} {x : Addr} {cls : Value} {od : Option Addr} {T : Addr} {fl : Value} {Q : Unit → Shared → Prop} (ht : Exc s.heap x cls od T fl)
   (h : ∀ h', Upto fr [T] s.heap h' → Exc h' x cls od T .none → Q () { s with heap := h' }) : wpAny M A (setFlight (.ref x) none) Q E s := by
 obtain ⟨oe, vs, oT, ts, ne, ex, hc, hdi, hd, h1, eT, dT, h3⟩ := ht
 unfold setFlight
 refine wpAny_bind (wpAny_field ex hd h1 ?_)
 rw [if_pos (show (Value.ref T != Value.none) = true by simp)]
 have sz : 3 < ts.size := (Array.getElem?_eq_some_iff.mp h3).1
 refine wpAny_setField eT dT sz (h _ .update ⟨oe, vs, _, _, ne, ?_, hc, hdi, hd, h1, Heap.get?_update_self _ eT (Obj.isFreed_of_fields (Obj.data_mapFields dT _)), Obj.data_mapFields dT _, ?_⟩)
 · rw [Heap.get?_update_other _ _ ne]
   exact ex
 · simp [sz]
theorem Noted.exc {fr : List Addr} {x : Addr} {oe : Obj} {vs : Array Value} {fl : Value} {h h' : Heap} (n : Noted fr x oe fl h h') (hd : oe.data = .fields vs) (hsz : 1 < vs.size) : ∃ T, h.get? T = none ∧ Exc h' x oe.cls oe.dict T fl := by
 obtain ⟨T, oT, ts, nT, ne, ex, eT, dT, h3⟩ := n.ent
 exact ⟨T, nT, _, _, oT, ts, ne, ex, Obj.cls_mapFields _ _, Xqd _ _, Obj.data_mapFields hd _, by simp [hsz], eT, dT, h3⟩
theorem Noted.upto {fr : List Addr} {x : Addr} {oe : Obj} {fl : Value} {h h' : Heap} (n : Noted fr x oe fl h h') : Upto fr [x] h h' :=
 ⟨fun b o nb nf q => n.keep b o (fun z => nb (by simp [z])) nf q, fun b o nb q => n.slot b o (fun z => nb (by simp [z])) q⟩
theorem XOa {base : Heap} {env : Env} {outer : List Env} {L x : Addr} {cls : Value} {od : Option Addr} {Q : Unit → Shared → Prop} (hfr : A.frames = some (env :: outer)) (hl : s.heap.FunFrames base (env :: outer)) (hf : env.frame = some L) (hx : Exc0 s.heap x cls od)
   (h : ∀ h' T, s.heap.get? T = none → Upto ((env :: outer).filterMap (·.frame)) [x] s.heap h' → Exc h' x cls od T (rawInt L) → Q () { s with heap := h' }) : wpAny M A (noteFrame (.ref x) env) Q E s := by
 obtain ⟨oe, vs, ex, rfl, rfl, hd, h1⟩ := hx
 have sz := (Array.getElem?_eq_some_iff.mp h1).1
 unfold noteFrame
 simp only [hf]
 refine wpAny_bind (wpAny_field ex hd h1 ?_)
 rw [if_neg (by decide)]
 refine Xqc hfr hl hf ex hd sz fun h' n => ?_
 obtain ⟨T, nT, t⟩ := n.exc hd sz
 exact h h' T nT n.upto t
theorem XNg {base : Heap} {env : Env} {outer : List Env} {L x T : Addr} {cls : Value} {od : Option Addr} {Q : Unit → Shared → Prop} (hfr : A.frames = some (env :: outer)) (hl : s.heap.FunFrames base (env :: outer)) (hf : env.frame = some L) (hx : Exc s.heap x cls od T .none)
   (h : ∀ h' T', s.heap.get? T' = none → Upto ((env :: outer).filterMap (·.frame)) [T, x] s.heap h' → Exc h' x cls od T' (rawInt L) → Q () { s with heap := h' }) : wpAny M A (noteFrame (.ref x) env) Q E s := by
 obtain ⟨oe, vs, oT, ts, ne, ex, rfl, rfl, hd, h1, eT, dT, h3⟩ := hx
 have sz := (Array.getElem?_eq_some_iff.mp h1).1
 have sz3 := (Array.getElem?_eq_some_iff.mp h3).1
 unfold noteFrame
 simp only [hf]
 refine wpAny_bind (wpAny_field ex hd h1 ?_)
 rw [if_pos (show (Value.ref T != Value.none) = true by simp)]
 refine wpAny_bind (wpAny_field eT dT h3 ?_)
 rw [if_neg (show ¬ ((Value.none == rawInt L) = true) by simp [rawInt])]
 refine wpAny_bind (wpAny_setField eT dT sz3 ?_)
 have u1 : Upto ((env :: outer).filterMap (·.frame)) [T] s.heap (s.heap.update T (Obj.mapFields (·.setIfInBounds 3 Value.none))) := .update
 have hl2 : (s.heap.update T (Obj.mapFields (·.setIfInBounds 3 Value.none))).FunFrames base (env :: outer) := hl.of_keeps fun b o q nf => by
   have nb : b ≠ T := fun z => by
     subst z
     rw [eT] at q
     cases q
     exact nf ts dT
   exact ⟨o, by rw [Heap.get?_update_other _ _ (fun z => nb z.symm)]; exact q, rfl⟩
 have ex2 : (s.heap.update T (Obj.mapFields (·.setIfInBounds 3 Value.none))).get? x = some oe := by
   rw [Heap.get?_update_other _ _ ne]
   exact ex
 refine Xqc (s := { s with heap := s.heap.update T (Obj.mapFields (·.setIfInBounds 3 Value.none)) }) hfr hl2 hf ex2 hd sz fun h' n => ?_
 obtain ⟨T', nT, t⟩ := n.exc hd sz
 refine h h' T' ?_ (u1.trans n.upto) t
 cases q : s.heap.get? T' with
 | none => rfl
 | some o =>
   by_cases z : T' = T
   · subst z
     rw [Heap.get?_update_self _ eT (Obj.isFreed_of_fields (Obj.data_mapFields dT _))] at nT
     cases nT
   · rw [Heap.get?_update_other _ _ (fun y => z y.symm), q] at nT
     cases nT
theorem XIt {base : Heap} {env : Env} {outer : List Env} {L x : Addr} {cls : Value} {od : Option Addr} {Q : Unit → Shared → Prop} (hfr : A.frames = some (env :: outer)) (hl : s.heap.FunFrames base (env :: outer)) (hf : env.frame = some L) (hx : Exc0 s.heap x cls od)
   (h : ∀ h' T, s.heap.get? T = none → Upto ((env :: outer).filterMap (·.frame)) [x, T] s.heap h' → Exc h' x cls od T .none → Q () { s with heap := h' }) : wpAny M A (leaving env (.ref x)) Q E s := by
 unfold leaving
 refine wpAny_bind (XOa hfr hl hf hx fun h1 T nT u t => ?_)
 exact Xgs (s := { s with heap := h1 }) (fr := (env :: outer).filterMap (·.frame)) t fun h2 u2 t2 => h h2 T nT (u.trans u2) t2
theorem XJm {base : Heap} {env : Env} {outer : List Env} {L x T : Addr} {cls : Value} {od : Option Addr} {Q : Unit → Shared → Prop} (hfr : A.frames = some (env :: outer)) (hl : s.heap.FunFrames base (env :: outer)) (hf : env.frame = some L) (hx : Exc s.heap x cls od T .none)
   (h : ∀ h' T', s.heap.get? T' = none → Upto ((env :: outer).filterMap (·.frame)) [T, x, T'] s.heap h' → Exc h' x cls od T' .none → Q () { s with heap := h' }) : wpAny M A (leaving env (.ref x)) Q E s := by
 unfold leaving
 refine wpAny_bind (XNg hfr hl hf hx fun h1 T' nT u t => ?_)
 exact Xgs (s := { s with heap := h1 }) (fr := (env :: outer).filterMap (·.frame)) t fun h2 u2 t2 => h h2 T' nT (u.trans u2) t2
end
end Stow
namespace Stow
open PySem
open Sem (wp)
section
variable {M : Model} {A : Around} {E : Value → Shared → Prop}
variable {nm q nm0 q0 : Str} {C N C0 N0 : Addr} {bs bm bs0 bm0 : List Value} {hdct hdct0 : Bool} {sn sn0 : List Str} {sub sub0 : List Value} {ab ab0 : Bool} {col col0 : Option Bool} {dd dd0 : Option Addr} {k0 k1 k2 k3 k5 j0 j1 j2 j3 j5 : Option Value} {newId newId0 : String}
theorem Xpf {h : Heap} {g : Array GenState} {d : Drawn} {t : Nat} {os : OsState} {x : Addr} {ox : Obj} {b : Bool} {Q : Bool → Shared → Prop}
   (hC : h.get? C = some (excClassObj nm q C N bs bm hdct sn sub ab col dd k0 k1 k2 k3 k5 newId)) (hC0 : h.get? C0 = some (excClassObj nm0 q0 C0 N0 bs0 bm0 hdct0 sn0 sub0 ab0 col0 dd0 j0 j1 j2 j3 j5 newId0))
   (hx : h.get? x = some ox) (hcl : ox.cls = .ref C) (hb0 : (Value.ref C0 :: bm0).contains (.type "BaseException") = true) (hb : (Value.ref C :: bm).contains (.ref C0) = b) (k : Q b ⟨h, g, d, t, os⟩) :
   wpAny M A (excMatches (.ref x) (.ref C0)) Q E ⟨h, g, d, t, os⟩ := by
 have f := tc_notTuple
 unfold excMatches
 repeat (first
   | (with_reducible refine wpAny_loadPart_at hx ?_; rw [hcl])
   | with_reducible refine wpAny_loadPart_at hC0 ?_
   | (with_reducible refine wpAny_isSubtype_exc hC0 ?_; rw [hb0])
   | (with_reducible refine wpAny_isSubtype_exc hC ?_; rw [hb])
   | wp_step)
 all_goals (cases b <;> (wp_walk; exact k))
end
end Stow
namespace Stow
open PySem
open Sem (wp)
def Lk (M : Model) (h : Heap) {α : Type} (m : Sem α) (v : α) : Prop := ∀ (A : Around) (E : Value → Shared → Prop) (g : Array GenState) (d : Drawn) (t : Nat) (os : OsState) (Q : α → Shared → Prop), Q v ⟨h, g, d, t, os⟩ → wpAny M A m Q E ⟨h, g, d, t, os⟩
theorem Lk.at {M : Model} {h : Heap} {α : Type} {m : Sem α} {v : α} (l : Lk M h m v) {A : Around} {E : Value → Shared → Prop} {g : Array GenState} {d : Drawn} {t : Nat} {os : OsState} {Q : α → Shared → Prop} (q : Q v ⟨h, g, d, t, os⟩) : wpAny M A m Q E ⟨h, g, d, t, os⟩ := l A E g d t os Q q
section
variable {prog : Program} {w : World} {A : Around} {E : Value → Shared → Prop} {h : Heap} {g : Array GenState} {d : Drawn} {t : Nat} {os : OsState} {a C : Addr} {o : Obj}
structure XLk (prog : Program) (w : World) (h : Heap) (C : Addr) : Prop where
 ga : Lk (model prog w) h (typeLookup (.ref C) "__getattribute__") (some (.builtin "BaseException.__getattribute__"))
 gat : Lk (model prog w) h (typeLookup (.ref C) "__getattr__") none
 cls : Lk (model prog w) h (typeLookup (.ref C) "__class__") (some (.builtin "object.__class__"))
 obj : Lk (model prog w) h (isSubtype (.ref C) (.type "object")) true
 exc : Lk (model prog w) h (isSubtype (.ref C) (.type "BaseException")) true
theorem XNc {R : Result → Shared → Prop} (L : XLk prog w h C) (hx : h.get? a = some o) (hc : o.cls = .ref C) (k : R (.ok (.ret (.ref C))) ⟨h, g, d, t, os⟩) :
   codeAny (model prog w) A (.call (.builtin "getset_descriptor.__get__") ⟨[.builtin "object.__class__", .ref a, .ref C], []⟩) R ⟨h, g, d, t, os⟩ := by
 have y5 : (⟨h, g, d, t, os⟩ : Shared).TypeIs (.builtin "object.__class__") "getset_descriptor" := F.typeOf_object_class
 have y8 : Lk (model prog w) h (isSubtype (.ref C) (.type (".".intercalate ("object.__class__".cutAt '.').dropLast))) true := by rw [F.owner_object_class]; exact L.obj
 refine codeAny_call_builtin F.slot_gs_get.plain F.entry_gs_get (F.slot_gs_get.check _ _ _ _ _ _ _ _ y5 (F.args_gs_get _ _ _) ?_)
 repeat (any_goals (first
   | assumption
   | (with_reducible refine wpAny_loadPart_at hx ?_; rw [hc])
   | with_reducible refine y8.at ?_
   | wp_step))
 refine ⟨Code.quiet_builtin _ (by decide +kernel), codeAny_builtin F.entry_object_class ?_⟩
 repeat (any_goals (first
   | assumption
   | (with_reducible refine wpAny_loadPart_at hx ?_; rw [hc])
   | wp_step))
theorem Xue {tk : Tok} {Q : Fin → Shared → Prop} (L : XLk prog w h C) (hx : h.get? a = some o) (hc : o.cls = .ref C) (k : Q (.done (.ret (.ref C))) ⟨h, g, d, t, os⟩) :
   wpAny (model prog w) A (Builtin.«object.__getattribute__» ⟨[.ref a, .str "__class__" tk], []⟩) Q E ⟨h, g, d, t, os⟩ := by
 have y5 : (⟨h, g, d, t, os⟩ : Shared).TypeIs (.builtin "object.__class__") "getset_descriptor" := F.typeOf_object_class
 have f5 := F.typeOf_object_class
 have f6 := F.slot_gs_get.lookup
 have f7 := F.slot_gs_set.lookup
 have l2 := L.cls
 repeat (any_goals (first
   | assumption
   | (with_reducible refine wpAny_loadPart_at hx ?_; rw [hc])
   | with_reducible refine l2.at ?_
   | wp_step))
 refine XNc L hx hc ?_
 repeat (any_goals (first | assumption | wp_step))
theorem Xul {nv : Value} {Q : Unit → Shared → Prop} (L : XLk prog w h C) (hx : h.get? a = some o) (hc : o.cls = .ref C) (k : Q () ⟨h, g, d, t, os⟩) : wpAny (model prog w) A (checkBuiltinCall "BaseException.__getattribute__" ⟨[.ref a, nv], []⟩) Q E ⟨h, g, d, t, os⟩ := by
 have e1 : builtinKind "BaseException.__getattribute__" = some .slot := by decide +kernel
 have e2 : splitId "BaseException.__getattribute__" = some ("BaseException", "__getattribute__") := by decide +kernel
 have ha := F.args_bexc_ga (.ref a) nv
 have l4 := L.exc
 simp only [checkBuiltinCall, e1, e2]
 refine wpAny_bind ?_
 unfold isInstance
 repeat (first
   | (with_reducible refine wpAny_loadPart_at hx ?_; rw [hc])
   | with_reducible refine l4.at ?_
   | wp_step)
 exact k
theorem XCq {tk : Tok} {R : Result → Shared → Prop} (FB : Slot "ValueError" "__getattribute__" "BaseException.__getattribute__") (L : XLk prog w h C) (hx : h.get? a = some o) (hc : o.cls = .ref C) (k : R (.ok (.ret (.ref C))) ⟨h, g, d, t, os⟩) :
   codeAny (model prog w) A (.call (.builtin "BaseException.__getattribute__") ⟨[.ref a, .str "__class__" tk], []⟩) R ⟨h, g, d, t, os⟩ :=
 codeAny_call_builtin FB.plain F.entry_bexc_ga (Xul L hx hc (Xue L hx hc k))
theorem XOu {tk : Tok} {fill : Bool} {Q : Value → Shared → Prop} (FB : Slot "ValueError" "__getattribute__" "BaseException.__getattribute__") (L : XLk prog w h C) (hx : h.get? a = some o) (hc : o.cls = .ref C) (k : Q (.ref C) ⟨h, g, d, t, os⟩) :
   wpAny (model prog w) A (getAttrBy (.ref a) (.str "__class__" tk) fill) Q E ⟨h, g, d, t, os⟩ := by
 have f3 := FB.bind (.ref a)
 have x0 : (false && onTheHeap (Value.builtin "BaseException.__getattribute__")) = false := rfl
 have x2 : (Value.builtin "BaseException.__getattribute__" == Value.builtin "object.__getattribute__") = false := by decide +kernel
 have x1 : (onTheHeap (Value.ref C) && Value.builtin "BaseException.__getattribute__" == Value.builtin "object.__getattribute__") = false := by rw [x2, Bool.and_false]
 have l1 := L.ga
 have l2 := L.gat
 repeat (any_goals (first
   | assumption
   | (with_reducible refine wpAny_loadPart_at hx ?_; rw [hc])
   | with_reducible refine l1.at ?_
   | with_reducible refine l2.at ?_
   | wp_step))
 refine XCq FB L hx hc ?_
 repeat (any_goals (first | assumption | wp_step))
theorem XBx {Q : Option Value → Shared → Prop} (FB : Slot "ValueError" "__getattribute__" "BaseException.__getattribute__") (L : XLk prog w h C) (hx : h.get? a = some o) (hc : o.cls = .ref C) (k : Q (some (.ref C)) ⟨h, g, d, t + 1, os⟩) :
   wpAny (model prog w) A (getAttr? (.ref a) "__class__") Q E ⟨h, g, d, t, os⟩ := by
 unfold getAttr? getAttrBy?
 repeat (any_goals (first | assumption | with_reducible apply XOu FB L hx hc | wp_step))
end
end Stow
namespace Stow
open PySem L2 PyProof.Rows
section
variable {P : Program} {w : World} {H H' : Hp} {h h' g : Heap} {a : Addr} {o : HO}
theorem Xug (x : Xdr P w H h a o) : ∃ ob, h.get? a = some ob := by
 cases o with
 | lst xs => obtain ⟨_, _, _, _, e⟩ := x; exact ⟨_, e⟩
 | tup xs => obtain ⟨_, _, _, ob, e, _⟩ := x; exact ⟨_, e⟩
 | dK kvs => obtain ⟨_, _, _, _, ob, _, _, e, _⟩ := x; exact ⟨_, e⟩
 | dT kvs => obtain ⟨_, _, _, _, ob, _, _, e, _⟩ := x; exact ⟨_, e⟩
 | set S n => obtain ⟨ob, _, _, _, e, _⟩ := x; exact ⟨_, e⟩
 | ins C dx fs => obtain ⟨_, _, _, e, _⟩ := x; exact ⟨_, e⟩
 | own y => obtain ⟨_, e⟩ := x; exact ⟨_, e⟩
 | xd fs => obtain ⟨_, ⟨_, _, _, e, _⟩, _⟩ := x; exact ⟨_, e⟩
 | rng lo hi => obtain ⟨_, _, _, e⟩ := x; exact ⟨_, e⟩
 | frz ob u => obtain ⟨e, _⟩ := x; exact ⟨_, e⟩
 | tbl ps => exact ⟨_, (show h.get? a = some _ from x)⟩
 | met f y => exact ⟨_, (show h.get? a = some _ from x)⟩
 | ext φ => obtain ⟨_, e, _⟩ := x; exact e
theorem Xdl (x : HOk P w H h) (e : h.get? a = none) : H a = none := by
 cases q : H a with
 | none => rfl
 | some u =>
   obtain ⟨ob, z⟩ := Xug (x a u q)
   rw [e] at z
   cases z
theorem Xjs {fr ex : List Addr} (x : HOk P w H h) (u : Upto fr ex h h') (hf : ∀ b ∈ fr, H b = none) (he : ∀ b ∈ ex, H b = none) : HOk P w H h' := fun a o e => by
 have out : ∀ b v, H b = some v → b ∉ ex ∧ b ∉ fr := fun b v q => ⟨(fun z => by rw [he b z] at q; cases q), (fun z => by rw [hf b z] at q; cases q)⟩
 refine (x a o e).stay (fun b ob hb q => ?_) (fun _ q => q) fun _ _ q => q
 rcases hb with rfl | hb
 · exact u.keep b ob (out b _ e).1 (out b _ e).2 q
 · exact u.keep b ob (out b _ hb).1 (out b _ hb).2 q
theorem Xlt {fs fr ex : List Addr} (u : Un fs [] H H' g h) (v : Upto fr ex h h') (hfr : ∀ b ∈ fr, b ∈ fs ∨ g.get? b = none) (hex : ∀ b ∈ ex, g.get? b = none) : Un fs [] H H' g h' := by
 have nex : ∀ b o, g.get? b = some o → b ∉ ex := fun b o q z => by rw [hex b z] at q; cases q
 refine ⟨fun b o q n hb hx => ?_, fun b o q n hb hx => ?_, u.free, fun b o q hx => ?_, u.tups, u.frzs, u.tbls⟩
 · refine v.keep b o (nex b o q) (fun z => ?_) (u.keep b o q n hb hx)
   rcases hfr b z with z | z
   · exact hb z
   · rw [z] at q
     cases q
 · obtain ⟨sl, q1⟩ := u.slot b o q n hb hx
   obtain ⟨sl', q2⟩ := v.slot b _ (nex b o q) q1
   exact ⟨sl', q2⟩
 · obtain ⟨o', q1⟩ := u.there b o q hx
   obtain ⟨sl, q2⟩ := v.slot b o' (nex b o q) q1
   exact ⟨_, q2⟩
theorem Xfp {fs : List Addr} (u : Un fs [] H H' g h) (e : h.get? a = none) : g.get? a = none := by
 cases q : g.get? a with
 | none => rfl
 | some o =>
   obtain ⟨o', z⟩ := u.there a o q (by simp)
   rw [e] at z
   cases z
end
def CXe (P : Program) (w : World) : CXT := fun outer H s E e s' => ∃ (x C T : Addr) (od : Option Addr) (H' : Hp), e = .ref x ∧ s'.os = s.os ∧ AllBare s'.gens ∧ Un (frs outer) [] H H' s.heap s'.heap ∧ HOk P w H' s'.heap ∧
 s.heap.get? x = none ∧ s.heap.get? T = none ∧ H' x = none ∧ H' T = none ∧ Exc s'.heap x (.ref C) od T .none ∧ E (.ref C) od H'
section
variable {P : Program} {w : World} {K : PySem.W.Frag} {mg : Str → Option Value} {base : Heap} {N : List Str} {qual : Str} {scope : Scope} {f : Addr} {cd : Value} {A : Around} {outer : List Env} {s₀ : Shared} {H₀ : Hp} {EX : XK}
theorem Xot {pins : List (Addr × Obj)} {σ : L2.St} {H : Hp} {s : Shared} {x C : Addr} {od : Option Addr} (I : Inv (cxOf (CXe P w) P w K mg base N qual scope f cd A outer s₀ H₀ EX) pins σ H s) (hx : Exc0 s.heap x (.ref C) od) (nx : s₀.heap.get? x = none) (ux : H x = none) (q : EX (.ref C) od H) :
   (cxOf (CXe P w) P w K mg base N qual scope f cd A outer s₀ H₀ EX).xe (.ref x) s := by
 refine XIt (base := base) (outer := outer) I.ok.frames I.stack rfl hx fun h' T nT u t => ?_
 have hu : Un (frs outer) [] H₀ H s₀.heap s.heap := I.base
 have uT : H T = none := Xdl I.hok nT
 refine ⟨x, C, T, od, H, rfl, I.os, I.bare, Xlt hu u (fun b hb => ?_) (fun b hb => ?_), Xjs I.hok u I.stkFree (fun b hb => ?_), nx, Xfp hu nT, ux, uT, t, q⟩
 · rcases List.mem_cons.mp hb with rfl | hb
   · exact .inr (Heap.get?_none_of_le (Nat.le_refl _))
   · exact .inl hb
 · rcases List.mem_cons.mp hb with rfl | hb
   · exact nx
   · have e : b = T := by simpa using hb
     subst e
     exact Xfp hu nT
 · rcases List.mem_cons.mp hb with rfl | hb
   · exact ux
   · have e : b = T := by simpa using hb
     subst e
     exact uT
theorem Xcb : Xfe (CXe P w) (cxOf (CXe P w) P w K mg base N qual scope f cd A outer s₀ H₀ EX) EX := by
 rintro pins σ H s e s' I ⟨x, C, T, od, H', rfl, os, bare, un, hok, nx, nT, ux, uT, t, q⟩
 have I' : Inv (cxOf (CXe P w) P w K mg base N qual scope f cd A outer s₀ H₀ EX) pins σ H' s' := by
   obtain ⟨hh, gg, dd, tt, oo⟩ := s'
   obtain rfl : oo = s.os := os
   have z := I.call (h' := hh) (g' := gg) (d' := dd) (t' := tt) (ch := []) un hok bare (fun b z => absurd z (by simp))
   exact z
 refine XJm (base := base) (outer := outer) I'.ok.frames I'.stack rfl t fun h' T' nT' u t' => ?_
 have hu : Un (frs outer) [] H₀ H' s₀.heap s'.heap := I'.base
 have hu0 : Un (frs outer) [] H₀ H s₀.heap s.heap := I.base
 have uT' : H' T' = none := Xdl hok nT'
 have n0 : ∀ b ∈ [T, x, T'], s₀.heap.get? b = none := fun b hb => by
   rcases List.mem_cons.mp hb with rfl | hb
   · exact Xfp hu0 nT
   · rcases List.mem_cons.mp hb with rfl | hb
     · exact Xfp hu0 nx
     · have e : b = T' := by simpa using hb
       subst e
       exact Xfp hu nT'
 refine ⟨x, C, T', od, H', rfl, I'.os, I'.bare, Xlt hu u (fun b hb => ?_) n0, Xjs hok u I'.stkFree (fun b hb => ?_), n0 x (by simp), n0 T' (by simp), ux, uT', t', q⟩
 · rcases List.mem_cons.mp hb with rfl | hb
   · exact .inr (Heap.get?_none_of_le (Nat.le_refl _))
   · exact .inl hb
 · rcases List.mem_cons.mp hb with rfl | hb
   · exact uT
   · rcases List.mem_cons.mp hb with rfl | hb
     · exact ux
     · have e : b = T' := by simpa using hb
       subst e
       exact uT'
end
end Stow
namespace Stow
open PySem L2 PyProof.Rows
theorem Xrl {K : PySem.W.Frag} {h : Heap} {C : Addr} {bmB : List Value} {newId : String} (X : K.In h) (q : PySem.W.excIn K C bmB newId = true) :
   ∃ (bm : List Value) (N : Addr) (nm qn : Str) (bs : List Value) (hd : Bool) (sn : List Str) (sub : List Value) (ab : Bool) (col : Option Bool) (dd : Option Addr) (k0 k1 k2 k3 k5 : Option Value) (mN : Str → Option Value),
     h.get? C = some (excClassObj nm qn C N bs bm hd sn sub ab col dd k0 k1 k2 k3 k5 newId) ∧ h.Ns N mN ∧ mN "__init__" = none ∧ OwnTail h bmB bm ∧ ∀ v, PySem.W.mroIn K C v = some ((Value.ref C :: bm).contains v) := by
 unfold PySem.W.excIn at q
 split at q
 · rename_i dd cd sl lk
   split at q
   · rename_i C' bm a0 a1 a2 a3 n a5 em es
     simp only [Bool.and_eq_true, beq_iff_eq, Bool.not_eq_true'] at q
     obtain ⟨⟨⟨⟨⟨eC, rfl⟩, nodel⟩, tl⟩, okN⟩, noI⟩ := q
     have eC := eC.symm
     subst eC
     have mro : ∀ v, PySem.W.mroIn K C v = some ((Value.ref C :: bm).contains v) := fun v => by
       unfold PySem.W.mroIn PySem.W.clsIn
       rw [lk]
       first
         | rfl
         | (simp [em]; done)
     obtain ⟨nm, bs, mr, ns, qn, hd, sn, sub, ab, col, del⟩ := cd
     dsimp only at em nodel okN noI
     subst em nodel
     have esl : sl = #[a0, a1, a2, a3, some (.builtin n), a5] := by
       cases sl with
       | mk l =>
         dsimp only at es
         rw [es]
     subst esl
     exact ⟨bm, ns, nm, qn, bs, hd, sn, sub, ab, col, dd, a0, a1, a2, a3, a5, _, X _ _ lk, .of_isNs (PySem.W.isNs_of_in X okN), PySem.W.nsMap_none_of_in X okN noI, PySem.W.tail_of_in X tl, mro⟩
   · cases q
 · cases q
structure XCls (K : PySem.W.Frag) (mg : Str → Option Value) (x : Str) (C : Addr) : Prop where
 bound : mg x = some (.ref C)
 ex : ∃ (bmB : List Value) (B newId initId : String), PySem.W.excIn K C bmB newId = true ∧ ExcBaseFacts B newId initId bmB ∧ bmB.contains (.type "BaseException") = true
def Xxs (C : Addr) (E : XK) (t : TA) : TS := fun _ σ H => t σ H fun xs H1 => xs.length ≤ sizeLine ∧ E (.ref C) none H1
section
variable {P : Program} {w : World} {K : PySem.W.Frag} {mg : Str → Option Value} {base : Heap} {N : List Str} {qual : Str} {scope : Scope} {f : Addr} {cd : Value} {A : Around} {outer : List Env} {s₀ : Shared} {H₀ : Hp} {EX : XK}
theorem Xcu {x : Str} {C : Addr} {np cpos pos : Pos} {e : Expr} {es : List Expr} {t : TA} (XC : XCls K mg x C) (hh : (cxOf (CXe P w) P w K mg base N qual scope f cd A outer s₀ H₀ EX).A.handled = none)
   (hg : Gl (cxOf (CXe P w) P w K mg base N qual scope f cd A outer s₀ H₀ EX) x) (ha : PA (cxOf (CXe P w) P w K mg base N qual scope f cd A outer s₀ H₀ EX) (e :: es) t)
   (hdb : (x == ("__debug__" : Str)) = false := by decide) (he : starEach (e :: es) (cxOf (CXe P w) P w K mg base N qual scope f cd A outer s₀ H₀ EX).env = (false, eval e (cxOf (CXe P w) P w K mg base N qual scope f cd A outer s₀ H₀ EX).env) :: starEach es (cxOf (CXe P w) P w K mg base N qual scope f cd A outer s₀ H₀ EX).env := by rfl)
   (hpl : (backTo cpos (starEach es (cxOf (CXe P w) P w K mg base N qual scope f cd A outer s₀ H₀ EX).env)).any (·.1) = false := by rfl) :
   PS (cxOf (CXe P w) P w K mg base N qual scope f cd A outer s₀ H₀ EX) (.Raise (some (.Call (.Name x np) (e :: es) [] cpos)) none pos) (Xxs C EX t) := by
 intro pins s σ H D I h
 obtain ⟨bmB, B, newId, initId, q, FB, hB⟩ := XC.ex
 obtain ⟨bm, NN, nm, qn, bs, hd, sn, sub, ab, col, dd, k0, k1, k2, k3, k5, mN, hC, hN, noI, tl, _⟩ := Xrl I.mod.kin q
 refine wpAny_Raise_call_subT (C := C) (nm := nm) (q := qn) (N := NN) (bs := bs) (bm := bm) (hdct := hd) (sn := sn) (sub := sub) (ab := ab) (col := col) (dd := dd) (k0 := k0) (k1 := k1) (k2 := k2) (k3 := k3) (k5 := k5) FB (mN := mN) (tl.hasType hB) hh
   (by rw [he]; show (false || (backTo cpos (starEach es _)).any (·.1)) = false; rw [hpl]; rfl) noI (Xdo I hg XC.bound ⟨rfl, ?_⟩ hdb)
 have hA := ha cpos pins s σ H _ I h
 rw [he] at hA ⊢
 refine Calls.evalArgs_plain (thn hA fun us s2 ⟨xs, H2, I2, r2, hz, q2⟩ => ⟨rfl, by rw [← r2.length]; exact hz, I2.bk _ _ hC, hN.keeps I2.bk, tl.keeps I2.bk, fun h' x hm => ?_⟩)
 have I3 : Inv (cxOf (CXe P w) P w K mg base N qual scope f cd A outer s₀ H₀ EX) pins σ H2 { s2 with heap := h' } := I2.kept (t' := s2.toks) hm.keeps
 obtain ⟨tt, ht, _, _⟩ := hm.there
 exact Xot I3 ⟨_, _, ht, rfl, rfl, rfl, rfl⟩ (Xfp (show Un (frs outer) [] H₀ H2 s₀.heap s2.heap from I2.base) hm.new) (Xdl I2.hok hm.new) q2
end
def ExcO (x C : Addr) (od : Option Addr) : HO := .ext fun h => ∃ oe vs, h.get? x = some oe ∧ oe.cls = .ref C ∧ oe.dict = od ∧ oe.data = .fields vs
abbrev Cx.suite (X : Cx) (x : Addr) : Cx := { X with A := X.A.mark (some (.ref x)), calm := false, xe := fun _ _ => False }
theorem Xvc {X : Cx} (ok : X.Ok) (x : Addr) : (Cx.suite X x).Ok :=
 ⟨ok.mod, ok.kind, ok.glob, ok.blt, ok.above, ok.inj, ok.has, ok.cab, fun z => (nomatch z), ok.frames, ok.stk, ok.exf, ok.bs, ok.bsz, ok.noex, ok.exfs, ok.funs, ok.frf⟩
theorem Xhl {X : Cx} {pins : List (Addr × Obj)} {σ : L2.St} {H : Hp} {s : Shared} (I : Inv X pins σ H s) (x : Addr) : Inv (Cx.suite X x) pins σ H s := ⟨Xvc I.ok x, I.os, I.bare, I.base, I.loc, I.cell, I.free, I.freeC, I.pin, I.hok, I.len⟩
theorem Xed {X : Cx} {pins : List (Addr × Obj)} {σ : L2.St} {H : Hp} {s : Shared} {x : Addr} (ok : X.Ok) (I : Inv (Cx.suite X x) pins σ H s) : Inv X pins σ H s := ⟨ok, I.os, I.bare, I.base, I.loc, I.cell, I.free, I.freeC, I.pin, I.hok, I.len⟩
section
variable {X : Cx}
theorem Xmq {pins : List (Addr × Obj)} {σ : L2.St} {H H' : Hp} {s s' : Shared} {h' : Heap} {x C T : Addr} {od : Option Addr} {fr ex : List Addr} (I : Inv X pins σ H s) (os : s'.os = s.os) (bare : AllBare s'.gens) (un : Un (frs X.stack) [] H H' s.heap s'.heap) (hok : HOk X.prog X.w H' s'.heap)
   (nx : s.heap.get? x = none) (ux : H' x = none) (u : Upto fr ex s'.heap h') (hfr : fr = frs X.stack) (nex : ∀ b ∈ ex, s.heap.get? b = none ∧ H' b = none) (t : Exc h' x (.ref C) od T .none) : Inv X pins σ (upd H' x (ExcO x C od)) { s' with heap := h' } := by
 subst hfr
 have un2 : Un (frs X.stack) [] H H' s.heap h' := Xlt un u (fun b hb => .inl hb) fun b hb => (nex b hb).1
 have stk : ∀ b ∈ frs X.stack, H' b = none := fun b hb => by
   obtain ⟨_, o, ho, _⟩ := I.stack.mem hb
   exact un.free b o ho (I.stkFree b hb) (by simp)
 have hok2 : HOk X.prog X.w H' h' := Xjs hok u stk fun b hb => (nex b hb).2
 have nex' : ∀ b v, H' b = some v → b ≠ x := fun b v e z => by rw [z, ux] at e; cases e
 have un3 : Un (frs X.stack) [] H (upd H' x (ExcO x C od)) s.heap h' := by
   refine ⟨un2.keep, un2.slot, fun b o q n hx => ?_, un2.there, fun b xs q => ?_, fun b o v q => ?_, fun b ps q => ?_⟩
   · rw [Xap (fun z => by rw [z, nx] at q; cases q)]
     exact un2.free b o q n hx
   · rw [Xap (nex' b _ (un2.tups b xs q))]
     exact un2.tups b xs q
   · rw [Xap (nex' b _ (un2.frzs b o v q))]
     exact un2.frzs b o v q
   · obtain ⟨more, z⟩ := un2.tbls b ps q
     exact ⟨more, by rw [Xap (nex' b _ z)]; exact z⟩
 obtain ⟨oe, vs, oT, ts, ne, ee, hc, hd, hf, _⟩ := t
 have hok3 : HOk X.prog X.w (upd H' x (ExcO x C od)) h' := fun b v e => by
   by_cases z : b = x
   · subst z
     rw [upd_same] at e
     cases e
     exact ⟨⟨oe, vs, ee, hc, hd, hf⟩, ⟨oe, ee⟩, fun h1 h2 ⟨o1, v1, q1, q2, q3, q4⟩ k => ⟨o1, v1, k o1 q1, q2, q3, q4⟩⟩
   · rw [Xap z] at e
     exact (hok2 b v e).stay (fun _ _ _ q => q) (fun c q => by rw [Xap (nex' c _ q)]; exact q) fun c xs q => by rw [Xap (nex' c _ q)]; exact q
 obtain ⟨hh, gg, dd, tt, oo⟩ := s'
 obtain rfl : oo = s.os := os
 have z := I.call (h' := h') (g' := gg) (d' := dd) (t' := tt) (ch := []) un3 hok3 bare (fun b z => absurd z (by simp))
 exact z
end
end Stow
namespace Stow
open PySem L2 PyProof.Rows
section
variable {X : Cx}
theorem Xfu {M : Model} {A : Around} {E : Value → Shared → Prop} {pins : List (Addr × Obj)} {σ : L2.St} {H : Hp} {s : Shared} {i : Nat} {n : Str} {pos : Pos} {Q : Unit → Shared → Prop} (I : Inv X pins σ H s) (hN : X.N.Nodup) (hi : X.N[i]? = some n)
   (hk : X.env.kindOf n = some .local) (k : ∀ s', Inv X pins (σ.set i none) H s' → Q () s') : wpAny M A (do bindName X.env n .none; unbindBehindTheSuite X.env n pos) Q E s := by
 obtain ⟨m, hn, hl⟩ := id I.loc
 have iσ : i < σ.length := by rw [I.len]; exact (List.getElem?_eq_some_iff.mp hi).1
 refine wpAny_nameGoes_keeps hk hn (by rw [I.ok.kind]; rfl) fun h' v hn' hs => k _ ?_
 have far : ∀ b o, X.s₀.heap.get? b = some o → h'.get? b = s.heap.get? b := fun b o e => hs.2 b (Nat.ne_of_lt (Nat.lt_of_lt_of_le (Heap.lt_size e) I.ok.above))
 refine ⟨I.ok, I.os, I.bare, ⟨fun b o e z hb hx => (far b o e).trans (I.base.keep b o e z hb hx), fun b o e z hb hx => ?_, I.base.free, fun b o e hx => ?_, I.base.tups, I.base.frzs, I.base.tbls⟩, ⟨_, hn', fun j y w' e1 e2 e3 => ?_⟩, fun y c e => ?_, I.free, I.freeC, fun p hp => ?_, fun b ob e => ?_, by rw [List.length_set]; exact I.len⟩
 · obtain ⟨sl, q⟩ := I.base.slot b o e z hb hx
   exact ⟨sl, (far b o e).trans q⟩
 · obtain ⟨o', q⟩ := I.base.there b o e hx
   exact ⟨o', (far b o e).trans q⟩
 · have ji : j ≠ i := fun z => by
     subst z
     rw [List.getElem?_set_self iσ] at e2
     cases e2
   rw [List.getElem?_set_ne (Ne.symm ji)] at e2
   obtain ⟨u', r', q⟩ := hl j y w' e1 e2 e3
   refine ⟨u', r', ?_⟩
   rcases q with ⟨kk, e⟩ | ⟨kk, c, e, z⟩
   · have yn : y ≠ n := fun e => ji (Xjm hN e1 (e ▸ hi))
     exact .inl ⟨kk, by simp [yn, e]⟩
   · exact .inr ⟨kk, c, e, z.sameBut hs (I.cne y c e)⟩
 · obtain ⟨w', z⟩ := I.cell y c e
   exact ⟨w', z.sameBut hs (I.cne y c e)⟩
 · obtain ⟨e, z, ne, nf, d⟩ := I.pin p hp
   exact ⟨(hs.2 p.1 ne).trans e, z, ne, nf, d⟩
 · refine (I.hok b ob e).stay (fun c w' hc q => (hs.2 c ?_).trans q) (fun _ q => q) fun _ _ q => q
   rintro rfl
   rcases hc with hc | hc
   · rw [← hc, I.free] at e
     cases e
   · rw [I.free] at hc
     cases hc
def ECls (K : PySem.W.Frag) (C : Addr) (bm : List Value) : Prop := ∃ (nm qn : Str) (N : Addr) (bs : List Value) (hd : Bool) (sn : List Str) (sub : List Value) (ab : Bool) (col : Option Bool) (dd : Option Addr) (k0 k1 k2 k3 k5 : Option Value) (newId : String),
 K.lookup C = some (excClassObj nm qn C N bs bm hd sn sub ab col dd k0 k1 k2 k3 k5 newId)
variable {k : Nat} {f C0 : Addr} {fd : FuncData} {ps : List Str} {sp : Sp} {fx cx : Str} {p cpos epos np hpos pos : Pos} {e : Expr} {es : List Expr} {ta : TA} {b0 : Stmt} {suite : List Stmt} {ts : Addr → TS}
theorem XLo {pins : List (Addr × Obj)} {σ : L2.St} {H : Hp} {s s' : Shared} {EX : XK} {y : Value} {W : Shared → Prop} (I : Inv X pins σ H s) (hst : X.stack = X.env :: X.outer ∧ X.env.frame = some X.env.locals) (hq : CXe X.prog X.w X.stack H s EX y s')
   (k : ∀ (x C : Addr) (od : Option Addr) (T : Addr) (h2 : Heap) (H2 : Hp), y = .ref x → EX (.ref C) od H2 → Exc h2 x (.ref C) od T .none → Inv X pins σ (upd H2 x (ExcO x C od)) { s' with heap := h2 } →
     (∀ h3, Upto (frs X.stack) [T] h2 h3 → Exc h3 x (.ref C) od T .none → H2 x = none ∧ Inv X pins σ (upd H2 x (ExcO x C od)) { s' with heap := h3 }) → W { s' with heap := h2 }) {E' : Value → Shared → Prop} :
   wpAny (model X.prog X.w) X.A (noteFrame y X.env) (fun _ s2 => wpAny (model X.prog X.w) X.A (setFlight y none) (fun _ s3 => W s3) E' s2) E' s' := by
 obtain ⟨x, C, T, od, H', rfl, os, bare, un, hok, nx, nT, ux, uT, t, q⟩ := hq
 have I' : Inv X pins σ H' s' := by
   obtain ⟨hh, gg, dd, tt, oo⟩ := s'
   obtain rfl : oo = s.os := os
   have z := I.call (h' := hh) (g' := gg) (d' := dd) (t' := tt) (ch := []) un hok bare (fun b z => absurd z (by simp))
   exact z
 have efr : (X.env :: X.outer).filterMap (·.frame) = frs X.stack := by rw [hst.1]; rfl
 refine XNg (base := X.base) (outer := X.outer) (by rw [← hst.1]; exact I'.ok.frames) (by rw [← hst.1]; exact I'.stack) hst.2 t fun h1 T' nT' u1 t1 => ?_
 rw [efr] at u1
 refine Xgs (s := { s' with heap := h1 }) (fr := frs X.stack) t1 fun h2 u2 t2 => ?_
 have new : ∀ b ∈ [T, x] ++ [T'] ++ [T'], s.heap.get? b = none ∧ H' b = none := fun b hb => by
   simp only [List.cons_append, List.nil_append, List.mem_cons, List.not_mem_nil, or_false] at hb
   rcases hb with rfl | rfl | rfl | rfl
   · exact ⟨nT, uT⟩
   · exact ⟨nx, ux⟩
   · exact ⟨Xfp un nT', Xdl hok nT'⟩
   · exact ⟨Xfp un nT', Xdl hok nT'⟩
 refine k x C od T' h2 H' rfl q t2 (Xmq I os bare un hok nx ux (u1.trans u2) rfl (fun b hb => new b (List.mem_append_left _ hb)) t2) fun h3 u3 t3 => ⟨ux, Xmq I os bare un hok nx ux ((u1.trans u2).trans u3) rfl new t3⟩
end
end Stow
namespace Stow
open PySem L2 PyProof.Rows
structure Defx (P : Program) (w : World) (K : PySem.W.Frag) (mg : Str → Option Value) (base : Heap) (x : Str) (k : Nat) (ps : List Str) (sp : Sp) : Prop where
 ex : ∃ (f : Addr) (fd : FuncData), FnOk P w K mg base (CXe P w) k f fd ps sp ∧ mg x = some (.ref f) ∧ PySem.W.keepIn K (.ref f) = true ∧ Xco K fd ps []
section
variable {P : Program} {w : World} {K : PySem.W.Frag} {mg : Str → Option Value} {base : Heap}
theorem Xbi {x qual : Str} {st : Stmt} {f : Addr} {fd : FuncData} {N ps : List Str} {k : Nat} {sp : Sp} (F : Fun K x qual st f fd) (S : FnScope N ps (Xae st)) (len : ∀ vs H Q E, sp vs H Q E → vs.length = ps.length)
   (hbody : ∀ (cdv : Value) (A : Around) (outer : List Env) (s : Shared) (H : Hp) (vs : List V) (Q : VK) (E : XK), Room k (A.deeper (envOfC qual (Xae st) s.heap.objs.size f cdv)) → sp vs H Q E →
     ∃ t, PSs (cxOf (CXe P w) P w K mg base N qual (Xae st) f cdv A outer s H E) (Xaz st) t ∧ t { nx := fun _ H' => Q .non H', rt := Q } (start N vs) H) : FnOk P w K mg base (CXe P w) (k + 1) f fd ps sp := by
 obtain ⟨oc, od, kV, doc, pm, an, cdv, ct, osl, rfl, lk, hcd⟩ := F.ex
 exact Xzh lk hcd S len fun A outer s H vs Q E hr hsp => hbody cdv A outer s H vs Q E hr hsp
theorem Src.okx {x : Str} {st : Stmt} {N ps : List Str} {k : Nat} {sp : Sp} (S : Src K mg x st) (sc : FnScope N ps (Xae st))
   (hb : ∀ (kV doc pm : Value) (an : Option Addr) (cdv ct : Value) (us : List Value), us.length = ps.length → bindArgs (PySem.W.fnOf x x (Xbp st) (Xaz st) (Xae st) .none kV doc pm an cdv ct) ⟨us, []⟩ = pure (ps.zip us))
   (len : ∀ vs H Q E, sp vs H Q E → vs.length = ps.length)
   (hbody : ∀ (f : Addr) (cdv : Value) (A : Around) (outer : List Env) (s : Shared) (H : Hp) (vs : List V) (Q : VK) (E : XK), Room k (A.deeper (envOfC x (Xae st) s.heap.objs.size f cdv)) → sp vs H Q E →
     ∃ t, PSs (cxOf (CXe P w) P w K mg base N x (Xae st) f cdv A outer s H E) (Xaz st) t ∧ t { nx := fun _ H' => Q .non H', rt := Q } (start N vs) H) : Defx P w K mg base x (k + 1) ps sp := by
 obtain ⟨f, fd, F, hm⟩ := S.ex
 exact ⟨f, fd, Xbi F sc len (hbody f), hm, F.kp, F.binds hb⟩
end
section
variable {X : Cx}
theorem Xcg : Xfe (CXe X.prog X.w) X E0 := by
 rintro pins σ H s e s' I ⟨x, C, T, od, H', _, _, _, _, _, _, _, _, _, _, q⟩
 exact q.elim
theorem Xaj {x : Str} {j k : Nat} {ps : List Str} {sp : Sp} {p pos : Pos} {e : Expr} {es : List Expr} {t : TA} (D : Defx X.prog X.w X.K X.mg X.base x j ps sp) (hr : Room k X.A) (hg : Gl X x) (ha : PA X (e :: es) t) (hk : j ≤ k := by decide)
   (hdb : (x == ("__debug__" : Str)) = false := by decide) (he : starEach (e :: es) X.env = (false, eval e X.env) :: starEach es X.env := by rfl) (hpl : (backTo pos (starEach es X.env)).any (·.1) = false := by rfl) :
   PE X (.Call (.Name x p) (e :: es) [] pos) (Xnf sp [] E0 t) := by
 obtain ⟨f, fd, F, hm, kp, b⟩ := D.ex
 exact Xqh F (hr.mono hk) hg hm kp b .nil Xcg ha hdb he hpl
variable {j k : Nat} {C0 : Addr} {ps : List Str} {sp : Sp} {fx cx : Str} {p cpos epos np hpos pos : Pos} {e : Expr} {es : List Expr} {ta : TA} {b0 : Stmt} {suite : List Stmt} {ts : Addr → TS}
end
theorem Lk.of {M : Model} {h : Heap} {α : Type} {m : Sem α} {v : α} (l : PySem.W.Looks M h m v) : Lk M h m v := fun A E g d t os Q q => l A Q E ⟨h, g, d, t, os⟩ (fun _ _ e => e) q
structure XK0 (K : PySem.W.Frag) (C : Addr) : Prop where
 ga : PySem.W.findIn K (.ref C) "__getattribute__" = some (some (.builtin "BaseException.__getattribute__"))
 gat : PySem.W.findIn K (.ref C) "__getattr__" = some none
 cls : PySem.W.findIn K (.ref C) "__class__" = some (some (.builtin "object.__class__"))
 obj : PySem.W.mroIn K C (.type "object") = some true
 exc : PySem.W.mroIn K C (.type "BaseException") = some true
theorem XK0.lk {prog : Program} {w : World} {K : PySem.W.Frag} {C : Addr} {h : Heap} (x : XK0 K C) (KX : K.In h) : XLk prog w h C :=
 ⟨.of (PySem.W.looks_findIn KX x.ga), .of (PySem.W.looks_findIn KX x.gat), .of (PySem.W.looks_findIn KX x.cls), .of (PySem.W.looks_mroIn KX x.obj), .of (PySem.W.looks_mroIn KX x.exc)⟩
theorem Xvl {K : PySem.W.Frag} {x C : Addr} (FB : Slot "ValueError" "__getattribute__" "BaseException.__getattribute__") (Z : XK0 K C) : PySem.W.KitX K (.ref x) (.ref C) (fun h => ∃ ox, h.get? x = some ox ∧ ox.cls = .ref C) where
 ty := fun M h KX ⟨ox, e, hc⟩ A Q E s k q => by
   unfold typeOf
   refine wpAny_bind (wpAny_loadPart (k _ _ e) ?_)
   rw [hc]
   exact wpAny_pure q
 it := fun M h KX _ A Q E s k q => by
   obtain ⟨cd, hcd, _⟩ := Option.bind_eq_some_iff.mp Z.obj
   unfold PySem.W.clsIn at hcd
   split at hcd
   · rename_i lk
     unfold isType loadHead
     exact wpAny_bind (wpAny_loadPart (k _ _ (KX _ _ lk)) (wpAny_pure q))
   · cases hcd
 ne := fun h tp dd its n sl KX htp => by
   obtain ⟨cd, hcd, _⟩ := Option.bind_eq_some_iff.mp Z.obj
   refine Bool.eq_false_iff.mpr fun q => ?_
   have e : C = tp := Value.ref.inj (beq_iff_eq.mp q)
   subst e
   unfold PySem.W.clsIn at hcd
   split at hcd
   · rename_i lk
     have z := (KX _ _ lk).symm.trans htp
     cases z
   · cases hcd
 ca := fun {_ _ _ _ _ s} KX ⟨ox, e, hc⟩ k => by
   obtain ⟨h, g, d, t, os⟩ := s
   exact XBx FB (Z.lk KX) e hc k
def clsV : V → Value
 | .ty n => .type n
 | .ref a => .ref a
 | _ => .none
section
variable {X : Cx}
theorem Xdq (FB : Slot "ValueError" "__getattribute__" "BaseException.__getattribute__") : Xkg X (.builtin "isinstance") (fun xs H Q => ∃ x C od v b, xs = [.ref x, v] ∧ H x = some (ExcO x C od) ∧ XK0 X.K C ∧ clsV v ≠ .none ∧ PySem.W.kitOne X.K (.ref C) (clsV v) = some b ∧ Q (.bl b) H) := by
 intro pins s σ H xs us Q I r h
 obtain ⟨x, C, od, v, b, rfl, hx, Z, nv, e, q⟩ := h
 obtain ⟨u, u', rfl, rx, ry⟩ := XCs r
 cases (show u = Value.ref x from rx)
 have ev : u' = clsV v := by
   cases v with
   | ty n => exact ry
   | ref a => exact ry
   | _ => exact absurd rfl nv
 subst ev
 obtain ⟨⟨oe, vs, ee, hc, _⟩, _⟩ := I.hok x _ hx
 exact PySem.W.kia_one (Xvl FB Z) I.kIn ⟨oe, ee, hc⟩ e (fun z => nomatch z) fun tk => ⟨.bl b, H, I.tok tk, rfl, q⟩
end
end Stow
namespace Stow
open PySem L2 PyProof.Rows
open PySem.W in
theorem Xlo (self : Value) : refuseLoop self "__setattr__" [.type "ValueError", .type "Exception", .type "BaseException", .type "object"] = pure () := by kernel_rfl
def Xhq : List Value → Bool
 | .ref _ :: r => Xhq r
 | l => l == [.type "ValueError", .type "Exception", .type "BaseException", .type "object"]
open PySem.W in
theorem Xhk (self : Value) : ∀ {l : List Value}, Xhq l = true → refuseLoop self "__setattr__" l = pure ()
 | .ref c :: r, e => by rw [refuseLoop_ref]; exact Xhk self e
 | [], e => by cases e
 | .none :: r, e => by cases e
 | .type n :: r, e => by
   have e' : (Value.type n :: r) = [.type "ValueError", .type "Exception", .type "BaseException", .type "object"] := beq_iff_eq.mp e
   rw [e']
   exact Xlo self
 | .ellipsis :: r, e => by cases e
 | .notImplemented :: r, e => by cases e
 | .bool b :: r, e => by cases e
 | .int i t :: r, e => by cases e
 | .float i t :: r, e => by cases e
 | .str i t :: r, e => by cases e
 | .bytes i t :: r, e => by cases e
 | .builtin i :: r, e => by cases e
section
variable {prog : Program} {w : World} {A : Around} {K : PySem.W.Frag} {x C : Addr} {s : Shared}
open PySem.W in
theorem Xwa {E : Value → Shared → Prop} {ox : Obj} {vs : Array Value} {name : Str} {v : Value} {cd : ClassData} {Q : Unit → Shared → Prop} (X : K.In s.heap) (hx : s.heap.get? x = some ox) (hcl : ox.cls = .ref C) (hdi : ox.dict = none) (hda : ox.data = .fields vs)
   (hs : findIn K (.ref C) "__setattr__" = some (some (.builtin "object.__setattr__"))) (hc : clsIn K C = some cd) (ho : Xhq cd.mro = true) (hm : mroIn K C (.type "object") = some true) (hd : cd.hasDict = true) (ht : findIn K (.ref C) name = some none)
   (h : ∀ h' dx, s.heap.get? dx = none → dx ≠ x → h'.get? x = some { ox with dict := some dx } → h'.Ns1 dx (fun y => if y = name then some v else none) → (∀ b o, b ≠ x → s.heap.get? b = some o → h'.get? b = some o) → Q () { s with heap := h', toks := s.toks + 2 }) :
   wpAny (model prog w) A (setAttr (.ref x) name v) Q E s := by
 have I : InstAt s.heap x ox C none := ⟨hx, hcl, by unfold notCls; rw [hda], by rw [hdi]; trivial⟩
 refine set_plain X I hs ?_
 have SF := PySem.F.store_object
 have sub : Looks (model prog w) s.heap (isInstance (.ref x) (.type "object")) true := I.type.andThen (looks_mroIn X hm)
 refine codeAny_call_builtin SF.slot.plain SF.entry (@check_slot (model prog w) _ _ { s with toks := s.toks + 1 } "object.__setattr__" "object" "__setattr__" (.ref x) [.str name s.toks, v] [] _ SF.kind SF.split sub (SF.args (.ref x) (.str name s.toks) v) ?_)
 have mro : Looks (model prog w) s.heap (mroOf (.ref C)) cd.mro := (looks_clsIn X hc).andThen .now
 rw [osa_eq, refuse_eq]
 refine wpAny_bind (wpAny_bind (Looks.here (s := { s with toks := s.toks + 1 }) I.type (wpAny_bind (Looks.here (s := { s with toks := s.toks + 1 }) mro ?_))))
 rw [Xhk _ ho]
 refine wpAny_pure (wpAny_bind (Looks.here (s := { s with toks := s.toks + 1 }) I.type (wpAny_bind (Looks.here (s := { s with toks := s.toks + 1 }) (looks_findIn X ht) (wpAny_bind (wpAny_pure ?_))))))
 show wpAny _ _ (Builtin.ObjectAttr.storeInOwnDict (.ref x) (.ref C) _ name v _) _ _ _
 unfold Builtin.ObjectAttr.storeInOwnDict
 obtain ⟨c0, d0, dt0, sl0⟩ := ox
 dsimp only at hcl hdi hda
 subst hcl hdi hda
 refine wpAny_bind (wpAny_pure (wpAny_bind (wpAny_bind (wpAny_loadPart hx (wpAny_bind (Looks.here (s := { s with toks := s.toks + 1 }) (looks_clsIn X hc) ?_))))))
 rw [hd]
 show wpAny (model prog w) A.in1 (do
   let d ← alloc { cls := Value.type "dict", data := Data.dict #[] }
   update x fun o => { o with dict := some d }
   dictMade (.ref C) x d) _ _ _
 refine wpAny_bind (wpAny_alloc ?_)
 refine wpAny_bind (wpAny_update (Heap.get?_push_of_some _ hx) ?_)
 refine wpAny_pure (a := some s.heap.objs.size) (wpAny_bind (wpAny_pure (wpAny_bind ?_)))
 have ne : s.heap.objs.size ≠ x := Nat.ne_of_gt (Heap.lt_size hx)
 have n0 : ((s.heap.push { cls := .type "dict", data := .dict #[] }).update x fun o => { o with dict := some s.heap.objs.size }).Ns1 s.heap.objs.size (fun _ => none) := by
   have e1 : (s.heap.push { cls := .type "dict", data := .dict #[] }).get? s.heap.objs.size = some { cls := .type "dict", data := .dict #[] } := Heap.get?_push_size s.heap rfl
   have e3 : (s.heap.push { cls := .type "dict", data := .dict #[] }).Ns s.heap.objs.size (fun _ => none) := ⟨_, #[], _, e1, rfl, (fun e he => absurd he (by simp)), fun _ => rfl⟩
   exact (Heap.Ns1.of_empty e3).at fun o q => by rw [Heap.get?_update_other _ _ (fun z => ne z.symm)]; exact q
 refine wpAny_nsSet1 n0 fun h' hn2 hs2 => ?_
 obtain ⟨oD, esD, epD, hoD, hdD, hcD⟩ := hn2.count (PySem.Within.cons name v (ns := []) (fun y hy => absurd rfl hy))
 refine wpAny_bind (wpAny_lookBehind hoD (by rw [hdD]; exact pastItsLine_dict (Nat.le_trans hcD (by show 1 ≤ sizeLine + 1; exact Nat.le_add_left 1 _))) ?_)
 refine wpAny_pure (h _ s.heap.objs.size (Heap.get?_none_of_le (Nat.le_refl _)) ne ?_ hn2 fun b o nb q => ?_)
 · rw [hs2.2 x (fun z => ne z.symm)]
   exact Heap.get?_update_self _ (Heap.get?_push_of_some _ hx) rfl
 · rw [hs2.2 b (Nat.ne_of_lt (Heap.lt_size q))]
   show ((s.heap.push _).update x _).get? b = some o
   rw [Heap.get?_update_other _ _ (fun z => nb z.symm)]
   exact Heap.get?_push_of_some _ q
end
end Stow
namespace Stow
open PySem
open Sem (wp)
section
variable {prog : Program} {w : World} {A : Around} {E : Value → Shared → Prop} {h : Heap} {g : Array GenState} {d : Drawn} {t : Nat} {os : OsState} {a C : Addr} {o : Obj} {name : Str} {v : Value}
end
end Stow
namespace Stow
open PySem L2 PyProof.Rows
structure XSet (K : PySem.W.Frag) (C : Addr) (f : Str) : Prop where
 sa : PySem.W.findIn K (.ref C) "__setattr__" = some (some (.builtin "object.__setattr__"))
 cd : ∃ cd, PySem.W.clsIn K C = some cd ∧ Xhq cd.mro = true ∧ cd.hasDict = true
 ob : PySem.W.mroIn K C (.type "object") = some true
 no : PySem.W.findIn K (.ref C) f = some none
def ExcN (x C : Addr) (od : Option Addr) : HO := .ext fun h => ∃ tt, h.get? x = some { cls := .ref C, dict := od, data := .fields #[.ref tt, .none, .none, .none, .bool false, .none] }
def XQz (K : PySem.W.Frag) (ta tv : TE) (f : Str) : TS := fun D σ H => tv σ H fun y H1 => ta σ H1 fun x H2 => ∃ a C, x = .ref a ∧ H2 a = some (ExcN a C none) ∧ XSet K C f ∧ ∀ dx, H2 dx = none → D.nx σ (upd (upd H2 dx (.xd [(f, y)])) a (ExcN a C (some dx)))
section
variable {X : Cx} {o e value : Expr} {f : Str} {pos pos' : Pos} {ta tv : TE}
theorem XDf (ha : PE X o ta) (hv : PE X value tv) (hs : swapsWith value (some (.Attribute o f pos')) pos.line X.env = pure false := by rfl) : PS X (.Assign [.Attribute o f pos'] value pos) (XQz X.K ta tv f) := by
 intro pins s σ H D I h
 refine plainObj_wpAny_Assign_Attribute (thn (hv pins s σ H _ I h) fun u s1 ⟨y, H1, I1, ry, q⟩ => thn (ha pins s1 σ H1 _ I1 q) fun ov s2 ⟨x, H2, I2, rx, a, C, ex, ea, Z, q2⟩ => ?_) hs
 subst ex
 obtain rfl : ov = Value.ref a := rx
 obtain ⟨⟨tt, ee⟩, _⟩ := I2.hok a _ ea
 obtain ⟨cd, hcd, ht, hdi⟩ := Z.cd
 refine Xwa I2.kIn ee rfl rfl rfl Z.sa hcd ht Z.ob hdi Z.no fun h' dx nd ne e' n' kp => ?_
 have ud : H2 dx = none := Xdl I2.hok nd
 have nda : a ≠ dx := fun z => ne z.symm
 refine ⟨σ, _, ?_, q2 dx ud⟩
 -- the dict is laid, the exception bears it
 have un : Un X.fs [] H2 (upd (upd H2 dx (.xd [(f, y)])) a (ExcN a C (some dx))) s2.heap h' := by
   refine ⟨fun b ob qb n _ _ => kp b ob (fun z => by rw [z, ea] at n; cases n) qb, fun b ob qb n _ _ => ⟨ob.slots, kp b ob (fun z => by rw [z, ea] at n; cases n) qb⟩, fun b ob qb n _ => ?_, fun b ob qb _ => ?_, fun b xs qb => ?_, fun b ob v' qb => ?_, fun b ps qb => ?_⟩
   · rw [Xap (fun z => by rw [z, ea] at n; cases n), Xap (fun z => by rw [z, nd] at qb; cases qb)]
     exact n
   · by_cases z : b = a
     · subst z
       exact ⟨_, e'⟩
     · exact ⟨ob, kp b ob z qb⟩
   · rw [Xap (fun z => by rw [z, ea] at qb; cases qb), Xap (Xan qb ud)]
     exact qb
   · rw [Xap (fun z => by rw [z, ea] at qb; cases qb), Xap (Xan qb ud)]
     exact qb
   · exact ⟨#[], by rw [Xap (fun z => by rw [z, ea] at qb; cases qb), Xap (Xan qb ud), qb]; simp⟩
 have hok : HOk X.prog X.w (upd (upd H2 dx (.xd [(f, y)])) a (ExcN a C (some dx))) h' := fun b v' qb => by
   by_cases z : b = a
   · subst z
     rw [upd_same] at qb
     cases qb
     exact ⟨⟨tt, e'⟩, ⟨_, e'⟩, fun h1 h2 ⟨t1, q1⟩ k => ⟨t1, k _ q1⟩⟩
   · rw [Xap z] at qb
     by_cases z2 : b = dx
     · subst z2
       rw [upd_same] at qb
       cases qb
       refine ⟨_, n', fun g => ?_⟩
       show RelO (List.lookup g [(f, y)]) (if g = f then some u else none)
       by_cases zg : g = f
       · subst zg
         rw [if_pos rfl, List.lookup_cons_self]
         exact ry
       · rw [if_neg zg, List.lookup_cons, show (g == f) = false from beq_false_of_ne zg]
         trivial
     · rw [Xap z2] at qb
       refine (I2.hok b v' qb).stay (fun c w' hcw q => kp c w' (fun y' => ?_) q) (fun c q => ?_) fun c xs q => ?_
       · subst y'
         rcases hcw with r | r
         · exact z r.symm
         · rw [ea] at r
           cases r
       · rw [Xap (fun z => by rw [z, ea] at q; cases q), Xap (Xan q ud)]
         exact q
       · rw [Xap (fun z => by rw [z, ea] at q; cases q), Xap (Xan q ud)]
         exact q
 exact I2.un un hok
end
end Stow
namespace Stow
open PySem
open Sem (wp)
section
variable {prog : Program} {w : World} {A : Around} {E : Value → Shared → Prop} {h : Heap} {g : Array GenState} {d : Drawn} {t : Nat} {os : OsState}
variable {nm q : Str} {C N : Addr} {bs bm bmB : List Value} {hdct : Bool} {sn : List Str} {sub : List Value} {ab : Bool} {col : Option Bool} {dd : Option Addr} {k0 k1 k2 k3 k5 : Option Value} {B newId initId : String}
theorem Xqa (FB : ExcBaseFacts B newId initId bmB) (TL : OwnTail h bmB bm) {args : List Value} {fI : Addr} {oI : Obj} {Q : Fin → Shared → Prop} (hC : h.get? C = some (excClassObj nm q C N bs bm hdct sn sub ab col dd k0 k1 k2 k3 k5 newId))
   (LI : PySem.W.Looks (model prog w) h (typeLookup (.ref C) "__init__") (some (.ref fI))) (hfI : h.get? fI = some oI) (hfc : oI.cls = .type "function")
   (k : ∀ h' e, Heap.MadeExcOf h h' e (.ref C) args → wpAny (model prog w) A (call (.ref fI) (.ref e :: args)) (fun r s' => r = .none ∧ Q (.done (.ret (.ref e))) s') E ⟨h', g, d, t, os⟩) (hz : args.length ≤ sizeLine) :
   wpAny (model prog w) A (Builtin.«type.__call__» ⟨.ref C :: args, []⟩) Q E ⟨h, g, d, t, os⟩ := by
 repeat (first
   | with_reducible refine wpAny_loadPart_at hC ?_
   | with_reducible refine wpAny_madeBy_exc hC ?_
   | wp_step)
 refine codeAny_call_builtin_code (Code.quiet_builtin _ FB.quiet) (wpAny_check_new_subT FB TL hC (codeAny_exc_new_subT FB TL hC ?_ hz))
 show wpAny _ _ _ _ _ _
 have kp : ∀ b o, h.get? b = some o → ((h.push { cls := .type "tuple", data := .seq args.toArray }).push { cls := .ref C, data := .fields #[.ref h.objs.size, .none, .none, .none, .bool false, .none] }).get? b = some o :=
   fun b o z => Heap.get?_push_of_some _ (Heap.get?_push_of_some _ z)
 have gC := kp _ _ hC
 have gE : ((h.push { cls := .type "tuple", data := .seq args.toArray }).push { cls := .ref C, data := .fields #[.ref h.objs.size, .none, .none, .none, .bool false, .none] }).get? (h.objs.size + 1)
     = some { cls := .ref C, data := .fields #[.ref h.objs.size, .none, .none, .none, .bool false, .none] } := by heap_get
 have cC : (Value.ref C :: bm).contains (.ref C) = true := by simp
 unfold isInstance
 repeat (first
   | with_reducible refine wpAny_loadPart_at gE ?_
   | (with_reducible refine wpAny_isSubtype_exc gC ?_; rw [cC])
   | wp_step)
 show wpAny _ _ (typeLookup (.ref C) _) _ _ _
 refine LI _ _ _ _ kp ?_
 refine wpAny_holding (wpAny_bind ?_)
 unfold bindSpecial
 refine wpAny_bind (wpAny_typeOf (T := "function") ⟨_, kp _ _ hfI, hfc⟩ ?_)
 rw [if_pos (by decide)]
 refine wpAny_pure (wpAny_bind (wpAny_mono (k _ (h.objs.size + 1) ⟨kp, Heap.get?_none_of_le (Nat.le_succ _), h.objs.size, gE, Heap.get?_none_of_le (Nat.le_refl _), ?_⟩) (fun r s' hr => ?_) fun _ _ z => z))
 · exact Heap.get?_push_of_some _ (Heap.get?_push_at rfl rfl)
 · obtain ⟨rfl, z⟩ := hr
   wp_walk
   exact z
theorem Xrm (FB : ExcBaseFacts B newId initId bmB) (TL : OwnTail h bmB bm) {args : List Value} {fI : Addr} {oI : Obj} {Q : Value → Shared → Prop} (hC : h.get? C = some (excClassObj nm q C N bs bm hdct sn sub ab col dd k0 k1 k2 k3 k5 newId))
   (LI : PySem.W.Looks (model prog w) h (typeLookup (.ref C) "__init__") (some (.ref fI))) (hfI : h.get? fI = some oI) (hfc : oI.cls = .type "function")
   (k : ∀ h' e, Heap.MadeExcOf h h' e (.ref C) args → wpAny (model prog w) (A.under (.builtin "type.__call__" ⟨.ref C :: args, []⟩)) (call (.ref fI) (.ref e :: args)) (fun r s' => r = .none ∧ Q (.ref e) s') E ⟨h', g, d, t, os⟩) (hz : args.length ≤ sizeLine) :
   wpAny (model prog w) A (call (.ref C) args) Q E ⟨h, g, d, t, os⟩ := by
 have y1 := tc_lookup
 have y2 := tc_bind (.ref C)
 have y3 : (⟨h, g, d, t, os⟩ : Shared).TypeIs (.ref C) "type" := ⟨_, hC, rfl⟩
 refine wpAny_call (codeAny_of_tree ?_)
 show wpAny _ _ (callAny (.ref C) _) _ _ _
 repeat (any_goals (first
   | assumption
   | with_reducible refine wpAny_loadPart_at hC ?_
   | wp_step))
 refine ⟨rfl, codeAny_call_builtin_at (Code.quiet_builtin _ (by decide +kernel)) entry_typeCall (wpAny_check_type_call_sub hC (Xqa FB TL hC LI hfI hfc (fun h' e hm => ?_) hz))⟩
 exact k h' e hm
theorem Xoo {M : Model} {env : Env} {s : Shared} {x : Sem Value} {Q : Flow → Shared → Prop} (hbase : bm.contains (.type "BaseException") = true) (hh : A.handled = none)
   (k : wpAny M A x (fun v s1 => ∃ e od tt, v = .ref e ∧ s1.heap.get? C = some (excClassObj nm q C N bs bm hdct sn sub ab col dd k0 k1 k2 k3 k5 newId) ∧ s1.heap.get? e = some { cls := .ref C, dict := od, data := .fields #[.ref tt, .none, .none, .none, .bool false, .none] } ∧ E (.ref e) s1) E s) :
   wpAny M A (raiseStmt env (some x) none) Q E s := by
 have cB : (Value.ref C :: bm).contains (.type "BaseException") = true := by rw [List.contains_cons, hbase, Bool.or_true]
 unfold raiseStmt
 refine wpAny_bind (wpAny_mono k (fun v s1 k1 => ?_) fun _ _ z => z)
 obtain ⟨e, od, tt, rfl, hC, he, z⟩ := k1
 obtain ⟨hp, gg, d1, tk, os1⟩ := s1
 repeat (first
   | with_reducible refine wpAny_loadPart_at he ?_
   | with_reducible refine wpAny_loadPart_at hC ?_
   | (with_reducible refine wpAny_isSubtype_exc hC ?_; rw [cB])
   | wp_step)
 exact wpAny_raiseNew_none hh z
end
end Stow
namespace Stow
open PySem L2 PyProof.Rows
structure XIni (K : PySem.W.Frag) (mg : Str → Option Value) (x : Str) (C C0 fI : Addr) : Prop where
 bound : mg x = some (.ref C)
 lk : ∃ (nm qn : Str) (N : Addr) (bs : List Value) (hd : Bool) (sn : List Str) (sub : List Value) (ab : Bool) (col : Option Bool) (dd : Option Addr) (k0 k1 k2 k3 k5 : Option Value),
   K.lookup C = some (excClassObj nm qn C N bs (.ref C0 :: [.type "ValueError", .type "Exception", .type "BaseException", .type "object"]) hd sn sub ab col dd k0 k1 k2 k3 k5 "ValueError.__new__")
 base : PySem.W.excIn K C0 [.type "ValueError", .type "Exception", .type "BaseException", .type "object"] "ValueError.__new__" = true
 ini : PySem.W.findIn K (.ref C) "__init__" = some (some (.ref fI))
 keep : PySem.W.keepIn K (.ref C) = true
 fn : ∃ (c : Value) (dd : Option Addr) (da : Data) (sl : Array (Option Value)), K.lookup fI = some ⟨c, dd, da, sl⟩ ∧ c = .type "function"
def del (H : Hp) (x : Addr) : Hp := fun b => if b = x then none else H b
theorem Xgz {H : Hp} {x : Addr} : del H x x = none := by unfold del; rw [if_pos rfl]
theorem Xgk {H : Hp} {x b : Addr} (h : b ≠ x) : del H x b = H b := by unfold del; rw [if_neg h]
theorem XBy {X : Cx} {pins : List (Addr × Obj)} {σ : L2.St} {H : Hp} {s : Shared} {x : Addr} {φ : Heap → Prop} (I : Inv X pins σ H s) (e : H x = some (.ext φ)) : Inv X pins σ (del H x) s := by
 have nx : ∀ b v, H b = some v → v ≠ .ext φ → b ≠ x := fun b v q n z => by
   subst z
   rw [e] at q
   exact n (Option.some.inj q).symm
 have un : Un X.fs [] H (del H x) s.heap s.heap := by
   refine ⟨fun b o q _ _ _ => q, fun b o q _ _ _ => ⟨o.slots, q⟩, fun b o q n _ => ?_, fun b o q _ => ⟨o, q⟩, fun b xs q => ?_, fun b o v q => ?_, fun b ps q => ⟨#[], ?_⟩⟩
   · by_cases z : b = x
     · rw [z]
       exact Xgz
     · rw [Xgk z]
       exact n
   · rw [Xgk (nx b _ q (by intro z; cases z))]
     exact q
   · rw [Xgk (nx b _ q (by intro z; cases z))]
     exact q
   · rw [Xgk (nx b _ q (by intro z; cases z)), q]
     simp
 have hok : HOk X.prog X.w (del H x) s.heap := fun b v q => by
   by_cases z : b = x
   · rw [z, Xgz] at q
     cases q
   · rw [Xgk z] at q
     refine (I.hok b v q).stay (fun _ _ _ z => z) (fun c q' => ?_) fun c xs q' => ?_
     · rw [Xgk (nx c _ q' (by intro z; cases z))]
       exact q'
     · rw [Xgk (nx c _ q' (by intro z; cases z))]
       exact q'
 exact I.un (h' := s.heap) (t' := s.toks) un hok
theorem Xze {X : Cx} {pins : List (Addr × Obj)} {σ : L2.St} {H : Hp} {s : Shared} {h' : Heap} {x C tt : Addr} (I : Inv X pins σ H s) (nx : s.heap.get? x = none) (kp : ∀ b o, s.heap.get? b = some o → h'.get? b = some o)
   (e : h'.get? x = some { cls := .ref C, data := .fields #[.ref tt, .none, .none, .none, .bool false, .none] }) : Inv X pins σ (upd H x (ExcN x C none)) { s with heap := h' } := by
 have ux : H x = none := Xdl I.hok nx
 have un : Un X.fs [] H (upd H x (ExcN x C none)) s.heap h' := by
   refine ⟨fun b o q _ _ _ => kp b o q, fun b o q _ _ _ => ⟨o.slots, kp b o q⟩, fun b o q n _ => ?_, fun b o q _ => ⟨o, kp b o q⟩, fun b xs q => ?_, fun b o v q => ?_, fun b ps q => ⟨#[], ?_⟩⟩
   · rw [Xap (fun z => by rw [z, nx] at q; cases q)]
     exact n
   · rw [Xap (Xan q ux)]
     exact q
   · rw [Xap (Xan q ux)]
     exact q
   · rw [Xap (Xan q ux), q]
     simp
 have hok : HOk X.prog X.w (upd H x (ExcN x C none)) h' := fun b v q => by
   by_cases z : b = x
   · subst z
     rw [upd_same] at q
     cases q
     exact ⟨⟨tt, e⟩, ⟨_, e⟩, fun h1 h2 ⟨t1, q1⟩ k => ⟨t1, k _ q1⟩⟩
   · rw [Xap z] at q
     refine (I.hok b v q).stay (fun c w' _ q' => kp c w' q') (fun c q' => ?_) fun c xs q' => ?_
     · rw [Xap (Xan q' ux)]
       exact q'
     · rw [Xap (Xan q' ux)]
       exact q'
 exact I.un (t' := s.toks) un hok
theorem Xvw {X : Cx} {x : Str} {C C0 fI : Addr} {fd : FuncData} {ps : List Str} {sp : Sp} {j : Nat} {pins : List (Addr × Obj)} {σ : L2.St} {H : Hp} {s : Shared} {Q : VK} {us : List Value} {vs : List V} (XI : XIni X.K X.mg x C C0 fI) (F : FnOk X.prog X.w X.K X.mg X.base (CXe X.prog X.w) j fI fd ps sp)
   (hr : Room (j + 1) X.A) (hb : Xco X.K fd ps []) (I : Inv X pins σ H s) (r : Vals vs us) (hz : vs.length ≤ 1000) (h : ∀ y, H y = none → sp (.ref y :: vs) (upd H y (ExcN y C none)) (fun v H2 => v = .non ∧ Q (.ref y) H2) E0) :
   wpAny (model X.prog X.w) X.A (call (.ref C) us) (fun u s' => EP X pins σ Q u s' ∧ ∃ y, u = .ref y ∧ s.heap.get? y = none) X.xe s := by
 obtain ⟨nm, qn, NN, bs, hd, sn, sub, ab, col, dd, k0, k1, k2, k3, k5, lkC⟩ := XI.lk
 obtain ⟨bm, N0, nm0, qn0, bs0, hd0, sn0, sub0, ab0, col0, dd0, j0, j1, j2, j3, j5, mN0, hC0, hN0, noI, tl, _⟩ := Xrl I.kIn XI.base
 have FB := PySem.F.excBase_ValueError
 have TL : OwnTail s.heap [.type "ValueError", .type "Exception", .type "BaseException", .type "object"] (.ref C0 :: [.type "ValueError", .type "Exception", .type "BaseException", .type "object"]) := .own hC0 hN0 noI .base
 obtain ⟨cI, dI, daI, slI, lkI, ecI⟩ := XI.fn
 have gC := I.kIn _ _ lkC
 have gI := I.kIn _ _ lkI
 have LI := PySem.W.looks_findIn (M := model X.prog X.w) I.kIn XI.ini
 obtain ⟨hp, gg, d1, tk, os1⟩ := s
 refine Xrm FB TL gC LI gI ecI (fun h' y hm => ?_) (by rw [← r.length]; exact Nat.le_of_lt (small1000 hz))
 obtain ⟨tt, ey, _, _⟩ := hm.there
 have I2 := Xze I hm.new hm.keeps ey
 have uy : H y = none := Xdl I.hok hm.new
 have hq := h y uy
 have r2 : Vals (V.ref y :: vs) (Value.ref y :: us) := .cons rfl r
 have hl : ((Value.ref y :: us) ++ []).length = ps.length := by
   rw [List.append_nil, ← F.len _ _ _ _ hq]
   exact r2.length.symm
 have bd := hb _ (Value.ref y :: us) I2.kIn hl
 rw [List.append_nil] at bd
 refine wpAny_call (codeAny_mono (F.run _ X.stack _ _ ⟨Value.ref y :: us, []⟩ (Value.ref y :: us) _ _ E0 (hr.make C us []) (I2.env0.make C us []) bd r2 hq) fun rs s' hq' => ?_)
 cases rs with
 | error e => obtain ⟨_, _, _, _, _, _, _, _, _, _, _, _, _, _, _, z⟩ := hq'; exact z.elim
 | ok fl =>
   cases fl with
   | ret u =>
     obtain ⟨v, H', I3, rv, ev, q3⟩ := I2.after hq'
     subst ev
     exact ⟨rv, ⟨V.ref y, H', I3, rfl, q3⟩, y, rfl, hm.new⟩
   | next => exact False.elim hq'
   | brk => exact False.elim hq'
   | cont => exact False.elim hq'
def Xlb (C : Addr) (sp : Sp) (E : XK) (t : TA) : TS := fun _ σ H => t σ H fun vs H1 => vs.length ≤ 1000 ∧ ∀ y, H1 y = none → sp (.ref y :: vs) (upd H1 y (ExcN y C none)) (fun v H2 => v = .non ∧ ∃ z, V.ref y = V.ref z ∧ ∃ od, H2 z = some (ExcN z C od) ∧ E (.ref C) od (del H2 z)) E0
section
variable {P : Program} {w : World} {K : PySem.W.Frag} {mg : Str → Option Value} {base : Heap} {N : List Str} {qual : Str} {scope : Scope} {f : Addr} {cd : Value} {A : Around} {outer : List Env} {s₀ : Shared} {H₀ : Hp} {EX : XK}
theorem Xpj {x : Str} {C C0 fI : Addr} {fd : FuncData} {ps : List Str} {sp : Sp} {j k : Nat} {np cpos pos : Pos} {e : Expr} {es : List Expr} {t : TA} (XI : XIni K mg x C C0 fI) (F : FnOk P w K mg base (CXe P w) j fI fd ps sp) (hb : Xco K fd ps [])
   (hr : Room k (cxOf (CXe P w) P w K mg base N qual scope f cd A outer s₀ H₀ EX).A)
   (hg : Gl (cxOf (CXe P w) P w K mg base N qual scope f cd A outer s₀ H₀ EX) x) (ha : PA (cxOf (CXe P w) P w K mg base N qual scope f cd A outer s₀ H₀ EX) (e :: es) t) (hj : j + 1 ≤ k := by decide)
   (hdb : (x == ("__debug__" : Str)) = false := by decide) (he : starEach (e :: es) (cxOf (CXe P w) P w K mg base N qual scope f cd A outer s₀ H₀ EX).env = (false, eval e (cxOf (CXe P w) P w K mg base N qual scope f cd A outer s₀ H₀ EX).env) :: starEach es (cxOf (CXe P w) P w K mg base N qual scope f cd A outer s₀ H₀ EX).env := by rfl)
   (hpl : (backTo cpos (starEach es (cxOf (CXe P w) P w K mg base N qual scope f cd A outer s₀ H₀ EX).env)).any (·.1) = false := by rfl) :
   PS (cxOf (CXe P w) P w K mg base N qual scope f cd A outer s₀ H₀ EX) (.Raise (some (.Call (.Name x np) (e :: es) [] cpos)) none pos) (Xlb C sp EX t) := by
 intro pins s σ H D I h
 obtain ⟨nm, qn, NN, bs, hd, sn, sub, ab, col, dd, k0, k1, k2, k3, k5, lkC⟩ := id XI.lk
 have hB : (Value.ref C0 :: [.type "ValueError", .type "Exception", .type "BaseException", .type "object"] : List Value).contains (.type "BaseException") = true := by
   rw [List.contains_cons, PySem.F.excBase_ValueError.hasBase, Bool.or_true]
 rw [arm_exec_Raise]
 refine wpAny_bind (wpAny_standAt (Xoo (C := C) (nm := nm) (q := qn) (N := NN) (bs := bs) (bm := .ref C0 :: [.type "ValueError", .type "Exception", .type "BaseException", .type "object"]) (hdct := hd) (sn := sn) (sub := sub) (ab := ab) (col := col) (dd := dd) (k0 := k0) (k1 := k1) (k2 := k2) (k3 := k3) (k5 := k5) (newId := "ValueError.__new__") hB hr.hd ?_))
 refine wpAny_bind (wpAny_mono ?_ (fun v s1 hv => wpAny_bind (wpAny_standAt (wpAny_pure hv))) (fun _ _ z => z))
 refine wpAny_Call_Name_kw (Xdo I hg XI.bound ?_ hdb)
 refine PySem.W.callWith_K (h₀ := base) I.ok.mod.kin XI.keep (thn (ha cpos pins s σ H _ I h) fun us s1 ⟨vs, H1, I1, r, hz, q⟩ => ⟨I1.kIn, ?_⟩) he hpl
 refine thn (Xvw XI F (hr.mono hj) hb I1 r hz (Q := fun u H2 => ∃ z, u = .ref z ∧ ∃ od, H2 z = some (ExcN z C od) ∧ EX (.ref C) od (del H2 z)) (fun y hy => q y hy)) fun u s2 ⟨⟨v, H2, I2, rv, y, ev, od, ey, qe⟩, y', eu, ny⟩ => ?_
 · subst ev
   obtain rfl : u = Value.ref y := rv
   cases eu
   obtain ⟨⟨tt, g1⟩, _⟩ := I2.hok y _ ey
   refine ⟨y, od, tt, rfl, I2.kIn _ _ lkC, g1, ?_⟩
   exact Xot (XBy I2 ey) ⟨_, _, g1, rfl, rfl, rfl, rfl⟩ (Xfp (show Un (frs outer) [] H₀ H1 s₀.heap s1.heap from I1.base) ny) Xgz qe
end
end Stow
set_option Elab.async false
set_option linter.all false
set_option maxRecDepth 100000
set_option maxHeartbeats 4000000
namespace Stow
open PySem L2 PyProof.Rows
structure DefI (P : Program) (w : World) (K : PySem.W.Frag) (mg : Str → Option Value) (base : Heap) (x : Str) (C C0 : Addr) (j : Nat) (ps : List Str) (sp : Sp) : Prop where
 ex : ∃ (fI : Addr) (fd : FuncData), XIni K mg x C C0 fI ∧ FnOk P w K mg base (CXe P w) j fI fd ps sp ∧ Xco K fd ps []
def Xqu (C : Addr) (f : Str) : Sp := fun vs H Q _ => ∃ (y : Addr) (v : V), vs = [.ref y, v] ∧ H y = some (ExcN y C none) ∧ ∀ dx, H dx = none → Q .non (upd (upd H dx (.xd [(f, v)])) y (ExcN y C (some dx)))
section
variable {P : Program} {w : World} {K : PySem.W.Frag} {mg : Str → Option Value} {base : Heap} {N : List Str} {qual : Str} {scope : Scope} {f : Addr} {cd : Value} {A : Around} {outer : List Env} {s₀ : Shared} {H₀ : Hp} {EX : XK}
theorem Xrr {x : Str} {C C0 : Addr} {ps : List Str} {sp : Sp} {j k : Nat} {np cpos pos : Pos} {e : Expr} {es : List Expr} {t : TA} (D : DefI P w K mg base x C C0 j ps sp)
   (hr : Room k (cxOf (CXe P w) P w K mg base N qual scope f cd A outer s₀ H₀ EX).A)
   (hg : Gl (cxOf (CXe P w) P w K mg base N qual scope f cd A outer s₀ H₀ EX) x) (ha : PA (cxOf (CXe P w) P w K mg base N qual scope f cd A outer s₀ H₀ EX) (e :: es) t) (hj : j + 1 ≤ k := by decide)
   (hdb : (x == ("__debug__" : Str)) = false := by decide) (he : starEach (e :: es) (cxOf (CXe P w) P w K mg base N qual scope f cd A outer s₀ H₀ EX).env = (false, eval e (cxOf (CXe P w) P w K mg base N qual scope f cd A outer s₀ H₀ EX).env) :: starEach es (cxOf (CXe P w) P w K mg base N qual scope f cd A outer s₀ H₀ EX).env := by rfl)
   (hpl : (backTo cpos (starEach es (cxOf (CXe P w) P w K mg base N qual scope f cd A outer s₀ H₀ EX).env)).any (·.1) = false := by rfl) :
   PS (cxOf (CXe P w) P w K mg base N qual scope f cd A outer s₀ H₀ EX) (.Raise (some (.Call (.Name x np) (e :: es) [] cpos)) none pos) (Xlb C sp EX t) := by
 obtain ⟨fI, fd, XI, F, hb⟩ := D.ex
 exact Xpj XI F hb hr hg ha hj hdb he hpl
theorem Xce {x : Str} {j k : Nat} {ps : List Str} {sp : Sp} {p pos : Pos} {e : Expr} {es : List Expr} {t : TA} (D : Defx P w K mg base x j ps sp) (hr : Room k (cxOf (CXe P w) P w K mg base N qual scope f cd A outer s₀ H₀ EX).A)
   (hg : Gl (cxOf (CXe P w) P w K mg base N qual scope f cd A outer s₀ H₀ EX) x) (ha : PA (cxOf (CXe P w) P w K mg base N qual scope f cd A outer s₀ H₀ EX) (e :: es) t) (hk : j ≤ k := by decide)
   (hdb : (x == ("__debug__" : Str)) = false := by decide) (he : starEach (e :: es) (cxOf (CXe P w) P w K mg base N qual scope f cd A outer s₀ H₀ EX).env = (false, eval e (cxOf (CXe P w) P w K mg base N qual scope f cd A outer s₀ H₀ EX).env) :: starEach es (cxOf (CXe P w) P w K mg base N qual scope f cd A outer s₀ H₀ EX).env := by rfl)
   (hpl : (backTo pos (starEach es (cxOf (CXe P w) P w K mg base N qual scope f cd A outer s₀ H₀ EX).env)).any (·.1) = false := by rfl) :
   PE (cxOf (CXe P w) P w K mg base N qual scope f cd A outer s₀ H₀ EX) (.Call (.Name x p) (e :: es) [] pos) (Xnf sp [] EX t) := by
 obtain ⟨f', fd, F, hm, kp, b⟩ := D.ex
 exact Xqh F (hr.mono hk) hg hm kp b .nil Xcb ha hdb he hpl
end
section
variable {K : PySem.W.Frag} {σ : L2.St} {H : Hp} {D : Ends}
theorem r_raise {C : Addr} {E : XK} {t : TA} (h : t σ H fun xs H1 => xs.length ≤ sizeLine ∧ E (.ref C) none H1) : Xxs C E t D σ H := h
theorem r_raiseI {C : Addr} {sp : Sp} {E : XK} {t : TA} (h : t σ H fun vs H1 => vs.length ≤ 1000 ∧ ∀ y, H1 y = none → sp (.ref y :: vs) (upd H1 y (ExcN y C none)) (fun v H2 => v = .non ∧ ∃ z, V.ref y = V.ref z ∧ ∃ od, H2 z = some (ExcN z C od) ∧ E (.ref C) od (del H2 z)) E0) :
   Xlb C sp E t D σ H := h
theorem XKk {C : Addr} {f : Str} {E : XK} {v : V} (q : ∀ dx, H dx = none → E (.ref C) (some dx) (upd H dx (.xd [(f, v)]))) :
   [v].length ≤ 1000 ∧ ∀ y, H y = none → Xqu C f (.ref y :: [v]) (upd H y (ExcN y C none)) (fun v H2 => v = .non ∧ ∃ z, V.ref y = V.ref z ∧ ∃ od, H2 z = some (ExcN z C od) ∧ E (.ref C) od (del H2 z)) E0 := by
 refine ⟨by show 1 ≤ 1000; decide, fun y hy => ⟨y, v, rfl, upd_same, fun dx hd => ⟨rfl, y, rfl, some dx, upd_same, ?_⟩⟩⟩
 have ne : dx ≠ y := fun z => by rw [z, upd_same] at hd; cases hd
 have hd' : H dx = none := by rw [Xap ne] at hd; exact hd
 have e : del (upd (upd (upd H y (ExcN y C none)) dx (.xd [(f, v)])) y (ExcN y C (some dx))) y = upd H dx (.xd [(f, v)]) := by
   funext b
   by_cases hb : b = y
   · subst hb
     rw [Xgz, Xap (Ne.symm ne)]
     exact hy.symm
   · rw [Xgk hb, Xap hb]
     by_cases hbd : b = dx
     · subst hbd
       rw [upd_same, upd_same]
     · rw [Xap hbd, Xap hb, Xap hbd]
 rw [e]
 exact q dx hd'
theorem r_isiX {x C C' : Addr} {od : Option Addr} {b : Bool} {P : Bool → Prop} (h : H x = some (ExcO x C od)) (z : XK0 K C) (e : PySem.W.kitOne K (.ref C) (.ref C') = some b) (q : P b) :
   ∃ x' C0 od' v b', [V.ref x, V.ref C'] = [V.ref x', v] ∧ H x' = some (ExcO x' C0 od') ∧ XK0 K C0 ∧ clsV v ≠ .none ∧ PySem.W.kitOne K (.ref C0) (clsV v) = some b' ∧ P b' := ⟨x, C, od, .ref C', b, rfl, h, z, (fun z => nomatch z), e, q⟩
end
end Stow
namespace Stow
open PySem L2 PyProof.Rows
section
variable {X : Cx} {x : Str} {C : Addr} {p pos : Pos} {e : Expr} {es : List Expr} {t : TA}
end
section
variable {K : PySem.W.Frag} {σ : L2.St} {H : Hp} {Q : VK}
end
end Stow
namespace Stow
open PySem L2 PyProof.Rows
end Stow
namespace Stow
open PySem L2 PyProof.Rows
section
variable {X : Cx}
def PTs (X : Cx) (ifs : List Expr) (t : TT) : Prop := ∀ (pins : List (Addr × Obj)) (s : Shared) (σ : L2.St) (H : Hp) (Q : Bool → Hp → Prop), Inv X pins σ H s → t σ H Q →
 wpAny (model X.prog X.w) X.A (forIn ifs true fun c r => if r = true then do let ok ← isTrue c X.env (eval c X.env); pure (ForInStep.yield ok) else pure (ForInStep.yield r)) (TP X pins σ Q) X.xe s
theorem Xjq : PTs X [] (fun _ H Q => Q true H) := fun pins s σ H Q I q => wpAny_tests_nil ⟨H, I, q⟩
theorem Xqi {c : Expr} {t : TT} (h : PT X c t) : PTs X [c] t := fun pins s σ H Q I q => wpAny_tests_one (h pins s σ H Q I q)
end
end Stow
namespace Stow
open PySem L2 PyProof.Rows
theorem XKp {X : Cx} (hu : X.A.units + 64 < cLine) : OpR X (compareOp .NotEq) (fun x y H Q => ∃ (a b : Addr) (ns ms : List Int), x = .ref a ∧ y = .ref b ∧ SqL X.K H a (ns.map V.int) ∧ SqL X.K H b (ms.map V.int) ∧ Q (.bl (!decide (ns = ms))) H) := by
 intro pins s σ H x y v u Q I rx ry h
 obtain ⟨a, b, ns, ms, rfl, rfl, ha, hb, q⟩ := h
 cases rx
 cases ry
 obtain ⟨its, r1, p1, _⟩ := I.list ha
 obtain ⟨its2, r2, p2, _⟩ := I.list hb
 exact PySem.W.ke_ne_ints p1.isList p2.isList (Xge r1) (Xge r2) hu ⟨.bl _, H, I, rfl, q⟩
section
variable {K : PySem.W.Frag} {σ : L2.St} {H : Hp} {Q : VK} {D : Ends}
theorem r_next (h : D.nx σ H) : XCo D σ H := h
theorem r_seq {t u : TS} (h : t { D with nx := u D } σ H) : tSeq t u D σ H := h
theorem r_nx {f : L2.St → Hp → Prop} {r : VK} {b c : L2.St → Hp → Prop} (h : f σ H) : Ends.nx ⟨f, r, b, c⟩ σ H := h
theorem r_rt {f : L2.St → Hp → Prop} {r : VK} {b c : L2.St → Hp → Prop} {v : V} (h : r v H) : Ends.rt ⟨f, r, b, c⟩ v H := h
theorem r_drop {te : TE} (h : te σ H fun _ H1 => D.nx σ H1) : XKn te D σ H := h
theorem r_ret {te : TE} (h : te σ H D.rt) : tRet te D σ H := h
theorem r_ifS {c : TT} {t u : TS} (h : c σ H fun b H1 => if b = true then t D σ H1 else u D σ H1) : tIfS c t u D σ H := h
theorem r_asg {te : TE} {g : TG} (h : te σ H fun x H1 => g x σ H1 D.nx) : tAsg te g D σ H := h
theorem r_gname {i : Nat} {v : V} {R : L2.St → Hp → Prop} (h : R (σ.set i (some v)) H) : Xmd i v σ H R := h
theorem r_gsub {to ti : TE} {t : TSet} {v : V} {R : L2.St → Hp → Prop} (h : to σ H fun o H1 => ti σ H1 fun i H2 => t o i v H2 fun H3 => R σ H3) : gSub to ti t v σ H R := h
theorem r_var {i : Nat} {v : V} (e : σ[i]? = some (some v)) (h : Q v H) : tVar i σ H Q := ⟨v, e, h⟩
theorem r_c {v : V} (h : Q v H) : tC v σ H Q := h
theorem r_op {r : R2} {ta tb : TE} (h : ta σ H fun x H1 => tb σ H1 fun y H2 => r x y H2 Q) : tOp r ta tb σ H Q := h
theorem r_un {r : V → Hp → VK → Prop} {ta : TE} (h : ta σ H fun x H1 => r x H1 Q) : tUn r ta σ H Q := h
theorem r_rI0 {g : Int → Int → V} {i j : Int} (h : Q (g i j) H) : rI0 g (.int i) (.int j) H Q := ⟨i, j, rfl, rfl, h⟩
theorem r_rI {C : Int → Int → Prop} {g : Int → Int → V} {i j : Int} (c : C i j) (h : Q (g i j) H) : rI C g (.int i) (.int j) H Q := ⟨i, j, rfl, rfl, c, h⟩
theorem r_rU {g : Int → V} {i : Int} (h : Q (g i) H) : rU g (.int i) H Q := ⟨i, rfl, h⟩
theorem decV {i j : Int} : decide (V.int i = V.int j) = decide (i = j) := by rw [Xjl]; exact Bool.beq_eq_decide_eq i j
theorem r_eqI {i j : Int} (h : Q (.bl (decide (i = j))) H) : rEq (.int i) (.int j) H Q := ⟨rfl, by rw [decV]; exact h⟩
theorem r_neI {i j : Int} (h : Q (.bl (!decide (i = j))) H) : rNe (.int i) (.int j) H Q := ⟨rfl, by rw [decV]; exact h⟩
theorem r_isN {P : Prop} (h : P) : V.non = V.non ∧ P := ⟨rfl, h⟩
theorem r_bl {b : Bool} {P : Bool → Prop} (h : P b) : ∃ k, V.bl b = V.bl k ∧ P k := ⟨b, rfl, h⟩
theorem r_int {i : Int} {P : Int → Prop} (h : P i) : ∃ k, V.int i = V.int k ∧ P k := ⟨i, rfl, h⟩
theorem r_test {t : TE} {R : Bool → Hp → Prop} (h : t σ H fun x H' => ∃ k, x = .bl k ∧ R k H') : XJg t σ H R := h
theorem r_tB {t : TE} {R : Bool → Hp → Prop} (h : t σ H fun x H' => ∃ k, x = .bl k ∧ R k H') : tB t σ H R := h
theorem r_and {t u : TT} {R : Bool → Hp → Prop} (h : t σ H fun c H1 => if c = true then u σ H1 R else R false H1) : tAnd t u σ H R := h
theorem r_or {t u : TT} {R : Bool → Hp → Prop} (h : t σ H fun c H1 => if c = true then R true H1 else u σ H1 R) : tOr t u σ H R := h
theorem r_not {t : TT} {R : Bool → Hp → Prop} (h : t σ H fun c H1 => R (!c) H1) : tNot t σ H R := h
theorem r_andV {ta tb : TE} (h : ta σ H fun x H1 => ∃ c, x = .bl c ∧ if c = true then tb σ H1 Q else Q (.bl false) H1) : Xwl ta tb σ H Q := h
theorem r_orV {ta tb : TE} (h : ta σ H fun x H1 => ∃ c, x = .bl c ∧ if c = true then Q (.bl true) H1 else tb σ H1 Q) : tOrV ta tb σ H Q := h
theorem r_notV {ta : TE} (h : ta σ H fun x H1 => ∃ c, x = .bl c ∧ Q (.bl (!c)) H1) : XMf ta σ H Q := h
theorem r_ifE {t : TT} {ta tb : TE} (h : t σ H fun c H1 => if c = true then ta σ H1 Q else tb σ H1 Q) : tIf t ta tb σ H Q := h
theorem r_cons {ta : TE} {tr : TA} {R : List V → Hp → Prop} (h : ta σ H fun x H1 => tr σ H1 fun xs H2 => R (x :: xs) H2) : XNs ta tr σ H R := h
theorem r_nil {R : List V → Hp → Prop} (h : R [] H) : tNil σ H R := h
theorem r_tup {t : TA} (h : t σ H fun xs H1 => xs.length ≤ sizeLine ∧ ∀ p, H1 p = none → Q (.ref p) (upd H1 p (.tup xs))) : tTup t σ H Q := h
theorem r_lst {t : TA} (h : t σ H fun xs H1 => xs.length ≤ sizeLine ∧ ∀ p, H1 p = none → Q (.ref p) (upd H1 p (.lst xs))) : tLst t σ H Q := h
theorem r_call {sp : Sp} {E : XK} {t : TA} (h : t σ H fun vs H1 => sp vs H1 Q E) : Xnf sp [] E t σ H Q := by
 have e : (fun (vs : List V) H1 => sp (vs ++ []) H1 Q E) = fun vs H1 => sp vs H1 Q E := by funext vs H1; rw [List.append_nil]
 show t σ H fun vs H1 => sp (vs ++ []) H1 Q E
 rw [e]
 exact h
theorem r_cb {r : List V → Hp → VK → Prop} {t : TA} (h : t σ H fun vs H1 => r vs H1 Q) : tCB r t σ H Q := h
theorem r_sl {r : V → Option Int → Option Int → Hp → VK → Prop} {te : TE} {tl th : TO} (h : te σ H fun x H1 => tl σ H1 fun l H2 => th σ H2 fun u H3 => r x l u H3 Q) : tSl r te tl th σ H Q := h
theorem r_nopart {R : Option Int → Hp → Prop} (h : R none H) : Xro σ H R := h
theorem r_part {t : TE} {R : Option Int → Hp → Prop} (h : t σ H fun x H1 => ∃ i, x = .int i ∧ R (some i) H1) : XMd t σ H R := h
theorem r_bm {T : String} {r : V → List V → Hp → VK → Prop} {to : TE} {t : TA} (h : to σ H fun x H1 => tyV K T x H1 ∧ t σ H1 fun xs H2 => r x xs H2 Q) : tBM K T r to t σ H Q := h
theorem r_bm0 {T : String} {r : V → List V → Hp → VK → Prop} {to : TE} (h : to σ H fun x H1 => tyV K T x H1 ∧ r x [] H1 Q) : tBM0 K T r to σ H Q := h
theorem r_tyL {p : Addr} {xs : List V} {P : Prop} (h : H p = some (.lst xs)) (q : P) : tyV K "list" (.ref p) H ∧ P := ⟨.inl ⟨rfl, xs, SqL.of h⟩, q⟩
theorem r_append {l : Addr} {xs : List V} {y : V} (h : H l = some (.lst xs)) (hz : xs.length < sizeLine) (q : Q .non (upd H l (.lst (xs ++ [y])))) : Xre (.ref l) [y] H Q := ⟨l, xs, y, rfl, rfl, h, hz, q⟩
theorem Xrg {p : Addr} {xs : List V} {i : Int} {v : V} (h : SqL K H p xs) (e : atI xs i = some v) (q : Q v H) : rIxL K (.ref p) (.int i) H Q := ⟨p, xs, i, v, rfl, rfl, h, e, q⟩
theorem r_ixT {p : Addr} {xs : List V} {i : Int} {v : V} (h : H p = some (.tup xs)) (e : atI xs i = some v) (q : Q v H) : rIxT K (.ref p) (.int i) H Q := ⟨p, xs, i, v, rfl, rfl, SqT.of h, e, q⟩
theorem r_ixI {p : Addr} {ns : List Int} {k : Int} (h : SqL K H p (ns.map V.int)) (h0 : 0 ≤ k) (h1 : k < ns.length) (q : Q (.int (ns.getD k.toNat 0)) H) : rIxL K (.ref p) (.int k) H Q := ⟨p, _, k, _, rfl, rfl, h, XGa ns k h0 h1, q⟩
theorem XMr {n : Nat} {k : Int} (h0 : 0 ≤ k) (h : k < n) : ixN n k = some k.toNat := by
 unfold ixN
 rw [if_pos h0, if_pos h]
theorem r_setI {p : Addr} {ns : List Int} {k x : Int} {R : Hp → Prop} (h : H p = some (.lst (ns.map V.int))) (h0 : 0 ≤ k) (h1 : k < ns.length) (q : R (upd H p (.lst ((ns.set k.toNat x).map V.int)))) : XBp (.ref p) (.int k) (.int x) H R := by
 refine ⟨p, _, k, k.toNat, rfl, rfl, h, XMr h0 (by rw [List.length_map]; exact h1), ?_⟩
 rw [List.map_set] at q
 exact q
theorem r_lenI {p : Addr} {ns : List Int} {P : List V → Prop} (h : SqL K H p (ns.map V.int)) (q : P (ns.map V.int)) : ∃ p' ys, [V.ref p] = [V.ref p'] ∧ (SqL K H p' ys ∨ SqT K H p' ys) ∧ P ys := ⟨p, _, rfl, .inl h, q⟩
theorem r_lenL {p : Addr} {xs : List V} {P : List V → Prop} (h : H p = some (.lst xs)) (q : P xs) : ∃ p' ys, [V.ref p] = [V.ref p'] ∧ (SqL K H p' ys ∨ SqT K H p' ys) ∧ P ys := ⟨p, _, rfl, .inl (SqL.of h), q⟩
theorem r_max {i j : Int} {P : Int → Int → Prop} (q : P i j) : ∃ i' j', [V.int i, V.int j] = [V.int i', V.int j'] ∧ P i' j' := ⟨i, j, rfl, q⟩
theorem r_new {xs : List V} {P : Prop} (h : xs.length ≤ 1000) (q : P) : xs.length ≤ sizeLine ∧ P := ⟨Nat.le_of_lt (small1000 h), q⟩
theorem r_truB {b : Bool} {P : Bool → Prop} (q : P b) : ∃ k, TruV K (.bl b) H k ∧ P k := ⟨b, rfl, q⟩
theorem r_truL {p : Addr} {xs : List V} {P : Bool → Prop} (h : SqL K H p xs) (q : P (!xs.isEmpty)) : ∃ k, TruV K (.ref p) H k ∧ P k := ⟨_, .inl ⟨xs, h, rfl⟩, q⟩
theorem r_for {wi : TI} {g : TG} {tb : TS} (h : wi σ H fun J H1 => ∃ W : Nat → Nat → L2.St → Hp → Prop, (∃ m, W 0 m σ H1) ∧ ∀ i m σ H, W i m σ H →
   (J.stop i H ∧ D.nx σ H) ∨ (J.go i H ∧ ∃ N : L2.St → Hp → Prop, (∀ σ' H', N σ' H' → ∃ m', m' < m ∧ W (i + 1) m' σ' H') ∧ ∀ x H', J.yld i H x H' → g x σ H' fun σ2 H2 => tb { D with nx := N, ct := N, bk := D.nx } σ2 H2)) : tFor wi g tb D σ H := h
theorem r_iL {tl : TE} {R : It → Hp → Prop} (h : tl σ H fun x H1 => ∃ a, x = .ref a ∧ (∃ xs, SqL K H1 a xs) ∧ R (Itl K a) H1) : XMu K tl σ H R := h
theorem Xgn {t u : TS} {M : L2.St → Hp → Prop} (hM : ∀ σ' H', M σ' H' → u D σ' H') (h : ∀ nx : L2.St → Hp → Prop, (∀ σ' H', M σ' H' → nx σ' H') → t { D with nx := nx } σ H) : tSeq t u D σ H := h (u D) hM
theorem r_isIf {c : TT} {t u v : TS} (h : tSeq (tIfS c t u) v D σ H) : tSeq (tIfS c t u) v D σ H := h
end
theorem r_ifN {b : Bool} {A B : Prop} (h : if b = true then B else A) : if (!b) = true then A else B := by cases b <;> exact h
theorem Xcf {c A B : Prop} [Decidable c] (h1 : c → A) (h2 : ¬ c → B) : if decide c = true then A else B := by
 by_cases h : c
 · rw [decide_eq_true h]
   exact iteT (h1 h)
 · rw [decide_eq_false h]
   exact iteF (h2 h)
theorem r_ifdT {c A B : Prop} [Decidable c] (h : c) (h1 : A) : if decide c = true then A else B := Xcf (fun _ => h1) fun z => absurd h z
theorem r_ifdF {c A B : Prop} [Decidable c] (h : ¬ c) (h1 : B) : if decide c = true then A else B := Xcf (fun z => absurd z h) fun _ => h1
theorem Xff {b : Bool} {A B : Prop} (h1 : b = true → A) (h2 : b = false → B) : if b = true then A else B := by
 cases b with
 | true => exact iteT (h1 rfl)
 | false => exact iteF (h2 rfl)
theorem look_put {H : Hp} {p d : Addr} {o v : HO} (hp : H p = none) (h : H d = some v) : upd H p o d = some v := (Xap (Xan h hp)).trans h
theorem look_ne {H : Hp} {p d : Addr} {o v : HO} (hp : d ≠ p) (h : H d = some v) : upd H p o d = some v := (Xap hp).trans h
theorem look_tup {H : Hp} {p d : Addr} {o : HO} {xs ys : List V} (hp : H p = some (.lst ys)) (h : H d = some (.tup xs)) : upd H p o d = some (.tup xs) := look_ne (fun z => by rw [z, hp] at h; cases h) h
end Stow
namespace Stow
open PySem L2 PyProof.Rows
abbrev TX := L2.St → Hp → VK → XK → Prop
def PX (X : Cx) (e : Expr) (t : TX) : Prop := ∀ (pins : List (Addr × Obj)) (s : Shared) (σ : L2.St) (H : Hp) (QV : VK) (EX : XK) (Qp W : Value → Shared → Prop), Inv X pins σ H s → t σ H QV EX → (∀ u s', EP X pins σ QV u s' → Qp u s') →
 (∀ H1 s1 y s', Inv X pins σ H1 s1 → CXe X.prog X.w X.stack H1 s1 EX y s' → W y s') → wpAny (model X.prog X.w) X.A (eval e X.env) Qp W s
def Xvp (sp : Sp) (dvs : List V) (ta : TA) : TX := fun σ H QV EX => ta σ H fun vs H1 => sp (vs ++ dvs) H1 QV EX
def XRm (C : Addr) (m : Str) (sp : Sp) (dvs : List V) (to : TE) (ta : TA) : TX := fun σ H QV EX => to σ H fun x H1 => ∃ a dx fs, x = .ref a ∧ H1 a = some (.ins C dx fs) ∧ fs.lookup m = none ∧ ta σ H1 fun vs H2 => sp (x :: (vs ++ dvs)) H2 QV EX
section
variable {X : Cx} {k : Nat} {f C : Addr} {fd : FuncData} {ps : List Str} {sp : Sp} {dvs : List V} {ds : List Value} {fx m : Str} {p pos apos : Pos} {e o : Expr} {es : List Expr} {to : TE} {ta : TA}
theorem XJo {pins : List (Addr × Obj)} {σ : L2.St} {H : Hp} {s : Shared} {us : List Value} {vs : List V} {QV : VK} {EX : XK} {Qp W : Value → Shared → Prop} (F : FnOk X.prog X.w X.K X.mg X.base (CXe X.prog X.w) k f fd ps sp) (hr : Room k X.A) (hb : Xco X.K fd ps ds) (hd : Vals dvs ds)
   (I : Inv X pins σ H s) (r : Vals vs us) (h : sp (vs ++ dvs) H QV EX) (hv : ∀ u s', EP X pins σ QV u s' → Qp u s') (hx : ∀ y s', CXe X.prog X.w X.stack H s EX y s' → W y s') : wpAny (model X.prog X.w) X.A (call (.ref f) us) Qp W s := by
 have r2 : Vals (vs ++ dvs) (us ++ ds) := r.append hd
 have hl : (us ++ ds).length = ps.length := by rw [← r2.length]; exact F.len _ _ _ _ h
 refine wpAny_call (codeAny_mono (F.run X.A X.stack s H ⟨us, []⟩ (us ++ ds) (vs ++ dvs) QV EX hr I.env0 (hb s us I.kIn hl) r2 h) fun r s' hq => ?_)
 cases r with
 | error y => exact hx y s' hq
 | ok fl =>
   cases fl with
   | ret u => exact hv u s' (I.after hq)
   | next => exact False.elim hq
   | brk => exact False.elim hq
   | cont => exact False.elim hq
theorem XBj (F : FnOk X.prog X.w X.K X.mg X.base (CXe X.prog X.w) k f fd ps sp) (hr : Room k X.A) (hg : Gl X fx) (hm : X.mg fx = some (.ref f)) (hk : PySem.W.keepIn X.K (.ref f) = true) (hb : Xco X.K fd ps ds) (hd : Vals dvs ds) (ha : PA X.nox (e :: es) ta)
   (hdb : (fx == ("__debug__" : Str)) = false := by decide) (he : starEach (e :: es) X.env = (false, eval e X.env) :: starEach es X.env := by rfl) (hpl : (backTo pos (starEach es X.env)).any (·.1) = false := by rfl) :
   PX X (.Call (.Name fx p) (e :: es) [] pos) (Xvp sp dvs ta) := by
 intro pins s σ H QV EX Qp W I h hv hx
 refine wpAny_Call_Name_kw (Xdo I hg hm ?_ hdb)
 refine PySem.W.callWith_K (h₀ := X.base) I.ok.mod.kin hk (wpAny_mono (ha pos pins s σ H _ (I.wish _) h) (fun us s1 ⟨vs, H1, I1', r, q⟩ => ?_) (fun _ _ z => z.elim)) he hpl
 have I1 := I1'.unwish
 exact ⟨I1.kIn, XJo F hr hb hd I1 r q hv fun y s' hq => hx H1 s1 y s' I1 hq⟩
theorem XQv {pl : Sem Bool} (ho : PE X.nox o to) (c : Cls X.K C) (hm : Meth X.K C m f) (F : FnOk X.prog X.w X.K X.mg X.base (CXe X.prog X.w) k f fd ps sp) (hr : Room k X.A) (hb : Xco X.K fd ps ds) (hd : Vals dvs ds) (ha : PA X.nox (e :: es) ta)
   (hst : starEach (e :: es) X.env = (false, eval e X.env) :: starEach es X.env := by rfl) (hpl : (backTo pos (starEach es X.env)).any (·.1) = false := by rfl)
   (ht : eval (.Call (.Attribute o m apos) (e :: es) [] pos) X.env = (do
     let ov ← eval o X.env
     standAt apos.atName
     let (f, first) ← holding [ov] (getMethod ov m pl)
     callWith pos f first (backTo pos (starEach (e :: es) X.env)) (backToKw pos (keywordEach [] X.env))) := by rfl) :
   PX X (.Call (.Attribute o m apos) (e :: es) [] pos) (XRm C m sp dvs to ta) := by
 intro pins s σ H QV EX Qp W I h hv hx
 refine PySem.W.methodCall_KW (pl := pl) (wpAny_mono (ho pins s σ H _ (I.wish _) h) (fun u s1 ⟨x, H1, I1', rx, a, dx, fs, ex, ea, l, q⟩ => ?_) (fun _ _ z => z.elim)) ht
 have I1 := I1'.unwish
 subst ex
 obtain rfl : u = Value.ref a := rx
 refine Xgg I1 ea c hm l ?_
 refine PySem.W.callWith_K (first := [.ref a]) (h₀ := X.base) I.ok.mod.kin hm.kp (wpAny_mono (ha pos pins s1 σ H1 _ (I1.wish _) q) (fun us s2 ⟨vs, H2, I2', r, q2⟩ => ?_) (fun _ _ z => z.elim)) hst hpl
 have I2 := I2'.unwish
 exact ⟨I2.kIn, XJo (us := .ref a :: us) (vs := .ref a :: vs) F hr hb hd I2 (.cons rfl r) q2 hv fun y s' hq => hx H2 s2 y s' I2 hq⟩
end
def Fits (K : PySem.W.Frag) (C C0 : Addr) (b : Bool) : Prop := ∃ (bm bm0 : List Value), ECls K C bm ∧ ECls K C0 bm0 ∧ (Value.ref C0 :: bm0).contains (.type "BaseException") = true ∧ (Value.ref C :: bm).contains (.ref C0) = b
theorem Xrf {M : Model} {A : Around} {E : Value → Shared → Prop} {K : PySem.W.Frag} {C C0 x : Addr} {ox : Obj} {s : Shared} {b : Bool} {Q : Bool → Shared → Prop} (F : Fits K C C0 b) (KX : K.In s.heap) (hx : s.heap.get? x = some ox) (hc : ox.cls = .ref C) (k : Q b s) :
   wpAny M A (excMatches (.ref x) (.ref C0)) Q E s := by
 obtain ⟨bm, bm0, ⟨nm, qn, N, bs, hd, sn, sub, ab, col, dd, k0, k1, k2, k3, k5, newId, lk⟩, ⟨nm', qn', N', bs', hd', sn', sub', ab', col', dd', j0, j1, j2, j3, j5, new', lk0⟩, hb, hm⟩ := F
 have hC := KX _ _ lk
 have hC0 := KX _ _ lk0
 obtain ⟨hh, g, d, t, os⟩ := s
 exact Xpf hC hC0 hx hc hb hm k
abbrev TH := Addr → Addr → TS
def PH (X : Cx) (hs : List ExceptHandler) (th : TH) : Prop := ∀ (pins : List (Addr × Obj)) (s : Shared) (σ : L2.St) (H : Hp) (D : Ends) (x C T : Addr) (od : Option Addr), X.Ok → Inv X pins σ H s → Exc s.heap x (.ref C) od T .none →
 (∀ h3, Upto (frs X.stack) [T] s.heap h3 → Exc h3 x (.ref C) od T .none → Inv X pins σ H { s with heap := h3 }) → th x C D σ H → wpAny (model X.prog X.w) X.A (handleBy (.ref x) X.env hs) (SP X pins D) X.xe s
section
variable {X : Cx} {C0 : Addr} {cx : Str} {np hpos pos epos : Pos} {b0 : Stmt} {suite : List Stmt} {ts : Addr → TS} {hs : List ExceptHandler} {th : TH} {e : Expr} {t : TX}
theorem XIo : PH X [] (fun _ _ _ _ _ => False) := fun _ _ _ _ _ _ _ _ _ _ _ _ _ h => h.elim
theorem Xpr {i : Nat} {n : Str} (hgc : Gl X cx) (hc0 : X.mg cx = some (.ref C0)) (hN : X.N.Nodup) (hi : X.N[i]? = some n) (hln : X.env.kindOf n = some .local) (hss : ∀ x, PSs (Cx.suite X x) (b0 :: suite) (ts x)) (hr : PH X hs th) (hdc : (cx == ("__debug__" : Str)) = false := by decide) :
   PH X (.ExceptHandler (some (.Name cx np)) (some n) (b0 :: suite) hpos :: hs)
     (fun x C D σ H => (Fits X.K C C0 true ∧ ts x { D with nx := fun σ' H' => D.nx (σ'.set i none) H', bk := fun σ' H' => D.bk (σ'.set i none) H', ct := fun σ' H' => D.ct (σ'.set i none) H' } (σ.set i (some (.ref x))) H) ∨ (Fits X.K C C0 false ∧ th x C D σ H)) := by
 intro pins s σ H D x C T od ok J t2 again h
 obtain ⟨oe, vs, oT, tts, ne, ee, hcl, _⟩ := id t2
 rcases h with ⟨fit, q⟩ | ⟨fit, q⟩
 · refine wpAny_handleBy_cons (codeAny_handlers_test (Xdo (X := Cx.suite X x) (Xhl J x) hgc hc0 (Xrf fit J.kIn ee hcl ?_) hdc)) (by intro z; cases z)
   refine codeAny_handlers_suite_as ?_
   refine Xgs (fr := frs X.stack) t2 fun h3 u3 t3 => ?_
   refine Xjh (X := Cx.suite X x) (Xhl (again h3 u3 t3) x) hN hi (.inl hln) (v := .ref x) rfl (fun s4 J4 => ?_) (.inr hln)
   refine wpAny_mono (hss x pins s4 _ _ _ J4 q) (fun fl s5 q5 => ?_) (fun _ _ z => z.elim)
   cases fl with
   | next => obtain ⟨σ', H', I5, q⟩ := q5; exact Xfu (Xed ok I5) hN hi hln fun s6 I6 => ⟨_, _, I6, q⟩
   | brk => obtain ⟨σ', H', I5, q⟩ := q5; exact Xfu (Xed ok I5) hN hi hln fun s6 I6 => ⟨_, _, I6, q⟩
   | cont => obtain ⟨σ', H', I5, q⟩ := q5; exact Xfu (Xed ok I5) hN hi hln fun s6 I6 => ⟨_, _, I6, q⟩
   | ret u => obtain ⟨v, σ', H', I5, r, q⟩ := q5; exact Xfu (Xed ok I5) hN hi hln fun s6 I6 => ⟨v, _, _, I6, r, q⟩
 · refine wpAny_handleBy_cons (codeAny_handlers_test (Xdo (X := Cx.suite X x) (Xhl J x) hgc hc0 (Xrf fit J.kIn ee hcl ?_) hdc)) (by intro z; cases z)
   exact hr pins s σ H D x C T od ok J t2 again q
theorem Upto.refl (fr ex : List Addr) (h : Heap) : Upto fr ex h h := ⟨fun _ _ _ _ q => q, fun b o _ q => ⟨o.slots, q⟩⟩
def XGk (t : TX) (th : TH) : TS := fun D σ H => t σ H (fun _ H2 => D.nx σ H2) fun c od H2 => ∃ C, c = .ref C ∧ ∀ x, H2 x = none → th x C D σ (upd H2 x (ExcO x C od))
theorem XEl {h₀ : ExceptHandler} (he : PX X e t) (hst : X.stack = X.env :: X.outer ∧ X.env.frame = some X.env.locals) (hh : PH X (h₀ :: hs) th) (hsw : swapsWith e none epos.line X.env = pure false := by rfl) :
   PS X (.Try [.Expr e epos] (h₀ :: hs) [] [] pos) (XGk t th) := by
 intro pins s σ H D I h
 refine wpAny_Try_except (wpAny_execs_cons (wpAny_Expr_any (he pins s σ H _ _ _ _ I h (fun u s' ⟨v, H2, I2, _, q2⟩ => wpAny_execs_nil (wpAny_execs_nil ⟨σ, H2, I2, q2⟩)) (fun H1 s1 y s' I1 hq => ?_)) I.quiet hsw))
 refine XLo I1 hst hq fun x C od T h2 H2 ex ⟨C', ec, q⟩ t2 J2 again => ?_
 subst ex
 cases ec
 exact hh pins _ σ _ D x C T od I.ok J2 t2 (fun h3 u3 t3 => (again h3 u3 t3).2) (q x (again h2 (Upto.refl _ _ _) t2).1)
end
section
variable {K : PySem.W.Frag} {σ : L2.St} {H : Hp} {D : Ends}
theorem r_tryE {t : TX} {th : TH} (h : t σ H (fun _ H2 => D.nx σ H2) fun c od H2 => ∃ C, c = .ref C ∧ ∀ x, H2 x = none → th x C D σ (upd H2 x (ExcO x C od))) : XGk t th D σ H := h
theorem r_xCall {sp : Sp} {ta : TA} {QV : VK} {EX : XK} (h : ta σ H fun vs H1 => sp vs H1 QV EX) : Xvp sp [] ta σ H QV EX := by
 unfold Xvp
 simp only [List.append_nil]
 exact h
end
end Stow
namespace Stow
open PySem L2 PyProof.Rows
structure FunD (K : PySem.W.Frag) (x qual : Str) (st : Stmt) (dV : Value) (f : Addr) (fd : FuncData) : Prop where
 ex : ∃ (oc : Value) (od : Option Addr) (kV doc pm : Value) (an : Option Addr) (cdv ct : Value) (osl : Array (Option Value)),
   fd = PySem.W.fnOf x qual (Xbp st) (Xaz st) (Xae st) dV kV doc pm an cdv ct ∧ K.lookup f = some ⟨oc, od, .func fd, osl⟩ ∧ PySem.W.codeIn K cdv qual = true
 kp : PySem.W.keepIn K (.ref f) = true
theorem Xqe {K : PySem.W.Frag} {x qual : Str} {st : Stmt} {f : Addr} {oc : Value} {od an : Option Addr} {osl : Array (Option Value)} {dV kV doc pm cdv ct : Value} (l : K.lookup f = some ⟨oc, od, .func (PySem.W.fnOf x qual (Xbp st) (Xaz st) (Xae st) dV kV doc pm an cdv ct), osl⟩)
   (c : PySem.W.codeIn K cdv qual = true) (k : PySem.W.keepIn K (.ref f) = true) : FunD K x qual st dV f (PySem.W.fnOf x qual (Xbp st) (Xaz st) (Xae st) dV kV doc pm an cdv ct) := ⟨⟨oc, od, kV, doc, pm, an, cdv, ct, osl, rfl, l, c⟩, k⟩
section
variable {P : Program} {w : World} {K : PySem.W.Frag} {mg : Str → Option Value} {base : Heap}
theorem Xmp {x qual : Str} {st : Stmt} {dV : Value} {f : Addr} {fd : FuncData} {N ps : List Str} {k : Nat} {sp : Sp} (F : FunD K x qual st dV f fd) (S : FnScope N ps (Xae st)) (len : ∀ vs H Q E, sp vs H Q E → vs.length = ps.length)
   (hbody : ∀ (cdv : Value) (A : Around) (outer : List Env) (s : Shared) (H : Hp) (vs : List V) (Q : VK) (E : XK), Room k (A.deeper (envOfC qual (Xae st) s.heap.objs.size f cdv)) → sp vs H Q E →
     ∃ t, PSs (cxOf (CXe P w) P w K mg base N qual (Xae st) f cdv A outer s H E) (Xaz st) t ∧ t { nx := fun _ H' => Q .non H', rt := Q } (start N vs) H) : FnOk P w K mg base (CXe P w) (k + 1) f fd ps sp := by
 obtain ⟨oc, od, kV, doc, pm, an, cdv, ct, osl, rfl, lk, hcd⟩ := F.ex
 exact Xzh lk hcd S len fun A outer s H vs Q E hr hsp => hbody cdv A outer s H vs Q E hr hsp
theorem FunD.binds {x qual : Str} {st : Stmt} {dV : Value} {f : Addr} {fd : FuncData} {ps : List Str} (F : FunD K x qual st dV f fd)
   (h : ∀ (kV doc pm : Value) (an : Option Addr) (cdv ct : Value) (us : List Value), us.length = ps.length → bindArgs (PySem.W.fnOf x qual (Xbp st) (Xaz st) (Xae st) dV kV doc pm an cdv ct) ⟨us, []⟩ = pure (ps.zip us)) : Xco K fd ps [] := by
 obtain ⟨oc, od, kV, doc, pm, an, cdv, ct, osl, rfl, lk, hcd⟩ := F.ex
 exact .all (h kV doc pm an cdv ct)
theorem FunD.bindsD {x qual : Str} {st : Stmt} {T : Addr} {f : Addr} {fd : FuncData} {ps : List Str} {ds : List Value} {tc : Value} {td : Option Addr} {tn : Nat} {tsl : Array (Option Value)} (F : FunD K x qual st (.ref T) f fd)
   (lt : K.lookup T = some ⟨tc, td, .seq ds.toArray tn, tsl⟩)
   (h : ∀ (kV doc pm : Value) (an : Option Addr) (cdv ct : Value) (us : List Value), (us ++ ds).length = ps.length → ∃ k : Option (Array Value) → Sem (List (Str × Value)),
     bindArgs (PySem.W.fnOf x qual (Xbp st) (Xaz st) (Xae st) (.ref T) kV doc pm an cdv ct) ⟨us, []⟩ = seqItems? (.ref T) >>= k ∧ k (some ds.toArray) = pure (ps.zip (us ++ ds))) : Xco K fd ps ds := by
 obtain ⟨oc, od, kV, doc, pm, an, cdv, ct, osl, rfl, lk, hcd⟩ := F.ex
 intro s us X hl
 obtain ⟨k, h1, h2⟩ := h kV doc pm an cdv ct us hl
 exact .of_defaults rfl (X _ _ lt) rfl h1 h2
end
structure Methx (P : Program) (w : World) (K : PySem.W.Frag) (mg : Str → Option Value) (base : Heap) (C : Addr) (m : Str) (j : Nat) (ps : List Str) (dvs : List V) (sp : Sp) : Prop where
 ex : ∃ (f : Addr) (fd : FuncData) (ds : List Value), FnOk P w K mg base (CXe P w) j f fd ps sp ∧ Meth K C m f ∧ Xco K fd ps ds ∧ Vals dvs ds
 cl : Cls K C
structure Makex (P : Program) (w : World) (K : PySem.W.Frag) (mg : Str → Option Value) (base : Heap) (x : Str) (C : Addr) (j : Nat) (ps : List Str) (dvs : List V) (sp : Sp) : Prop where
 ex : ∃ (f : Addr) (fd : FuncData) (ds : List Value), FnOk P w K mg base (CXe P w) j f fd ps sp ∧ Mk K C f ∧ Xco K fd ps ds ∧ Vals dvs ds
 bound : mg x = some (.ref C)
structure ClsM (K : PySem.W.Frag) (C : Addr) (m : Str) (f : Addr) : Prop where
 sp : PySem.W.specialIn K (.ref C) "__getattribute__" = some (some (.builtin "type.__getattribute__"))
 rd : PySem.W.readsIn K C (.type "type") = true
 fc : PySem.W.findCls K (.ref C) (.type "type") m = some (.val (.ref f))
 kp : PySem.W.keepIn K (.ref f) = true
structure Basex (P : Program) (w : World) (K : PySem.W.Frag) (mg : Str → Option Value) (base : Heap) (x : Str) (m : Str) (j : Nat) (ps : List Str) (sp : Sp) : Prop where
 ex : ∃ (C f : Addr) (fd : FuncData), FnOk P w K mg base (CXe P w) j f fd ps sp ∧ ClsM K C m f ∧ Xco K fd ps [] ∧ mg x = some (.ref C)
section
variable {X : Cx} {j k : Nat} {C : Addr} {ps : List Str} {sp : Sp} {dvs : List V} {x m : Str} {p pos apos : Pos} {e o : Expr} {es : List Expr} {to : TE} {t : TA} {EX : XK}
theorem XDu (D : Defx X.prog X.w X.K X.mg X.base x j ps sp) (hr : Room k X.A) (hg : Gl X x) (ha : PA X.nox (e :: es) t) (hk : j ≤ k := by decide)
   (hdb : (x == ("__debug__" : Str)) = false := by decide) (he : starEach (e :: es) X.env = (false, eval e X.env) :: starEach es X.env := by rfl) (hpl : (backTo pos (starEach es X.env)).any (·.1) = false := by rfl) : PX X (.Call (.Name x p) (e :: es) [] pos) (Xvp sp [] t) := by
 obtain ⟨f, fd, F, hm, kp, b⟩ := D.ex
 exact XBj F (hr.mono hk) hg hm kp b .nil ha hdb he hpl
theorem Xha (D : Makex X.prog X.w X.K X.mg X.base x C j ps dvs sp) (hp : Xfe (CXe X.prog X.w) X EX) (hr : Room k X.A) (hg : Gl X x) (ha : PA X (e :: es) t) (hk : j + 1 ≤ k := by decide)
   (hdb : (x == ("__debug__" : Str)) = false := by decide) (he : starEach (e :: es) X.env = (false, eval e X.env) :: starEach es X.env := by rfl) (hpl : (backTo pos (starEach es X.env)).any (·.1) = false := by rfl) : PE X (.Call (.Name x p) (e :: es) [] pos) (Xvk C sp dvs EX t) := by
 obtain ⟨f, fd, ds, F, M, hb, hd⟩ := D.ex
 exact XFu M F (hr.mono hk) hg D.bound hb hd hp ha hdb he hpl
theorem Xuu {pl : Sem Bool} {p' : Pos} (D : Basex X.prog X.w X.K X.mg X.base x m j ps sp) (hp : Xfe (CXe X.prog X.w) X EX) (hr : Room k X.A) (hg : Gl X x) (ha : PA X (e :: es) t) (hk : j ≤ k := by decide) (hdb : (x == ("__debug__" : Str)) = false := by decide)
   (hst : starEach (e :: es) X.env = (false, eval e X.env) :: starEach es X.env := by rfl) (hpl : (backTo pos (starEach es X.env)).any (·.1) = false := by rfl)
   (ht : eval (.Call (.Attribute (.Name x p') m apos) (e :: es) [] pos) X.env = (do
     let ov ← eval (.Name x p') X.env
     standAt apos.atName
     let (f, first) ← holding [ov] (getMethod ov m pl)
     callWith pos f first (backTo pos (starEach (e :: es) X.env)) (backToKw pos (keywordEach [] X.env))) := by rfl) : PE X (.Call (.Attribute (.Name x p') m apos) (e :: es) [] pos) (Xnf sp [] EX t) := by
 obtain ⟨C, f, fd, F, M, hb, hm⟩ := D.ex
 intro pins s σ H Q I h
 refine PySem.W.methodCall_KW (pl := pl) (Xdo I hg hm ?_ hdb) ht
 refine PySem.W.method_cls I.kIn M.sp (PySem.W.cls_value I.kIn M.rd M.fc rfl ?_)
 have I' := I.tok (s.toks + 1)
 refine PySem.W.callWith_K (h₀ := X.base) I.ok.mod.kin M.kp (thn (ha pos pins _ σ H _ I' h) fun us s1 ⟨vs, H1, I1, r, q⟩ => ⟨I1.kIn, ?_⟩) hst hpl
 exact Xmh F (hr.mono hk) hb .nil hp I1 r q
end
section
variable {K : PySem.W.Frag} {σ : L2.St} {H : Hp} {Q : VK} {D : Ends}
theorem r_fld {f : Str} {ta : TE} (h : ta σ H fun x H1 => ∃ a C dx fs v, x = .ref a ∧ H1 a = some (.ins C dx fs) ∧ Cls K C ∧ Xck K C f ∧ fs.lookup f = some v ∧ Q v H1) : tFld K ta f σ H Q := h
theorem r_at {a C dx : Addr} {fs : List (Str × V)} {f : Str} {v : V} {P : V → Prop} (h : H a = some (.ins C dx fs)) (c : Cls K C) (n : Xck K C f) (l : fs.lookup f = some v) (q : P v) :
   ∃ a' C' dx' fs' v', V.ref a = V.ref a' ∧ H a' = some (.ins C' dx' fs') ∧ Cls K C' ∧ Xck K C' f ∧ fs'.lookup f = some v' ∧ P v' := ⟨a, C, dx, fs, v, rfl, h, c, n, l, q⟩
theorem r_sfld {f : Str} {ta tv : TE} (h : tv σ H fun y H1 => ta σ H1 fun x H2 => ∃ a C dx fs, x = .ref a ∧ H2 a = some (.ins C dx fs) ∧ Cls K C ∧ Xck K C f ∧ fs.length < 1000 ∧ D.nx σ (upd H2 a (.ins C dx (putF f y fs)))) : sFld K ta tv f D σ H := h
end
end Stow
namespace Stow
open PySem L2 PyProof.Rows
section
variable {X : Cx}
end
section
variable {a x : Option V} {v : V} {l r : L2.St} {k : Nat} {n : Str} {ns : List Str} {vs : List V}
theorem set0_c : (a :: l).set 0 x = x :: l := rfl
theorem Xym : L2.start (n :: ns) (v :: vs) = some v :: L2.start ns vs := by
 unfold L2.start
 rw [List.length_cons, List.length_cons, Nat.add_sub_add_right]
 rfl
theorem set0_0 : (L2.start (n :: ns) []).set 0 x = x :: L2.start ns [] := rfl
theorem setS_c (h : l.set k x = r) : (a :: l).set (k + 1) x = a :: r := h ▸ rfl
theorem setS_1 (h : (L2.start ns vs).set k x = r) : (L2.start (n :: ns) (v :: vs)).set (k + 1) x = some v :: r := by
 rw [Xym, ← h]
 rfl
theorem r_gnameN {σ σ' : L2.St} {H : Hp} {i : Nat} {R : L2.St → Hp → Prop} (e : σ.set i (some v) = σ') (h : R σ' H) : Xmd i v σ H R := by
 subst e
 exact h
end
def cutI (ns : List Int) (l u : Option Int) : List Int := (ns.drop (HT.sIx ns.length 0 l)).take (HT.sIx ns.length ns.length u - HT.sIx ns.length 0 l)
theorem XDx (ns : List Int) (l u : Option Int) : cutV (ns.map V.int) l u = (cutI ns l u).map V.int := by
 unfold cutV cutI
 rw [List.map_take, List.map_drop, List.length_map]
theorem Xjp (ns : List Int) (l u : Option Int) : (cutI ns l u).length ≤ ns.length := by
 unfold cutI
 rw [List.length_take, List.length_drop]
 omega
section
variable {K : PySem.W.Frag} {σ : L2.St} {H : Hp} {D : Ends} {Q : VK}
theorem r_sllG {a : Addr} {ns : List Int} {lo hi : Option Int} (h : SqL K H a (ns.map V.int)) (q : ∀ p H', H p = none → Same H H' → H' p = some (.lst ((cutI ns lo hi).map V.int)) → Q (.ref p) H') : rSlL K (.ref a) lo hi H Q :=
 ⟨a, _, rfl, h, fun p hp => by rw [XDx]; exact q p _ hp (Same.new hp) upd_same⟩
theorem r_catG {l b : Addr} {xs zs : List Int} (h : H l = some (.lst (xs.map V.int))) (h2 : H b = some (.lst (zs.map V.int))) (hz : xs.length + zs.length ≤ 4000) (q : ∀ p H', H p = none → Same H H' → H' p = some (.lst ((xs ++ zs).map V.int)) → Q (.ref p) H') : rCat (.ref l) (.ref b) H Q :=
 ⟨l, b, _, _, rfl, rfl, h, h2, by rw [List.length_map, List.length_map]; exact Nat.le_of_lt (small4000 hz), fun p hp => by rw [← List.map_append]; exact q p _ hp (Same.new hp) upd_same⟩
theorem r_isSeq {t u : TS} (h : tSeq t u D σ H) : tSeq t u D σ H := h
theorem r_isAnd {ta tb : TE} (h : Xwl ta tb σ H Q) : Xwl ta tb σ H Q := h
theorem r_isOr {ta tb : TE} (h : tOrV ta tb σ H Q) : tOrV ta tb σ H Q := h
end
end Stow
namespace Stow
open PySem L2 PyProof.Rows
section
variable {K : PySem.W.Frag} {σ : L2.St} {H : Hp} {Q : VK}
theorem r_gtup {a : Addr} {xs : List V} {n : Nat} {t : TGs} {R : L2.St → Hp → Prop} (h : H a = some (.tup xs)) (hl : xs.length = n) (q : t xs σ H R) : gTup K n t (.ref a) σ H R := ⟨a, xs, rfl, SqT.of h, hl, q⟩
theorem r_gcons {v : V} {r : List V} {t : TG} {u : TGs} {R : L2.St → Hp → Prop} (h : t v σ H fun σ' H' => u r σ' H' R) : XJq t u (v :: r) σ H R := ⟨v, r, rfl, h⟩
theorem r_gnil {R : L2.St → Hp → Prop} (h : R σ H) : gNil [] σ H R := ⟨rfl, h⟩
theorem Xgy {p : Addr} {xs : List V} {v : V} (h : SqL K H p (xs ++ [v])) (q : Q v H) : rIxL K (.ref p) (.int (-1)) H Q := Xrg h (Xtb xs v) q
theorem Xqn {p : Addr} {xs : List V} {v w : V} {R : Hp → Prop} (h : H p = some (.lst (xs ++ [v]))) (q : R (upd H p (.lst (xs ++ [w])))) : XBp (.ref p) (.int (-1)) w H R := by
 refine ⟨p, _, -1, xs.length, rfl, rfl, h, ?_, ?_⟩
 · unfold ixN
   rw [if_neg (by decide), List.length_append, List.length_singleton, if_pos (by omega)]
   congr 1
   omega
 · rw [List.set_append_right _ _ (Nat.le_refl _), Nat.sub_self]
   exact q
end
end Stow
namespace Stow
def fpl (a b : Int) : Int := a + (b - 1 - a % b)
def fp (a n L b : Int) : Option Int := if fpl a b + L ≤ a + n then some (fpl a b) else none
theorem XDe {a b : Int} (hb : 1 ≤ b) : (fpl a b + 1) % b = 0 := by
 unfold fpl
 have e := Int.emod_add_mul_ediv a b
 have : a + (b - 1 - a % b) + 1 = b * (a / b + 1) := by rw [Int.mul_add, Int.mul_one]; omega
 rw [this]
 exact Int.mul_emod_right _ _
end Stow
namespace Stow
open PySem L2 PyProof.Rows
def Xbc (H : Hp) (us : List V) (ps : List Pc) : Prop := us.length = ps.length ∧ ∀ (i : Nat) (p : Pc), ps[i]? = some p → ∃ a, us[i]? = some (.ref a) ∧ H a = some (.tup [.int p.a, .int p.l, .bl p.v])
theorem Xbc.nil {H : Hp} : Xbc H [] [] := ⟨rfl, fun i p h => by simp at h⟩
theorem Xbc.mono {H H' : Hp} {us : List V} {ps : List Pc} (h : Xbc H us ps) (k : ∀ b xs, H b = some (.tup xs) → H' b = some (.tup xs)) : Xbc H' us ps :=
 ⟨h.1, fun i p e => let ⟨a, h1, h2⟩ := h.2 i p e; ⟨a, h1, k _ _ h2⟩⟩
theorem Xbc.same {H H' : Hp} {us : List V} {ps : List Pc} (h : Xbc H us ps) (k : Same H H') : Xbc H' us ps := h.mono fun b xs e => k b _ e
theorem Xbc.snoc {H : Hp} {us : List V} {ps : List Pc} {p : Pc} {a : Addr} (h : Xbc H us ps) (ha : H a = some (.tup [.int p.a, .int p.l, .bl p.v])) : Xbc H (us ++ [.ref a]) (ps ++ [p]) := by
 refine ⟨by simp [h.1], fun i q e => ?_⟩
 have hl := h.1
 by_cases hi : i < ps.length
 · rw [List.getElem?_append_left hi] at e
   obtain ⟨b, h1, h2⟩ := h.2 i q e
   exact ⟨b, by rw [List.getElem?_append_left (by omega)]; exact h1, h2⟩
 · have hlt : i < (ps ++ [p]).length := (List.getElem?_eq_some_iff.mp e).1
   have hi2 : i = ps.length := by simp at hlt; omega
   subst hi2
   rw [List.getElem?_append_right (Nat.le_refl _)] at e
   have e' : p = q := by simpa using e
   subst e'
   exact ⟨a, by rw [← hl, List.getElem?_append_right (Nat.le_refl _)]; simp, ha⟩
theorem Xgp {H : Hp} {p : Addr} {o : HO} (hp : H p = none ∨ ∃ xs, H p = some (.lst xs)) : ∀ b xs, H b = some (.tup xs) → upd H p o b = some (.tup xs) := fun b xs e => by
 have hne : b ≠ p := fun z => by
   subst z
   rcases hp with h | ⟨ys, h⟩
   · rw [h] at e; cases e
   · rw [h] at e; cases e
 rw [Xap hne]
 exact e
theorem Xbc.push {H : Hp} {us : List V} {ps : List Pc} {p t : Addr} {z : Pc} (h : Xbc H us ps) (hp : H p = some (.lst us)) (ht : H t = none) :
   upd (upd H t (.tup [.int z.a, .int z.l, .bl z.v])) p (.lst (us ++ [.ref t])) p = some (.lst (us ++ [.ref t])) ∧
   Xbc (upd (upd H t (.tup [.int z.a, .int z.l, .bl z.v])) p (.lst (us ++ [.ref t]))) (us ++ [.ref t]) (ps ++ [z]) := by
 have hpt : p ≠ t := Xan hp ht
 have hp2 : upd H t (.tup [.int z.a, .int z.l, .bl z.v]) p = some (.lst us) := by rw [Xap hpt]; exact hp
 refine ⟨upd_same, ?_⟩
 refine Xbc.snoc ?_ ?_
 · exact (h.mono (Xgp (.inl ht))).mono (Xgp (.inr ⟨_, hp2⟩))
 · exact Xgp (.inr ⟨_, hp2⟩) _ _ upd_same
theorem Xbc.at {H : Hp} {us : List V} {ps : List Pc} (h : Xbc H us ps) {k : Int} (h0 : 0 ≤ k) (h1 : k < us.length) : ∃ t z, atI us k = some (.ref t) ∧ ps[k.toNat]? = some z ∧ H t = some (.tup [.int z.a, .int z.l, .bl z.v]) := by
 have hl := h.1
 have hk : k.toNat < ps.length := by omega
 obtain ⟨t, e1, e2⟩ := h.2 k.toNat ps[k.toNat] (by simp [hk])
 refine ⟨t, _, ?_, by simp [hk], e2⟩
 have := Xlm e1
 rwa [Int.toNat_of_nonneg h0] at this
def Xbv (H : Hp) (us : List V) (xs : List (List V)) : Prop := us.length = xs.length ∧ ∀ (i : Nat) (x : List V), xs[i]? = some x → ∃ a, us[i]? = some (.ref a) ∧ H a = some (.tup x)
theorem Xbv.nil {H : Hp} : Xbv H [] [] := ⟨rfl, fun i p h => by simp at h⟩
theorem Xbv.mono {H H' : Hp} {us : List V} {xs : List (List V)} (h : Xbv H us xs) (k : ∀ b ys, H b = some (.tup ys) → H' b = some (.tup ys)) : Xbv H' us xs :=
 ⟨h.1, fun i p e => let ⟨a, h1, h2⟩ := h.2 i p e; ⟨a, h1, k _ _ h2⟩⟩
theorem Xbv.same {H H' : Hp} {us : List V} {xs : List (List V)} (h : Xbv H us xs) (k : Same H H') : Xbv H' us xs := h.mono fun b ys e => k b _ e
theorem Xbv.push {H : Hp} {us : List V} {xs : List (List V)} {p t : Addr} {z : List V} (h : Xbv H us xs) (hp : H p = some (.lst us)) (ht : H t = none) :
   Xbv (upd (upd H t (.tup z)) p (.lst (us ++ [.ref t]))) (us ++ [.ref t]) (xs ++ [z]) := by
 have hpt : p ≠ t := Xan hp ht
 have hp2 : upd H t (.tup z) p = some (.lst us) := by rw [Xap hpt]; exact hp
 have h2 := (h.mono (Xgp (o := .tup z) (.inl ht))).mono (Xgp (o := .lst (us ++ [.ref t])) (.inr ⟨_, hp2⟩))
 have hz : upd (upd H t (.tup z)) p (.lst (us ++ [.ref t])) t = some (.tup z) := Xgp (.inr ⟨_, hp2⟩) _ _ upd_same
 refine ⟨by simp [h.1], fun i q e => ?_⟩
 have hl := h.1
 by_cases hi : i < xs.length
 · rw [List.getElem?_append_left hi] at e
   obtain ⟨b, h1, h3⟩ := h2.2 i q e
   exact ⟨b, by rw [List.getElem?_append_left (by omega)]; exact h1, h3⟩
 · have hlt : i < (xs ++ [z]).length := (List.getElem?_eq_some_iff.mp e).1
   have hi2 : i = xs.length := by simp at hlt; omega
   subst hi2
   rw [List.getElem?_append_right (Nat.le_refl _)] at e
   have e' : z = q := by simpa using e
   subst e'
   exact ⟨t, by rw [← hl, List.getElem?_append_right (Nat.le_refl _)]; simp, hz⟩
theorem Xbv.at {H : Hp} {us : List V} {xs : List (List V)} (h : Xbv H us xs) {i : Nat} (h1 : i < us.length) : ∃ t z, atI us (0 + (i : Int)) = some (.ref t) ∧ xs[i]? = some z ∧ H t = some (.tup z) := by
 have hl := h.1
 have hk : i < xs.length := by omega
 obtain ⟨t, e1, e2⟩ := h.2 i xs[i] (by simp [hk])
 exact ⟨t, _, by rw [Int.zero_add]; exact Xlm e1, by simp [hk], e2⟩
@[reducible] def optV : Option Int → V
 | none => .non
 | some b => .int b
def Xfo : Sp := fun vs H Q _ => ∃ n : Int, vs = [.int n] ∧ Q (.int (n / 2)) H
def Xiw : Sp := fun vs H Q _ => ∃ n : Int, vs = [.int n] ∧ Q (.bl (decide (n % 2 = 1))) H
def Xzl (K : PySem.W.Frag) : Sp := fun vs H Q _ => ∃ (a : Addr) (ns : List Int) (k : Int), vs = [.ref a, .int k] ∧ SqL K H a (ns.map V.int) ∧ 0 ≤ k ∧ k < ns.length ∧ Q (.bl (Xbr ns k)) H
def XAc (K : PySem.W.Frag) : Sp := fun vs H Q _ => ∃ (a : Addr) (ns : List Int) (k : Int), vs = [.ref a, .int k] ∧ SqL K H a (ns.map V.int) ∧ 0 ≤ k ∧ k < ns.length ∧ Q (optV (Xdc ns k)) H
def Xer (K : PySem.W.Frag) (C : Addr) : Sp := fun vs H Q E => ∃ (a : Addr) (ns : List Int), vs = [.ref a] ∧ SqL K H a (ns.map V.int) ∧ ns.length ≤ 4000 ∧
 (∀ b, (Xcn ns 0).2 = some b → ∀ (dx : Addr) (H' : Hp), Same H H' → H' dx = some (.xd [("cell", .int b)]) → E (.ref C) (some dx) H') ∧
 ((Xcn ns 0).2 = none → ∀ (p : Addr) (us : List V) (H' : Hp), H p = none → Same H H' → H' p = some (.lst us) → Xbc H' us (Xcn ns 0).1 → Q (.ref p) H')
def Xry (K : PySem.W.Frag) : Sp := fun vs H Q _ => ∃ (a : Addr) (ns : List Int) (k : Int), vs = [.ref a, .int k] ∧ SqL K H a (ns.map V.int) ∧ 0 ≤ k ∧ Q (.int (ns.getD k.toNat 0)) H
def Xsk (K : PySem.W.Frag) : Sp := fun vs H Q _ => ∃ (a : Addr) (ns : List Int), vs = [.ref a] ∧ SqL K H a (ns.map V.int) ∧ ns.length ≤ 63 ∧ ∀ H', Q (.bl true) H'
section
variable {K : PySem.W.Frag} {H : Hp} {Q : VK} {E : XK}
theorem i_long {n : Int} (q : Q (.int (n / 2)) H) : Xfo [.int n] H Q E := ⟨n, rfl, q⟩
theorem i_live {n : Int} (q : Q (.bl (decide (n % 2 = 1))) H) : Xiw [.int n] H Q E := ⟨n, rfl, q⟩
theorem i_can {a : Addr} {ns : List Int} {k : Int} (h : SqL K H a (ns.map V.int)) (h0 : 0 ≤ k) (h1 : k < ns.length) (q : Q (.bl (Xbr ns k)) H) : Xzl K [.ref a, .int k] H Q E := ⟨a, ns, k, rfl, h, h0, h1, q⟩
theorem i_bad {a : Addr} {ns : List Int} {k : Int} (h : SqL K H a (ns.map V.int)) (h0 : 0 ≤ k) (h1 : k < ns.length) (q : Q (optV (Xdc ns k)) H) : XAc K [.ref a, .int k] H Q E := ⟨a, ns, k, rfl, h, h0, h1, q⟩
theorem i_cell {a : Addr} {ns : List Int} {k : Int} (h : SqL K H a (ns.map V.int)) (h0 : 0 ≤ k) (q : Q (.int (ns.getD k.toNat 0)) H) : Xry K [.ref a, .int k] H Q E := ⟨a, ns, k, rfl, h, h0, q⟩
theorem Xwe (n : Int) : decide (Builtin.bitAnd n 1 = 1) = decide (n % 2 = 1) := by rw [← XFb, decV]
end
end Stow
namespace Stow
def Xcy (cs : List Int) (k l : Int) (v : Bool) : List Int := (cs.set k.toNat (l * 2 + if v then 1 else 0)).set (k + l - 1).toNat (l * 2 + if v then 1 else 0)
theorem Xbq (cs : List Int) (k l : Int) (v : Bool) : (Xcy cs k l v).length = cs.length := by
 unfold Xcy
 rw [List.length_set, List.length_set]
theorem Xej {cs : List Int} {k l : Int} {v : Bool} {j : Nat} (h0 : 0 ≤ k) (h1 : 1 ≤ l) (h : (j : Int) < k ∨ k + l ≤ j) : (Xcy cs k l v)[j]? = cs[j]? := by
 unfold Xcy
 rw [List.getElem?_set_ne (by omega), List.getElem?_set_ne (by omega)]
theorem Xhu {cs : List Int} {k l : Int} {v : Bool} (h0 : 0 ≤ k) (h1 : 1 ≤ l) (h : k + l ≤ cs.length) : (Xcy cs k l v)[k.toNat]? = some (mkOf l v) := by
 unfold Xcy mkOf
 by_cases e : (k + l - 1).toNat = k.toNat
 · rw [e, List.getElem?_set_self (by rw [List.length_set]; omega)]
 · rw [List.getElem?_set_ne e, List.getElem?_set_self (by omega)]
theorem Xis {cs : List Int} {k l : Int} {v : Bool} (h0 : 0 ≤ k) (h1 : 1 ≤ l) (h : k + l ≤ cs.length) : (Xcy cs k l v)[(k + l - 1).toNat]? = some (mkOf l v) := by
 unfold Xcy mkOf
 rw [List.getElem?_set_self (by rw [List.length_set]; omega)]
def Xfv (ds : List Pc) (k : Int) : Prop := ∀ p ∈ ds, 0 ≤ p.a ∧ 1 ≤ p.l ∧ p.a + p.l ≤ k
def Xjw (rs : List Pc) (e : Int) : Prop := ∀ p ∈ rs, e ≤ p.a ∧ 1 ≤ p.l
theorem Xai.endBy {ds : List Pc} {s e : Int} (h : Xai s ds e) (h0 : 0 ≤ s) : Xfv ds e := fun p hp => by
 obtain ⟨h1, h2, _, h3⟩ := h.mem p hp
 omega
theorem Xai.fromOn {ds : List Pc} {s e : Int} (h : Xai s ds e) : Xjw ds s := fun p hp => by
 obtain ⟨h1, h2, _, _⟩ := h.mem p hp
 omega
theorem Xfv.mono {ds : List Pc} {k k' : Int} (h : Xfv ds k) (e : k ≤ k') : Xfv ds k' := fun p hp => by have := h p hp; omega
theorem Xfv.app {ds es : List Pc} {k : Int} (h : Xfv ds k) (g : Xfv es k) : Xfv (ds ++ es) k := fun p hp => (List.mem_append.mp hp).elim (h p) (g p)
theorem Xbg.sub {cs : List Int} {ps qs : List Pc} (m : Xbg cs ps) (h : ∀ p ∈ qs, p ∈ ps) : Xbg cs qs := fun p hp => m p (h p hp)
theorem Xbg.lay {cs : List Int} {ds rs : List Pc} {k l : Int} {v : Bool} (h0 : 0 ≤ k) (h1 : 1 ≤ l) (hl : k + l ≤ cs.length) (hd : Xfv ds k) (hr : Xjw rs (k + l)) (m : Xbg cs (ds ++ rs)) :
   Xbg (Xcy cs k l v) (ds ++ ⟨k, l, v⟩ :: rs) := by
 intro p hp
 rcases List.mem_append.mp hp with h | h
 · obtain ⟨a0, a1, a2⟩ := hd p h
   obtain ⟨m1, m2⟩ := m p (List.mem_append_left _ h)
   exact ⟨by rw [Xej h0 h1 (by omega)]; exact m1, by rw [Xej h0 h1 (by omega)]; exact m2⟩
 · rcases List.mem_cons.mp h with h | h
   · subst h
     exact ⟨Xhu h0 h1 hl, Xis h0 h1 hl⟩
   · obtain ⟨a0, a1⟩ := hr p h
     obtain ⟨m1, m2⟩ := m p (List.mem_append_right _ h)
     exact ⟨by rw [Xej h0 h1 (by omega)]; exact m1, by rw [Xej h0 h1 (by omega)]; exact m2⟩
def lfI (cs : List Int) (b e : Int) : List Int := if b = e then cs else Xcy cs b (e - b) false
def fr (b e : Int) : List Pc := if b = e then [] else [⟨b, e - b, false⟩]
theorem Xcl (cs : List Int) (b e : Int) : (lfI cs b e).length = cs.length := by
 unfold lfI
 split
 · rfl
 · exact Xbq _ _ _ _
theorem XOo {cs : List Int} {b e : Int} {j : Nat} (h0 : 0 ≤ b) (h1 : b ≤ e) (h : (j : Int) < b ∨ e ≤ j) : (lfI cs b e)[j]? = cs[j]? := by
 unfold lfI
 split
 · rfl
 · exact Xej h0 (by omega) (by omega)
theorem Xgx {b e : Int} (h : b ≤ e) : Xai b (fr b e) e := by
 unfold fr
 split
 · assumption
 · exact ⟨rfl, (by show 1 ≤ e - b; omega), (fun z => by cases z), (by show b + (e - b) = e; omega)⟩
theorem Xbg.layF {cs : List Int} {ds rs : List Pc} {b e : Int} (h0 : 0 ≤ b) (h1 : b ≤ e) (hl : e ≤ cs.length) (hd : Xfv ds b) (hr : Xjw rs e) (m : Xbg cs (ds ++ rs)) : Xbg (lfI cs b e) (ds ++ (fr b e ++ rs)) := by
 unfold lfI fr
 split
 · exact m
 · exact Xbg.lay h0 (by omega) (by omega) hd (by rw [show b + (e - b) = e by omega]; exact hr) m
def cutO (cs : List Int) (a l s L : Int) : List Int := lfI (Xcy (lfI cs a s) s L true) (s + L) (a + l)
theorem Xjk (cs : List Int) (a l s L : Int) : (cutO cs a l s L).length = cs.length := by
 unfold cutO
 rw [Xcl, Xbq, Xcl]
def cutP (ds rs : List Pc) (a l s L : Int) : List Pc := ds ++ (fr a s ++ (⟨s, L, true⟩ :: (fr (s + L) (a + l) ++ rs)))
theorem Xoa {cs : List Int} {ds rs : List Pc} {z : Pc} {s L : Int} (h0 : 0 ≤ z.a) (hL : 1 ≤ L) (h1 : z.a ≤ s) (h2 : s + L ≤ z.a + z.l) (hl : z.a + z.l ≤ cs.length) (hd : Xfv ds z.a) (hr : Xjw rs (z.a + z.l)) (m : Xbg cs (ds ++ z :: rs)) :
   Xbg (cutO cs z.a z.l s L) (cutP ds rs z.a z.l s L) := by
 have m0 : Xbg cs (ds ++ rs) := m.sub fun p hp => by
   rcases List.mem_append.mp hp with h | h
   · exact List.mem_append_left _ h
   · exact List.mem_append_right _ (List.mem_cons_of_mem _ h)
 have m1 := Xbg.layF h0 h1 (by omega) hd (fun p hp => by have := hr p hp; omega) m0
 have d1 : Xfv (ds ++ fr z.a s) s := (hd.mono h1).app ((Xgx h1).endBy h0)
 have m2 : Xbg (Xcy (lfI cs z.a s) s L true) ((ds ++ fr z.a s) ++ ⟨s, L, true⟩ :: rs) :=
   Xbg.lay (by omega) hL (by rw [Xcl]; omega) d1 (fun p hp => by have := hr p hp; omega) (by rw [List.append_assoc]; exact m1)
 have d2 : Xfv ((ds ++ fr z.a s) ++ [⟨s, L, true⟩]) (s + L) := (d1.mono (by omega)).app fun p hp => by
   have : p = ⟨s, L, true⟩ := by simpa using hp
   subst this
   exact ⟨by show 0 ≤ s; omega, hL, Int.le_refl _⟩
 have m3 := Xbg.layF (cs := Xcy (lfI cs z.a s) s L true) (b := s + L) (e := z.a + z.l) (by omega) h2 (by rw [Xbq, Xcl]; omega) d2 hr (by rw [List.append_assoc]; exact m2)
 unfold cutO cutP
 simpa only [List.append_assoc, List.singleton_append, List.cons_append, List.nil_append] using m3
theorem Xob {ds rs : List Pc} {a l s L n : Int} (hL : 3 ≤ L) (h1 : a ≤ s) (h2 : s + L ≤ a + l) (hd : Xai 0 ds a) (hr : Xai (a + l) rs n) : Xai 0 (cutP ds rs a l s L) n :=
 hd.app ((Xgx h1).app ⟨rfl, (by show 1 ≤ L; omega), (fun _ => hL), (Xgx h2).app hr⟩)
theorem Xat : ∀ {ps : List Pc} {s e : Int} {i : Nat} {z : Pc}, Xai s ps e → ps[i]? = some z → ∃ ds rs, ps = ds ++ z :: rs ∧ ds.length = i ∧ Xai s ds z.a ∧ Xai (z.a + z.l) rs e
 | [], s, e, i, z, _, h => by simp at h
 | p :: r, s, e, 0, z, c, h => by
   have e1 : p = z := by simpa using h
   subst e1
   obtain ⟨h0, h1, h2, h3⟩ := c
   exact ⟨[], r, rfl, rfl, h0.symm, by rw [h0]; exact h3⟩
 | p :: r, s, e, i + 1, z, c, h => by
   obtain ⟨h0, h1, h2, h3⟩ := c
   obtain ⟨ds, rs, e1, e2, c1, c2⟩ := Xat h3 (show r[i]? = some z by simpa using h)
   exact ⟨p :: ds, rs, by rw [e1]; rfl, by rw [List.length_cons, e2], ⟨h0, h1, h2, c1⟩, c2⟩
theorem Xch {ps : List Pc} {s e : Int} {i : Nat} {z y : Pc} (c : Xai s ps e) (h : ps[i]? = some z) (h' : ps[i + 1]? = some y) : y.a = z.a + z.l := by
 obtain ⟨ds, rs, rfl, rfl, _, c2⟩ := Xat c h
 rw [List.getElem?_append_right (by omega)] at h'
 rw [show ds.length + 1 - ds.length = 1 by omega] at h'
 cases rs with
 | nil => simp at h'
 | cons p r =>
   have : p = y := by simpa using h'
   subst this
   exact c2.1
theorem Xnj {ps : List Pc} {s e : Int} {i : Nat} {z : Pc} (c : Xai s ps e) (h : ps[i]? = some z) (h' : ps.length = i + 1) : z.a + z.l = e := by
 obtain ⟨ds, rs, rfl, rfl, _, c2⟩ := Xat c h
 rw [List.length_append, List.length_cons] at h'
 have : rs = [] := List.length_eq_zero_iff.mp (by omega)
 subst this
 exact c2
theorem Xlg {ps : List Pc} {s e : Int} {z : Pc} (c : Xai s ps e) (h : ps[0]? = some z) : z.a = s := by
 cases ps with
 | nil => simp at h
 | cons p r =>
   have : p = z := by simpa using h
   subst this
   exact c.1
theorem Xhp {ps : List Pc} {s e : Int} {i : Nat} {z : Pc} (c : Xai s ps e) (h : ps[i]? = some z) : s + i ≤ z.a := by
 obtain ⟨ds, rs, rfl, rfl, c1, _⟩ := Xat c h
 exact c1.le
theorem Xls {ps : List Pc} : ∀ {b e : Int}, Xai b ps e → ∀ (i j : Nat) (y z : Pc), ps[i]? = some y → ps[j]? = some z → y.a = z.a → y = z := by
 induction ps with
 | nil => intro b e _ i j y z hi; simp at hi
 | cons p r ih =>
   intro b e h i j y z hi hj ha
   obtain ⟨e1, h1, h3, c⟩ := h
   have up : ∀ (i : Nat) (y : Pc), r[i]? = some y → y.a > p.a := fun i y hy => by
     have := (c.mem y (List.mem_of_getElem? hy)).1
     omega
   cases i with
   | zero =>
     cases j with
     | zero => simp at hi hj; rw [← hi, ← hj]
     | succ j =>
       have e2 : p = y := by simpa using hi
       have := up j z (by simpa using hj)
       subst e2; omega
   | succ i =>
     cases j with
     | zero =>
       have e2 : p = z := by simpa using hj
       have := up i y (by simpa using hi)
       subst e2; omega
     | succ j => exact ih c i j y z (by simpa using hi) (by simpa using hj) ha
def fbeg (ps : List Pc) (i : Nat) (z : Pc) : Int := match i with
 | 0 => z.a
 | j + 1 => match ps[j]? with
   | some y => if y.v = true then z.a else y.a
   | none => z.a
def fend (ps : List Pc) (i : Nat) (z : Pc) : Int := match ps[i + 1]? with
 | some y => if y.v = true then z.a + z.l else y.a + y.l
 | none => z.a + z.l
theorem Xnz {cs : List Int} {ps : List Pc} {s e : Int} {j : Nat} {y z : Pc} (c : Xai s ps e) (m : Xbg cs ps) (h : ps[j]? = some y) (h' : ps[j + 1]? = some z) : cs.getD (z.a - 1).toNat 0 = y.mk' := by
 have e := Xch c h h'
 obtain ⟨_, m2⟩ := m y (List.mem_of_getElem? h)
 rw [List.getD_eq_getElem?_getD, show z.a - 1 = y.a + y.l - 1 by omega, m2]
 rfl
theorem Xlj {cs : List Int} {ps : List Pc} {s e : Int} {j : Nat} {y z : Pc} (c : Xai s ps e) (m : Xbg cs ps) (h : ps[j]? = some y) (h' : ps[j + 1]? = some z) : cs.getD (y.a + y.l).toNat 0 = z.mk' := by
 have e := Xch c h h'
 obtain ⟨m1, _⟩ := m z (List.mem_of_getElem? h')
 rw [List.getD_eq_getElem?_getD, ← e, m1]
 rfl
theorem XBo {ps : List Pc} {s e : Int} {i : Nat} {z : Pc} (c : Xai s ps e) (h : ps[i]? = some z) : s ≤ fbeg ps i z ∧ fbeg ps i z ≤ z.a := by
 have hz := Xhp c h
 unfold fbeg
 split
 · omega
 · rename_i j
   split
   · rename_i y hy
     have hy' := Xhp c hy
     have e1 := Xch c hy h
     have := c.mem y (List.mem_of_getElem? hy)
     split <;> omega
   · omega
theorem Xlu {ps : List Pc} {s e : Int} {i : Nat} {z : Pc} (c : Xai s ps e) (h : ps[i]? = some z) : z.a + z.l ≤ fend ps i z ∧ fend ps i z ≤ e := by
 have hz := c.mem z (List.mem_of_getElem? h)
 unfold fend
 split
 · rename_i y hy
   have e1 := Xch c h hy
   have := c.mem y (List.mem_of_getElem? hy)
   split <;> omega
 · omega
theorem Xfn {a b : Int} (hb : 1 ≤ b) : -(a + 1) % b = b - 1 - a % b := by
 have e := Int.emod_add_mul_ediv a b
 have h0 := Int.emod_nonneg a (show b ≠ 0 by omega)
 have h1 := Int.emod_lt_of_pos a (show 0 < b by omega)
 have eq : -(a + 1) = (b - 1 - a % b) + b * (-(a / b) - 1) := by
   rw [Int.mul_sub, Int.mul_neg]
   omega
 rw [eq, Int.add_mul_emod_self_left, Int.emod_eq_of_lt (by omega) (by omega)]
end Stow
namespace Stow
theorem Xda {ps : List Pc} {s e : Int} {y z : Pc} (c : Xai s ps e) (hy : y ∈ ps) (hz : z ∈ ps) (h : y.a = z.a) : y = z := by
 obtain ⟨i, hi⟩ := List.getElem?_of_mem hy
 obtain ⟨j, hj⟩ := List.getElem?_of_mem hz
 exact Xls c i j y z hi hj h
end Stow
namespace Stow
theorem Xfr {ps : List Pc} {j : Nat} {y z : Pc} (h : ps[j]? = some y) (hv : y.v = true) : fbeg ps (j + 1) z = z.a := by
 unfold fbeg
 simp only [h]
 exact if_pos hv
theorem Xfi {ps : List Pc} {j : Nat} {y z : Pc} (h : ps[j]? = some y) (hv : y.v = false) : fbeg ps (j + 1) z = y.a := by
 unfold fbeg
 simp only [h]
 exact if_neg (by rw [hv]; exact Bool.false_ne_true)
theorem Xeh {ps : List Pc} {j : Nat} {y z : Pc} (h : ps[j + 1]? = some y) (hv : y.v = true) : fend ps j z = z.a + z.l := by
 unfold fend
 rw [h]
 exact if_pos hv
theorem Xek {ps : List Pc} {j : Nat} {y z : Pc} (h : ps[j + 1]? = some y) (hv : y.v = false) : fend ps j z = y.a + y.l := by
 unfold fend
 rw [h]
 exact if_neg (by rw [hv]; exact Bool.false_ne_true)
theorem Xft {ps : List Pc} {j : Nat} {z : Pc} (h : ps[j + 1]? = none) : fend ps j z = z.a + z.l := by
 unfold fend
 rw [h]
end Stow
namespace Stow
theorem Xht {ps : List Pc} {s e : Int} {i j : Nat} {y z : Pc} (c : Xai s ps e) (hi : ps[i]? = some y) (hj : ps[j]? = some z) (h : y.a = z.a) : i = j := by
 rcases Nat.lt_trichotomy i j with g | g | g
 · exfalso
   obtain ⟨ds, rs, e1, e2, c1, c2⟩ := Xat c hi
   subst e1 e2
   rw [List.getElem?_append_right (by omega)] at hj
   cases k : j - ds.length with
   | zero => omega
   | succ n =>
     rw [k] at hj
     have hm : z ∈ rs := List.mem_of_getElem? (show rs[n]? = some z from hj)
     have := (c2.mem z hm).1
     have := (c.mem y (List.mem_append_right _ List.mem_cons_self)).2.1
     omega
 · exact g
 · exfalso
   obtain ⟨ds, rs, e1, e2, c1, c2⟩ := Xat c hj
   subst e1 e2
   rw [List.getElem?_append_right (by omega)] at hi
   cases k : i - ds.length with
   | zero => omega
   | succ n =>
     rw [k] at hi
     have hm : y ∈ rs := List.mem_of_getElem? (show rs[n]? = some y from hi)
     have := (c2.mem y hm).1
     have := (c.mem z (List.mem_append_right _ List.mem_cons_self)).2.1
     omega
end Stow
namespace Stow
def Xbf (acc : List Pc) (z : Pc) : List Pc := match acc.getLast? with
 | some y => if z.v = false ∧ y.v = false then acc.dropLast ++ [⟨y.a, y.l + z.l, false⟩] else acc ++ [z]
 | none => acc ++ [z]
def Xdf (ps : List Pc) : List Pc := ps.foldl Xbf []
theorem Xkh (z : Pc) : Xbf [] z = [z] := rfl
theorem Xcj {acc : List Pc} {z : Pc} (h : z.v = true) : Xbf acc z = acc ++ [z] := by
 unfold Xbf
 split
 · rw [if_neg (by rw [h]; simp)]
 · rfl
theorem Xcs {D : List Pc} {y z : Pc} (h : y.v = true) : Xbf (D ++ [y]) z = D ++ [y] ++ [z] := by
 unfold Xbf
 rw [List.getLast?_concat]
 simp only
 rw [if_neg (by rw [h]; simp)]
theorem Xcc {D : List Pc} {y z : Pc} (h : y.v = false) (hz : z.v = false) : Xbf (D ++ [y]) z = D ++ [⟨y.a, y.l + z.l, false⟩] := by
 unfold Xbf
 rw [List.getLast?_concat]
 simp only
 rw [if_pos ⟨hz, h⟩, List.dropLast_concat]
theorem Xil {ps : List Pc} {i : Nat} {z : Pc} (h : ps[i]? = some z) : Xdf (ps.take (i + 1)) = Xbf (Xdf (ps.take i)) z := by
 unfold Xdf
 rw [List.take_add_one, h, List.foldl_append]
 rfl
theorem Xbs (l : List Pc) : l = [] ∨ ∃ D y, l = D ++ [y] := by
 rcases List.eq_nil_or_concat l with h | ⟨D, y, h⟩
 · exact .inl h
 · exact .inr ⟨D, y, by rw [h, List.concat_eq_append]⟩
theorem Xai.take : ∀ {ps : List Pc} {s e : Int} {i : Nat}, Xai s ps e → i ≤ ps.length → ∃ m, Xai s (ps.take i) m ∧ Xai m (ps.drop i) e
 | ps, s, e, 0, c, _ => ⟨s, rfl, c⟩
 | [], s, e, i + 1, c, h => by simp at h
 | p :: r, s, e, i + 1, c, h => by
   obtain ⟨h0, h1, h2, h3⟩ := c
   obtain ⟨m, c1, c2⟩ := h3.take (i := i) (by simpa using h)
   exact ⟨m, ⟨h0, h1, h2, c1⟩, c2⟩
theorem Xai.unsnoc {D : List Pc} {y : Pc} {s e : Int} (c : Xai s (D ++ [y]) e) : Xai s D y.a ∧ 1 ≤ y.l ∧ (y.v = true → 3 ≤ y.l) ∧ y.a + y.l = e := by
 obtain ⟨ds, rs, e1, e2, c1, c2⟩ := Xat (i := D.length) (z := y) c (by rw [List.getElem?_append_right (Nat.le_refl _), Nat.sub_self]; rfl)
 have hl := congrArg List.length e1
 rw [List.length_append, List.length_append, List.length_singleton, List.length_cons] at hl
 have er : rs = [] := List.length_eq_zero_iff.mp (by omega)
 subst er
 have := (List.append_inj e1 (by omega)).1
 subst this
 obtain ⟨h1, h2, h3, _⟩ := c.mem y (List.mem_append_right _ List.mem_cons_self)
 exact ⟨c1, h2, h3, c2⟩
theorem Xik {acc : List Pc} {z : Pc} {s : Int} (c : Xai s acc z.a) (h1 : 1 ≤ z.l) (h3 : z.v = true → 3 ≤ z.l) : Xai s (Xbf acc z) (z.a + z.l) := by
 rcases Xbs acc with h | ⟨D, y, h⟩
 · subst h
   exact Xai.snoc c h1 h3
 · subst h
   cases hy : y.v with
   | true => rw [Xcs hy]; exact Xai.snoc c h1 h3
   | false =>
     cases hz : z.v with
     | true => rw [Xcj hz]; exact Xai.snoc c h1 h3
     | false =>
       rw [Xcc hy hz]
       obtain ⟨c1, y1, _, y2⟩ := c.unsnoc
       have := Xai.snoc (p := ⟨y.a, y.l + z.l, false⟩) c1 (by show 1 ≤ y.l + z.l; omega) (fun w => by cases w)
       rwa [show (⟨y.a, y.l + z.l, false⟩ : Pc).a + (⟨y.a, y.l + z.l, false⟩ : Pc).l = z.a + z.l by show y.a + (y.l + z.l) = z.a + z.l; omega] at this
theorem Xem : ∀ {ps acc : List Pc} {s m e : Int}, Xai s acc m → Xai m ps e → Xai s (ps.foldl Xbf acc) e
 | [], acc, s, m, e, c, d => by have d : m = e := d; subst d; exact c
 | p :: r, acc, s, m, e, c, d => by
   obtain ⟨h0, h1, h2, h3⟩ := d
   show Xai s (r.foldl Xbf (Xbf acc p)) e
   refine Xem (m := p.a + p.l) (Xik (by rw [h0]; exact c) h1 h2) (by rw [h0]; exact h3)
theorem Xhh {ps : List Pc} {s e : Int} (c : Xai s ps e) : Xai s (Xdf ps) e := Xem (acc := []) rfl c
def Xdz (cs : List Int) (ps : List Pc) : List Int := ps.foldl (fun c z => Xcy c z.a z.l z.v) cs
theorem Xky (cs : List Int) (ds : List Pc) (z : Pc) : Xdz cs (ds ++ [z]) = Xcy (Xdz cs ds) z.a z.l z.v := by
 unfold Xdz
 rw [List.foldl_append]
 rfl
theorem Xlf {cs : List Int} {ps : List Pc} {i : Nat} {z : Pc} (h : ps[i]? = some z) : Xdz cs (ps.take (i + 1)) = Xcy (Xdz cs (ps.take i)) z.a z.l z.v := by
 rw [List.take_add_one, h]
 exact Xky _ _ _
theorem Xds : ∀ (ps : List Pc) (cs : List Int), (Xdz cs ps).length = cs.length
 | [], cs => rfl
 | p :: r, cs => by
   show (Xdz (Xcy cs p.a p.l p.v) r).length = cs.length
   rw [Xds r, Xbq]
theorem Xgh : ∀ {rs ds : List Pc} {cs : List Int} {m : Int}, Xai 0 ds m → Xai m rs cs.length → Xbg cs ds → Xbg (Xdz cs rs) (ds ++ rs)
 | [], ds, cs, m, _, _, k => by rw [List.append_nil]; exact k
 | p :: r, ds, cs, m, c, d, k => by
   obtain ⟨e0, h1, h2, h3⟩ := d
   have l0 := c.le
   have l1 := h3.le
   have := Xgh (rs := r) (ds := ds ++ [p]) (cs := Xcy cs p.a p.l p.v) (m := p.a + p.l) (Xai.snoc (by rw [e0]; exact c) h1 h2) (by rw [Xbq, e0]; exact h3)
     (Xbg.lay (rs := []) (by omega) h1 (by omega) (by rw [e0]; exact c.endBy (Int.le_refl 0)) (fun p hp => by cases hp) (by rw [List.append_nil]; exact k))
   rw [List.append_assoc, List.singleton_append] at this
   exact this
theorem Xgo (ps : List Pc) : ∀ i, i ≤ ps.length → (Xdf (ps.take i)).length ≤ i
 | 0, _ => by simp [Xdf]
 | i + 1, h => by
   have ih := Xgo ps i (by omega)
   have e : ps[i]? = some ps[i] := by simp [show i < ps.length by omega]
   rw [Xil e]
   generalize Xdf (ps.take i) = acc at ih
   generalize ps[i] = z
   rcases Xbs acc with e | ⟨D, w, e⟩
   · subst e; simp [Xkh]
   · subst e
     rw [List.length_append, List.length_singleton] at ih
     cases hw : w.v with
     | true => rw [Xcs hw]; simp; omega
     | false =>
       cases hz : z.v with
       | true => rw [Xcj hz]; simp; omega
       | false => rw [Xcc hw hz]; simp; omega
def Xaw (ps : List Pc) : Prop := ∀ j y z, ps[j]? = some y → ps[j + 1]? = some z → y.v = true ∨ z.v = true
theorem Xaw.snoc {D : List Pc} {w z : Pc} (h : Xaw (D ++ [w])) (hv : w.v = true ∨ z.v = true) : Xaw (D ++ [w] ++ [z]) := by
 intro j y x hy hx
 have hl : j + 1 < (D ++ [w] ++ [z]).length := (List.getElem?_eq_some_iff.mp hx).1
 rw [List.length_append, List.length_singleton] at hl
 rw [List.getElem?_append_left (by omega)] at hy
 by_cases e : j + 1 < (D ++ [w]).length
 · rw [List.getElem?_append_left e] at hx
   exact h j y x hy hx
 · rw [List.length_append, List.length_singleton] at e hl
   rw [List.getElem?_append_right (by rw [List.length_append, List.length_singleton]; omega), show j + 1 - (D ++ [w]).length = 0 by rw [List.length_append, List.length_singleton]; omega] at hx
   rw [show j = D.length by omega, List.getElem?_append_right (Nat.le_refl _), Nat.sub_self] at hy
   have e1 : w = y := by simpa using hy
   have e2 : z = x := by simpa using hx
   rw [← e1, ← e2]
   exact hv
theorem Xaw.last {D : List Pc} {w u : Pc} (h : Xaw (D ++ [w])) (hv : u.v = w.v) : Xaw (D ++ [u]) := by
 intro j y x hy hx
 have hl : j + 1 < (D ++ [u]).length := (List.getElem?_eq_some_iff.mp hx).1
 rw [List.length_append, List.length_singleton] at hl
 rw [List.getElem?_append_left (by omega)] at hy
 by_cases e : j + 1 < D.length
 · rw [List.getElem?_append_left e] at hx
   exact h j y x (by rw [List.getElem?_append_left (by omega)]; exact hy) (by rw [List.getElem?_append_left e]; exact hx)
 · rw [List.getElem?_append_right (by omega), show j + 1 - D.length = 0 by omega] at hx
   have e2 : u = x := by simpa using hx
   have := h j y w (by rw [List.getElem?_append_left (by omega)]; exact hy) (by rw [List.getElem?_append_right (by omega), show j + 1 - D.length = 0 by omega]; rfl)
   rw [← e2, hv]
   exact this
theorem Xii {acc : List Pc} {z : Pc} (h : Xaw acc) : Xaw (Xbf acc z) := by
 rcases Xbs acc with e | ⟨D, w, e⟩
 · subst e
   intro j y x _ hx
   have : j + 1 < [z].length := (List.getElem?_eq_some_iff.mp hx).1
   simp at this
 · subst e
   cases hw : w.v with
   | true => rw [Xcs hw]; exact h.snoc (.inl hw)
   | false =>
     cases hz : z.v with
     | true => rw [Xcj hz]; exact h.snoc (.inr hz)
     | false => rw [Xcc hw hz]; exact h.last hw.symm
theorem Xeo : ∀ (ps acc : List Pc), Xaw acc → Xaw (ps.foldl Xbf acc)
 | [], _, h => h
 | p :: r, acc, h => Xeo r (Xbf acc p) (Xii h)
theorem Xmc (ps : List Pc) : Xaw (Xdf ps) := Xeo ps [] fun j y x hy _ => by simp at hy
end Stow
namespace Stow
theorem XCv {α : Type} (ds rs : List α) (z : α) : (ds ++ z :: rs)[ds.length]? = some z := by
 rw [List.getElem?_append_right (Nat.le_refl _), Nat.sub_self]
 rfl
end Stow
namespace Stow
end Stow
namespace Stow
open PySem L2 PyProof.Rows
theorem Xbc.unsnoc {H : Hp} {us : List V} {ps : List Pc} {y : Pc} (h : Xbc H us (ps ++ [y])) : ∃ ui t, us = ui ++ [.ref t] ∧ Xbc H ui ps ∧ H t = some (.tup [.int y.a, .int y.l, .bl y.v]) := by
 have hl := h.1
 rw [List.length_append, List.length_singleton] at hl
 obtain ⟨t, e1, e2⟩ := h.2 ps.length y (by rw [List.getElem?_append_right (Nat.le_refl _), Nat.sub_self]; rfl)
 have hd : us = us.take ps.length ++ [.ref t] := by
   have := List.take_append_drop ps.length us
   have e3 : us.drop ps.length = [.ref t] := by
     apply List.ext_getElem?
     intro i
     rw [List.getElem?_drop]
     cases i with
     | zero => exact e1
     | succ i => rw [List.getElem?_eq_none (by omega)]; rfl
   rw [e3] at this
   exact this.symm
 refine ⟨us.take ps.length, t, hd, ⟨by rw [List.length_take]; omega, fun i p e => ?_⟩, e2⟩
 have hi : i < ps.length := (List.getElem?_eq_some_iff.mp e).1
 obtain ⟨a, h1, h2⟩ := h.2 i p (by rw [List.getElem?_append_left hi]; exact e)
 exact ⟨a, by rw [List.getElem?_take_of_lt hi]; exact h1, h2⟩
theorem Xbc.relast {H : Hp} {ui : List V} {ps : List Pc} {p t t0 : Addr} {z : Pc} (h : Xbc H ui ps) (hp : H p = some (.lst (ui ++ [.ref t0]))) (ht : H t = none) :
   Xbc (upd (upd H t (.tup [.int z.a, .int z.l, .bl z.v])) p (.lst (ui ++ [.ref t]))) (ui ++ [.ref t]) (ps ++ [z]) := by
 have hpt : p ≠ t := Xan hp ht
 have hp2 : upd H t (.tup [.int z.a, .int z.l, .bl z.v]) p = some (.lst (ui ++ [.ref t0])) := by rw [Xap hpt]; exact hp
 refine Xbc.snoc ?_ ?_
 · exact (h.mono (Xgp (.inl ht))).mono (Xgp (.inr ⟨_, hp2⟩))
 · exact Xgp (.inr ⟨_, hp2⟩) _ _ upd_same
section
variable {X : Cx}
end
end Stow
namespace Stow
open PySem L2 PyProof.Rows
def eqVs (xs ys : List V) : Bool := (List.range (min xs.length ys.length)).all (fun j => eqV (xs.getD j .non) (ys.getD j .non)) && xs.length == ys.length
section
variable {X : Cx} {pins : List (Addr × Obj)} {σ : L2.St} {H : Hp} {s : Shared} {A : Around}
theorem Xux {a b : Addr} {xs ys : List V} (I : Inv X pins σ H s) (ha : SqT X.K H a xs) (hb : SqT X.K H b ys) (hf : xs.all Xic = true) (hg : ys.all Xic = true) :
   ∃ its its2 : List Value, s.heap.IsTuple a its.toArray ∧ s.heap.IsTuple b its2.toArray ∧ its.length = xs.length ∧ its2.length = ys.length ∧
     ∀ j (h1 : j < its.toArray.size) (h2 : j < its2.toArray.size), SeqAt.EqAt A s its.toArray[j] its2.toArray[j] (eqV (xs.getD j .non) (ys.getD j .non)) := by
 obtain ⟨its, r1, p1, _⟩ := I.tuple ha
 obtain ⟨its2, r2, p2, _⟩ := I.tuple hb
 have l1 := r1.length
 have l2 := r2.length
 refine ⟨its, its2, p1, p2, l1.symm, l2.symm, fun j h1 h2 => ?_⟩
 rw [List.size_toArray] at h1 h2
 have hj : j < xs.length := by omega
 have hk : j < ys.length := by omega
 obtain ⟨u1, e1, q1⟩ := r1.get (i := j) (x := xs[j]) (by simp [hj])
 obtain ⟨u2, e2, q2⟩ := r2.get (i := j) (x := ys[j]) (by simp [hk])
 obtain ⟨g1, f1⟩ := List.getElem?_eq_some_iff.mp e1
 obtain ⟨g2, f2⟩ := List.getElem?_eq_some_iff.mp e2
 have fl : Xic xs[j] = true := List.all_eq_true.mp hf _ (List.getElem_mem hj)
 have gl : Xic ys[j] = true := List.all_eq_true.mp hg _ (List.getElem_mem hk)
 have z := XMj (A := A) (s := s) q1 q2 fl gl
 rw [← f1, ← f2] at z
 have ex : xs.getD j .non = xs[j] := by simp [hj]
 have ey : ys.getD j .non = ys[j] := by simp [hk]
 rw [ex, ey]
 simpa using z
theorem XEu {a b : Addr} {xs ys : List V} (hu : A.units < cLine) (I : Inv X pins σ H s) (ha : SqT X.K H a xs) (hb : SqT X.K H b ys) (hf : xs.all Xic = true) (hg : ys.all Xic = true) : SeqAt.RcAt A s (.ref a) (.ref b) (eqVs xs ys) := by
 obtain ⟨its, its2, p1, p2, l1, l2, he⟩ := Xux (A := A.in1) I ha hb hf hg
 have key := SeqAt.RcAt.tuples p1 p2 hu he
 simp only [List.size_toArray, l1, l2] at key
 exact key
theorem Xog {xs : List V} (hf : xs.all Xic = true) : eqVs xs xs = true := by
 unfold eqVs
 rw [Bool.and_eq_true]
 refine ⟨List.all_eq_true.mpr fun j hj => ?_, by simp⟩
 have hj : j < xs.length := by simpa using hj
 have ex : xs.getD j .non = xs[j] := by simp [hj]
 rw [ex]
 exact Xtv (List.all_eq_true.mp hf _ (List.getElem_mem hj))
theorem Xlw {a b : Addr} {xs : List V} (hu : A.units < cLine) (I : Inv X pins σ H s) (ha : SqT X.K H a xs) (hb : SqT X.K H b xs) (hf : xs.all Xic = true) : SeqAt.EqAt A s (.ref a) (.ref b) true := by
 by_cases e : a = b
 · subst e; exact SeqAt.EqAt.same _
 · refine SeqAt.EqAt.of_refs e ?_
   have := XEu hu I ha hb hf hf
   rwa [Xog hf] at this
end
section
variable {X : Cx}
end
end Stow
set_option Elab.async false
set_option linter.all false
set_option maxRecDepth 100000
set_option maxHeartbeats 4000000
namespace L2
open PySem PySem.Spec PyProof.Rows
section
variable {κ : Type} [DecidableEq κ]
def valV (kvs : List (κ × V)) (k : κ) : Option V := (kvs.find? fun kv => decide (kv.1 = k)).map (·.2)
def putK (kvs : List (κ × V)) (k : κ) (v : V) : List (κ × V) :=
 if (kvs.any fun kv => decide (kv.1 = k)) = true then kvs.map (fun kv => if kv.1 = k then (kv.1, v) else kv) else kvs ++ [(k, v)]
def XJw (kvs : List (κ × V)) (k : κ) : List (κ × V) := kvs.filter fun kv => decide (kv.1 ≠ k)
theorem Xje {p : κ × V} {r : List (κ × V)} {k : κ} (e : p.1 = k) : valV (p :: r) k = some p.2 := by simp [valV, List.find?_cons, e]
theorem Xjj {p : κ × V} {r : List (κ × V)} {k : κ} (e : ¬ p.1 = k) : valV (p :: r) k = valV r k := by simp [valV, List.find?_cons, e]
theorem Xmr (k : κ) : ∀ kvs : List (κ × V), (kvs.any fun kv => decide (kv.1 = k)) = (valV kvs k).isSome
 | [] => rfl
 | p :: r => by
   rw [List.any_cons]
   by_cases e : p.1 = k
   · simp only [Xje e, decide_eq_true e, Bool.true_or, Option.isSome_some]
   · rw [Xjj e, decide_eq_false e, Bool.false_or]; exact Xmr k r
theorem RelO.isSome_eq {o : Option V} {u : Option Value} (r : RelO o u) : o.isSome = u.isSome := by
 cases o with
 | none => cases u with
   | none => rfl
   | some _ => exact (show False from r).elim
 | some _ => cases u with
   | none => exact (show False from r).elim
   | some _ => rfl
theorem RelO.getD {o : Option V} {u : Option Value} {d : V} {d' : Value} (r : RelO o u) (rd : RelV d d') : RelV (o.getD d) (u.getD d') := by
 cases o with
 | none => cases u with
   | none => exact rd
   | some _ => exact (show False from r).elim
 | some _ => cases u with
   | none => exact (show False from r).elim
   | some _ => exact r
theorem KV.val {kvs : List (κ × V)} {vs : List (κ × Value)} (r : KV kvs vs) (k : κ) : RelO (valV kvs k) (valueAt vs k) := by
 unfold KV at r
 induction r with
 | nil => exact True.intro
 | @cons p q ps qs h t ih =>
   obtain ⟨h1, h2⟩ := h
   by_cases e : p.1 = k
   · have e' : q.1 = k := h1.symm.trans e
     have b : valueAt (q :: qs) k = some q.2 := by simp [valueAt, List.find?_cons, e']
     rw [Xje e, b]; exact h2
   · have e' : ¬ q.1 = k := fun z => e (h1.trans z)
     have b : valueAt (q :: qs) k = valueAt qs k := by simp [valueAt, List.find?_cons, e']
     rw [Xjj e, b]; exact ih
theorem KV.any {kvs : List (κ × V)} {vs : List (κ × Value)} (r : KV kvs vs) (k : κ) : (kvs.any fun kv => decide (kv.1 = k)) = vs.any fun kv => decide (kv.1 = k) := by
 unfold KV at r
 induction r with
 | nil => rfl
 | cons h t ih => rw [List.any_cons, List.any_cons, ih, h.1]
theorem KV.repl {kvs : List (κ × V)} {vs : List (κ × Value)} (r : KV kvs vs) (k : κ) {y : V} {u : Value} (ry : RelV y u) :
   KV (kvs.map fun kv => if kv.1 = k then (kv.1, y) else kv) (vs.map fun kv => if kv.1 = k then (kv.1, u) else kv) := by
 unfold KV at r ⊢
 induction r with
 | nil => exact .nil
 | @cons p q ps qs h t ih =>
   rw [List.map_cons, List.map_cons]
   refine .cons ?_ ih
   obtain ⟨h1, h2⟩ := h
   by_cases e : p.1 = k
   · rw [if_pos e, if_pos (h1.symm.trans e)]; exact ⟨h1, ry⟩
   · rw [if_neg e, if_neg (fun z => e (h1.trans z))]; exact ⟨h1, h2⟩
theorem KV.put {kvs : List (κ × V)} {vs : List (κ × Value)} (r : KV kvs vs) (k : κ) {y : V} {u : Value} (ry : RelV y u) : KV (putK kvs k y) (stored vs k u) := by
 unfold putK stored
 rw [r.any k]
 by_cases e : (vs.any fun kv => decide (kv.1 = k)) = true
 · rw [if_pos e, if_pos e]; exact r.repl k ry
 · rw [if_neg e, if_neg e]; exact Paired.snoc r ⟨rfl, ry⟩
theorem KV.drop {kvs : List (κ × V)} {vs : List (κ × Value)} (r : KV kvs vs) (k : κ) : KV (XJw kvs k) (without vs k) := by
 unfold KV at r ⊢
 unfold XJw without
 induction r with
 | nil => exact .nil
 | @cons p q ps qs h t ih =>
   obtain ⟨h1, h2⟩ := h
   rw [List.filter_cons, List.filter_cons]
   by_cases e : p.1 = k
   · have a : ¬ decide (p.1 ≠ k) = true := by simp [e]
     have b : ¬ decide (q.1 ≠ k) = true := by simp [h1.symm.trans e]
     rw [if_neg a, if_neg b]; exact ih
   · have e' : ¬ q.1 = k := fun z => e (h1.trans z)
     have a : decide (p.1 ≠ k) = true := by simp [e]
     have b : decide (q.1 ≠ k) = true := by simp [e']
     rw [if_pos a, if_pos b]; exact .cons ⟨h1, h2⟩ ih
theorem KV.length {kvs : List (κ × V)} {vs : List (κ × Value)} (r : KV kvs vs) : kvs.length = vs.length := Paired.length r
end
abbrev KT (H : Hp) : List (List Key × V) → List (List Key × Addr × Value) → Prop := Paired fun p q => p.1 = q.1 ∧ H q.2.1 = some (.tup (p.1.map kV)) ∧ RelV p.2 q.2.2
theorem KT.val {H : Hp} {kvs : List (List Key × V)} {xs : List (List Key × Addr × Value)} (r : KT H kvs xs) (k : List Key) : RelO (valV kvs k) ((atKey xs k).map (·.2)) := by
 induction r with
 | nil => exact True.intro
 | @cons p q ps qs h t ih =>
   obtain ⟨h1, _, h2⟩ := h
   by_cases e : p.1 = k
   · have e' : q.1 = k := h1.symm.trans e
     have b : atKey (q :: qs) k = some q.2 := by simp [atKey, List.find?_cons, e']
     rw [Xje e, b]; exact h2
   · have e' : ¬ q.1 = k := fun z => e (h1.trans z)
     have b : atKey (q :: qs) k = atKey qs k := by simp [atKey, List.find?_cons, e']
     rw [Xjj e, b]; exact ih
theorem KT.repl {H : Hp} {kvs : List (List Key × V)} {xs : List (List Key × Addr × Value)} (r : KT H kvs xs) (k : List Key) {y : V} {u : Value} (ry : RelV y u) :
   KT H (kvs.map fun kv => if kv.1 = k then (kv.1, y) else kv) (xs.map (putAt k u)) := by
 induction r with
 | nil => exact .nil
 | @cons p q ps qs h t ih =>
   rw [List.map_cons, List.map_cons]
   refine .cons ?_ ih
   obtain ⟨h1, h2, h3⟩ := h
   unfold putAt
   by_cases e : p.1 = k
   · rw [if_pos e, if_pos (h1.symm.trans e)]; exact ⟨h1, h2, ry⟩
   · rw [if_neg e, if_neg (fun z => e (h1.trans z))]; exact ⟨h1, h2, h3⟩
theorem KT.put {H : Hp} {kvs : List (List Key × V)} {xs : List (List Key × Addr × Value)} (r : KT H kvs xs) (k : List Key) {b : Addr} {y : V} {u : Value} (hb : H b = some (.tup (k.map kV))) (ry : RelV y u) :
   KT H (putK kvs k y) (storedH xs k b u) := by
 have e : (kvs.any fun kv => decide (kv.1 = k)) = (atKey xs k).isSome := by
   rw [Xmr, (r.val k).isSome_eq, Option.isSome_map]
 unfold putK storedH
 rw [e]
 by_cases q : (atKey xs k).isSome = true
 · rw [if_pos q, if_pos q]; exact r.repl k ry
 · rw [if_neg q, if_neg q]; exact Paired.snoc r ⟨rfl, hb, ry⟩
theorem KT.keeps {H H' : Hp} {kvs : List (List Key × V)} {xs : List (List Key × Addr × Value)} (r : KT H kvs xs) (ht : ∀ b ys, H b = some (.tup ys) → H' b = some (.tup ys)) : KT H' kvs xs :=
 Paired.mapP r fun _ _ z => ⟨z.1, ht _ _ z.2.1, z.2.2⟩
section
variable {P : Program} {w : World} {H : Hp} {h : Heap} {a : Addr}
end
def DGet (H : Hp) (a : Addr) (y : V) (r : Option V) : Prop :=
 (∃ kvs k, Rd H a (.dK kvs) ∧ y = kV k ∧ r = valV kvs k) ∨ ∃ kvs k b, Rd H a (.dT kvs) ∧ y = .ref b ∧ H b = some (.tup (k.map kV)) ∧ r = valV kvs k
def DPut (H : Hp) (a : Addr) (y v : V) (H' : Hp) : Prop :=
 (∃ kvs k, H a = some (.dK kvs) ∧ y = kV k ∧ kvs.length < sizeLine ∧ H' = upd H a (.dK (putK kvs k v))) ∨
 ∃ kvs k b, H a = some (.dT kvs) ∧ y = .ref b ∧ H b = some (.tup (k.map kV)) ∧ kvs.length < sizeLine ∧ H' = upd H a (.dT (putK kvs k v))
theorem DGet.k {H : Hp} {a : Addr} {kvs : List (Key × V)} {k : Key} (e : H a = some (.dK kvs)) : DGet H a (kV k) (valV kvs k) := .inl ⟨kvs, k, .inl e, rfl, rfl⟩
theorem DGet.t {H : Hp} {a b : Addr} {kvs : List (List Key × V)} {k : List Key} (e : H a = some (.dT kvs)) (eb : H b = some (.tup (k.map kV))) : DGet H a (.ref b) (valV kvs k) := .inr ⟨kvs, k, b, .inl e, rfl, eb, rfl⟩
theorem DPut.k {H : Hp} {a : Addr} {kvs : List (Key × V)} {k : Key} {v : V} (e : H a = some (.dK kvs)) (hl : kvs.length < sizeLine) : DPut H a (kV k) v (upd H a (.dK (putK kvs k v))) := .inl ⟨kvs, k, e, rfl, hl, rfl⟩
theorem DPut.t {H : Hp} {a b : Addr} {kvs : List (List Key × V)} {k : List Key} {v : V} (e : H a = some (.dT kvs)) (eb : H b = some (.tup (k.map kV))) (hl : kvs.length < sizeLine) :
   DPut H a (.ref b) v (upd H a (.dT (putK kvs k v))) := .inr ⟨kvs, k, b, e, rfl, eb, hl, rfl⟩
section
variable {X : Cx} {pins : List (Addr × Obj)} {σ : St} {H : Hp} {s : Shared} {a : Addr} {y v : V} {u r : Value} {o : Option V} {A : Around} {E : Value → Shared → Prop}
end
section
variable {X : Cx} {pins : List (Addr × Obj)} {σ : St} {H : Hp} {s : Shared} {a : Addr} {kvs : List (Key × V)} {k : Key} {u : Value} {A : Around} {E : Value → Shared → Prop}
end
section
variable {X : Cx} {o i e value : Expr} {pos pos' tpos : Pos} {td ty tv : TE}
end
section
variable {X : Cx} {pos : Pos}
end
structure M1 (X : Cx) (o : Expr) (m : Str) (apos : Pos) (e : Expr) (cpos : Pos) : Prop where
 base : attributeBase o m X.env (eval o X.env) = eval o X.env
 few : ((backTo cpos (starEach [e] X.env)).all (fun x => !x.1) && (backToKw cpos (keywordEach [] X.env)).all (fun x => x.1.isSome)
   && decide (([e] : List Expr).length + ([] : List Keyword).length + (if ([] : List Keyword).isEmpty then 0 else 1) < 30)) = true
 line : (apos.endLine == cpos.line) = true
 trees : backTo cpos (starEach [e] X.env) = [(false, eval e X.env)]
structure M2 (X : Cx) (o : Expr) (m : Str) (apos : Pos) (e f : Expr) (cpos : Pos) : Prop where
 base : attributeBase o m X.env (eval o X.env) = eval o X.env
 few : ((backTo cpos (starEach [e, f] X.env)).all (fun x => !x.1) && (backToKw cpos (keywordEach [] X.env)).all (fun x => x.1.isSome)
   && decide (([e, f] : List Expr).length + ([] : List Keyword).length + (if ([] : List Keyword).isEmpty then 0 else 1) < 30)) = true
 line : (apos.endLine == cpos.line) = true
 trees : backTo cpos (starEach [e, f] X.env) = [(false, eval e X.env), (false, eval f X.env)]
section
variable {X : Cx} {pins : List (Addr × Obj)} {σ : St} {H : Hp} {s : Shared} {a : Addr} {y d : V} {u r : Value} {o : Option V} {A : Around} {E : Value → Shared → Prop}
end
section
variable {X : Cx} {o e f : Expr} {apos cpos : Pos} {td ty tx : TE}
end
section
variable {X : Cx} {pins : List (Addr × Obj)} {σ : St} {H : Hp} {s : Shared} {a : Addr} {kvs : List (Key × V)} {A : Around} {E : Value → Shared → Prop}
end
section
variable {X : Cx} {pins : List (Addr × Obj)} {σ : St} {H : Hp} {s : Shared} {a : Addr} {y : V} {u : Value} {A : Around} {E : Value → Shared → Prop}
end
end L2
namespace L2
open PySem PySem.Spec PyProof.Rows
section
variable {X : Cx}
end
section
variable {κ : Type} [DecidableEq κ]
end
end L2
set_option Elab.async false
set_option linter.all false
set_option maxRecDepth 100000
set_option maxHeartbeats 4000000
namespace Stow
open PySem L2 PyProof.Rows
def CShl (i j : Int) : Prop := 0 ≤ j ∧ j ≤ 1000 ∧ i.natAbs < 2 ^ 220
section
variable {X : Cx}
theorem Xos : OpR X (binaryOp .LShift) (rI CShl fun i j => .int (i * 2 ^ j.toNat)) := opI fun i j _ _ _ _ _ hc q =>
 lshift_int hc.1 (by
   obtain ⟨h0, h1, h2⟩ := hc
   have := PyProof.Rows.intBits_le h2
   omega) q
end
theorem Xpe (n : Int) : Builtin.bitOr (n * 2) 1 = n * 2 + 1 := by
 rw [PyProof.Rows.bitOr_and]
 have e : Builtin.bitAnd (n * 2) 1 = (n * 2) % 2 := by rw [bitAnd_m1]
 rw [e]
 omega
end Stow
set_option Elab.async false
set_option linter.all false
set_option maxRecDepth 100000
set_option maxHeartbeats 4000000
namespace Stow
open PySem L2 PyProof.Rows
section
variable {prog : Program} {w : World} {A : Around} {R : Result → Shared → Prop} {s : Shared}
theorem Xnt {elt tgt src : Expr} {cs : List Expr} {sc : Scope} {ps : Pos} {itv accv : Value} {ev : Env} (J : Nat → Shared → Prop)
   (step : ∀ k t, J k t → wpAny (model prog w) A (pyNext itv) (fun r t1 => match r with
     | none => R (.ok .next) t1
     | some x => wpAny (model prog w) A (letOwnedTupleGo tgt itv x) (fun _ t2 => wpAny (model prog w) A (assign tgt ev x) (fun _ t3 =>
         wpAny (model prog w) A (forIn cs true fun c r => if r = true then do let ok ← isTrue c ev (eval c ev); pure (ForInStep.yield ok) else pure (ForInStep.yield r)) (fun good t4 =>
           if good = true then wpAny (model prog w) A (eval elt ev) (fun y t5 => wpAny (model prog w) A (call (.builtin "list.append") [accv, y]) (fun _ t6 => ∃ j, j < k ∧ J j t6) (notedBy (model prog w) A ev fun e t' => R (.error e) t') t5) (notedBy (model prog w) A ev fun e t' => R (.error e) t') t4
           else ∃ j, j < k ∧ J j t4) (notedBy (model prog w) A ev fun e t' => R (.error e) t') t3) (notedBy (model prog w) A ev fun e t' => R (.error e) t') t2) (notedBy (model prog w) A ev fun e t' => R (.error e) t') t1) (notedBy (model prog w) A ev fun e t' => R (.error e) t') t)
   (k0 : Nat) (j0 : J k0 s) : codeAny (model prog w) A (.compLoop (.ListComp elt [⟨tgt, src, cs, 0⟩] sc ps) 0 itv accv ev) R s := by
 refine codeAny_loop rfl J (fun k t hJ => ?_) k0 j0
 show wpAny _ A ((compTurn (.ListComp elt [⟨tgt, src, cs, 0⟩] sc ps) 0 itv accv ev).onRaise (fun x => do noteFrame x ev; theTreesLotGoes x)) _ _ t
 refine wpAny_noted ?_
 rw [compTurn_list]
 refine wpAny_bind (wpAny_standAt (wpAny_bind (wpAny_mono (step k t hJ) (fun r t1 g1 => ?_) fun _ _ z => z)))
 cases r with
 | none => exact wpAny_pure g1
 | some x =>
   refine wpAny_bind (wpAny_mono g1 (fun _ t2 g2 => ?_) fun _ _ z => z)
   refine wpAny_bind (wpAny_mono g2 (fun _ t3 g3 => ?_) fun _ _ z => z)
   refine wpAny_bind (wpAny_mono g3 (fun good t4 g4 => ?_) fun _ _ z => z)
   cases good with
   | false => exact wpAny_pure ⟨rfl, g4⟩
   | true => exact wpAny_bind (wpAny_bind (wpAny_mono g4 (fun y t5 g5 => wpAny_bind (wpAny_mono g5 (fun _ t6 g6 => wpAny_pure (wpAny_pure ⟨rfl, g6⟩)) fun _ _ z => z)) fun _ _ z => z))
end
theorem Xgb {env : Env} : ∀ (names : List (Str × NameKind)) (acc : List (Str × Addr)), (∀ y ∈ names, y.2 = .free → ∃ c, env.cells.lookup y.1 = some c) → (∀ x c, acc.lookup x = some c → env.cells.lookup x = some c) →
   ∃ cl, (forIn names acc fun x r => (do let (name, kind) := x; if (kind == NameKind.free) = true then do let c ← cellOf env name; pure (ForInStep.yield ((name, c) :: r)) else pure (ForInStep.yield r)) : Sem (List (Str × Addr))) = pure cl ∧
     (∀ x c, cl.lookup x = some c → env.cells.lookup x = some c) ∧ (∀ y ∈ names, y.2 = .free → ∃ c, cl.lookup y.1 = some c) ∧ (∀ x c, acc.lookup x = some c → ∃ c', cl.lookup x = some c')
 | [], acc, _, ha => ⟨acc, by simp, ha, fun y hy => by simp at hy, fun x c e => ⟨c, e⟩⟩
 | (n, k) :: r, acc, h, ha => by
   by_cases hk : k = .free
   · obtain ⟨c, hc⟩ := h (n, k) List.mem_cons_self hk
     obtain ⟨cl, e1, e2, e3, e4⟩ := Xgb r ((n, c) :: acc) (fun y hy => h y (List.mem_cons_of_mem _ hy)) (fun x d e => by
       by_cases hx : x = n
       · subst hx
         rw [List.lookup_cons_self] at e
         cases e
         exact hc
       · rw [List.lookup_cons, show (x == n) = false by simpa using hx] at e
         exact ha x d e)
     refine ⟨cl, ?_, e2, fun y hy hf => ?_, fun x d e => ?_⟩
     · rw [List.forIn_cons]
       subst hk
       have ec : cellOf env n = pure c := by unfold cellOf; rw [hc]
       simp only [beq_self_eq_true, if_true, ec, pure_bind]
       exact e1
     · rcases List.mem_cons.mp hy with z | z
       · subst z
         exact e4 n c (by rw [List.lookup_cons_self])
       · exact e3 y z hf
     · by_cases hx : x = n
       · subst hx
         exact e4 x c (by rw [List.lookup_cons_self])
       · exact e4 x d (by rw [List.lookup_cons, show (x == n) = false by simpa using hx]; exact e)
   · obtain ⟨cl, e1, e2, e3, e4⟩ := Xgb r acc (fun y hy => h y (List.mem_cons_of_mem _ hy)) ha
     refine ⟨cl, ?_, e2, fun y hy hf => ?_, e4⟩
     · rw [List.forIn_cons]
       have : (k == NameKind.free) = false := by simpa using hk
       simp only [this, Bool.false_eq_true, if_false, pure_bind]
       exact e1
     · rcases List.mem_cons.mp hy with z | z
       · subst z
         exact absurd hf hk
       · exact e3 y z hf
theorem Xiu {scope : Scope} {env : Env} (h : ∀ y ∈ scope.names, y.2 = .free → ∃ c, env.cells.lookup y.1 = some c) :
   ∃ cl, closureFor scope env = pure cl ∧ (∀ x c, cl.lookup x = some c → env.cells.lookup x = some c) ∧ (∀ y ∈ scope.names, y.2 = .free → ∃ c, cl.lookup y.1 = some c) := by
 obtain ⟨cl, e1, e2, e3, _⟩ := Xgb scope.names [] h (fun x c e => by simp at e)
 refine ⟨cl, ?_, e2, e3⟩
 unfold closureFor
 simp only [bind_pure] at *
 exact e1
section
variable {X : Cx}
abbrev Cx.blockG (X : Cx) (scope : Scope) (cl : List (Str × Addr)) (C : Addr) (N : List Str) (s₀ : Shared) (H₀ : Hp) (ex : List Addr) : Cx :=
 { X with N := N, s₀ := s₀, H₀ := H₀, env := compEnvC scope cl C X.env, outer := X.stack, stack := X.stack, ex := ex, fn := fun _ => false, pn := [], xe := fun _ _ => False }
theorem Xru {pins : List (Addr × Obj)} {σ : L2.St} {H : Hp} {s : Shared} {scope : Scope} {cl : List (Str × Addr)} {C : Addr} {N : List Str} {fp : List Addr} (I : Inv X pins σ H s) (hk : scope.kind = .function) (hC : s.heap.objs.size ≤ C)
   (hcl : ∀ x c, cl.lookup x = some c → X.env.cells.lookup x = some c) (hhas : ∀ y, (relabel scope X.env).names.lookup y = some .cell ∨ (relabel scope X.env).names.lookup y = some .free → ∃ c, cl.lookup y = some c)
   (ho : ∀ b ∈ fp, ∃ o, s.heap.get? b = some o ∧ ∀ v, o.data ≠ .cell v) (hf : ∀ b ∈ fp, FpOk X pins H b) :
   (Cx.blockG X scope cl C N s H fp).Ok where
 mod := I.ok.mod
 kind := hk
 glob := I.ok.glob
 blt := I.ok.blt
 above := hC
 inj := fun x y c e1 e2 => I.ok.inj x y c (hcl x c e1) (hcl y c e2)
 has := fun y e => hhas y e
 cab := fun _ _ e => nomatch e
 hd := I.ok.hd
 frames := I.ok.frames
 stk := .inl rfl
 exf := fun b hb => ⟨fun z => by
   obtain ⟨o, e, _⟩ := ho b hb
   have := Nat.lt_of_lt_of_le (Heap.lt_size e) hC
   rw [z] at this
   exact Nat.lt_irrefl _ this, fun x c e => (hf b hb).2.2.2.2.1 x c (hcl x c e)⟩
 bs := I.bs
 bsz := Nat.le_trans I.ok.bsz I.sz
 noex := fun b o e hb => by
   rcases (hf b hb).2.2.2.1 with z | z
   · exact I.ok.noex b o e z
   · exact absurd (Nat.lt_of_lt_of_le (Heap.lt_size (I.ok.bs b o e).1) z) (Nat.lt_irrefl _)
 exfs := fun b hb z => by
   rcases List.mem_cons.mp (I.stkSub b z) with e | e
   · exact (hf b hb).2.1 e
   · exact (hf b hb).2.2.1 e
 funs := I.stack
 frf := I.stkFree
def Xto (n : Nat) (fs : L2.St) (J : It) (g : TG) (tt : TT) (te : TE) (Q : VK) (H1 : Hp) : Prop := ∀ D, H1 D = none → ∃ W : Nat → Nat → List V → Hp → Prop, (∃ m, W 0 m [] (upd H1 D (.lst []))) ∧ ∀ i m ys H2, W i m ys H2 →
 (J.stop i H2 ∧ Q (.ref D) H2) ∨ (J.go i H2 ∧ ∀ x H3, J.yld i H2 x H3 → ∀ τ : L2.St, τ.length = n → g x (τ ++ fs) H3 fun σ1 H4 => (∃ τ' : L2.St, τ'.length = n ∧ σ1 = τ' ++ fs) ∧ tt σ1 H4 fun b H5 =>
   if b = true then te σ1 H5 fun y H6 => H6 D = some (.lst ys) ∧ ys.length < sizeLine ∧ ∃ m', m' < m ∧ W (i + 1) m' (ys ++ [y]) (upd H6 D (.lst (ys ++ [y]))) else ∃ m', m' < m ∧ W (i + 1) m' ys H5)
def Xke (n : Nat) (is : List Nat) (wi : TI) (g : TG) (tt : TT) (te : TE) : TE := fun σ H Q => wi σ H fun J H1 => Xto n (is.map fun k => σ.getD k none) J g tt te Q H1
def Xkv (X : Cx) (scope : Scope) (F : List Str) (is : List Nat) : Prop := F.length = is.length ∧ ∀ (j : Nat) (y : Str) (k : Nat), F[j]? = some y → is[j]? = some k → X.N[k]? = some y ∧ X.env.kindOf y = some .cell ∧ (relabel scope X.env).names.lookup y = some .cell
theorem Xib {elt iter tg : Expr} {pos : Pos} {ifs : List Expr} {scope : Scope} {O F : List Str} {is : List Nat} {cl : List (Str × Addr)} {g : TG} {tt : TT} {te : TE} {pins : List (Addr × Obj)} {σ : L2.St} {s2 : Shared} {H2 : Hp} {it : Addr} {fp : List Addr} {tn : Nat → Heap → Prop} {J : It} {Q : VK} {RR : Value → Addr → Result → Shared → Prop}
   (hc : X.calm = true) (hkind : scope.kind = .function) (hcell : ∀ y ∈ scope.names, y.2 ≠ .cell)
   (hcl : ∀ x c, cl.lookup x = some c → X.env.cells.lookup x = some c) (hhas : ∀ y, (relabel scope X.env).names.lookup y = some .cell ∨ (relabel scope X.env).names.lookup y = some .free → ∃ c, cl.lookup y = some c) (hF : Xkv X scope F is)
   (hG : ∀ cl C s₀ H₀ ex, PG (Cx.blockG X scope cl C (O ++ F) s₀ H₀ ex) tg g) (hT : ∀ cl C s₀ H₀ ex, PTs (Cx.blockG X scope cl C (O ++ F) s₀ H₀ ex) ifs tt) (hE : ∀ cl C s₀ H₀ ex, PE (Cx.blockG X scope cl C (O ++ F) s₀ H₀ ex) elt te)
   (I2 : Inv X pins σ H2 s2) (T : Turn X.prog X.w X.K tg J fp it tn) (st2 : tn 0 s2.heap) (f2 : ∀ b ∈ fp, FpOk X pins H2 b)
   (h : Xto O.length (is.map fun k => σ.getD k none) J g tt te Q H2)
   (hRR : ∀ D C H' s', Inv X pins σ H' s' → FpOk X pins H' C → (∃ m, s'.heap.Ns C m) → Q (.ref D) H' → RR (.ref D) C (.ok .next) s') :
   wpAny (model X.prog X.w) X.A (newList []) (fun acc s₃ => wpAny (model X.prog X.w) X.A (newFunctionEnv scope X.env.globals cl [] X.env.qual none .none (some X.env)) (fun cenv s₄ =>
     codeAny (model X.prog X.w) X.A (.compStart (.ListComp elt [⟨tg, iter, ifs, 0⟩] scope pos) 0 (.ref it) acc { cenv with scope := relabel scope X.env }) (RR acc cenv.locals) s₄) X.xe s₃) X.xe s2 := by
 refine wpAny_newObj_type (wpAny_newFunctionEnv hcell (by intro y hy; simp at hy) (fun h₁ hns₁ hsb₁ => ?_) hkind)
 dsimp only at hns₁ hsb₁ ⊢
 generalize hG0 : s2.heap.push { cls := .type "list", dict := none, data := .seq ([] : List Value).toArray } = G at hns₁ hsb₁ ⊢
 have hCs : G.objs.size = s2.heap.objs.size + 1 := by rw [← hG0, Heap.size_push]
 have hDC : s2.heap.objs.size ≠ G.objs.size := by rw [hCs]; exact Nat.ne_of_lt (Nat.lt_succ_self _)
 have hCle : s2.heap.objs.size ≤ G.objs.size := by rw [hCs]; exact Nat.le_succ _
 have old : ∀ b o, s2.heap.get? b = some o → h₁.get? b = some o := fun b o e => hsb₁.extBut b o (by rw [hCs]; exact Nat.ne_of_lt (Nat.lt_succ_of_lt (Heap.lt_size e))) (Heap.get?_push_of_some _ (hG0 ▸ Heap.get?_push_of_some _ e))
 have eD : h₁.get? s2.heap.objs.size = some { cls := .type "list", dict := none, data := .seq ([] : List Value).toArray } := hsb₁.extBut _ _ hDC (Heap.get?_push_of_some _ (hG0 ▸ Heap.get?_push_size _ rfl))
 have nD : H2 s2.heap.objs.size = none := I2.hok.fresh (Nat.le_refl _)
 have nC : H2 G.objs.size = none := I2.hok.fresh hCle
 obtain ⟨W, ⟨m0, w0⟩, turn⟩ := h s2.heap.objs.size nD
 generalize efs : (is.map fun k => σ.getD k none) = fs at turn
 have fre : ∀ b ∈ fp, upd H2 s2.heap.objs.size (.lst []) b = none := fun b hb => by
   obtain ⟨o, e, _⟩ := T.obj _ _ st2 b hb
   rw [Xap (Nat.ne_of_lt (Heap.lt_size e))]
   exact (f2 b hb).1
 have loop : ∀ s4 : Shared, s4 = { s2 with heap := h₁, toks := s2.toks + ([] : List (Str × Value)).length } →
     codeAny (model X.prog X.w) X.A (.compLoop (.ListComp elt [⟨tg, iter, ifs, 0⟩] scope pos) 0 (.ref it) (.ref s2.heap.objs.size) (compEnvC scope cl G.objs.size X.env)) (RR (.ref s2.heap.objs.size) G.objs.size) s4 := by
   rintro s4 rfl
   have ok := Xru (N := O ++ F) I2 hkind hCle hcl hhas (T.obj _ _ st2) f2
   have IB : Inv (Cx.blockG X scope cl G.objs.size (O ++ F) s2 H2 fp) [] (List.replicate O.length none ++ fs) (upd H2 s2.heap.objs.size (.lst [])) { s2 with heap := h₁, toks := s2.toks + ([] : List (Str × Value)).length } := by
     refine ⟨ok, rfl, I2.bare, Un.laid old (Nat.le_refl _) nD, ⟨_, hns₁, fun i y v e1 e2 _ => ?_⟩, (fun x c e => ?_), ?_, (fun x c e => ?_), (fun p hp => nomatch hp), I2.hok.laid old (Nat.le_refl _) ⟨Nat.zero_le _, [], 0, .nil, eD⟩, ?_⟩
     · have e1 : (O ++ F)[i]? = some y := e1
       by_cases hi : i < O.length
       · rw [List.getElem?_append_left (by rw [List.length_replicate]; exact hi), List.getElem?_replicate, if_pos hi] at e2
         cases e2
       · rw [List.getElem?_append_right (by omega)] at e1
         rw [List.getElem?_append_right (by rw [List.length_replicate]; omega), List.length_replicate, ← efs, List.getElem?_map] at e2
         obtain ⟨k, ek, ev⟩ := Option.map_eq_some_iff.mp e2
         obtain ⟨g1, g2, g3⟩ := hF.2 _ _ _ e1 ek
         have es : σ[k]? = some (some v) := by
           rw [List.getD_eq_getElem?_getD] at ev
           cases q : σ[k]? with
           | none => rw [q] at ev; cases ev
           | some z => rw [q] at ev; exact congrArg some ev
         obtain ⟨m, hm, hl⟩ := I2.loc
         obtain ⟨u, ru, lk⟩ := hl k y v g1 es (.inr (.inl g2))
         refine ⟨u, ru, .inr ⟨.inl g3, ?_⟩⟩
         rcases lk with ⟨z, _⟩ | ⟨_, c, c1, o, c2, c3⟩
         · rw [g2] at z; cases z
         · obtain ⟨c', e'⟩ := hhas y (.inl g3)
           have := hcl y c' e'
           rw [c1] at this
           cases this
           exact ⟨c, e', o, old c o c2, c3⟩
     · obtain ⟨v, o, c2, c3⟩ := I2.cell x c (hcl x c e)
       exact ⟨v, o, old c o c2, c3⟩
     · show upd H2 s2.heap.objs.size (.lst []) G.objs.size = none
       rw [Xap (Ne.symm hDC)]
       exact nC
     · obtain ⟨v, o, c2, c3⟩ := I2.cell x c (hcl x c e)
       show upd H2 s2.heap.objs.size (.lst []) c = none
       rw [Xap (Nat.ne_of_lt (Heap.lt_size c2))]
       exact I2.freeC x c (hcl x c e)
     · show (List.replicate O.length none ++ fs).length = (O ++ F).length
       rw [List.length_append, List.length_append, List.length_replicate, ← efs, List.length_map, hF.1]
   have stat : ∀ {H' : Hp}, (∀ b ∈ fp, H' b = none) → ∀ b ∈ fp, FpOk (Cx.blockG X scope cl G.objs.size (O ++ F) s2 H2 fp) [] H' b := fun hn b hb =>
     ⟨hn b hb, (ok.exf b hb).1, ok.exfs b hb, .inl hb, (ok.exf b hb).2, (fun p hp => nomatch hp)⟩
   refine Xnt (fun n s' => ∃ i ys τ H', Inv (Cx.blockG X scope cl G.objs.size (O ++ F) s2 H2 fp) [] (τ ++ fs) H' s' ∧ τ.length = O.length ∧ tn i s'.heap ∧ (∀ b ∈ fp, H' b = none) ∧ W i n ys H') ?_ m0
     ⟨0, [], _, _, IB, List.length_replicate, T.keep _ _ _ st2 fun b _ o e => old b o e, fre, w0⟩
   rintro n s3 ⟨i, ys, τ, H3, I3, hτ, st3, fr3, w3⟩
   rcases turn i n ys H3 w3 with ⟨stop, q⟩ | ⟨go, step⟩
   · refine wpAny_mono (T.done (Cx.blockG X scope cl G.objs.size (O ++ F) s2 H2 fp) rfl rfl rfl hc i [] s3 (τ ++ fs) H3 (fun _ _ => False) I3 (stat fr3) st3 stop) (fun r s4 ⟨hr, I4⟩ => ?_) (fun _ _ z => z.elim)
     subst hr
     obtain ⟨m, hn, _⟩ := I4.loc
     refine hRR _ G.objs.size H3 s4 (I2.call' (ch := fp) I4.os I4.base I4.hok I4.bare fun b hb => ?_) (I2.fpOk hCle I4.free) ⟨m, hn⟩ q
     obtain ⟨g0, g1, g2, g3, g4, g5⟩ := f2 b hb
     exact ⟨g3, g1, g4, g5⟩
   · refine wpAny_mono (T.item (Cx.blockG X scope cl G.objs.size (O ++ F) s2 H2 fp) rfl rfl rfl hc i [] s3 (τ ++ fs) H3 (fun _ _ => False) I3 (stat fr3) st3 go) (fun r s4 ⟨u, hr, h4⟩ => ?_) (fun _ _ z => z.elim)
     subst hr
     refine wpAny_mono h4 (fun _ s5 ⟨v, H5, I5, r5, y5, st5, fr5⟩ => ?_) (fun _ _ z => z.elim)
     have I5' := I5.pinned (stat fr5) (T.obj _ _ st5)
     refine wpAny_mono (hG _ _ _ _ _ _ s5 (τ ++ fs) H5 v u _ I5' r5 (step v H5 y5 τ hτ)) (fun _ s6 ⟨σ6, H6, I6, ⟨τ', hτ', e6⟩, q6⟩ => ?_) (fun _ _ z => z.elim)
     subst e6
     have again : ∀ {s7 : Shared} {H7 : Hp} {ys' : List V} {m' : Nat}, Inv (Cx.blockG X scope cl G.objs.size (O ++ F) s2 H2 fp) ([] ++ Xks fp s5.heap) (τ' ++ fs) H7 s7 → m' < n → W (i + 1) m' ys' H7 →
         ∃ m, m < n ∧ ∃ i ys τ H', Inv (Cx.blockG X scope cl G.objs.size (O ++ F) s2 H2 fp) [] (τ ++ fs) H' s7 ∧ τ.length = O.length ∧ tn i s7.heap ∧ (∀ b ∈ fp, H' b = none) ∧ W i m ys H' := fun {s7 H7 ys' m'} I7 hm w7 => by
       refine ⟨m', hm, i + 1, ys', τ', H7, I7.unpinned, hτ', T.keep _ _ _ st5 fun b hb o e => (I7.pin (b, o) (List.mem_append_right _ (List.mem_append_right _ (Xex hb e)))).1, fun b hb => ?_, w7⟩
       obtain ⟨o, e, _⟩ := T.obj _ _ st5 b hb
       exact (I7.pin (b, o) (List.mem_append_right _ (List.mem_append_right _ (Xex hb e)))).2.1
     refine wpAny_mono (hT _ _ _ _ _ _ s6 (τ' ++ fs) H6 _ I6 q6) (fun b s7 ⟨H7, I7, q7⟩ => ?_) (fun _ _ z => z.elim)
     cases b with
     | false =>
       obtain ⟨m', hm, w7⟩ := q7
       exact again I7 hm w7
     | true =>
       rw [if_pos rfl]
       refine wpAny_mono (hE _ _ _ _ _ _ s7 (τ' ++ fs) H7 _ I7 q7) (fun y' s8 ⟨y, H8, I8, ry, hD, hz, m', hm, w8⟩ => ?_) (fun _ _ z => z.elim)
       refine wpAny_mono (Xca (X := Cx.blockG X scope cl G.objs.size (O ++ F) s2 H2 fp) _ s8 (τ' ++ fs) H8 (.ref s2.heap.objs.size) [y] (.ref s2.heap.objs.size) [y'] (fun _ H9 => H9 = upd H8 s2.heap.objs.size (.lst (ys ++ [y]))) I8 rfl (.cons ry .nil) ⟨s2.heap.objs.size, ys, y, rfl, rfl, hD, hz, rfl⟩) (fun _ s9 ⟨_, H9, I9, _, e9⟩ => ?_) (fun _ _ z => z.elim)
       subst e9
       exact again I9 hm w8
 exact codeAny_compStart_list (loop _ rfl) (T.self _ 0 _ _ _ (T.keep _ _ _ st2 fun b _ o e => old b o e) (loop _ rfl))
theorem Xgt {elt iter tg : Expr} {pos : Pos} {ifs : List Expr} {scope : Scope} {wi : TI} {g : TG} {tt : TT} {te : TE} (O F : List Str) (is : List Nat) (hc : X.calm = true) (hi : PI X tg iter wi)
   (hG : ∀ cl C s₀ H₀ ex, PG (Cx.blockG X scope cl C (O ++ F) s₀ H₀ ex) tg g) (hT : ∀ cl C s₀ H₀ ex, PTs (Cx.blockG X scope cl C (O ++ F) s₀ H₀ ex) ifs tt) (hE : ∀ cl C s₀ H₀ ex, PE (Cx.blockG X scope cl C (O ++ F) s₀ H₀ ex) elt te)
   (hF : Xkv X scope F is) (hfc : ∀ y ∈ scope.names, y.2 = .free → X.env.kindOf y.1 = some .cell) (hrl : ∀ y, (relabel scope X.env).names.lookup y = some .cell ∨ (relabel scope X.env).names.lookup y = some .free → ∃ z ∈ scope.names, z.1 = y ∧ z.2 = .free)
   (hkind : scope.kind = .function := by rfl) (hcell : ∀ y ∈ scope.names, y.2 ≠ .cell := by decide +kernel)
   (hnames : ∀ y ∈ scope.names, y.2 = .local → scope.names.lookup y.1 = some .local := by decide +kernel) (hs : ∀ y, foldedSetIterable iter X.env y = pure y := by intro _; rfl) :
   PE X (.ListComp elt [⟨tg, iter, ifs, 0⟩] scope pos) (Xke O.length is wi g tt te) := by
 intro pins s σ H Q I h
 rw [eval_ListComp]
 obtain ⟨cl, hcf, hcl, hca⟩ := Xiu (scope := scope) (env := X.env) fun y hy hf => I.ok.has y.1 (.inl (hfc y hy hf))
 refine wpAny_comprehension_free (use := none) (cl := cl) rfl hs hcf hkind hnames (wpAny_mono (hi pins s σ H _ I h) (fun v s1 h1 => wpAny_mono h1 (fun itv s2 h2 => ?_) fun _ _ e => e) fun _ _ e => e)
 obtain ⟨it, fp, tn, J, H2, e, I2, T, st2, f2, R2⟩ := h2
 subst e
 refine Xib (O := O) (F := F) (is := is) (Q := Q) (RR := fun acc C => compPost (model X.prog X.w) X.A X.xe none (EP X pins σ Q) acc C) hc hkind hcell hcl (fun y hy => ?_) hF hG hT hE I2 T st2 f2 R2 ?_
 · obtain ⟨z, hz, e1, e2⟩ := hrl y hy
   subst e1
   exact hca z hz e2
 · rintro D C H' s' I' f' ⟨m, hn⟩ q
   obtain ⟨f0, f1, f2', f3, f4, f5⟩ := f'
   refine ⟨m, hn, fun h' sb => ⟨.ref D, H', I'.turned (t' := s'.toks) (fun b o hb e => (sb.2 b hb).trans e) f0 f1 f3 f4 f5, rfl, q⟩⟩
theorem Xhr {elt iter tg : Expr} {y : Str} {py pos spos : Pos} {ifs : List Expr} {scope : Scope} {wi : TI} {g : TG} {tt : TT} {te : TE} {i : Nat} (O F : List Str) (is : List Nat) (hN : X.N.Nodup) (hi0 : X.N[i]? = some y) (hy : Loc X.env.scope y) (hc : X.calm = true) (hi : PI X tg iter wi)
   (hG : ∀ cl C s₀ H₀ ex, PG (Cx.blockG X scope cl C (O ++ F) s₀ H₀ ex) tg g) (hT : ∀ cl C s₀ H₀ ex, PTs (Cx.blockG X scope cl C (O ++ F) s₀ H₀ ex) ifs tt) (hE : ∀ cl C s₀ H₀ ex, PE (Cx.blockG X scope cl C (O ++ F) s₀ H₀ ex) elt te)
   (hF : Xkv X scope F is) (hfc : ∀ y ∈ scope.names, y.2 = .free → X.env.kindOf y.1 = some .cell) (hrl : ∀ y, (relabel scope X.env).names.lookup y = some .cell ∨ (relabel scope X.env).names.lookup y = some .free → ∃ z ∈ scope.names, z.1 = y ∧ z.2 = .free)
   (hsw : swapsWith (.ListComp elt [⟨tg, iter, ifs, 0⟩] scope pos) (some (.Name y py)) spos.line X.env = pure true := by rfl)
   (hkind : scope.kind = .function := by rfl) (hcell : ∀ y ∈ scope.names, y.2 ≠ .cell := by decide +kernel)
   (hnames : ∀ y ∈ scope.names, y.2 = .local → scope.names.lookup y.1 = some .local := by decide +kernel) (hs : ∀ y, foldedSetIterable iter X.env y = pure y := by intro _; rfl)
   (hf : X.fn y = true ∨ X.env.scope.names.lookup y = some .local := by first | exact .inl rfl | exact .inr rfl | assumption) :
   PS X (.Assign [.Name y py] (.ListComp elt [⟨tg, iter, ifs, 0⟩] scope pos) spos) (tAsg (Xke O.length is wi g tt te) (Xmd i)) := by
 intro pins s σ H D I h
 rw [exec_Assign_Name_used _ _ _ _ hsw]
 obtain ⟨cl, hcf, hcl, hca⟩ := Xiu (scope := scope) (env := X.env) fun y hy hf => I.ok.has y.1 (.inl (hfc y hy hf))
 refine wpAny_bind (wpAny_standAt (wpAny_bind ?_))
 show wpAny _ X.A (do let _ ← comprehension (.ListComp elt [⟨tg, iter, ifs, 0⟩] scope pos) scope X.env _ (newList []) false (eval iter X.env) (some (assign (.Name y py) X.env))) _ _ s
 refine wpAny_bind (wpAny_mono (wpAny_comprehension_free (use := some (assign (.Name y py) X.env)) (cl := cl) (Q := fun _ s' => SP X pins D .next s') rfl hs hcf hkind hnames
   (wpAny_mono (hi pins s σ H _ I h) (fun v s1 h1 => wpAny_mono h1 (fun itv s2 h2 => ?_) fun _ _ e => e) fun _ _ e => e)) (fun _ s' hq => wpAny_pure (wpAny_pure hq)) fun _ _ e => e)
 obtain ⟨it, fp, tn, J, H2, e, I2, T, st2, f2, R2⟩ := h2
 subst e
 refine Xib (O := O) (F := F) (is := is) (Q := fun v H1 => Xmd i v σ H1 D.nx) (RR := fun acc C => compPost (model X.prog X.w) X.A X.xe (some (assign (.Name y py) X.env)) (fun _ s' => SP X pins D .next s') acc C) hc hkind hcell hcl (fun y hy => ?_) hF hG hT hE I2 T st2 f2 R2 ?_
 · obtain ⟨z, hz, e1, e2⟩ := hrl y hy
   subst e1
   exact hca z hz e2
 · rintro D' C H' s' I' f' ⟨m, hn⟩ q
   obtain ⟨f0, f1, f2', f3, f4, f5⟩ := f'
   show wpAny _ X.A (assign (.Name y py) X.env (.ref D')) _ _ _
   refine wpAny_assign_Name (Xkn I' hN hi0 hy (v := .ref D') rfl (fun s'' I'' ⟨a, sb, ha⟩ => ?_) hf)
   have ne : C ≠ a := by
     rcases ha with e | e
     · rw [e]; exact f1
     · exact fun z => f4 _ _ e z.symm
   exact ⟨m, hn.sameBut sb ne, fun h' sb' => ⟨_, H', I''.turned (t' := s''.toks) (fun b o hb e => (sb'.2 b hb).trans e) f0 f1 f3 f4 f5, q⟩⟩
theorem XBa {K : PySem.W.Frag} (hK : X.K = K) : IxR X (rIxT K) := hK ▸ Xbz
theorem Xmn {K : PySem.W.Frag} (hK : X.K = K) : IxR X (rIxL K) := hK ▸ Xbh
theorem Xhi {K : PySem.W.Frag} {es : List Expr} {k : Nat} {t : TGs} {n : Nat} {pos : Pos} (hK : X.K = K) (hc : X.calm = true) (h : PGs X es t)
   (hn : (assignEach es X.env).length = n := by rfl) (hst : (assignEach es X.env).findIdx? (·.1) = none := by rfl) : PG X (.Tuple es k pos) (gTup K n t) := hK ▸ Xgm hc h hn hst
theorem Xpl {K : PySem.W.Frag} {a : Expr} {ta : TE} (hK : X.K = K) (ha : PE X a ta) (he : ∀ whole, isTrue a X.env whole = (do let v ← whole; standAt a.pos; holding [v] (truthy v))) : PT X a (fun σ H Q => ta σ H fun x H' => ∃ k, TruV K x H' k ∧ Q k H') := by
 subst hK
 exact Xcd ha he
theorem Xci {scope : Scope} {env : Env} {y : Str} (hcell : ∀ z ∈ scope.names, z.2 ≠ .cell) (h : (relabel scope env).names.lookup y = some .cell ∨ (relabel scope env).names.lookup y = some .free) : ∃ z ∈ scope.names, z.1 = y ∧ z.2 = .free := by
 have key : ∀ (l : List (Str × NameKind)) (k : NameKind), l.lookup y = some k → (y, k) ∈ l := by
   intro l k
   induction l with
   | nil => intro e; cases e
   | cons p r ih =>
     intro e
     obtain ⟨n, k'⟩ := p
     rw [List.lookup_cons] at e
     cases hb : y == n with
     | true =>
       rw [hb] at e
       cases e
       rw [eq_of_beq hb]
       exact List.mem_cons_self
     | false => rw [hb] at e; exact List.mem_cons_of_mem _ (ih e)
 have fin : ∀ k, (relabel scope env).names.lookup y = some k → k = .cell ∨ k = .free → ∃ z ∈ scope.names, z.1 = y ∧ z.2 = .free := fun k e hk => by
   obtain ⟨z, hz, ez⟩ := List.mem_map.mp (key _ _ e)
   obtain ⟨n, k0⟩ := z
   dsimp only at ez
   split at ez
   · rename_i hc
     simp only [Bool.and_eq_true, beq_iff_eq] at hc
     cases ez
     exact ⟨(y, k0), hz, rfl, hc.1.1⟩
   · cases ez
     rcases hk with rfl | rfl
     · exact absurd rfl (hcell _ hz)
     · exact ⟨_, hz, rfl, rfl⟩
 rcases h with h | h
 · exact fin _ h (.inl rfl)
 · exact fin _ h (.inr rfl)
theorem Xiq {scope : Scope} : Xkv X scope [] [] := ⟨rfl, fun j y k e => by simp at e⟩
theorem Xeu {scope : Scope} {y : Str} {k : Nat} (h1 : X.N[k]? = some y) (h2 : X.env.kindOf y = some .cell) (h3 : (relabel scope X.env).names.lookup y = some .cell) : Xkv X scope [y] [k] := ⟨rfl, fun j z i e1 e2 => by
 cases j with
 | zero =>
   have g1 : y = z := by simpa using e1
   have g2 : k = i := by simpa using e2
   subst g1 g2
   exact ⟨h1, h2, h3⟩
 | succ j => simp at e1⟩
theorem Xgu {scope : Scope} {n : Str} (h : ∀ y ∈ scope.names, y.2 = .free → y.1 = n) (k : X.env.kindOf n = some .cell) : ∀ y ∈ scope.names, y.2 = .free → X.env.kindOf y.1 = some .cell := fun y hy hf => by rw [h y hy hf]; exact k
theorem Xss {elt iter tg : Expr} {pos : Pos} {ifs : List Expr} {scope : Scope} {wi : TI} {g : TG} {tt : TT} {te : TE} (O : List Str) (hc : X.calm = true) (hi : PI X tg iter wi)
   (hG : ∀ cl C s₀ H₀ ex, PG (Cx.blockG X scope cl C (O ++ []) s₀ H₀ ex) tg g) (hT : ∀ cl C s₀ H₀ ex, PTs (Cx.blockG X scope cl C (O ++ []) s₀ H₀ ex) ifs tt) (hE : ∀ cl C s₀ H₀ ex, PE (Cx.blockG X scope cl C (O ++ []) s₀ H₀ ex) elt te)
   (hfree : ∀ y ∈ scope.names, y.2 ≠ .free := by decide +kernel) (hkind : scope.kind = .function := by rfl) (hcell : ∀ y ∈ scope.names, y.2 ≠ .cell := by decide +kernel)
   (hnames : ∀ y ∈ scope.names, y.2 = .local → scope.names.lookup y.1 = some .local := by decide +kernel) (hs : ∀ y, foldedSetIterable iter X.env y = pure y := by intro _; rfl) :
   PE X (.ListComp elt [⟨tg, iter, ifs, 0⟩] scope pos) (Xke O.length [] wi g tt te) :=
 Xgt O [] [] hc hi hG hT hE Xiq (fun y hy hf => absurd hf (hfree y hy)) (fun y h => Xci hcell h) hkind hcell hnames hs
theorem Xlp {elt iter tg : Expr} {y : Str} {py pos spos : Pos} {ifs : List Expr} {scope : Scope} {wi : TI} {g : TG} {tt : TT} {te : TE} {i : Nat} (O : List Str) (hN : X.N.Nodup) (hi0 : X.N[i]? = some y) (hy : Loc X.env.scope y) (hc : X.calm = true) (hi : PI X tg iter wi)
   (hG : ∀ cl C s₀ H₀ ex, PG (Cx.blockG X scope cl C (O ++ []) s₀ H₀ ex) tg g) (hT : ∀ cl C s₀ H₀ ex, PTs (Cx.blockG X scope cl C (O ++ []) s₀ H₀ ex) ifs tt) (hE : ∀ cl C s₀ H₀ ex, PE (Cx.blockG X scope cl C (O ++ []) s₀ H₀ ex) elt te)
   (hsw : swapsWith (.ListComp elt [⟨tg, iter, ifs, 0⟩] scope pos) (some (.Name y py)) spos.line X.env = pure true := by rfl)
   (hfree : ∀ y ∈ scope.names, y.2 ≠ .free := by decide +kernel) (hkind : scope.kind = .function := by rfl) (hcell : ∀ y ∈ scope.names, y.2 ≠ .cell := by decide +kernel)
   (hnames : ∀ y ∈ scope.names, y.2 = .local → scope.names.lookup y.1 = some .local := by decide +kernel) (hs : ∀ y, foldedSetIterable iter X.env y = pure y := by intro _; rfl)
   (hf : X.fn y = true ∨ X.env.scope.names.lookup y = some .local := by first | exact .inl rfl | exact .inr rfl | assumption) :
   PS X (.Assign [.Name y py] (.ListComp elt [⟨tg, iter, ifs, 0⟩] scope pos) spos) (tAsg (Xke O.length [] wi g tt te) (Xmd i)) :=
 Xhr O [] [] hN hi0 hy hc hi hG hT hE Xiq (fun y hy hf => absurd hf (hfree y hy)) (fun y h => Xci hcell h) hsw hkind hcell hnames hs hf
end
section
variable {K : PySem.W.Frag} {σ : L2.St} {H : Hp} {Q : VK}
theorem r_compG {n : Nat} {is : List Nat} {wi : TI} {g : TG} {tt : TT} {te : TE} (h : wi σ H fun J H1 => Xto n (is.map fun k => σ.getD k none) J g tt te Q H1) : Xke n is wi g tt te σ H Q := h
def Nx (n : Nat) (Pv : Addr → Nat → List V → Hp → Prop) (D : Addr) (i : Nat) (ys : List V) (H2 : Hp) : Prop := ∃ m', m' < n - i ∧ m' = n - (i + 1) ∧ i + 1 ≤ n ∧ Pv D (i + 1) ys H2
theorem Xiy {n : Nat} {Pv : Addr → Nat → List V → Hp → Prop} {D : Addr} {i : Nat} {ys : List V} {H2 : Hp} (hi : i < n) (p : Pv D (i + 1) ys H2) : Nx n Pv D i ys H2 := ⟨_, by omega, rfl, hi, p⟩
theorem Xdb {a : Addr} {xs : List V} {n : Nat} {fs : L2.St} {g : TG} {tt : TT} {te : TE} (Pv : Addr → Nat → List V → Hp → Prop) (h0 : ∀ D, H D = none → Pv D 0 [] (upd H D (.lst [])))
   (hl : ∀ D i ys H2, i ≤ xs.length → Pv D i ys H2 → SqL K H2 a xs)
   (hs : ∀ D i x ys H2, H D = none → xs[i]? = some x → Pv D i ys H2 → ∀ τ : L2.St, τ.length = n → g x (τ ++ fs) H2 fun σ1 H4 => (∃ τ' : L2.St, τ'.length = n ∧ σ1 = τ' ++ fs) ∧ tt σ1 H4 fun b H5 =>
     if b = true then te σ1 H5 fun y H6 => H6 D = some (.lst ys) ∧ ys.length < sizeLine ∧ Nx xs.length Pv D i (ys ++ [y]) (upd H6 D (.lst (ys ++ [y]))) else Nx xs.length Pv D i ys H5)
   (hd : ∀ D ys H2, H D = none → Pv D xs.length ys H2 → Q (.ref D) H2) : Xto n fs (Itl K a) g tt te Q H := by
 intro D hD
 refine ⟨fun i m ys H2 => m = xs.length - i ∧ i ≤ xs.length ∧ Pv D i ys H2, ⟨_, rfl, Nat.zero_le _, h0 D hD⟩, ?_⟩
 rintro i m ys H2 ⟨rfl, hi, p⟩
 have q := hl D i ys H2 hi p
 by_cases hlt : i < xs.length
 · refine .inr ⟨⟨xs, xs[i], q, by simp [hlt]⟩, fun x H3 y τ hτ => ?_⟩
   obtain ⟨e, y⟩ := y
   subst e
   have ex := y xs q
   exact hs D i x ys _ hD ex p τ hτ
 · have e : i = xs.length := by omega
   subst e
   exact .inl ⟨⟨xs, q, Nat.le_refl _⟩, hd D ys H2 hD p⟩
end
end Stow
namespace Stow
open PySem L2 PyProof.Rows
section
variable {prog : Program} {w : World} {A : Around} {R : Result → Shared → Prop} {I : Addr} {fp wr : List Addr} {n : Nat} {P : Nat → Value → Prop} {St : Nat → Heap → Prop}
def XAq (prog : Program) (w : World) (A : Around) (Kp : Heap → Prop) (P : Nat → Value → Prop) (bt : Nat → Nat → Bool) : Prop :=
 ∀ i j x y (t : Shared) (Q : Value → Shared → Prop) (E : Value → Shared → Prop), Kp t.heap → P i x → P j y → Q (.bool (bt i j)) t → wpAny (model prog w) A (richCompare .Lt x y) Q E t
theorem Xoy (W : Walks prog w A.in1 I fp wr n P St) (bt : Nat → Nat → Bool) (Kp : Heap → Prop) (cmp : XAq prog w A.in1 Kp P bt) (S : Addr) (sf : S ∉ fp)
   (kpk : ∀ h h', Kp h → (∀ b o, b ∉ wr → b ≠ S → h.get? b = some o → h'.get? b = some o) → Kp h') :
   ∀ (k j : Nat) (t : Shared) (vb : Value) (c : Nat), n - (j + 1) = k → j + 1 ≤ n → St (j + 1) t.heap → Kp t.heap → P (argBest bt j) vb →
   t.heap.get? S = some { cls := .type "list", dict := none, data := .seq #[vb, vb] c, slots := #[] } →
   (∀ v h' tk, P (argBest bt (n - 1)) v → (∀ b o, b ∉ wr → b ≠ S → t.heap.get? b = some o → h'.get? b = some o) → R (.ok (.ret v)) { t with heap := h', toks := tk }) →
   codeAny (model prog w) A (.builtin "min.loop" ⟨[.ref I, .none, .ref S], []⟩) R t := by
 have sw : S ∉ wr := fun h => sf (W.sub _ h)
 have nm : (toString "min" ++ toString ".loop" : String) = "min.loop" := by decide
 intro k
 induction k with
 | zero =>
   intro j t vb c hk hj st kp pb hS fin
   have en : j + 1 = n := by omega
   refine codeAny_builtin F.entry_min_loop ?_
   rw [Around.under_plainId F.plain_min_loop _]
   show wpAny _ A.in1 (seqItems? (.ref S) >>= _) _ _ t
   refine wpAny_bind (wpAny_seqItems hS rfl ?_)
   show wpAny _ A.in1 (tryCatch (pyNext (.ref I)) _ >>= _) _ _ t
   refine wpAny_bind (wpAny_tryCatch (W.done t _ _ (en ▸ st) fun h' tk kk => ?_))
   have hS1 := kk S _ sw hS
   show wpAny _ A.in1 (updateSeq S (fun _ => #[]) >>= _) _ _ _
   refine wpAny_bind ?_
   refine wpAny_updateSeq hS1 rfl (wpAny_bind (wpAny_letGo (wpAny_pure ?_)))
   exact fin vb _ tk (by rw [← en]; exact pb) fun b o bw bS e => (Heap.get?_update_other _ _ (Ne.symm bS)).trans (kk b o bw e)
 | succ k ih =>
   intro j t vb c hk hj st kp pb hS fin
   have lt : j + 1 < n := by omega
   refine codeAny_builtin F.entry_min_loop ?_
   rw [Around.under_plainId F.plain_min_loop _]
   show wpAny _ A.in1 (seqItems? (.ref S) >>= _) _ _ t
   refine wpAny_bind (wpAny_seqItems hS rfl ?_)
   show wpAny _ A.in1 (tryCatch (pyNext (.ref I)) _ >>= _) _ _ t
   refine wpAny_bind (wpAny_tryCatch (W.item (j + 1) t _ _ lt st fun v h' tk pv st1 kk => ?_))
   have hS1 := kk S _ sw hS
   have kp1 : Kp h' := kpk _ _ kp fun b o bw _ e => kk b o bw e
   show wpAny _ A.in1 (tryCatch (holding [v, v] (richCompare .Lt v vb >>= _)) _ >>= _) _ _ _
   refine wpAny_bind (wpAny_tryCatch (wpAny_holding (wpAny_bind (cmp (j + 1) (argBest bt j) v vb _ _ _ kp1 pv pb ?_))))
   refine wpAny_bind (wpAny_holding (wpAny_truthy_bool ?_))
   refine wpAny_bind (wpAny_letGo (wpAny_pure ?_))
   cases hb : bt (j + 1) (argBest bt j) with
   | true =>
     simp only [if_true]
     refine wpAny_bind ?_
     refine wpAny_updateSeq hS1 rfl (wpAny_bind (wpAny_letGo ?_))
     rw [nm]
     refine wpAny_pure ⟨plainId_quiet F.plain_min_loop _, ih (j + 1) _ v _ (by omega) lt (W.frame _ _ _ st1 fun b bf o e => ?_) (kpk _ _ kp1 fun b o _ bS e => (Heap.get?_update_other _ _ (Ne.symm bS)).trans e) (by simp only [argBest, hb, if_true]; exact pv) (Heap.get?_update_self _ hS1 rfl)
       fun v' h2 tk2 pv2 kk2 => ?_⟩
     · exact (Heap.get?_update_other _ _ (fun z : S = b => sf (by rw [z]; exact bf))).trans e
     · exact fin v' h2 tk2 pv2 fun b o bw bS e => kk2 b o bw bS ((Heap.get?_update_other _ _ (Ne.symm bS)).trans (kk b o bw e))
   | false =>
     simp only [Bool.false_eq_true, if_false]
     refine wpAny_bind (wpAny_letGo ?_)
     rw [nm]
     refine wpAny_pure ⟨plainId_quiet F.plain_min_loop _, ih (j + 1) _ vb c (by omega) lt st1 kp1 (by simp only [argBest, hb, Bool.false_eq_true, if_false]; exact pb) hS1 fun v' h2 tk2 pv2 kk2 => ?_⟩
     exact fin v' h2 tk2 pv2 fun b o bw bS e => kk2 b o bw bS (kk b o bw e)
theorem Xqg (W : Walks prog w A.in1 I fp wr n P St) (bt : Nat → Nat → Bool) (Kp : Heap → Prop) (cmp : XAq prog w A.in1 Kp P bt) (S : Addr) (sf : S ∉ fp)
   (kpk : ∀ h h', Kp h → (∀ b o, b ∉ wr → b ≠ S → h.get? b = some o → h'.get? b = some o) → Kp h') (hn : 0 < n) {t : Shared} {c : Nat} (st : St 0 t.heap) (kp : Kp t.heap)
   (hS : t.heap.get? S = some { cls := .type "list", dict := none, data := .seq #[] c, slots := #[] })
   (fin : ∀ v h' tk, P (argBest bt (n - 1)) v → (∀ b o, b ∉ wr → b ≠ S → t.heap.get? b = some o → h'.get? b = some o) → R (.ok (.ret v)) { t with heap := h', toks := tk }) :
   codeAny (model prog w) A (.builtin "min.loop" ⟨[.ref I, .none, .ref S], []⟩) R t := by
 have sw : S ∉ wr := fun h => sf (W.sub _ h)
 have nm : (toString "min" ++ toString ".loop" : String) = "min.loop" := by decide
 refine codeAny_builtin F.entry_min_loop ?_
 rw [Around.under_plainId F.plain_min_loop _]
 show wpAny _ A.in1 (seqItems? (.ref S) >>= _) _ _ t
 refine wpAny_bind (wpAny_seqItems hS rfl ?_)
 show wpAny _ A.in1 (tryCatch (pyNext (.ref I)) _ >>= _) _ _ t
 refine wpAny_bind (wpAny_tryCatch (W.item 0 t _ _ hn st fun v h' tk pv st1 kk => ?_))
 have hS1 := kk S _ sw hS
 have kp1 : Kp h' := kpk _ _ kp fun b o bw _ e => kk b o bw e
 show wpAny _ A.in1 (updateSeq S (fun _ => #[v, v]) >>= _) _ _ _
 refine wpAny_bind ?_
 refine wpAny_updateSeq hS1 rfl ?_
 rw [nm]
 refine wpAny_pure ⟨plainId_quiet F.plain_min_loop _, Xoy W bt Kp cmp S sf kpk _ 0 _ v _ rfl hn (W.frame _ _ _ st1 fun b bf o e => ?_) (kpk _ _ kp1 fun b o _ bS e => (Heap.get?_update_other _ _ (Ne.symm bS)).trans e) pv (Heap.get?_update_self _ hS1 rfl) fun v' h2 tk2 pv2 kk2 => ?_⟩
 · exact (Heap.get?_update_other _ _ (fun z : S = b => sf (by rw [z]; exact bf))).trans e
 · exact fin v' h2 tk2 pv2 fun b o bw bS e => kk2 b o bw bS ((Heap.get?_update_other _ _ (Ne.symm bS)).trans (kk b o bw e))
end
section
variable {prog : Program} {w : World} {A : Around} {E : Value → Shared → Prop} {s : Shared}
theorem Xne {x : Value} {Q : Value → Shared → Prop}
   (h : wpAny (model prog w) A.in1 (pyIter x) (fun itv t => ∃ I fp wr n P St bt Kp, itv = .ref I ∧ Walks prog w A.in1 I fp wr n P St ∧ St 0 t.heap ∧ Kp t.heap ∧ (∀ b ∈ fp, b < t.heap.objs.size) ∧ 0 < n ∧ XAq prog w A.in1 Kp P bt ∧
     (∀ h h', Kp h → (∀ b o, b ∉ wr → b ≠ t.heap.objs.size → h.get? b = some o → h'.get? b = some o) → Kp h') ∧
     ∀ v h' tk, P (argBest bt (n - 1)) v → (∀ b o, b ∉ wr → t.heap.get? b = some o → h'.get? b = some o) → Q v { t with heap := h', toks := tk }) E s) :
   wpAny (model prog w) A (call (.builtin "min") [x]) Q E s := by
 have nm : (toString "min" ++ toString ".loop" : String) = "min.loop" := by decide
 refine call_function_tree F.kind_min F.plain_min F.entry_min (F.args_min1 _) ?_
 show wpAny _ A.in1 (Builtin.Builtins.bindParams "min" ["key", "default"] 0 ⟨[], []⟩ >>= _) _ _ s
 refine wpAny_bind (wpAny_of_eq (show Builtin.Builtins.bindParams "min" ["key", "default"] 0 ⟨[], []⟩ = pure [none, none] from rfl) ?_)
 refine wpAny_bind (wpAny_pure ?_)
 refine wpAny_bind (wpAny_mono h (fun itv t ht => ?_) fun _ _ e => e)
 obtain ⟨I, fp, wr, n, P, St, bt, Kp, rfl, W, st, kp, hfp, hn, cmp, kpk, hQ⟩ := ht
 refine wpAny_bind (wpAny_newObj_type ?_)
 have sf : t.heap.objs.size ∉ fp := fun hm => Nat.lt_irrefl _ (hfp _ hm)
 rw [nm]
 refine wpAny_pure ⟨plainId_quiet F.plain_min_loop _, Xqg W bt Kp cmp t.heap.objs.size sf kpk hn (W.frame _ _ _ st fun b _ o e => Heap.get?_push_of_some _ e) (kpk _ _ kp fun b o _ _ e => Heap.get?_push_of_some _ e) (Heap.get?_push_size _ rfl) fun v h' tk pv kk => ?_⟩
 exact hQ v h' tk pv fun b o bw e => kk b o bw (Nat.ne_of_lt (Heap.lt_size e)) (Heap.get?_push_of_some _ e)
end
def Xee (xs : List (List Int)) : Nat → Nat
 | 0 => 0
 | k + 1 => if HT.lexLt (xs.getD (k + 1) []) (xs.getD (Xee xs k) []) then k + 1 else Xee xs k
theorem Xin (xs : List (List Int)) : ∀ k, argBest (fun i j => HT.lexLt (xs.getD i []) (xs.getD j [])) k = Xee xs k
 | 0 => rfl
 | k + 1 => by
   unfold argBest Xee
   rw [Xin xs k]
theorem Xgv (xs : List (List Int)) : ∀ k, Xee xs k ≤ k
 | 0 => Nat.le_refl 0
 | k + 1 => by
   unfold Xee
   have := Xgv xs k
   split <;> omega
section
variable {X : Cx}
theorem Xra (hc : X.calm = true) (hu : X.A.units + 64 < cLine) : Xkg X (.builtin "min") (fun vs H Q => ∃ p us, ∃ xs : List (List Int), vs = [.ref p] ∧ H p = some (.lst us) ∧ Xbv H us (xs.map fun x => x.map V.int) ∧ 0 < xs.length ∧
   ∀ t, us[Xee xs (xs.length - 1)]? = some (.ref t) → H t = some (.tup ((xs.getD (Xee xs (xs.length - 1)) []).map V.int)) → Q (.ref t) H) := by
 intro pins s σ H vs us' Q I r h
 obtain ⟨p, us, xs, rfl, hp, ta, hn, q⟩ := h
 obtain ⟨u, rfl, rx⟩ : ∃ u, us' = [u] ∧ RelV (.ref p) u := by
   cases r with
   | cons a b => cases b; exact ⟨_, rfl, a⟩
 cases rx
 obtain ⟨its, r1, p1, _⟩ := I.list (SqL.of hp)
 have l1 := r1.length
 have l2 := ta.1
 rw [List.length_map] at l2
 have tups : ∀ i, i < xs.length → ∃ t its2, its[i]? = some (.ref t) ∧ us[i]? = some (.ref t) ∧ H t = some (.tup ((xs.getD i []).map V.int)) ∧ s.heap.IsTuple t (List.toArray its2) ∧ IntsAre its2 (xs.getD i []) := fun i hi => by
   obtain ⟨t, e1, e2⟩ := ta.2 i ((xs[i]).map V.int) (by simp [hi])
   obtain ⟨u1, g1, q1⟩ := r1.get e1
   cases q1
   obtain ⟨its2, r2, p2, _⟩ := I.tuple (SqT.of e2)
   have ex : xs.getD i [] = xs[i] := by simp [hi]
   rw [ex]
   exact ⟨t, its2, g1, e1, e2, p2, Xge r2⟩
 have lt : p < s.heap.objs.size := by obtain ⟨_, e, _⟩ := p1.isList; exact Heap.lt_size e
 refine Xne (wpAny_pyIter_list p1.isList ?_)
 refine ⟨s.heap.objs.size, [s.heap.objs.size, p], [s.heap.objs.size], its.toArray.size, fun i v => its.toArray[i]? = some v, _, fun i j => HT.lexLt (xs.getD i []) (xs.getD j []), fun (hh : Heap) => ∀ (i : Nat) (t : Addr) (its2 : List Value), its[i]? = some (Value.ref t) → s.heap.IsTuple t (List.toArray its2) → hh.IsTuple t (List.toArray its2), rfl, Walks.list (A := X.A.in1) (I.ok.hd hc) _ p (Nat.ne_of_lt lt) its.toArray,
   ⟨⟨_, Heap.get?_push_size _ rfl, rfl, rfl⟩, p1.isList.push _⟩, ?_, ?_, ?_, ?_, ?_, ?_⟩
 · intro i t its2 _ ht
   exact ht.push _
 · intro b hb
   show b < (s.heap.push _).objs.size
   rw [Heap.size_push]
   rcases List.mem_cons.mp hb with z | z
   · rw [z]; exact Nat.lt_succ_self _
   · have : b = p := by simpa using z
     rw [this]; exact Nat.lt_succ_of_lt lt
 · rw [List.size_toArray]; omega
 · intro i j x y t Q' E' kp pi pj hq
   rw [List.getElem?_toArray] at pi pj
   have hi : i < xs.length := by have := (List.getElem?_eq_some_iff.mp pi).1; omega
   have hj : j < xs.length := by have := (List.getElem?_eq_some_iff.mp pj).1; omega
   obtain ⟨t1, s1, a1, _, _, b1, c1⟩ := tups i hi
   obtain ⟨t2, s2, a2, _, _, b2, c2⟩ := tups j hj
   rw [a1] at pi
   rw [a2] at pj
   cases pi
   cases pj
   exact HT.lt_tupInts (kp i t1 s1 a1 b1) (kp j t2 s2 a2 b2) c1 c2 (by show X.A.units + 1 < cLine; omega) hq
 · intro h h' kp kk i t its2 g ht
   have e0 := kp i t its2 g ht
   obtain ⟨o, e, hcl, hd⟩ := ht
   obtain ⟨o', e', r'⟩ := e0
   have lt' := Heap.lt_size e
   refine ⟨o', kk t o' (fun z => ?_) (Nat.ne_of_lt ?_) e', r'⟩
   · have z' : t = s.heap.objs.size := by simpa using z
     rw [z'] at lt'
     exact Nat.lt_irrefl _ lt'
   · show t < (s.heap.push _).objs.size
     rw [Heap.size_push]
     exact Nat.lt_succ_of_lt lt'
 · intro v h' tk pv kk
   rw [List.size_toArray, ← l1, l2, Xin, List.getElem?_toArray] at pv
   have hm : Xee xs (xs.length - 1) < xs.length := by have := Xgv xs (xs.length - 1); omega
   obtain ⟨t, its2, a1, a2, a3, _, _⟩ := tups _ hm
   rw [a1] at pv
   cases pv
   refine ⟨.ref t, H, ?_, rfl, q t a2 a3⟩
   refine I.kept (t' := tk) fun b o e => kk b o (fun z => ?_) (Heap.get?_push_of_some _ e)
   have := Heap.lt_size e
   have z' : b = s.heap.objs.size := by simpa using z
   rw [z'] at this
   exact Nat.lt_irrefl _ this
end
end Stow
namespace Stow
open PySem L2 PyProof.Rows
structure InsK (K : PySem.W.Frag) (C : Addr) : Prop where
 cl : Cls K C
 ha : PySem.W.findIn K (.ref C) "__class__" = some (some (.builtin "object.__class__"))
 hn : PySem.W.specialIn K (.builtin "object.__class__") "__get__" = some (some (.builtin "getset_descriptor.__get__"))
 htk : PySem.W.takesIn K (.builtin "object.__class__") = some true
 hm : PySem.W.mroIn K C (.type "object") = some true
section
variable {X : Cx}
theorem Xok : Xkg X (.builtin "isinstance") (fun xs H Q => ∃ a C dx fs C' b, xs = [.ref a, .ref C'] ∧ H a = some (.ins C dx fs) ∧ InsK X.K C ∧ PySem.W.kitOne X.K (.ref C) (.ref C') = some b ∧ Q (.bl b) H) := by
 intro pins s σ H xs us Q I r h
 obtain ⟨a, C, dx, fs, C', b, rfl, ha, Z, e, q⟩ := h
 obtain ⟨u, u', rfl, rx, ry⟩ := XCs r
 cases (show u' = Value.ref C' from ry)
 exact Xps I rx (TyOf.ins ha Z.cl Z.ha Z.hn Z.htk Z.hm) e fun tk => ⟨.bl b, H, I.tok tk, rfl, q⟩
end
section
variable {K : PySem.W.Frag} {σ : L2.St} {H : Hp} {Q : VK} {D : Ends}
theorem r_isiO {a C dx C' : Addr} {fs : List (Str × V)} {b : Bool} {P : Bool → Prop} (h : H a = some (.ins C dx fs)) (z : InsK K C) (e : PySem.W.kitOne K (.ref C) (.ref C') = some b) (q : P b) :
   ∃ a' C1 dx' fs' C2 b', [V.ref a, V.ref C'] = [V.ref a', V.ref C2] ∧ H a' = some (.ins C1 dx' fs') ∧ InsK K C1 ∧ PySem.W.kitOne K (.ref C1) (.ref C2) = some b' ∧ P b' := ⟨a, C, dx, fs, C', b, rfl, h, z, e, q⟩
theorem r_sat {a C dx : Addr} {fs : List (Str × V)} {f : Str} {R : Addr → Addr → Addr → List (Str × V) → Prop} (h : H a = some (.ins C dx fs)) (c : Cls K C) (n : Xck K C f) (l : fs.length < 1000) (q : R a C dx fs) :
   ∃ a' C' dx' fs', V.ref a = V.ref a' ∧ H a' = some (.ins C' dx' fs') ∧ Cls K C' ∧ Xck K C' f ∧ fs'.length < 1000 ∧ R a' C' dx' fs' := ⟨a, C, dx, fs, rfl, h, c, n, l, q⟩
theorem r_make {C : Addr} {sp : Sp} {E : XK} {t : TA} (h : t σ H fun vs H1 => ∀ x dx, H1 x = none → H1 dx = none → dx ≠ x → sp (.ref x :: vs) (upd (upd H1 dx (.own x)) x (.ins C dx [])) (fun v H2 => v = .non ∧ Q (.ref x) H2) E) : Xvk C sp [] E t σ H Q := by
 unfold Xvk
 simp only [List.append_nil]
 exact h
end
section
variable {X : Cx}
theorem XDg (hu : X.A.units + 64 < cLine) : OpR X (compareOp .Eq) (fun x y H Q => ∃ a b us ws ps, x = .ref a ∧ y = .ref b ∧ H a = some (.lst us) ∧ H b = some (.lst ws) ∧ Xbc H us ps ∧ Xbc H ws ps ∧ Q (.bl true) H) := by
 intro pins s σ H x y v u Q I rx ry h
 obtain ⟨a, b, us, ws, ps, rfl, rfl, ha, hb, pu, pw, q⟩ := h
 cases rx
 cases ry
 obtain ⟨its, r1, p1, _⟩ := I.list (SqL.of ha)
 obtain ⟨its2, r2, p2, _⟩ := I.list (SqL.of hb)
 have l1 := r1.length
 have l2 := r2.length
 have m1 := pu.1
 have m2 := pw.1
 have key : SeqAt.RcAt X.A s (.ref a) (.ref b) ((List.range its.toArray.size).all (fun _ => true)) := by
   refine SeqAt.RcAt.lists p1.isList p2.isList (by rw [List.size_toArray, List.size_toArray]; omega) (by omega) fun j h1 h2 => ?_
   rw [List.size_toArray] at h1 h2
   have hj : j < ps.length := by omega
   obtain ⟨t1, e1, f1⟩ := pu.2 j ps[j] (by simp [hj])
   obtain ⟨t2, e2, f2⟩ := pw.2 j ps[j] (by simp [hj])
   obtain ⟨u1, g1, q1⟩ := r1.get e1
   obtain ⟨u2, g2, q2⟩ := r2.get e2
   cases q1
   cases q2
   obtain ⟨_, k1⟩ := List.getElem?_eq_some_iff.mp g1
   obtain ⟨_, k2⟩ := List.getElem?_eq_some_iff.mp g2
   have z := Xlw (A := X.A.in1) (by show X.A.units + 1 < cLine; omega) I (SqT.of f1) (SqT.of f2) rfl
   rw [← k1, ← k2] at z
   simpa using z
 have e : ((List.range its.toArray.size).all (fun _ => true)) = true := by simp
 rw [e] at key
 exact key _ _ _ _ ⟨.bl true, H, I, rfl, q⟩
end
def Xbk (x : Addr) (H H' : Hp) : Prop := ∀ b o, b ≠ x → H b = some o → H' b = some o
theorem Xbk.refl {x : Addr} {H : Hp} : Xbk x H H := fun _ _ _ h => h
theorem Xbk.of {x : Addr} {H H' : Hp} (s : Same H H') : Xbk x H H' := fun b o _ h => s b o h
theorem Xbk.trans {x : Addr} {H H' H'' : Hp} (s : Xbk x H H') (t : Xbk x H' H'') : Xbk x H H'' := fun b o n h => t b o n (s b o n h)
theorem Xbk.put {x : Addr} {H H' : Hp} {o : HO} (s : Xbk x H H') : Xbk x H (upd H' x o) := fun b o' n h => look_ne n (s b o' n h)
end Stow
set_option Elab.async false
set_option linter.all false
set_option maxRecDepth 100000
set_option maxHeartbeats 4000000
namespace Stow
end Stow
namespace Stow
open PySem L2 PyProof.Rows
structure MethD (P : Program) (w : World) (K : PySem.W.Frag) (mg : Str → Option Value) (base : Heap) (C : Addr) (m : Str) (j : Nat) (ps : List Str) (dvs : List V) (sp : Sp) : Prop where
 all : Methx P w K mg base C m j ps [] sp
 less : Methx P w K mg base C m j ps dvs sp
theorem MethD.made {P : Program} {w : World} {K : PySem.W.Frag} {mg : Str → Option Value} {base : Heap} {C : Addr} {m : Str} {j : Nat} {ps : List Str} {dvs : List V} {sp : Sp} {f : Addr} {fd : FuncData} {ds : List Value}
   (F : FnOk P w K mg base (CXe P w) j f fd ps sp) (M : Meth K C m f) (b : Xco K fd ps []) (b' : Xco K fd ps ds) (v : Vals dvs ds) (c : Cls K C) : MethD P w K mg base C m j ps dvs sp :=
 ⟨⟨⟨f, fd, [], F, M, b, .nil⟩, c⟩, ⟨⟨f, fd, ds, F, M, b', v⟩, c⟩⟩
theorem FunD.bindsA {K : PySem.W.Frag} {x qual : Str} {st : Stmt} {T : Addr} {f : Addr} {fd : FuncData} {ps : List Str} {ds : List Value} {tc : Value} {td : Option Addr} {tn : Nat} {tsl : Array (Option Value)} (F : FunD K x qual st (.ref T) f fd)
   (lt : K.lookup T = some ⟨tc, td, .seq ds.toArray tn, tsl⟩)
   (h : ∀ (kV doc pm : Value) (an : Option Addr) (cdv ct : Value) (us : List Value), us.length = ps.length → ∃ k : Option (Array Value) → Sem (List (Str × Value)),
     bindArgs (PySem.W.fnOf x qual (Xbp st) (Xaz st) (Xae st) (.ref T) kV doc pm an cdv ct) ⟨us, []⟩ = seqItems? (.ref T) >>= k ∧ k (some ds.toArray) = pure (ps.zip us)) : Xco K fd ps [] := by
 obtain ⟨oc, od, kV, doc, pm, an, cdv, ct, osl, rfl, lk, hcd⟩ := F.ex
 intro s us X hl
 rw [List.append_nil] at hl ⊢
 obtain ⟨k, h1, h2⟩ := h kV doc pm an cdv ct us hl
 exact .of_defaults rfl (X _ _ lt) rfl h1 h2
abbrev TXS := Ends → XK → L2.St → Hp → Prop
section
variable {X : Cx} {e c : Expr} {t : TX} {tc : TT} {ta tb ts : TXS} {a b ss : List Stmt} {pos epos : Pos} {hs : List ExceptHandler} {th : TH}
end
section
variable {K : PySem.W.Frag} {σ : L2.St} {H : Hp} {Q : VK} {D : Ends} {EX : XK}
end
end Stow
set_option Elab.async false
set_option linter.all false
set_option maxRecDepth 100000
set_option maxHeartbeats 4000000
namespace Stow
theorem Xbg.app {cs ds : List Int} {ps qs : List Pc} (h0 : Xfv ps cs.length) (m : Xbg cs ps) (h1 : Xjw qs 0) (k : Xbg ds qs) :
   Xbg (cs ++ ds) (ps ++ qs.map fun q => ⟨q.a + cs.length, q.l, q.v⟩) := by
 intro p hp
 rcases List.mem_append.mp hp with h | h
 · obtain ⟨a0, a1, a2⟩ := h0 p h
   obtain ⟨m1, m2⟩ := m p h
   exact ⟨by rw [List.getElem?_append_left (by omega)]; exact m1, by rw [List.getElem?_append_left (by omega)]; exact m2⟩
 · obtain ⟨q, hq, rfl⟩ := List.mem_map.mp h
   obtain ⟨b0, b1⟩ := h1 q hq
   obtain ⟨m1, m2⟩ := k q hq
   constructor
   · show (cs ++ ds)[(q.a + cs.length).toNat]? = some (mkOf q.l q.v)
     rw [List.getElem?_append_right (by omega), show (q.a + cs.length).toNat - cs.length = q.a.toNat by omega]
     exact m1
   · show (cs ++ ds)[(q.a + cs.length + q.l - 1).toNat]? = some (mkOf q.l q.v)
     rw [List.getElem?_append_right (by omega), show (q.a + cs.length + q.l - 1).toNat - cs.length = (q.a + q.l - 1).toNat by omega]
     exact m2
end Stow
namespace Stow
open PySem L2 PyProof.Rows
section
variable {X : Cx}
end
section
variable {X : Cx} {tg : Expr}
end
end Stow
set_option Elab.async false
set_option linter.all false
set_option maxRecDepth 100000
set_option maxHeartbeats 4000000
namespace Stow
open PySem L2 PyProof.Rows
section
variable {prog : Program} {w : World} {A : Around} {R : Result → Shared → Prop} {I : Addr} {fp wr : List Addr} {n : Nat} {P : Nat → Value → Prop} {St : Nat → Heap → Prop} {kw : List (Str × Value)}
end
section
variable {prog : Program} {w : World} {A : Around} {E : Value → Shared → Prop} {s : Shared}
end
section
variable {X : Cx}
end
end Stow
namespace Stow
open PySem L2 PyProof.Rows
section
variable {K : PySem.W.Frag} {σ : L2.St} {H : Hp} {Q : VK}
theorem Xhf {us : List V} {ps : List Pc} (h : Xbc H us ps) {i : Nat} {v : V} (hv : us[i]? = some v) : ∃ t z, v = .ref t ∧ ps[i]? = some z ∧ H t = some (.tup [.int z.a, .int z.l, .bl z.v]) := by
 have hi : i < ps.length := by rw [← h.1]; exact (List.getElem?_eq_some_iff.mp hv).1
 obtain ⟨t, e1, e2⟩ := h.2 i ps[i] (by simp [hi])
 exact ⟨t, ps[i], Option.some.inj (hv.symm.trans e1), by simp [hi], e2⟩
end
def Xnh (H : Hp) (v : V) (o : Option (List Int)) : Prop := match o with
 | none => v = .non
 | some x => ∃ t, v = .ref t ∧ H t = some (.tup (x.map V.int))
theorem Xnh.same {H H' : Hp} {v : V} {o : Option (List Int)} (h : Xnh H v o) (s : Same H H') : Xnh H' v o := by
 cases o with
 | none => exact h
 | some x => obtain ⟨t, e1, e2⟩ := h; exact ⟨t, e1, s t _ e2⟩
theorem Xnh.mono {H H' : Hp} {v : V} {o : Option (List Int)} (h : Xnh H v o) (k : ∀ b xs, H b = some (.tup xs) → H' b = some (.tup xs)) : Xnh H' v o := by
 cases o with
 | none => exact h
 | some x => obtain ⟨t, e1, e2⟩ := h; exact ⟨t, e1, k t _ e2⟩
end Stow
namespace Stow
open PySem L2 PyProof.Rows
theorem Xbk.new {x t : Addr} {H H' : Hp} {o : HO} (s : Xbk x H H') (ht : H' t = none) : Xbk x H (upd H' t o) := fun b o' n h => look_put ht (s b o' n h)
theorem Xbk.tups {x : Addr} {H H' : Hp} {l us : List V} {xs : List (List V)} (s : Xbk x H H') (hx : H x = some (.lst l)) (h : Xbv H us xs) : Xbv H' us xs := h.mono fun b ys e => s b _ (fun z => by rw [z, hx] at e; cases e) e
end Stow
set_option Elab.async false
set_option linter.all false
set_option maxRecDepth 100000
set_option maxHeartbeats 4000000
namespace Stow
open PySem L2 PyProof.Rows
end Stow
namespace Stow
open PySem L2 PyProof.Rows
theorem Xaw.app {X Y : List Pc} (hX : Xaw X) (hY : Xaw Y) (hj : ∀ x y, X.getLast? = some x → Y[0]? = some y → x.v = true ∨ y.v = true) : Xaw (X ++ Y) := fun j y z h1 h2 => by
 by_cases e1 : j + 1 < X.length
 · rw [List.getElem?_append_left (by omega)] at h1
   rw [List.getElem?_append_left e1] at h2
   exact hX j y z h1 h2
 · by_cases e2 : j + 1 = X.length
   · rw [List.getElem?_append_left (by omega)] at h1
     rw [List.getElem?_append_right (by omega), show j + 1 - X.length = 0 by omega] at h2
     refine hj y z ?_ h2
     rw [List.getLast?_eq_getElem?, show X.length - 1 = j by omega]
     exact h1
   · rw [List.getElem?_append_right (by omega)] at h1 h2
     rw [show j + 1 - X.length = (j - X.length) + 1 by omega] at h2
     exact hY _ y z h1 h2
theorem Xaw.left {X Y : List Pc} (h : Xaw (X ++ Y)) : Xaw X := fun j y z h1 h2 => by
 have l1 := (List.getElem?_eq_some_iff.mp h1).1
 have l2 := (List.getElem?_eq_some_iff.mp h2).1
 exact h j y z (by rw [List.getElem?_append_left l1]; exact h1) (by rw [List.getElem?_append_left l2]; exact h2)
theorem Xaw.right {X Y : List Pc} (h : Xaw (X ++ Y)) : Xaw Y := fun j y z h1 h2 => h (X.length + j) y z (by rw [List.getElem?_append_right (by omega), show X.length + j - X.length = j by omega]; exact h1) (by rw [List.getElem?_append_right (by omega), show X.length + j + 1 - X.length = j + 1 by omega]; exact h2)
theorem Xaw.mid {X Y : List Pc} {x y : Pc} (h : Xaw (X ++ Y)) (hx : X.getLast? = some x) (hy : Y[0]? = some y) : x.v = true ∨ y.v = true := by
 rw [List.getLast?_eq_getElem?] at hx
 have l1 := (List.getElem?_eq_some_iff.mp hx).1
 refine h (X.length - 1) x y (by rw [List.getElem?_append_left l1]; exact hx) ?_
 rw [List.getElem?_append_right (by omega), show X.length - 1 + 1 - X.length = 0 by omega]
 exact hy
theorem Xcq (z : Pc) : Xaw [z] := fun j y x h1 h2 => by
 have := (List.getElem?_eq_some_iff.mp h2).1
 simp at this
theorem Xno : Xaw [] := fun j y x h1 h2 => by simp at h1
theorem Xfk : ∀ (R X : List Pc), Xaw (X ++ R) → R.foldl Xbf X = X ++ R
 | [], X, _ => by simp
 | w :: R, X, h => by
   rw [List.foldl_cons]
   have e : Xbf X w = X ++ [w] := by
     rcases Xbs X with e0 | ⟨D, y, e0⟩
     · subst e0; rfl
     · subst e0
       have := h.mid (x := y) (y := w) (by simp) (by simp)
       rcases this with hv | hv
       · exact Xcs hv
       · exact Xcj hv
   rw [e, Xfk R (X ++ [w]) (by rw [List.append_assoc]; exact h), List.append_assoc]
   rfl
def Xfq (ds : List Pc) : List Pc := match ds.getLast? with
 | some y => if y.v = true then ds else ds.dropLast
 | none => ds
def Xei : List Pc → List Pc
 | [] => []
 | w :: R => if w.v = true then w :: R else R
theorem Xdx {w : Pc} {R : List Pc} (h : w.v = true) : Xei (w :: R) = w :: R := by show (if w.v = true then w :: R else R) = _; rw [if_pos h]
theorem Xdu {w : Pc} {R : List Pc} (h : w.v = false) : Xei (w :: R) = R := by show (if w.v = true then w :: R else R) = _; rw [h, if_neg Bool.false_ne_true]
theorem Xeb {D : List Pc} {y : Pc} (h : y.v = true) : Xfq (D ++ [y]) = D ++ [y] := by unfold Xfq; rw [List.getLast?_concat]; simp only; rw [if_pos h]
theorem Xdt {D : List Pc} {y : Pc} (h : y.v = false) : Xfq (D ++ [y]) = D := by unfold Xfq; rw [List.getLast?_concat]; simp only; rw [h, if_neg Bool.false_ne_true, List.dropLast_concat]
theorem Xnm {ds rs : List Pc} {z : Pc} {s e : Int} (c : Xai s (ds ++ z :: rs) e) : Xai s (Xfq ds) (fbeg (ds ++ z :: rs) ds.length z) ∧ fbeg (ds ++ z :: rs) ds.length z ≤ z.a ∧ s ≤ fbeg (ds ++ z :: rs) ds.length z := by
 obtain ⟨mm, c1, ⟨ea, h1, h3, c2⟩⟩ : ∃ mm, Xai s ds mm ∧ Xai mm (z :: rs) e := by
   have key : ∀ {A B : List Pc} {s e : Int}, Xai s (A ++ B) e → ∃ m, Xai s A m ∧ Xai m B e := by
     intro A
     induction A with
     | nil => intro B s e c; exact ⟨s, rfl, c⟩
     | cons y r ih =>
       rintro B s e ⟨g1, g2, g3, g4⟩
       obtain ⟨m, k1, k2⟩ := ih g4
       exact ⟨m, ⟨g1, g2, g3, k1⟩, k2⟩
   exact key c
 rw [← ea] at c1
 have hl := c1.le
 rcases Xbs ds with e0 | ⟨D, y, e0⟩
 · subst e0
   exact ⟨c1, Int.le_refl _, by show s ≤ z.a; rw [List.length_nil] at hl; omega⟩
 · subst e0
   obtain ⟨k1, k2, k3, k4⟩ := c1.unsnoc
   have hy : (D ++ [y] ++ z :: rs)[D.length]? = some y := by rw [List.append_assoc, List.getElem?_append_right (Nat.le_refl _), Nat.sub_self]; rfl
   rw [List.length_append, List.length_singleton]
   have kl := k1.le
   cases hv : y.v with
   | true => rw [Xfr hy hv, Xeb hv]; exact ⟨c1, Int.le_refl _, by omega⟩
   | false => rw [Xfi hy hv, Xdt hv]; exact ⟨k1, by omega, by omega⟩
theorem Xga {ds rs : List Pc} {z : Pc} {s e : Int} (c : Xai s (ds ++ z :: rs) e) : Xai (fend (ds ++ z :: rs) ds.length z) (Xei rs) e ∧ z.a + z.l ≤ fend (ds ++ z :: rs) ds.length z ∧ fend (ds ++ z :: rs) ds.length z ≤ e := by
 have key : ∀ {A B : List Pc} {s e : Int}, Xai s (A ++ B) e → ∃ m, Xai s A m ∧ Xai m B e := by
   intro A
   induction A with
   | nil => intro B s e c; exact ⟨s, rfl, c⟩
   | cons y r ih =>
     rintro B s e ⟨g1, g2, g3, g4⟩
     obtain ⟨m, k1, k2⟩ := ih g4
     exact ⟨m, ⟨g1, g2, g3, k1⟩, k2⟩
 obtain ⟨mm, c1, ⟨ea, h1, h3, c2⟩⟩ := key c
 rw [← ea] at c2
 cases rs with
 | nil =>
   have hn : (ds ++ [z])[ds.length + 1]? = none := List.getElem?_eq_none (by simp)
   have c2 : z.a + z.l = e := c2
   rw [Xft hn]
   exact ⟨c2, Int.le_refl _, by omega⟩
 | cons w R =>
   have hw : (ds ++ z :: w :: R)[ds.length + 1]? = some w := by rw [List.getElem?_append_right (by omega), show ds.length + 1 - ds.length = 1 by omega]; rfl
   have hl := c2.le
   rw [List.length_cons] at hl
   cases hv : w.v with
   | true =>
     rw [Xeh hw hv, Xdx hv]
     exact ⟨c2, Int.le_refl _, by omega⟩
   | false =>
     rw [Xek hw hv, Xdu hv]
     obtain ⟨g1, g2, g3, g4⟩ := c2
     have hl2 := g4.le
     refine ⟨?_, by omega, by omega⟩
     rw [g1]
     exact g4
theorem Xqj {ds : List Pc} {p : Pc} (h : p ∈ Xfq ds) : p ∈ ds := by
 rcases Xbs ds with e0 | ⟨D, y, e0⟩
 · subst e0; exact h
 · subst e0
   cases hv : y.v with
   | true => rw [Xeb hv] at h; exact h
   | false => rw [Xdt hv] at h; exact List.mem_append.mpr (.inl h)
theorem Xka {rs : List Pc} {p : Pc} (h : p ∈ Xei rs) : p ∈ rs := by
 cases rs with
 | nil => cases h
 | cons w R =>
   cases hv : w.v with
   | true => rw [Xdx hv] at h; exact h
   | false => rw [Xdu hv] at h; exact List.mem_cons_of_mem _ h
def modF (ps : List Pc) (k : Int) : List Pc := ps.map fun p => (⟨p.a, p.l, p.v && !decide (p.a = k)⟩ : Pc)
theorem Xio {ds rs : List Pc} {z : Pc} {s e : Int} (c : Xai s (ds ++ z :: rs) e) : modF (ds ++ z :: rs) z.a = ds ++ ⟨z.a, z.l, false⟩ :: rs := by
 have hid : ∀ p ∈ ds ++ rs, (⟨p.a, p.l, p.v && !decide (p.a = z.a)⟩ : Pc) = p := fun p hp => by
   have hne : p.a ≠ z.a := fun h => by
     have hp2 : p ∈ ds ++ z :: rs := by
       rcases List.mem_append.mp hp with g | g
       · exact List.mem_append.mpr (.inl g)
       · exact List.mem_append.mpr (.inr (List.mem_cons_of_mem _ g))
     obtain ⟨i, hi⟩ := List.getElem?_of_mem hp2
     have hz : (ds ++ z :: rs)[ds.length]? = some z := by rw [List.getElem?_append_right (Nat.le_refl _), Nat.sub_self]; rfl
     have := Xht c hi hz h
     subst this
     -- p stands where z stands, so p is not elsewhere
     rcases List.mem_append.mp hp with g | g
     · obtain ⟨j, hj⟩ := List.getElem?_of_mem g
       have hjl := (List.getElem?_eq_some_iff.mp hj).1
       have := Xht c (show (ds ++ z :: rs)[j]? = some p by rw [List.getElem?_append_left hjl]; exact hj) hz h
       omega
     · obtain ⟨j, hj⟩ := List.getElem?_of_mem g
       have := Xht c (show (ds ++ z :: rs)[ds.length + 1 + j]? = some p by rw [List.getElem?_append_right (by omega), show ds.length + 1 + j - ds.length = j + 1 by omega, List.getElem?_cons_succ]; exact hj) hz h
       omega
   rw [decide_eq_false hne]
   simp
 unfold modF
 rw [List.map_append, List.map_cons]
 have e1 : ds.map (fun p => (⟨p.a, p.l, p.v && !decide (p.a = z.a)⟩ : Pc)) = ds := by
   have : ds.map (fun p => (⟨p.a, p.l, p.v && !decide (p.a = z.a)⟩ : Pc)) = ds.map id := List.map_congr_left fun p hp => hid p (List.mem_append.mpr (.inl hp))
   rw [this, List.map_id]
 have e2 : rs.map (fun p => (⟨p.a, p.l, p.v && !decide (p.a = z.a)⟩ : Pc)) = rs := by
   have : rs.map (fun p => (⟨p.a, p.l, p.v && !decide (p.a = z.a)⟩ : Pc)) = rs.map id := List.map_congr_left fun p hp => hid p (List.mem_append.mpr (.inr hp))
   rw [this, List.map_id]
 rw [e1, e2]
 simp
theorem Xid {w : List Pc} (h : Xaw w) : Xaw (Xei w) ∧ ∀ y, (Xei w)[0]? = some y → y.v = true := by
 cases w with
 | nil => exact ⟨h, fun y hy => by simp [Xei] at hy⟩
 | cons z R =>
   cases hv : z.v with
   | true =>
     rw [Xdx hv]
     refine ⟨h, fun y hy => ?_⟩
     have ey : y = z := by simpa using hy.symm
     rw [ey]
     exact hv
   | false =>
     rw [Xdu hv]
     refine ⟨Xaw.right (X := [z]) h, fun y hy => ?_⟩
     have := Xaw.mid (X := [z]) (Y := R) (x := z) (y := y) h rfl hy
     exact this.resolve_left (by rw [hv]; exact Bool.false_ne_true)
theorem Xxk {cs : List Int} {ds rs : List Pc} {z : Pc} (c : Xai 0 (ds ++ z :: rs) cs.length) (m : Xbg cs (ds ++ z :: rs)) (na : Xaw (ds ++ z :: rs)) (hv : z.v = true) :
   Xai 0 (Xdf (modF (ds ++ z :: rs) z.a)) cs.length ∧ Xaw (Xdf (modF (ds ++ z :: rs) z.a)) ∧ Xbg (lfI cs (fbeg (ds ++ z :: rs) ds.length z) (fend (ds ++ z :: rs) ds.length z)) (Xdf (modF (ds ++ z :: rs) z.a)) := by
 obtain ⟨b1, b2, b3⟩ := Xnm c
 obtain ⟨e1, e2, e3⟩ := Xga c
 have zl : 1 ≤ z.l := (c.mem z (by simp)).2.1
 have hj : Xdf (modF (ds ++ z :: rs) z.a) = Xfq ds ++ (fr (fbeg (ds ++ z :: rs) ds.length z) (fend (ds ++ z :: rs) ds.length z) ++ Xei rs) := by
   rw [Xio c]
   unfold fr
   rw [if_neg (by omega)]
   have hds : Xaw ds := na.left
   have hrs : Xaw rs := Xaw.right (X := ds ++ [z]) (by rw [List.append_assoc]; exact na)
   obtain ⟨hR1, hR2⟩ := Xid hrs
   unfold Xdf
   rw [List.foldl_append, List.foldl_cons]
   have h0 : ds.foldl Xbf [] = ds := by
     have := Xfk ds [] (by simpa using hds)
     simpa using this
   rw [h0]
   -- the step at the piece itself
   have h1 : ∃ l1, Xbf ds ⟨z.a, z.l, false⟩ = Xfq ds ++ [⟨fbeg (ds ++ z :: rs) ds.length z, l1, false⟩] ∧ fbeg (ds ++ z :: rs) ds.length z + l1 = z.a + z.l := by
     rcases Xbs ds with e0 | ⟨D, y, e0⟩
     · subst e0
       exact ⟨z.l, rfl, rfl⟩
     · subst e0
       have hy : (D ++ [y] ++ z :: rs)[D.length]? = some y := by rw [List.append_assoc, List.getElem?_append_right (Nat.le_refl _), Nat.sub_self]; rfl
       have hn := Xch c hy (show (D ++ [y] ++ z :: rs)[D.length + 1]? = some z by rw [List.getElem?_append_right (by simp), show D.length + 1 - (D ++ [y]).length = 0 by simp]; rfl)
       rw [List.length_append, List.length_singleton]
       cases hvy : y.v with
       | true => exact ⟨z.l, by rw [Xfr hy hvy, Xeb hvy]; exact Xcs hvy, by rw [Xfr hy hvy]⟩
       | false => exact ⟨y.l + z.l, by rw [Xfi hy hvy, Xdt hvy]; exact Xcc hvy rfl, by rw [Xfi hy hvy]; omega⟩
   obtain ⟨l1, h1, h1'⟩ := h1
   rw [h1]
   have hfl : ∀ x y, (Xfq ds).getLast? = some x → [(⟨fbeg (ds ++ z :: rs) ds.length z, fend (ds ++ z :: rs) ds.length z - fbeg (ds ++ z :: rs) ds.length z, false⟩ : Pc)][0]? = some y → x.v = true ∨ y.v = true := fun x y hx hy => by
     left
     rcases Xbs ds with e0 | ⟨D, w, e0⟩
     · subst e0; simp [Xfq] at hx
     · subst e0
       cases hvy : w.v with
       | true =>
         rw [Xeb hvy] at hx
         have ex : x = w := by simpa using hx.symm
         rw [ex]
         exact hvy
       | false =>
         rw [Xdt hvy] at hx
         have h2 : Xaw (D ++ [w]) := hds
         exact (h2.mid hx (by rfl)).resolve_right (by rw [hvy]; exact Bool.false_ne_true)
   have hflN : Xaw (Xfq ds) := by
     rcases Xbs ds with e0 | ⟨D, w, e0⟩
     · subst e0; exact hds
     · subst e0
       cases hvy : w.v with
       | true => rw [Xeb hvy]; exact hds
       | false => rw [Xdt hvy]; exact hds.left
   have hall : Xaw ((Xfq ds ++ [(⟨fbeg (ds ++ z :: rs) ds.length z, fend (ds ++ z :: rs) ds.length z - fbeg (ds ++ z :: rs) ds.length z, false⟩ : Pc)]) ++ Xei rs) :=
     Xaw.app (hflN.app (Xcq _) hfl) hR1 fun x y hx hy => .inr (hR2 y hy)
   cases rs with
   | nil =>
     have hn : (ds ++ [z])[ds.length + 1]? = none := List.getElem?_eq_none (by simp)
     rw [Xft hn] at *
     have el : l1 = z.a + z.l - fbeg (ds ++ [z]) ds.length z := by omega
     rw [el]
     simp [Xei]
   | cons w R =>
     have hw : (ds ++ z :: w :: R)[ds.length + 1]? = some w := by rw [List.getElem?_append_right (by omega), show ds.length + 1 - ds.length = 1 by omega]; rfl
     have hnx := Xch c (show (ds ++ z :: w :: R)[ds.length]? = some z by rw [List.getElem?_append_right (Nat.le_refl _), Nat.sub_self]; rfl) hw
     cases hvw : w.v with
     | true =>
       rw [Xeh hw hvw] at *
       have el : l1 = z.a + z.l - fbeg (ds ++ z :: w :: R) ds.length z := by omega
       rw [el]
       have eR : Xei (w :: R) = w :: R := Xdx hvw
       rw [eR] at hall ⊢
       rw [Xfk (w :: R) _ hall, List.append_assoc]
     | false =>
       rw [Xek hw hvw] at *
       have eR : Xei (w :: R) = R := Xdu hvw
       rw [eR] at hall ⊢
       rw [List.foldl_cons, Xcc rfl hvw]
       have el : l1 + w.l = w.a + w.l - fbeg (ds ++ z :: w :: R) ds.length z := by omega
       show List.foldl Xbf (Xfq ds ++ [⟨fbeg (ds ++ z :: w :: R) ds.length z, l1 + w.l, false⟩]) R = _
       rw [el, Xfk R _ hall, List.append_assoc]
 refine ⟨Xhh ?_, Xmc _, ?_⟩
 · rw [Xio c]
   obtain ⟨i1, i2⟩ := (show Xai 0 (Xfq ds) _ ∧ True from ⟨b1, trivial⟩)
   have key : ∀ (A : List Pc) (s : Int), Xai s (A ++ z :: rs) cs.length → Xai s (A ++ ⟨z.a, z.l, false⟩ :: rs) cs.length := by
     intro A
     induction A with
     | nil => rintro s ⟨g1, g2, g3, g4⟩; exact ⟨g1, g2, (fun h => by cases h), g4⟩
     | cons y r ih => rintro s ⟨g1, g2, g3, g4⟩; exact ⟨g1, g2, g3, ih _ g4⟩
   exact key ds 0 c
 · rw [hj]
   refine Xbg.layF b3 (by omega) e3 (b1.endBy (Int.le_refl _)) e1.fromOn (m.sub fun p hp => ?_)
   rcases List.mem_append.mp hp with g | g
   · exact List.mem_append.mpr (.inl (Xqj g))
   · exact List.mem_append.mpr (.inr (List.mem_cons_of_mem _ (Xka g)))
def rg1 (k L e : Int) (p : Pc) : List Pc := (if p.a < k ∨ e ≤ p.a then [p] else []) ++ (if p.a = k then [⟨k, L, true⟩] else []) ++ (if p.a = k ∧ k + L < e then [⟨k + L, e - k - L, false⟩] else [])
def regF (ps : List Pc) (k L e : Int) : List Pc := (ps.map (rg1 k L e)).flatten
theorem Xhb (A B : List Pc) (k L e : Int) : regF (A ++ B) k L e = regF A k L e ++ regF B k L e := by unfold regF; rw [List.map_append, List.flatten_append]
theorem Xiz {A : List Pc} {k L e : Int} (h : ∀ p ∈ A, p.a ≠ k ∧ (p.a < k ∨ e ≤ p.a)) : regF A k L e = A := by
 induction A with
 | nil => rfl
 | cons p r ih =>
   have h1 := h p List.mem_cons_self
   have e1 : rg1 k L e p = [p] := by
     unfold rg1
     rw [if_pos h1.2, if_neg h1.1, if_neg (fun z => h1.1 z.1)]
     rfl
   rw [show p :: r = [p] ++ r from rfl, Xhb, ih fun q hq => h q (List.mem_cons_of_mem _ hq)]
   congr 1
   unfold regF
   simp [e1]
theorem Xes : ∀ {A B : List Pc} {s e : Int}, Xai s (A ++ B) e → ∃ m, Xai s A m ∧ Xai m B e
 | [], B, s, e, c => ⟨s, rfl, c⟩
 | z :: r, B, s, e, c => by
   obtain ⟨h1, h2, h3, h4⟩ := c
   obtain ⟨m, g1, g2⟩ := Xes h4
   exact ⟨m, ⟨h1, h2, h3, g1⟩, g2⟩
theorem Xni {ds rs : List Pc} {z : Pc} {n L : Int} (c : Xai 0 (ds ++ z :: rs) n) (na : Xaw (ds ++ z :: rs)) (hL : z.a + L ≤ fend (ds ++ z :: rs) ds.length z) :
   regF (ds ++ z :: rs) z.a L (fend (ds ++ z :: rs) ds.length z) = (ds ++ [⟨z.a, L, true⟩]) ++ (fr (z.a + L) (fend (ds ++ z :: rs) ds.length z) ++ Xei rs) := by
 obtain ⟨e1, e2, e3⟩ := Xga c
 obtain ⟨mm, c1, ⟨ea, h1, h3, c2⟩⟩ := Xes c
 rw [← ea] at c1 c2
 have hz : rg1 z.a L (fend (ds ++ z :: rs) ds.length z) z = [⟨z.a, L, true⟩] ++ fr (z.a + L) (fend (ds ++ z :: rs) ds.length z) := by
   unfold rg1 fr
   rw [if_neg (by omega), if_pos rfl, List.nil_append]
   congr 1
   by_cases he : z.a + L = fend (ds ++ z :: rs) ds.length z
   · rw [if_pos he, if_neg (by omega)]
   · rw [if_neg he, if_pos ⟨rfl, by omega⟩, show fend (ds ++ z :: rs) ds.length z - z.a - L = fend (ds ++ z :: rs) ds.length z - (z.a + L) by omega]
 have hr : regF rs z.a L (fend (ds ++ z :: rs) ds.length z) = Xei rs := by
   cases rs with
   | nil => rfl
   | cons w R =>
     have hw : (ds ++ z :: w :: R)[ds.length + 1]? = some w := by rw [List.getElem?_append_right (by omega), show ds.length + 1 - ds.length = 1 by omega]; rfl
     cases hv : w.v with
     | true =>
       rw [Xdx hv]
       refine Xiz fun p hp => ?_
       have := c2.mem p hp
       rw [Xeh hw hv]
       exact ⟨by omega, .inr (by omega)⟩
     | false =>
       rw [Xdu hv] at e1 ⊢
       obtain ⟨g1, g2, g3, g4⟩ := c2
       have hf := Xek (z := z) hw hv
       rw [show w :: R = [w] ++ R from rfl, Xhb]
       have e0 : regF [w] z.a L (fend (ds ++ z :: w :: R) ds.length z) = [] := by
         unfold regF rg1
         rw [List.map_cons, List.map_nil, List.flatten_cons, List.flatten_nil, if_neg (by omega), if_neg (by omega), if_neg (by omega)]
         rfl
       have e0' : regF [w] z.a L (fend (ds ++ z :: ([w] ++ R)) ds.length z) = [] := e0
       rw [e0', List.nil_append]
       refine Xiz fun p hp => ?_
       have hm := e1.mem p hp
       show p.a ≠ z.a ∧ (p.a < z.a ∨ fend (ds ++ z :: w :: R) ds.length z ≤ p.a)
       exact ⟨by omega, .inr (by omega)⟩
 rw [Xhb, Xiz (A := ds) (fun p hp => by have := c1.mem p hp; exact ⟨by omega, .inl (by omega)⟩), show z :: rs = [z] ++ rs from rfl, Xhb]
 have e9 : regF [z] z.a L (fend (ds ++ ([z] ++ rs)) ds.length z) = [⟨z.a, L, true⟩] ++ fr (z.a + L) (fend (ds ++ z :: rs) ds.length z) := by
   unfold regF
   rw [List.map_cons, List.map_nil, List.flatten_cons, List.flatten_nil, List.append_nil]
   exact hz
 have e8 : regF rs z.a L (fend (ds ++ ([z] ++ rs)) ds.length z) = Xei rs := hr
 rw [e9, e8]
 simp
theorem Xxe {cs : List Int} {ds rs : List Pc} {z : Pc} {L : Int} (c : Xai 0 (ds ++ z :: rs) cs.length) (m : Xbg cs (ds ++ z :: rs)) (na : Xaw (ds ++ z :: rs)) (hL3 : 3 ≤ L) (hL : z.a + L ≤ fend (ds ++ z :: rs) ds.length z) :
   Xai 0 (regF (ds ++ z :: rs) z.a L (fend (ds ++ z :: rs) ds.length z)) cs.length ∧ Xaw (regF (ds ++ z :: rs) z.a L (fend (ds ++ z :: rs) ds.length z)) ∧
   Xbg (lfI (Xcy cs z.a L true) (z.a + L) (fend (ds ++ z :: rs) ds.length z)) (regF (ds ++ z :: rs) z.a L (fend (ds ++ z :: rs) ds.length z)) := by
 obtain ⟨e1, e2, e3⟩ := Xga c
 obtain ⟨mm, c1, ⟨ea, h1, h3, c2⟩⟩ := Xes c
 rw [← ea] at c1 c2
 have hl1 := c1.le
 have hrs : Xaw rs := Xaw.right (X := ds ++ [z]) (by rw [List.append_assoc]; exact na)
 obtain ⟨hR1, hR2⟩ := Xid hrs
 rw [Xni c na hL]
 have cz : Xai 0 (ds ++ [⟨z.a, L, true⟩]) (z.a + L) := Xai.snoc (p := ⟨z.a, L, true⟩) c1 (show 1 ≤ L by omega) (fun _ => hL3)
 refine ⟨cz.app ((Xgx hL).app e1), ?_, ?_⟩
 · have n1 : Xaw (ds ++ [⟨z.a, L, true⟩]) := by
     refine na.left.app (Xcq _) fun x y _ hy => .inr ?_
     have ey : y = ⟨z.a, L, true⟩ := by simpa using hy.symm
     rw [ey]
   have n2 : Xaw (fr (z.a + L) (fend (ds ++ z :: rs) ds.length z) ++ Xei rs) := by
     unfold fr
     split
     · exact hR1
     · exact (Xcq _).app hR1 fun x y _ hy => .inr (hR2 y hy)
   refine n1.app n2 fun x y hx _ => .inl ?_
   have : x = ⟨z.a, L, true⟩ := by simpa using hx.symm
   rw [this]
 · have ml : Xbg (Xcy cs z.a L true) (ds ++ ⟨z.a, L, true⟩ :: Xei rs) := Xbg.lay (by omega) (by omega) (by omega) (c1.endBy (Int.le_refl _)) (fun p hp => by have := e1.fromOn p hp; omega) (m.sub fun p hp => by
     rcases List.mem_append.mp hp with g | g
     · exact List.mem_append.mpr (.inl g)
     · exact List.mem_append.mpr (.inr (List.mem_cons_of_mem _ (Xka g))))
   exact Xbg.layF (by omega) hL (by rw [Xbq]; exact e3) (cz.endBy (Int.le_refl _)) e1.fromOn (by rw [List.append_assoc]; exact ml)
def en1 (k : Int) (e : Int) (p : Pc) : Int := if p.a = k ∨ (p.a = e ∧ p.v = false ∧ k < e) then p.a + p.l else e
def enF (ps : List Pc) (k : Int) : Int := ps.foldl (en1 k) k
theorem Xll {k : Int} : ∀ {R : List Pc} {e f n : Int}, k < f → Xai f R n → e ≤ f → (e = f → ∀ y, R[0]? = some y → y.v = true) → R.foldl (en1 k) e = e
 | [], e, f, n, _, _, _, _ => rfl
 | p :: r, e, f, n, hk, c, hef, hy => by
   obtain ⟨h1, h2, h3, h4⟩ := c
   rw [List.foldl_cons]
   have e1 : en1 k e p = e := by
     unfold en1
     rw [if_neg]
     rintro (g | ⟨g1, g2, g3⟩)
     · omega
     · have := hy (by omega) p rfl
       rw [this] at g2
       cases g2
   rw [e1]
   exact Xll (show k < f + p.l by omega) h4 (by omega) fun h => by omega
theorem XJr {ds rs : List Pc} {z : Pc} {n : Int} (c : Xai 0 (ds ++ z :: rs) n) (na : Xaw (ds ++ z :: rs)) : enF (ds ++ z :: rs) z.a = fend (ds ++ z :: rs) ds.length z := by
 obtain ⟨mm, c1, ⟨ea, h1, h3, c2⟩⟩ := Xes c
 rw [← ea] at c1 c2
 have hrs : Xaw rs := Xaw.right (X := ds ++ [z]) (by rw [List.append_assoc]; exact na)
 unfold enF
 rw [List.foldl_append, List.foldl_cons]
 have e0 : ds.foldl (en1 z.a) z.a = z.a := by
   have key : ∀ (A : List Pc), (∀ p ∈ A, p.a < z.a) → A.foldl (en1 z.a) z.a = z.a := by
     intro A
     induction A with
     | nil => intro _; rfl
     | cons p r ih =>
       intro h
       have := h p List.mem_cons_self
       rw [List.foldl_cons]
       have e1 : en1 z.a z.a p = z.a := by unfold en1; rw [if_neg (by omega)]
       rw [e1]
       exact ih fun q hq => h q (List.mem_cons_of_mem _ hq)
   exact key ds fun p hp => by have := c1.mem p hp; omega
 have e1 : en1 z.a z.a z = z.a + z.l := by unfold en1; rw [if_pos (.inl rfl)]
 rw [e0, e1]
 cases rs with
 | nil =>
   rw [Xft (List.getElem?_eq_none (by simp))]
   rfl
 | cons w R =>
   have hw : (ds ++ z :: w :: R)[ds.length + 1]? = some w := by rw [List.getElem?_append_right (by omega), show ds.length + 1 - ds.length = 1 by omega]; rfl
   obtain ⟨g1, g2, g3, g4⟩ := id c2
   cases hv : w.v with
   | true =>
     rw [Xeh hw hv]
     refine Xll (show z.a < z.a + z.l by omega) c2 (Int.le_refl _) fun _ y hy => ?_
     have ey : y = w := by simpa using hy.symm
     rw [ey]
     exact hv
   | false =>
     rw [Xek hw hv, List.foldl_cons]
     have e2 : en1 z.a (z.a + z.l) w = w.a + w.l := by unfold en1; rw [if_pos (.inr ⟨g1, hv, by omega⟩)]
     rw [e2]
     rw [← g1] at g4
     refine Xll (show z.a < w.a + w.l by omega) g4 (Int.le_refl _) fun _ y hy => ?_
     have := Xaw.mid (X := [w]) (Y := R) (x := w) (y := y) hrs rfl hy
     exact this.resolve_left (by rw [hv]; exact Bool.false_ne_true)
end Stow
set_option Elab.async false
set_option linter.all false
set_option maxRecDepth 100000
set_option maxHeartbeats 4000000
namespace Stow
open PySem L2 PyProof.Rows
theorem Xeq {ps : List Pc} {s e p : Int} {y z : Pc} (c : Xai s ps e) (hy : y ∈ ps) (hz : z ∈ ps) (h1 : y.a ≤ p) (h2 : p < y.a + y.l) (h3 : z.a ≤ p) (h4 : p < z.a + z.l) : y = z := by
 obtain ⟨i, hi⟩ := List.getElem?_of_mem hy
 obtain ⟨j, hj⟩ := List.getElem?_of_mem hz
 rcases Nat.lt_trichotomy i j with g | g | g
 · exfalso
   obtain ⟨ds, rs, e1, e2, c1, c2⟩ := Xat c hj
   subst e1 e2
   rw [List.getElem?_append_left (by omega)] at hi
   have := (c1.mem y (List.mem_of_getElem? hi)).2.2.2
   omega
 · subst g
   exact Option.some.inj (hi.symm.trans hj)
 · exfalso
   obtain ⟨ds, rs, e1, e2, c1, c2⟩ := Xat c hi
   subst e1 e2
   rw [List.getElem?_append_left (by omega)] at hj
   have := (c1.mem z (List.mem_of_getElem? hj)).2.2.2
   omega
def ct1 (s L : Int) (p : Pc) : List Pc := if p.v = true ∨ s < p.a ∨ p.a + p.l ≤ s then [p] else (if p.a < s then [⟨p.a, s - p.a, false⟩] else []) ++ [⟨s, L, true⟩] ++ (if s + L < p.a + p.l then [⟨s + L, p.a + p.l - s - L, false⟩] else [])
def cutL (ps : List Pc) (s L : Int) : List Pc := (ps.map (ct1 s L)).flatten
theorem Xmx {A : List Pc} {s L : Int} (h : ∀ p ∈ A, s < p.a ∨ p.a + p.l ≤ s) : cutL A s L = A := by
 induction A with
 | nil => rfl
 | cons p r ih =>
   have e : cutL (p :: r) s L = ct1 s L p ++ cutL r s L := rfl
   rw [e, ih fun q hq => h q (.tail _ hq)]
   unfold ct1
   rw [if_pos (.inr (h p (.head _)))]
   rfl
theorem Xwj (A B : List Pc) (s L : Int) : cutL (A ++ B) s L = cutL A s L ++ cutL B s L := by unfold cutL; rw [List.map_append, List.flatten_append]
theorem Xyt {ds rs : List Pc} {z : Pc} {s L n : Int} (c : Xai 0 (ds ++ z :: rs) n) (hv : z.v = false) (hL : 1 ≤ L) (h1 : z.a ≤ s) (h2 : s + L ≤ z.a + z.l) : cutL (ds ++ z :: rs) s L = cutP ds rs z.a z.l s L := by
 obtain ⟨ds', rs', e1, e2, c1, c2⟩ := Xat c (XCv ds rs z)
 have e3 : ds' = ds ∧ rs' = rs := by
   have := List.append_inj e1 e2.symm
   exact ⟨this.1.symm, by have := this.2; injection this with _ h; exact h.symm⟩
 obtain ⟨rfl, rfl⟩ := e3
 have e : cutL (ds' ++ z :: rs') s L = cutL ds' s L ++ (ct1 s L z ++ cutL rs' s L) := by rw [Xwj]; rfl
 rw [e, Xmx fun p hp => ?_, Xmx fun p hp => ?_]
 · unfold ct1 cutP fr
   rw [if_neg (by rw [hv]; simp; omega)]
   have x1 : (if z.a < s then [(⟨z.a, s - z.a, false⟩ : Pc)] else []) = if z.a = s then [] else [⟨z.a, s - z.a, false⟩] := by
     by_cases h : z.a = s
     · rw [if_neg (by omega), if_pos h]
     · rw [if_pos (by omega), if_neg h]
   have x2 : (if s + L < z.a + z.l then [(⟨s + L, z.a + z.l - s - L, false⟩ : Pc)] else []) = if s + L = z.a + z.l then [] else [⟨s + L, z.a + z.l - (s + L), false⟩] := by
     by_cases h : s + L = z.a + z.l
     · rw [if_neg (by omega), if_pos h]
     · rw [if_pos (by omega), if_neg h, show z.a + z.l - s - L = z.a + z.l - (s + L) by omega]
   rw [x1, x2]
   simp
 · have := (c2.fromOn) p hp
   omega
 · have := (c1.endBy (Int.le_refl 0)) p hp
   omega
theorem Xnx {ds rs : List Pc} {z : Pc} {s L : Int} (na : Xaw (ds ++ z :: rs)) (hv : z.v = false) : Xaw (cutP ds rs z.a z.l s L) := by
 have hd : Xaw ds := na.left
 have hr : Xaw rs := Xaw.right (X := [z]) na.right
 have lastd : ∀ x, ds.getLast? = some x → x.v = true := fun x hx => by
   rcases na.mid hx (y := z) rfl with h | h
   · exact h
   · rw [hv] at h; cases h
 have firstr : ∀ y, rs[0]? = some y → y.v = true := fun y hy => by
   rcases (na.right).mid (X := [z]) (Y := rs) (x := z) rfl hy with h | h
   · rw [hv] at h; cases h
   · exact h
 have hf : ∀ b e, Xaw (fr b e) := fun b e => by
   unfold fr
   split
   · exact Xno
   · exact Xcq _
 have frl : ∀ b e x, (fr b e).getLast? = some x → x.v = false := fun b e x hx => by
   unfold fr at hx
   split at hx
   · simp at hx
   · have : (⟨b, e - b, false⟩ : Pc) = x := by simpa using hx
     rw [← this]
 unfold cutP
 refine hd.app ((hf _ _).app (Xaw.app (X := [⟨s, L, true⟩]) (Xcq _) ((hf _ _).app hr fun x y hx hy => .inr (firstr y hy)) fun x y hx hy => .inl ?_) fun x y hx hy => .inr ?_) fun x y hx hy => .inl (lastd x hx)
 · have : (⟨s, L, true⟩ : Pc) = x := by simpa using hx
   rw [← this]
 · have : (⟨s, L, true⟩ : Pc) = y := by simpa using hy
   rw [← this]
def carI (cs : List Int) (s g c : Nat) : List Int := cs.take g ++ (cs.drop s).take c ++ cs.drop (g + c)
theorem Xun {cs : List Int} {s g c : Nat} (h1 : s + c ≤ cs.length) (h2 : g + c ≤ cs.length) : (carI cs s g c).length = cs.length := by
 unfold carI
 simp
 omega
theorem Xva {cs : List Int} {s g c j : Nat} (h1 : s + c ≤ cs.length) (h2 : g + c ≤ cs.length) (h : j < g ∨ g + c ≤ j) : (carI cs s g c)[j]? = cs[j]? := by
 unfold carI
 have l1 : (cs.take g).length = g := by rw [List.length_take]; omega
 have l2 : ((cs.drop s).take c).length = c := by rw [List.length_take, List.length_drop]; omega
 rcases h with h | h
 · rw [List.append_assoc, List.getElem?_append_left (by omega), List.getElem?_take, if_pos h]
 · rw [List.getElem?_append_right (by rw [List.length_append]; omega), List.length_append, l1, l2, List.getElem?_drop, show g + c + (j - (g + c)) = j by omega]
theorem Xlh {cs : List Int} {ps : List Pc} {z : Pc} {s c n : Nat} (hc : Xai 0 ps n) (hn : cs.length = n) (m : Xbg cs ps) (hz : z ∈ ps) (hv : z.v = true) (h1 : s + c ≤ n) (h2 : (c : Int) ≤ z.l - 2) : Xbg (carI cs s (z.a + 1).toNat c) ps := fun p hp => by
 obtain ⟨z0, z1, z3, z4⟩ := hc.mem z hz
 have z3 := z3 hv
 obtain ⟨p0, p1, p3, p4⟩ := hc.mem p hp
 obtain ⟨m1, m2⟩ := m p hp
 have h2' : (z.a + 1).toNat + c ≤ cs.length := by omega
 have out : ∀ j : Int, 0 ≤ j → (j ≤ z.a ∨ z.a + z.l - 1 ≤ j) → (carI cs s (z.a + 1).toNat c)[j.toNat]? = cs[j.toNat]? := fun j j0 hj => Xva (by omega) h2' (by omega)
 by_cases e : p = z
 · subst e
   exact ⟨by rw [out _ p0 (.inl (Int.le_refl _))]; exact m1, by rw [out _ (by omega) (.inr (Int.le_refl _))]; exact m2⟩
 · have far : p.a + p.l ≤ z.a ∨ z.a + z.l ≤ p.a := by
     rcases Int.lt_or_le p.a z.a with h | h
     · left
       rcases Int.lt_or_le z.a (p.a + p.l) with g | g
       · exact absurd (Xeq hc hp hz (Int.le_of_lt h) g (Int.le_refl _) (by omega)) e
       · exact g
     · right
       rcases Int.lt_or_le p.a (z.a + z.l) with g | g
       · exact absurd (Xeq hc hp hz (Int.le_refl _) (by omega) h g) e
       · exact g
   exact ⟨by rw [out _ p0 (by omega)]; exact m1, by rw [out _ (by omega) (by omega)]; exact m2⟩
theorem Xnc {n d : Nat} {k : Int} (h0 : 0 ≤ k) (h : k ≤ n) : HT.sIx n d (some k) = k.toNat := by
 have := HT.sIx_nat n d k.toNat
 rw [Int.toNat_of_nonneg h0] at this
 rw [this]
 omega
theorem XDq {ns : List Int} {k : Int} (h0 : 0 ≤ k) (h : k ≤ ns.length) : cutI ns none (some k) = ns.take k.toNat := by
 unfold cutI
 rw [Xnc h0 h, HT.sIx_none]
 rfl
theorem Xtq {ns : List Int} {k l : Int} (h0 : 0 ≤ k) (h1 : 0 ≤ l) (h : k + l ≤ ns.length) : cutI ns (some k) (some (k + l)) = (ns.drop k.toNat).take l.toNat := by
 unfold cutI
 rw [Xnc h0 (by omega), Xnc (by omega) h, show (k + l).toNat - k.toNat = l.toNat by omega]
theorem Xki {ns : List Int} {k : Int} (h0 : 0 ≤ k) (h : k ≤ ns.length) : cutI ns (some k) none = ns.drop k.toNat := by
 unfold cutI
 rw [Xnc h0 h, HT.sIx_none]
 exact List.take_of_length_le (by rw [List.length_drop]; omega)
section
variable {X : Cx} {e : Expr} {t : TX} {epos : Pos}
end
end Stow
set_option Elab.async false
set_option linter.all false
set_option maxRecDepth 100000
set_option maxHeartbeats 4000000
namespace Stow
open PySem L2 PyProof.Rows
inductive W4
 | first | best | next | likes
def cF (C1 C2 C3 C4 : Addr) : W4 → Addr
 | .first => C1
 | .best => C2
 | .next => C3
 | .likes => C4
def fsF : W4 → Addr → Int → List (Str × V)
 | .next, a, r => [("room_cells", .ref a), ("room_rover", .int r)]
 | .first, a, _ => [("room_cells", .ref a)]
 | .best, a, _ => [("room_cells", .ref a)]
 | .likes, a, _ => [("room_cells", .ref a)]
theorem fsF_cells {i : W4} {a : Addr} {r : Int} : (fsF i a r).lookup ("room_cells" : Str) = some (.ref a) := by cases i <;> rfl
theorem fsF_few {i : W4} {a : Addr} {r : Int} : (fsF i a r).length < 1000 := by cases i <;> (simp only [fsF, List.length_cons, List.length_nil]; omega)
theorem fsF_none {i : W4} {a : Addr} {r : Int} {m : Str} (h1 : (m == ("room_cells" : Str)) = false) (h2 : (m == ("room_rover" : Str)) = false) : (fsF i a r).lookup m = none := by
 cases i <;> simp only [fsF, List.lookup, h1, h2]
theorem Xfj {i : W4} {a b : Addr} {r : Int} : putF ("room_cells" : Str) (.ref b) (fsF i a r) = fsF i b r := by cases i <;> rfl
theorem four {C1 C2 C3 C4 : Addr} {Q : Addr → Prop} (h1 : Q C1) (h2 : Q C2) (h3 : Q C3) (h4 : Q C4) : ∀ i, Q (cF C1 C2 C3 C4 i) := fun i => by
 cases i
 · exact h1
 · exact h2
 · exact h3
 · exact h4
def Xgq (P : Program) (w : World) (K : PySem.W.Frag) (mg : Str → Option Value) (base : Heap) (ok : W4 → Prop) (C : W4 → Addr) (m : Str) (j : Nat) (ps : List Str) (dvs : List V) (sp : W4 → Sp) : Prop := ∀ i, ok i → Methx P w K mg base (C i) m j ps dvs (sp i)
def Xbl (P : Program) (w : World) (K : PySem.W.Frag) (mg : Str → Option Value) (base : Heap) (C : W4 → Addr) (m : Str) (j : Nat) (ps : List Str) (dvs : List V) (sp : W4 → Sp) : Prop := ∀ i, Methx P w K mg base (C i) m j ps dvs (sp i)
structure MethFD (P : Program) (w : World) (K : PySem.W.Frag) (mg : Str → Option Value) (base : Heap) (C : W4 → Addr) (m : Str) (j : Nat) (ps : List Str) (dvs : List V) (sp : W4 → Sp) : Prop where
 all : Xbl P w K mg base C m j ps [] sp
 less : Xbl P w K mg base C m j ps dvs sp
section
variable {P : Program} {w : World} {K : PySem.W.Frag} {mg : Str → Option Value} {base : Heap} {C : W4 → Addr} {m : Str} {j k : Nat} {ps : List Str} {dvs : List V} {sp : W4 → Sp} {ok ok' : W4 → Prop} {f : Addr} {fd : FuncData} {ds : List Value}
theorem Xgq.made (F : FnOk P w K mg base (CXe P w) j f fd ps (fun vs H Q E => ∃ i, ok i ∧ sp i vs H Q E)) (M : ∀ i, ok i → Meth K (C i) m f) (b : Xco K fd ps []) (c : ∀ i, Cls K (C i)) : Xgq P w K mg base ok C m j ps [] sp :=
 fun i hi => ⟨⟨f, fd, [], F.imp fun _ _ _ _ h => ⟨i, hi, h⟩, M i hi, b, .nil⟩, c i⟩
theorem Xbl.made (F : FnOk P w K mg base (CXe P w) j f fd ps (fun vs H Q E => ∃ i, sp i vs H Q E)) (M : ∀ i, Meth K (C i) m f) (b : Xco K fd ps []) (c : ∀ i, Cls K (C i)) : Xbl P w K mg base C m j ps [] sp :=
 fun i => ⟨⟨f, fd, [], F.imp fun _ _ _ _ h => ⟨i, h⟩, M i, b, .nil⟩, c i⟩
theorem MethFD.made (F : FnOk P w K mg base (CXe P w) j f fd ps (fun vs H Q E => ∃ i, sp i vs H Q E)) (M : ∀ i, Meth K (C i) m f) (b : Xco K fd ps []) (b' : Xco K fd ps ds) (v : Vals dvs ds) (c : ∀ i, Cls K (C i)) : MethFD P w K mg base C m j ps dvs sp :=
 ⟨fun i => ⟨⟨f, fd, [], F.imp fun _ _ _ _ h => ⟨i, h⟩, M i, b, .nil⟩, c i⟩, fun i => ⟨⟨f, fd, ds, F.imp fun _ _ _ _ h => ⟨i, h⟩, M i, b', v⟩, c i⟩⟩
theorem Methx.up {C₀ : Addr} {sp₀ : Sp} (D : Methx P w K mg base C₀ m j ps dvs sp₀) (h : j ≤ k) : Methx P w K mg base C₀ m k ps dvs sp₀ := by
 obtain ⟨f, fd, ds, F, M, b, v⟩ := D.ex
 exact ⟨⟨f, fd, ds, F.mono h, M, b, v⟩, D.cl⟩
theorem Xqz {j1 j2 : Nat} (D1 : Xgq P w K mg base ok C m j1 ps dvs sp) (D2 : Xgq P w K mg base ok' C m j2 ps dvs sp) (h1 : j1 ≤ k) (h2 : j2 ≤ k) (h : ∀ i, ok i ∨ ok' i) : Xbl P w K mg base C m k ps dvs sp := fun i => by
 rcases h i with h | h
 · exact (D1 i h).up h1
 · exact (D2 i h).up h2
theorem Xur {C1 C2 C3 C4 : Addr} {j1 j2 j3 j4 : Nat} (D1 : Methx P w K mg base C1 m j1 ps dvs (sp .first)) (D2 : Methx P w K mg base C2 m j2 ps dvs (sp .best)) (D3 : Methx P w K mg base C3 m j3 ps dvs (sp .next)) (D4 : Methx P w K mg base C4 m j4 ps dvs (sp .likes))
   (h1 : j1 ≤ k) (h2 : j2 ≤ k) (h3 : j3 ≤ k) (h4 : j4 ≤ k) : Xbl P w K mg base (cF C1 C2 C3 C4) m k ps dvs sp := fun i => by
 cases i
 · exact D1.up h1
 · exact D2.up h2
 · exact D3.up h3
 · exact D4.up h4
end
def Xkp (C : W4 → Addr) (m : Str) (sp : W4 → Sp) (dvs : List V) (E : XK) (ta : TE) (t : TA) : TE := fun σ H Q => ta σ H fun x H1 => ∃ i a dx fs, x = .ref a ∧ H1 a = some (.ins (C i) dx fs) ∧ fs.lookup m = none ∧ t σ H1 fun vs H2 => sp i (x :: (vs ++ dvs)) H2 Q E
section
variable {X : Cx} {j k : Nat} {C : W4 → Addr} {ps : List Str} {sp : W4 → Sp} {dvs : List V} {m : Str} {pos apos : Pos} {e o : Expr} {es : List Expr} {to : TE} {t : TA} {E : XK}
theorem Xbb {pl : Sem Bool} (D : Xbl X.prog X.w X.K X.mg X.base C m j ps dvs sp) (hx : Xfe (CXe X.prog X.w) X E) (hr : Room k X.A) (ho : PE X o to) (ha : PA X (e :: es) t) (hk : j ≤ k := by decide)
   (hst : starEach (e :: es) X.env = (false, eval e X.env) :: starEach es X.env := by rfl) (hpl : (backTo pos (starEach es X.env)).any (·.1) = false := by rfl)
   (ht : eval (.Call (.Attribute o m apos) (e :: es) [] pos) X.env = (do
     let ov ← eval o X.env
     standAt apos.atName
     let (f, first) ← holding [ov] (getMethod ov m pl)
     callWith pos f first (backTo pos (starEach (e :: es) X.env)) (backToKw pos (keywordEach [] X.env))) := by rfl) :
   PE X (.Call (.Attribute o m apos) (e :: es) [] pos) (Xkp C m sp dvs E to t) := by
 intro pins s σ H Q I h
 refine PySem.W.methodCall_KW (pl := pl) (thn (ho pins s σ H _ I h) fun u s1 ⟨x, H1, I1, rx, i, a, dx, fs, ex, ea, l, q⟩ => ?_) ht
 subst ex
 obtain rfl : u = Value.ref a := rx
 obtain ⟨f, fd, ds, F, hm, hb, hd⟩ := (D i).ex
 refine Xgg I1 ea (D i).cl hm l ?_
 refine PySem.W.callWith_K (first := [.ref a]) (h₀ := X.base) I.ok.mod.kin hm.kp (thn (ha pos pins s1 σ H1 _ I1 q) fun us s2 ⟨vs, H2, I2, r, q2⟩ => ⟨I2.kIn, ?_⟩) hst hpl
 exact Xmh (us := .ref a :: us) (vs := .ref a :: vs) F (hr.mono hk) hb hd hx I2 (.cons rfl r) q2
theorem Xdh {pl : Sem Bool} (D : Xbl X.prog X.w X.K X.mg X.base C m j ps dvs sp) (hx : Xfe (CXe X.prog X.w) X E) (hr : Room k X.A) (ho : PE X o to) (hk : j ≤ k := by decide)
   (ht : eval (.Call (.Attribute o m apos) [] [] pos) X.env = (do
     let ov ← eval o X.env
     standAt apos.atName
     let (f, first) ← holding [ov] (getMethod ov m pl)
     callWith pos f first (backTo pos (starEach [] X.env)) (backToKw pos (keywordEach [] X.env))) := by rfl) :
   PE X (.Call (.Attribute o m apos) [] [] pos) (Xkp C m sp dvs E to tNil) := by
 intro pins s σ H Q I h
 refine PySem.W.methodCall_KW (pl := pl) (thn (ho pins s σ H _ I h) fun u s1 ⟨x, H1, I1, rx, i, a, dx, fs, ex, ea, l, q⟩ => ?_) ht
 subst ex
 obtain rfl : u = Value.ref a := rx
 obtain ⟨f, fd, ds, F, hm, hb, hd⟩ := (D i).ex
 refine Xgg I1 ea (D i).cl hm l ?_
 exact PySem.W.callWith_K0 (first := [.ref a]) I1.kIn hm.kp (Xmh (us := [.ref a]) (vs := [.ref a]) F (hr.mono hk) hb hd hx I1 (.cons rfl .nil) q)
end
section
variable {K : PySem.W.Frag} {σ : L2.St} {H : Hp} {Q : VK} {EX : XK} {C : W4 → Addr} {m : Str} {sp : W4 → Sp} {E : XK} {ta : TE} {t : TA} {dvs : List V}
theorem r_methF (h : ta σ H fun x H1 => ∃ i a dx fs, x = .ref a ∧ H1 a = some (.ins (C i) dx fs) ∧ fs.lookup m = none ∧ t σ H1 fun vs H2 => sp i (x :: vs) H2 Q E) : Xkp C m sp [] E ta t σ H Q := by
 unfold Xkp
 simp only [List.append_nil]
 exact h
theorem r_methFD (h : ta σ H fun x H1 => ∃ i a dx fs, x = .ref a ∧ H1 a = some (.ins (C i) dx fs) ∧ fs.lookup m = none ∧ t σ H1 fun vs H2 => sp i (x :: (vs ++ dvs)) H2 Q E) : Xkp C m sp dvs E ta t σ H Q := h
theorem r_matF {a dx : Addr} {i : W4} {fs : List (Str × V)} {R : W4 → Prop} (h : H a = some (.ins (C i) dx fs)) (l : fs.lookup m = none) (q : R i) :
   ∃ i' a' dx' fs', V.ref a = V.ref a' ∧ H a' = some (.ins (C i') dx' fs') ∧ fs'.lookup m = none ∧ R i' := ⟨i, a, dx, fs, rfl, h, l, q⟩
end
theorem decS {i j : Str} : decide (V.str i = V.str j) = decide (i = j) := by
 rw [Xmb, Bool.eq_iff_iff]
 simp
section
variable {H : Hp} {Q : VK}
theorem r_neSS {i : Str} (h : Q (.bl false) H) : rNe (.str i) (.str i) H Q := ⟨rfl, by rw [decide_eq_true rfl]; exact h⟩
theorem r_eqSt {i j : Str} (h : Q (.bl (decide (i = j))) H) : rEq (.str i) (.str j) H Q := ⟨rfl, by rw [decS]; exact h⟩
theorem r_neSt {i j : Str} (h : Q (.bl (!decide (i = j))) H) : rNe (.str i) (.str j) H Q := ⟨rfl, by rw [decS]; exact h⟩
end
end Stow
set_option Elab.async false
set_option linter.all false
set_option maxRecDepth 100000
set_option maxHeartbeats 4000000
namespace Stow
open PySem L2 PyProof.Rows
section
variable {X : Cx}
def XQg : V → List V → Hp → VK → Prop := fun x xs H Q => ∃ s a w, x = .str s ∧ xs = [.ref a] ∧ H a = some (.lst [.str w]) ∧ JoinOk s [w] = true ∧ Q (.str w) H
theorem XCh : MtM X "str.join" XQg := by
 intro pins s σ H x xs v us Q I rx rs h
 obtain ⟨sp, a, w, rfl, rfl, ha, ok, q⟩ := h
 obtain ⟨t, rfl⟩ := rx
 obtain ⟨u, rfl, ru⟩ := rs.one
 cases ru
 obtain ⟨its, r1, p1, _⟩ := I.list (SqL.of ha)
 obtain ⟨u1, e1, ru1⟩ := r1.one
 subst e1
 obtain ⟨t1, rfl⟩ := ru1
 exact SC.join (l := [(w, t1)]) p1.isList rfl ok fun t' k => ⟨.str w, H, I.tok _, ⟨_, rfl⟩, q⟩
end
inductive Er
 | size | broken | piece | cell | ask | narrow
def cE (C1 C2 C3 C4 C5 C6 : Addr) : Er → Addr
 | .size => C1
 | .broken => C2
 | .piece => C3
 | .cell => C4
 | .ask => C5
 | .narrow => C6
theorem six {C1 C2 C3 C4 C5 C6 : Addr} {Q : Addr → Prop} (h1 : Q C1) (h2 : Q C2) (h3 : Q C3) (h4 : Q C4) (h5 : Q C5) (h6 : Q C6) : ∀ i, Q (cE C1 C2 C3 C4 C5 C6 i) := fun i => by
 cases i
 · exact h1
 · exact h2
 · exact h3
 · exact h4
 · exact h5
 · exact h6
def Xnq : Er → Str
 | .size => "size"
 | .broken => "broken"
 | .piece => "piece"
 | .cell => "cell"
 | .ask => "ask"
 | .narrow => "narrow"
def Xzx : Option Er → Str
 | none => "ok"
 | some e => Xnq e
def mn1 (pl : Int) (m : Int) (z : Pc) : Int := if z.v = true ∧ z.a + 1 = pl then z.l - 2 else m
def Xdj (ps : List Pc) (pl : Int) : Int := ps.foldl (mn1 pl) 0
theorem Xnv {ps : List Pc} {i : Nat} {z : Pc} {pl : Int} (h : ps[i]? = some z) : Xdj (ps.take (i + 1)) pl = mn1 pl (Xdj (ps.take i) pl) z := by
 unfold Xdj
 rw [List.take_add_one, h, List.foldl_append]
 rfl
theorem Xoh {pl : Int} : ∀ {ps : List Pc} {m : Int}, (∀ z ∈ ps, z.v = true → z.a + 1 ≠ pl) → ps.foldl (mn1 pl) m = m
 | [], _, _ => rfl
 | z :: r, m, h => by
   rw [List.foldl_cons, show mn1 pl m z = m from if_neg (fun w => h z List.mem_cons_self w.1 w.2)]
   exact Xoh fun y hy => h y (List.mem_cons_of_mem _ hy)
theorem Xme {ps : List Pc} {pl : Int} (h : ∀ z ∈ ps, z.v = true → z.a + 1 ≠ pl) : Xdj ps pl = 0 := Xoh h
theorem Xnk {ps : List Pc} {n : Int} {z : Pc} (c : Xai 0 ps n) (hz : z ∈ ps) (hv : z.v = true) : Xdj ps (z.a + 1) = z.l - 2 := by
 obtain ⟨i, hi⟩ := List.getElem?_of_mem hz
 obtain ⟨ds, rs, e1, _, k1, k2⟩ := Xat c hi
 have zl := (c.mem z hz).2.1
 subst e1
 unfold Xdj
 rw [List.foldl_append, List.foldl_cons, show mn1 (z.a + 1) (ds.foldl (mn1 (z.a + 1)) 0) z = z.l - 2 from if_pos ⟨hv, rfl⟩]
 exact Xoh fun y hy _ h => by
   have := k2.fromOn y hy
   omega
theorem Xuv {ps : List Pc} {n pl : Int} (c : Xai 0 ps n) (h : Xdj ps pl ≠ 0) : ∃ z ∈ ps, z.v = true ∧ z.a + 1 = pl := by
 by_cases g : ∃ z ∈ ps, z.v = true ∧ z.a + 1 = pl
 · exact g
 · exact absurd (Xme fun z hz hv hk => g ⟨z, hz, hv, hk⟩) h
def eo1 (k : Int) (o : Option Int) (z : Pc) : Option Int := if z.a = k ∨ (o = some z.a ∧ z.v = false) then some (z.a + z.l) else o
def endO (ps : List Pc) (k : Int) : Option Int := ps.foldl (eo1 k) none
theorem Xoj {ps : List Pc} {i : Nat} {z : Pc} {k : Int} (h : ps[i]? = some z) : endO (ps.take (i + 1)) k = eo1 k (endO (ps.take i) k) z := by
 unfold endO
 rw [List.take_add_one, h, List.foldl_append]
 rfl
theorem XJj {k : Int} : ∀ {ps : List Pc} {o : Option Int} {e : Int}, (∀ z ∈ ps, 1 ≤ z.l) → (o = none ∧ e = k) ∨ (o = some e ∧ k < e) → (ps.foldl (eo1 k) o = none ∧ ps.foldl (en1 k) e = k) ∨ (ps.foldl (eo1 k) o = some (ps.foldl (en1 k) e) ∧ k < ps.foldl (en1 k) e)
 | [], _, _, _, h => h
 | z :: r, o, e, hl, h => by
   have hz := hl z List.mem_cons_self
   rw [List.foldl_cons, List.foldl_cons]
   refine XJj (fun y hy => hl y (List.mem_cons_of_mem _ hy)) ?_
   unfold eo1 en1
   rcases h with ⟨rfl, rfl⟩ | ⟨rfl, he⟩
   · by_cases h1 : z.a = e
     · rw [if_pos (.inl h1), if_pos (.inl h1)]
       exact .inr ⟨rfl, by omega⟩
     · rw [if_neg (fun w => w.elim h1 fun w => nomatch w.1), if_neg (fun w => w.elim h1 fun w => by omega)]
       exact .inl ⟨rfl, rfl⟩
   · by_cases h1 : z.a = k
     · rw [if_pos (.inl h1), if_pos (.inl h1)]
       exact .inr ⟨rfl, by omega⟩
     · by_cases h2 : z.a = e ∧ z.v = false
       · rw [if_pos (.inr ⟨by rw [h2.1], h2.2⟩), if_pos (.inr ⟨h2.1, h2.2, he⟩)]
         exact .inr ⟨rfl, by omega⟩
       · rw [if_neg (fun w => w.elim h1 fun w => h2 ⟨(Option.some.inj w.1).symm, w.2⟩), if_neg (fun w => w.elim h1 fun w => h2 ⟨w.1, w.2.1⟩)]
         exact .inr ⟨rfl, he⟩
theorem XAh {ps : List Pc} {n : Int} {z : Pc} (c : Xai 0 ps n) (na : Xaw ps) (hz : z ∈ ps) : endO ps z.a = some (enF ps z.a) := by
 obtain ⟨i, hi⟩ := List.getElem?_of_mem hz
 have hf := Xlu c hi
 have hen : enF ps z.a = fend ps i z := by
   obtain ⟨ds, rs, e1, e2, _, _⟩ := Xat c hi
   subst e1 e2
   exact XJr c na
 have zl := (c.mem z hz).2.1
 rcases XJj (k := z.a) (ps := ps) (o := none) (e := z.a) (fun y hy => (c.mem y hy).2.1) (.inl ⟨rfl, rfl⟩) with ⟨_, h2⟩ | ⟨h1, _⟩
 · have h2 : enF ps z.a = z.a := h2
   omega
 · exact h1
theorem Xvj {c : Int} (l : List Int) (h : c ≤ 0) : (Xcn (c :: l) 0).2 = some 0 := by
 have hb : Xdc (c :: l) 0 = some 0 := Xxz (by
   unfold Xbr
   exact if_pos (Or.inl (show c / 2 < 1 by omega)))
 rw [Xcn, dif_neg (fun z => by rw [hb] at z; cases z.2), if_pos (by rw [List.length_cons]; omega), hb]
end Stow
local macro_rules
 | `(tactic| walk_at "set") => `(tactic| first
   | exact Stow.set0_c
   | exact Stow.set0_1
   | exact Stow.set0_0
   | ((refine Stow.setS_c (r := ?r) ?h); (case h => walk_at "set"))
   | ((refine Stow.setS_1 (r := ?r) ?h); (case h => walk_at "set"))
   | ((refine Stow.setS_0 (r := ?r) ?h); (case h => walk_at "set")))
local macro_rules
 | `(tactic| walk_at "look") => `(tactic| first
   | with_reducible assumption
   | exact L2.upd_same
   | ((with_reducible refine Stow.look_ne ?a ?b); (case a => (first | assumption | exact Ne.symm (by assumption))); (case b => walk_at "look"))
   | ((with_reducible refine Stow.look_put ?a ?b); (case a => (first | assumption | walk_at "look")); (case b => walk_at "look"))
   | ((with_reducible refine Stow.look_tup (ys := ?ys) ?a ?b); (case a => walk_at "look"); (case b => walk_at "look"))
   | assumption)
local macro_rules
 | `(tactic| walk_at "seq") => `(tactic| first
   | with_reducible assumption
   | exact L2.SqL.of (by walk_at "look")
   | ((with_reducible refine Stow.seq_put ?a ?b); (case a => assumption); (case b => walk_at "seq"))
   | assumption)
local macro_rules
 | `(tactic| walk_at "num") => `(tactic| first | assumption | omega | (simp only [List.length_map, List.length_set, List.length_append, List.length_cons, List.length_nil] <;> omega))
local macro_rules
 | `(tactic| walk_at "size") => `(tactic| first | exact Stow.small4000 (by first | omega | (simp only [List.length_map, List.length_set, List.length_append, List.length_cons, List.length_nil] <;> omega)))
local macro_rules
 | `(tactic| walk_at "side") => `(tactic| first
   | (show (0 : Int) < _; first | decide | omega)
   | (show (0 : Int) ≤ _; first | decide | omega)
   | exact Or.inr ⟨by decide, by decide⟩
   | exact Or.inl ⟨by decide, by decide⟩
   | exact ⟨by decide, by decide⟩
   | exact ⟨by decide, by decide, by decide⟩
   | exact ⟨by decide, by decide, by assumption⟩
   | exact ⟨by decide, by decide, by omega⟩
   | exact ⟨by omega, by omega, by decide⟩
   | exact Or.inr ⟨by omega, by omega⟩
   | exact Or.inl ⟨by omega, by omega⟩
   | exact ⟨by omega, by omega⟩)
local macro_rules
 | `(tactic| walk_at "ty") => `(tactic| first | exact L2.TyOf.int _ | exact L2.TyOf.bl _ | exact L2.TyOf.non | ((refine L2.TyOf.lst (xs := ?xs) ?h); (case h => walk_at "look")) | ((refine L2.TyOf.tup (xs := ?xs) ?h); (case h => walk_at "look")) | exact L2.TyOf.str _)
local macro_rules
 | `(tactic| walk_at "kit") => `(tactic| first | exact Stow.kit_ii | exact Stow.kit_ib | exact Stow.kit_bb | exact Stow.kit_ll | exact Stow.kit_tt)
local macro_rules
 | `(tactic| walk_at "sp") => `(tactic| fail "no promise")
local macro_rules
 | `(tactic| walk_at "st") => `(tactic| first
   | ((with_reducible refine Stow.r_var (v := ?v) ?e ?_); (case e => exact rfl))
   | (with_reducible refine Stow.r_seq ?_)
   | (with_reducible refine Stow.r_nx ?_)
   | (with_reducible refine Stow.r_asg ?_)
   | ((with_reducible refine Stow.r_gnameN (σ' := ?s) ?e ?_); (case e => with_reducible (walk_at "set")))
   | (with_reducible refine Stow.r_gname ?_)
   | (with_reducible refine Stow.r_op ?_)
   | (with_reducible refine Stow.r_cons ?_)
   | (with_reducible refine Stow.r_nil ?_)
   | (with_reducible refine Stow.r_c ?_)
   | (with_reducible refine Stow.r_rI0 ?_)
   | (with_reducible refine Stow.r_call ?_)
   | (with_reducible refine Stow.r_cb ?_)
   | (with_reducible refine Stow.r_test ?_)
   | (with_reducible refine Stow.r_tB ?_)
   | (with_reducible refine Stow.r_bl ?_)
   | (with_reducible refine Stow.r_ifS ?_)
   | (with_reducible refine Stow.r_ret ?_)
   | (with_reducible refine Stow.r_rt ?_)
   | (with_reducible refine Stow.r_drop ?_)
   | (with_reducible refine Stow.r_next ?_)
   | (with_reducible refine Stow.r_not ?_)
   | (with_reducible refine Stow.r_and ?_)
   | (with_reducible refine Stow.r_or ?_)
   | (with_reducible refine Stow.r_andV ?_)
   | (with_reducible refine Stow.r_orV ?_)
   | (with_reducible refine Stow.r_notV ?_)
   | (with_reducible refine Stow.r_ifE ?_)
   | (with_reducible refine Stow.r_ifN ?_)
   | (with_reducible refine Stow.r_eqI ?_)
   | (with_reducible refine Stow.r_neI ?_)
   | (with_reducible refine Stow.r_isN ?_)
   | (with_reducible refine Stow.r_int ?_)
   | (with_reducible refine Stow.r_eqB ?_)
   | (with_reducible refine Stow.r_neB ?_)
   | (with_reducible refine Stow.r_tup ?_)
   | (with_reducible refine Stow.r_lst ?_)
   | (with_reducible refine Stow.r_bm ?_)
   | (with_reducible refine Stow.r_bm0 ?_)
   | (with_reducible refine Stow.r_sl ?_)
   | (with_reducible refine Stow.r_part ?_)
   | (with_reducible refine Stow.r_nopart ?_)
   | (with_reducible refine Stow.r_un ?_)
   | (with_reducible refine Stow.r_rU ?_)
   | (with_reducible refine Stow.r_intB ?_)
   | (with_reducible refine Stow.r_intI ?_)
   | (with_reducible refine Stow.r_truB ?_)
   | (with_reducible refine Stow.r_gsub ?_)
   | (with_reducible refine Stow.r_retN ?_)
   | (with_reducible refine Stow.r_ct ?_)
   | (with_reducible refine Stow.r_bk ?_)
   | (with_reducible refine Stow.r_break ?_)
   | (with_reducible refine Stow.r_cont ?_)
   | (with_reducible refine L2.iteT ?_)
   | (with_reducible refine L2.iteF ?_)
   | ((with_reducible refine Stow.r_rI ?c ?_); (case c => walk_at "side"))
   | ((with_reducible refine Stow.r_tyL (xs := ?xs) ?h ?_); (case h => walk_at "look"))
   | ((with_reducible refine Stow.r_appendI (ns := ?ns) ?h ?z ?_); (case h => walk_at "look"); (case z => walk_at "size"))
   | ((with_reducible refine Stow.r_append (xs := ?xs) ?h ?z ?_); (case h => walk_at "look"); (case z => walk_at "size"))
   | ((with_reducible refine Stow.r_gtup (xs := ?xs) ?h ?l ?_); (case h => walk_at "look"); (case l => exact rfl))
   | (with_reducible refine Stow.r_gcons ?_)
   | (with_reducible refine Stow.r_gnil ?_)
   | ((with_reducible refine Stow.r_ixI (ns := ?ns) ?h ?a ?b ?_); (case h => walk_at "seq"); (case a => walk_at "num"); (case b => walk_at "num"))
   | ((with_reducible refine Stow.r_ixT (xs := ?xs) (v := ?v) ?h ?e ?_); (case h => walk_at "look"); (case e => exact rfl))
   | ((with_reducible refine Stow.r_setI (ns := ?ns) ?h ?a ?b ?_); (case h => walk_at "look"); (case a => walk_at "num"); (case b => walk_at "num"))
   | ((with_reducible refine Stow.r_sllG (ns := ?ns) ?h ?_); (case h => walk_at "seq"))
   | ((with_reducible refine Stow.r_sll (xs := ?xs) ?h ?_); (case h => walk_at "seq"))
   | ((with_reducible refine Stow.r_lenI (ns := ?ns) ?h ?_); (case h => walk_at "seq"); (try rw [List.length_map]))
   | ((with_reducible refine Stow.r_lenL (xs := ?xs) ?h ?_); (case h => walk_at "look"))
   | ((with_reducible refine Stow.r_lenT (xs := ?xs) ?h ?_); (case h => walk_at "look"))
   | ((with_reducible refine Stow.r_listI (xs := ?xs) ?h ?_); (case h => walk_at "seq"))
   | ((with_reducible refine Stow.r_isi (t := ?t) (b := ?b) ?y ?e ?_); (case y => walk_at "ty"); (case e => walk_at "kit"))
   | ((with_reducible refine Stow.r_new ?h ?_); (case h => (first | exact Nat.zero_le _ | simp)))
   | ((with_reducible refine Stow.r_truL (xs := ?xs) ?h ?_); (case h => walk_at "seq"))
   | ((with_reducible refine Stow.r_ifdT ?c ?_); (case c => (first | omega | exact rfl)))
   | ((with_reducible refine Stow.r_ifdF ?c ?_); (case c => (first | omega | (intro h; cases h; done))))
   | (with_reducible refine Stow.r_raise ?_)
   | (with_reducible refine Stow.r_raiseI ?_)
   | (with_reducible refine Stow.r_tryAs ?_)
   | (with_reducible refine Stow.r_try ?_)
   | (with_reducible refine Stow.r_fldX ?_)
   | (with_reducible refine Stow.r_for ?_)
   | (with_reducible refine Stow.r_iL ?_)
   | (with_reducible refine Stow.r_iR1 ?_)
   | (with_reducible refine Stow.r_iR2 ?_)
   | (with_reducible refine Stow.r_comp ?_)
   | ((with_reducible refine Stow.r_isiX (C := ?C) (od := ?od) (b := ?b) ?h ?z ?e ?_); (case h => walk_at "look"); (case z => assumption); (case e => assumption))
   | ((with_reducible refine Stow.r_isiN (C := ?C) (od := ?od) (b := ?b) ?h ?z ?n ?e ?_); (case h => walk_at "look"); (case z => assumption); (case n => exact fun z => nomatch z); (case e => assumption))
   | (with_reducible refine Stow.r_makeX ?_)
   | (with_reducible refine Stow.r_makeI ?_)
   | (with_reducible refine Stow.r_fldN ?_)
   | ((with_reducible refine Stow.r_catG (xs := ?xs) (zs := ?zs) ?h ?g ?z ?_); (case h => walk_at "look"); (case g => walk_at "look"); (case z => walk_at "num"))
   | ((with_reducible refine Stow.r_cat (xs := ?xs) (zs := ?zs) ?h ?g ?z ?_); (case h => walk_at "look"); (case g => walk_at "look"); (case z => (refine Nat.le_of_lt (L2.small1000 ?_); first | omega | simp)))
   | ((with_reducible refine Stow.r_slS ?h ?_); (case h => decide))
   | (with_reducible refine Stow.r_max ?_)
   | (with_reducible refine Stow.r_fld ?_)
   | ((with_reducible refine Stow.r_at (C := ?C) (dx := ?dx) (fs := ?fs) (v := ?v) ?h ?c ?n ?l ?_); (case h => walk_at "look"); (case c => assumption); (case n => assumption); (case l => exact rfl))
   | (with_reducible refine Stow.r_sfld ?_)
   | ((with_reducible refine Stow.r_sat (C := ?C) (dx := ?dx) (fs := ?fs) ?h ?c ?n ?l ?_); (case h => walk_at "look"); (case c => assumption); (case n => assumption); (case l => (first | decide | simp)))
   | (with_reducible refine Stow.r_meth ?_)
   | ((with_reducible refine Stow.r_mat (dx := ?dx) (fs := ?fs) ?h ?l ?_); (case h => walk_at "look"); (case l => exact rfl))
   | (with_reducible refine Stow.r_make ?_)
   | (with_reducible refine Stow.r_compG ?_)
   | ((with_reducible refine Stow.r_isiO (C := ?C) (dx := ?dx) (fs := ?fs) (b := ?b) ?h ?z ?e ?_); (case h => walk_at "look"); (case z => assumption); (case e => assumption))
   | (with_reducible refine Stow.r_tryE ?_)
   | (with_reducible refine Stow.r_tryA ?_)
   | (with_reducible refine Stow.r_xCall ?_)
   | (with_reducible refine Stow.r_tryS ?_)
   | (with_reducible refine Stow.r_xSet ?_)
   | (with_reducible refine Stow.r_xIf ?_)
   | (with_reducible refine Stow.r_xMeth ?_)
   | (with_reducible refine Stow.r_xMethD ?_)
   | (with_reducible refine Stow.r_xMake ?_)
   | (with_reducible refine Stow.r_methD ?_)
   | (with_reducible refine Stow.r_isB ?_)
   | ((with_reducible refine Stow.r_notIn (xs := ?xs) ?h ?f ?g ?_); (case h => walk_at "look"); (case f => exact rfl); (case g => exact rfl))
   | walk_at "sp")
local macro_rules
 | `(tactic| walk_at "go") => `(tactic| repeat walk_at "st")
local macro_rules
 | `(tactic| walk_at "len") => `(tactic| first
   | (rintro ⟨e, _⟩; exact congrArg List.length e)
   | (rintro ⟨_, e, _⟩; exact congrArg List.length e)
   | (rintro ⟨_, _, e, _⟩; exact congrArg List.length e)
   | (rintro ⟨_, _, _, e, _⟩; exact congrArg List.length e)
   | (rintro ⟨_, _, _, _, e, _⟩; exact congrArg List.length e)
   | (rintro ⟨_, _, _, _, _, e, _⟩; exact congrArg List.length e)
   | (rintro ⟨_, _, _, _, _, _, e, _⟩; exact congrArg List.length e)
   | (rintro ⟨_, _, _, _, _, _, _, e, _⟩; exact congrArg List.length e)
   | (rintro ⟨_, _, _, _, _, _, _, _, e, _⟩; exact congrArg List.length e)
   | (rintro ⟨_, _, _, _, _, _, _, _, _, e, _⟩; exact congrArg List.length e)
   | (rintro ⟨_, _, _, _, _, _, _, _, _, _, e, _⟩; exact congrArg List.length e)
   | (rintro ⟨_, _, _, _, _, _, _, _, _, _, _, e, _⟩; exact congrArg List.length e)
   | (rintro ⟨_, _, _, _, _, _, _, _, _, _, _, _, e, _⟩; exact congrArg List.length e)
   | (rintro ⟨_, _, _, _, _, _, _, _, _, _, _, _, _, e, _⟩; exact congrArg List.length e)
   | (rintro ⟨_, _, _, _, _, _, _, _, _, _, _, _, _, _, e, _⟩; exact congrArg List.length e)
   | (rintro ⟨_, _, _, _, _, _, _, _, _, _, _, _, _, _, _, e, _⟩; exact congrArg List.length e)
   | (rintro ⟨_, _, _, _, _, _, _, _, _, _, _, _, _, _, _, _, e, _⟩; exact congrArg List.length e)
   | (rintro ⟨_, _, _, _, _, _, _, _, _, _, _, _, _, _, _, _, _, e, _⟩; exact congrArg List.length e))
local macro_rules
 | `(tactic| walk_at "gs") => `(tactic| repeat (first | (with_reducible refine Stow.r_nx ?_) | ((fail_if_success (with_reducible refine Stow.r_isIf ?_)); walk_at "st")))
local macro_rules
 | `(tactic| walk_at "ga") => `(tactic| repeat ((fail_if_success (with_reducible refine Stow.r_isAnd ?_)); (fail_if_success (with_reducible refine Stow.r_isOr ?_)); walk_at "st"))
local macro_rules
 | `(tactic| walk_at "ge") => `(tactic| repeat (first | (with_reducible refine Stow.r_nx ?_) | ((fail_if_success (with_reducible refine Stow.r_isSeq ?_)); walk_at "st")))
local macro_rules
 | `(tactic| walk_at "g1") => `(tactic| ((with_reducible refine Stow.r_seq ?_); walk_at "ge"))
local macro_rules
 | `(tactic| walk_at "st") => `(tactic| first
   | (with_reducible refine Stow.r_eqSS ?_)
   | (with_reducible refine Stow.r_neSS ?_)
   | (with_reducible refine Stow.r_eqSt ?_)
   | (with_reducible refine Stow.r_neSt ?_)
   | (with_reducible refine Stow.r_methF ?_)
   | (with_reducible refine Stow.r_methFD ?_)
   | (with_reducible refine Stow.r_xMethF ?_)
   | (with_reducible refine Stow.r_xMethFD ?_)
   | ((with_reducible refine Stow.r_matF (i := ?i) (dx := ?dx) (fs := ?fs) ?h ?l ?_); (case h => walk_at "look"); (case l => (first | exact Stow.fsF_none (by decide) (by decide) | exact rfl)))
   | ((with_reducible refine Stow.r_at (C := ?C) (dx := ?dx) (fs := ?fs) (v := ?v) ?h ?c ?n ?l ?_); (case h => walk_at "look"); (case c => assumption); (case n => assumption); (case l => exact Stow.fsF_cells))
   | ((with_reducible refine Stow.r_sat (C := ?C) (dx := ?dx) (fs := ?fs) ?h ?c ?n ?l ?_); (case h => walk_at "look"); (case c => assumption); (case n => assumption); (case l => exact Stow.fsF_few)))
local macro_rules
 | `(tactic| walk_at "sp") => `(tactic| first
   | (with_reducible refine Stow.i_long ?_)
   | (with_reducible refine Stow.i_live ?_)
   | (with_reducible refine Stow.i_whole ?_)
   | ((with_reducible refine Stow.i_cell (ns := ?ns) ?h ?a ?_); (case h => walk_at "seq"); (case a => walk_at "nn"))
   | ((with_reducible refine Stow.i_can (ns := ?ns) ?h ?a ?b ?_); (case h => walk_at "seq"); (case a => walk_at "num"); (case b => walk_at "num"))
   | ((with_reducible refine Stow.i_bad (ns := ?ns) ?h ?a ?b ?_); (case h => walk_at "seq"); (case a => walk_at "num"); (case b => walk_at "num")))
local macro_rules
 | `(tactic| walk_at "nn") => `(tactic| first | decide | omega | exact Int.emod_nonneg _ (by decide) | exact Int.emod_nonneg _ (by omega))
--GEN
namespace Stow
open PySem L2 PyProof.Rows
theorem fS {N Q : List Str} {sc : Scope} (a : sc.kind = .function := by rfl) (b : sc.isCoroutine = false := by rfl) (c : sc.isGenerator = false := by rfl) (d : N.Nodup := by decide +kernel) (e : N.take Q.length = Q := by rfl) (f : ∀ x ∈ Q, sc.names.lookup x = some .local ∨ sc.names.lookup x = some .cell := by decide +kernel) (g : ∀ y ∈ sc.names, y.2 ≠ .free := by decide +kernel) : FnScope N Q sc := ⟨a, b, c, d, e, f, g⟩
abbrev Xty : Stmt := top 0
theorem XRx : FnScope ["k"] ["k"] (Xae Xty) := fS
abbrev BiS (x q : Str) (s : Stmt) (ps : List Str) : Prop := ∀ (kV doc pm : Value) (an : Option Addr) (cdv ct : Value) (us : List Value), us.length = ps.length → bindArgs (PySem.W.fnOf x q (Xbp s) (Xaz s) (Xae s) .none kV doc pm an cdv ct) ⟨us, []⟩ = pure (ps.zip us)
theorem XRy : BiS "_wall" "_wall" Xty ["k"] := fun _ _ _ _ _ _ us hl => match us, hl with | [_], _ => rfl
abbrev Xrw : Stmt := top 13
theorem XKa : FnScope ["count", "bound"] ["count", "bound"] (Xae Xrw) := fS
theorem XHf : BiS "check_ask" "check_ask" Xrw ["count", "bound"] := fun _ _ _ _ _ _ us hl => match us, hl with | [_, _], _ => rfl
abbrev s_Z5 : Stmt := top 14
theorem XRz : FnScope ["count", "bound"] ["count", "bound"] (Xae s_Z5) := fS
theorem XSa : BiS "check_plain_ask" "check_plain_ask" s_Z5 ["count", "bound"] := fun _ _ _ _ _ _ us hl => match us, hl with | [_, _], _ => rfl
abbrev Xqt : Stmt := top 16
theorem XLn : FnScope ["long", "live"] ["long", "live"] (Xae Xqt) := fS
theorem XNi : BiS "mark_of" "mark_of" Xqt ["long", "live"] := fun _ _ _ _ _ _ us hl => match us, hl with | [_, _], _ => rfl
abbrev Xrs : Stmt := top 17
theorem XHi : FnScope ["number"] ["number"] (Xae Xrs) := fS
theorem XKd : BiS "long_of" "long_of" Xrs ["number"] := fun _ _ _ _ _ _ us hl => match us, hl with | [_], _ => rfl
abbrev Xor : Stmt := top 18
theorem XLa : FnScope ["number"] ["number"] (Xae Xor) := fS
theorem XHn : BiS "live_of" "live_of" Xor ["number"] := fun _ _ _ _ _ _ us hl => match us, hl with | [_], _ => rfl
abbrev Xpb : Stmt := top 21
theorem Xya : FnScope ["cells", "at", "long"] ["cells", "at"] (Xae Xpb) := fS
theorem XHq : BiS "can_begin" "can_begin" Xpb ["cells", "at"] := fun _ _ _ _ _ _ us hl => match us, hl with | [_, _], _ => rfl
abbrev Xrz : Stmt := top 22
theorem Xyc : FnScope ["cells", "at", "last"] ["cells", "at"] (Xae Xrz) := fS
theorem XNb : BiS "bad_of_piece" "bad_of_piece" Xrz ["cells", "at"] := fun _ _ _ _ _ _ us hl => match us, hl with | [_, _], _ => rfl
abbrev Xqv : Stmt := top 23
theorem Xim : FnScope ["cells", "pieces", "at", "bad", "long"] ["cells"] (Xae Xqv) := fS
theorem XGl : BiS "looked" "looked" Xqv ["cells"] := fun _ _ _ _ _ _ us hl => match us, hl with | [_], _ => rfl
abbrev Xqp : Stmt := top 24
theorem Xxu : FnScope ["count", "cells"] ["count"] (Xae Xqp) := fS
theorem XHr : BiS "fresh_room" "fresh_room" Xqp ["count"] := fun _ _ _ _ _ _ us hl => match us, hl with | [_], _ => rfl
abbrev Xqb : Stmt := top 26
theorem Xyb : FnScope ["cells", "at", "long", "live", "row"] ["cells", "at", "long", "live"] (Xae Xqb) := fS
theorem XHj : BiS "laid" "laid" Xqb ["cells", "at", "long", "live"] := fun _ _ _ _ _ _ us hl => match us, hl with | [_, _, _, _], _ => rfl
abbrev Xrn : Stmt := top 27
theorem XId : FnScope ["cells", "begin", "end"] ["cells", "begin", "end"] (Xae Xrn) := fS
theorem XLh : BiS "laid_free" "laid_free" Xrn ["cells", "begin", "end"] := fun _ _ _ _ _ _ us hl => match us, hl with | [_, _, _], _ => rfl
abbrev Xom : Stmt := top 28
theorem Xxy : FnScope ["cells", "at", "piece"] ["cells", "at"] (Xae Xom) := fS
theorem XJp : BiS "piece_at" "piece_at" Xom ["cells", "at"] := fun _ _ _ _ _ _ us hl => match us, hl with | [_, _], _ => rfl
abbrev Xqq : Stmt := top 29
theorem Xyf : FnScope ["cells", "at", "piece"] ["cells", "at"] (Xae Xqq) := fS
theorem XHe : BiS "live_at" "live_at" Xqq ["cells", "at"] := fun _ _ _ _ _ _ us hl => match us, hl with | [_, _], _ => rfl
abbrev Xpp : Stmt := top 30
theorem Xxl : FnScope ["cells", "at", "piece"] ["cells", "at"] (Xae Xpp) := fS
theorem XMg : BiS "free_at" "free_at" Xpp ["cells", "at"] := fun _ _ _ _ _ _ us hl => match us, hl with | [_, _], _ => rfl
abbrev Xpw : Stmt := top 31
theorem Xxp : FnScope ["cells", "cell", "begins"] ["cells", "cell"] (Xae Xpw) := fS
theorem XIe : BiS "begin_around" "begin_around" Xpw ["cells", "cell"] := fun _ _ _ _ _ _ us hl => match us, hl with | [_, _], _ => rfl
abbrev Xoq : Stmt := top 32
theorem XMn : FnScope ["cells", "at"] ["cells", "at"] (Xae Xoq) := fS
theorem XHz : BiS "free_begin" "free_begin" Xoq ["cells", "at"] := fun _ _ _ _ _ _ us hl => match us, hl with | [_, _], _ => rfl
abbrev Xrb : Stmt := top 33
theorem XNp : FnScope ["cells", "end"] ["cells", "end"] (Xae Xrb) := fS
theorem XGn : BiS "free_end" "free_end" Xrb ["cells", "end"] := fun _ _ _ _ _ _ us hl => match us, hl with | [_, _], _ => rfl
abbrev Xrc : Stmt := top 34
theorem Xhm : FnScope ["cells", "at", "place", "long", "begin", "free_long", "live", "end", "row"] ["cells", "at", "place", "long"] (Xae Xrc) := fS
theorem XGw : BiS "cut_out" "cut_out" Xrc ["cells", "at", "place", "long"] := fun _ _ _ _ _ _ us hl => match us, hl with | [_, _, _, _], _ => rfl
abbrev Xoi : Stmt := top 35
theorem Xnb : FnScope ["cells", "at", "begin", "long", "live"] ["cells", "at"] (Xae Xoi) := fS
theorem XNa : BiS "freed" "freed" Xoi ["cells", "at"] := fun _ _ _ _ _ _ us hl => match us, hl with | [_, _], _ => rfl
abbrev Xrj : Stmt := top 36
theorem Xju : FnScope ["pieces", "row", "at", "long", "live"] ["pieces"] (Xae Xrj) := fS
theorem XGo : BiS "joined_pieces" "joined_pieces" Xrj ["pieces"] := fun _ _ _ _ _ _ us hl => match us, hl with | [_], _ => rfl
abbrev Xrq : Stmt := top 37
theorem Xix : FnScope ["cells", "row", "at", "long", "live"] ["cells"] (Xae Xrq) := fS
theorem XKl : BiS "joined" "joined" Xrq ["cells"] := fun _ _ _ _ _ _ us hl => match us, hl with | [_], _ => rfl
abbrev Xop : Stmt := top 38
theorem Xyd : FnScope ["cells", "source", "goal", "count", "row"] ["cells", "source", "goal", "count"] (Xae Xop) := fS
theorem XJk : BiS "carried" "carried" Xop ["cells", "source", "goal", "count"] := fun _ _ _ _ _ _ us hl => match us, hl with | [_, _, _, _], _ => rfl
abbrev Xol : Stmt := top 42
theorem Xkq : FnScope ["piece", "long", "bound", "at", "piece_long", "live", "place"] ["piece", "long", "bound"] (Xae Xol) := fS
theorem XLu : BiS "first_place" "first_place" Xol ["piece", "long", "bound"] := fun _ _ _ _ _ _ us hl => match us, hl with | [_, _, _], _ => rfl
abbrev Xqs : Stmt := top 43
theorem Xmu : FnScope ["cells", "long", "bound", "spots", "piece", "place"] ["cells", "long", "bound"] (Xae Xqs) := fS
theorem XJd : BiS "spots_for" "spots_for" Xqs ["cells", "long", "bound"] := fun _ _ _ _ _ _ us hl => match us, hl with | [_, _, _], _ => rfl
abbrev Xsa : Stmt := top 45
theorem XIc : FnScope ["ranked"] ["ranked"] (Xae Xsa) := fS
theorem XGv : BiS "least_place" "least_place" Xsa ["ranked"] := fun _ _ _ _ _ _ us hl => match us, hl with | [_], _ => rfl
abbrev Xpz : Stmt := top 51
theorem XIu : FnScope ["word", "size"] ["word", "size"] (Xae Xpz) := fS
theorem XIa : BiS "stretches_of" "stretches_of" Xpz ["word", "size"] := fun _ _ _ _ _ _ us hl => match us, hl with | [_, _], _ => rfl
abbrev Xoz : Stmt := top 53
theorem XHx : FnScope ["_law_script", "_law_k"] ["_law_script", "_law_k"] (Xae Xoz) := fS
theorem XLp : BiS "_law_cell_at" "_law_cell_at" Xoz ["_law_script", "_law_k"] := fun _ _ _ _ _ _ us hl => match us, hl with | [_, _], _ => rfl
abbrev Xqw : Stmt := top 54
theorem Xkm : FnScope ["_law_cells", "_law_pieces", "_law_at", "_law_long"] ["_law_cells"] (Xae Xqw) := fS
theorem XMm : BiS "_law_walk" "_law_walk" Xqw ["_law_cells"] := fun _ _ _ _ _ _ us hl => match us, hl with | [_], _ => rfl
abbrev Xqf : Stmt := top 55
theorem Xxq : FnScope ["_law_e", "_law_words"] ["_law_e"] (Xae Xqf) := fS
theorem XNo : BiS "_law_word" "_law_word" Xqf ["_law_e"] := fun _ _ _ _ _ _ us hl => match us, hl with | [_], _ => rfl
abbrev Xse : Stmt := top 56
theorem XKj : FnScope ["_law_keeper", "_law_way", "_law_place", "_law_k", "_law_count"] ["_law_keeper", "_law_way", "_law_place", "_law_k", "_law_count"] (Xae Xse) := fS
theorem XLj : BiS "_law_done" "_law_done" Xse ["_law_keeper", "_law_way", "_law_place", "_law_k", "_law_count"] := fun _ _ _ _ _ _ us hl => match us, hl with | [_, _, _, _, _], _ => rfl
abbrev Xrv : Stmt := top 57
theorem Xmv : FnScope ["_law_keeper", "_law_way", "_law_place", "_law_k", "_law_count", "_law_word_here", "_law_e"] ["_law_keeper", "_law_way", "_law_place", "_law_k", "_law_count"] (Xae Xrv) := fS
theorem XIy : BiS "_law_tried" "_law_tried" Xrv ["_law_keeper", "_law_way", "_law_place", "_law_k", "_law_count"] := fun _ _ _ _ _ _ us hl => match us, hl with | [_, _, _, _, _], _ => rfl
abbrev Xoe : Stmt := top 58
theorem Xox : FnScope ["_law_pieces", "_law_long", "_law_bound", "_law_piece", "_law_spot"] ["_law_pieces", "_law_long", "_law_bound"] (Xae Xoe) := fS
theorem XLt : BiS "_law_room_for" "_law_room_for" Xoe ["_law_pieces", "_law_long", "_law_bound"] := fun _ _ _ _ _ _ us hl => match us, hl with | [_, _, _], _ => rfl
abbrev Xpx : Stmt := top 59
theorem Xmm : FnScope ["_law_pieces", "_law_place", "_law_long", "_law_bound", "_law_end", "_law_piece"] ["_law_pieces", "_law_place", "_law_long", "_law_bound"] (Xae Xpx) := fS
theorem XNt : BiS "_law_stays" "_law_stays" Xpx ["_law_pieces", "_law_place", "_law_long", "_law_bound"] := fun _ _ _ _ _ _ us hl => match us, hl with | [_, _, _, _], _ => rfl
abbrev Xpm : Stmt := top 60
theorem Xir : FnScope ["_law_pieces", "_law_way", "_law_place", "_law_k", "_law_count", "_law_many", "_law_piece", "_law_bound"] ["_law_pieces", "_law_way", "_law_place", "_law_k", "_law_count"] (Xae Xpm) := fS
theorem XIq : BiS "_law_due" "_law_due" Xpm ["_law_pieces", "_law_way", "_law_place", "_law_k", "_law_count"] := fun _ _ _ _ _ _ us hl => match us, hl with | [_, _, _, _, _], _ => rfl
abbrev Xsc : Stmt := top 61
theorem Xep : FnScope ["_law_keeper", "_law_c", "_law_size", "_law_pieces", "_law_lives", "_law_place", "_law_way", "_law_k", "_law_count", "_law_due_here", "_law_before", "_law_spot"] ["_law_keeper", "_law_c", "_law_size"] (Xae Xsc) := fS
theorem XIi : BiS "_law_step" "_law_step" Xsc ["_law_keeper", "_law_c", "_law_size"] := fun _ _ _ _ _ _ us hl => match us, hl with | [_, _, _], _ => rfl
abbrev Xkz : Stmt := top 62
theorem Xms : FnScope ["_law_script", "_law_size", "_law_keeper", "_law_c"] ["_law_script"] (Xae Xkz) := fS
theorem XRw : BiS "law" "law" Xkz ["_law_script"] := fun _ _ _ _ _ _ us hl => match us, hl with | [_], _ => rfl
abbrev Xcz : Stmt := Xag (top 5) 0
theorem Xif : FnScope ["self", "cell"] ["self", "cell"] (Xae Xcz) := fS
theorem Xih : BiS "__init__" "Broken.__init__" Xcz ["self", "cell"] := fun _ _ _ _ _ _ us hl => match us, hl with | [_, _], _ => rfl
abbrev Xbu : Stmt := Xag (top 40) 0
theorem Xct : FnScope ["self", "size"] ["self", "size"] (Xae Xbu) := fS
theorem Xcv : BiS "__init__" "Keeper.__init__" Xbu ["self", "size"] := fun _ _ _ _ _ _ us hl => match us, hl with | [_, _], _ => rfl
abbrev Xec : Stmt := Xag (top 49) 0
theorem Xkr : FnScope ["self", "size"] ["self", "size"] (Xae Xec) := fS
theorem Xkf : BiS "__init__" "Next.__init__" Xec ["self", "size"] := fun _ _ _ _ _ _ us hl => match us, hl with | [_, _], _ => rfl
abbrev s_Z1 : Stmt := Xag (top 46) 4
theorem XOk : FnScope ["self", "cells"] ["self", "cells"] (Xae s_Z1) := fS
theorem XQj : BiS "room_begin" "Stretches.room_begin" s_Z1 ["self", "cells"] := fun _ _ _ _ _ _ us hl => match us, hl with | [_, _], _ => rfl
abbrev s_Z6 : Stmt := Xag (top 49) 3
theorem XPw : FnScope ["self", "cells"] ["self", "cells"] (Xae s_Z6) := fS
theorem XRl : BiS "room_begin" "Next.room_begin" s_Z6 ["self", "cells"] := fun _ _ _ _ _ _ us hl => match us, hl with | [_, _], _ => rfl
abbrev Xvu : Stmt := Xag (top 40) 4
theorem XJb : FnScope ["self"] ["self"] (Xae Xvu) := fS
theorem XKe : BiS "clear" "Keeper.clear" Xvu ["self"] := fun _ _ _ _ _ _ us hl => match us, hl with | [_], _ => rfl
abbrev s_Z0 : Stmt := Xag (top 46) 5
theorem XPy : FnScope ["self", "behind"] ["self", "behind"] (Xae s_Z0) := fS
theorem XPl : BiS "room_granted" "Stretches.room_granted" s_Z0 ["self", "behind"] := fun _ _ _ _ _ _ us hl => match us, hl with | [_, _], _ => rfl
abbrev s_Z4 : Stmt := Xag (top 49) 4
theorem XPm : FnScope ["self", "behind"] ["self", "behind"] (Xae s_Z4) := fS
theorem XPb : BiS "room_granted" "Next.room_granted" s_Z4 ["self", "behind"] := fun _ _ _ _ _ _ us hl => match us, hl with | [_, _], _ => rfl
abbrev Xud : Stmt := Xag (top 40) 1
theorem XKt : FnScope ["self"] ["self"] (Xae Xud) := fS
theorem XLm : BiS "cells" "Keeper.cells" Xud ["self"] := fun _ _ _ _ _ _ us hl => match us, hl with | [_], _ => rfl
abbrev Xvq : Stmt := Xag (top 40) 3
theorem XNq : FnScope ["self", "cells"] ["self", "cells"] (Xae Xvq) := fS
theorem XHy : BiS "lay" "Keeper.lay" Xvq ["self", "cells"] := fun _ _ _ _ _ _ us hl => match us, hl with | [_, _], _ => rfl
abbrev Xwn : Stmt := Xag (top 40) 5
theorem Xmf : FnScope ["self", "place", "at", "long", "live"] ["self", "place"] (Xae Xwn) := fS
theorem XMb : BiS "many" "Keeper.many" Xwn ["self", "place"] := fun _ _ _ _ _ _ us hl => match us, hl with | [_, _], _ => rfl
abbrev s_Z2 : Stmt := Xag (top 40) 12
theorem XLg : FnScope ["self", "place", "k", "many"] ["self", "place", "k"] (Xae s_Z2) := fS
theorem XRu : BiS "room_cell_of" "Keeper.room_cell_of" s_Z2 ["self", "place", "k"] := fun _ _ _ _ _ _ us hl => match us, hl with | [_, _, _], _ => rfl
abbrev Xwq : Stmt := Xag (top 40) 7
theorem Xyg : FnScope ["self", "place", "k", "number", "cell"] ["self", "place", "k", "number"] (Xae Xwq) := fS
theorem XMt : BiS "put" "Keeper.put" Xwq ["self", "place", "k", "number"] := fun _ _ _ _ _ _ us hl => match us, hl with | [_, _, _, _], _ => rfl
abbrev Xxh : Stmt := Xag (top 40) 6
theorem XHb : FnScope ["self", "place", "k"] ["self", "place", "k"] (Xae Xxh) := fS
theorem XNn : BiS "get" "Keeper.get" Xxh ["self", "place", "k"] := fun _ _ _ _ _ _ us hl => match us, hl with | [_, _, _], _ => rfl
abbrev Xvo : Stmt := Xag (top 47) 0
theorem Xxx : FnScope ["self", "long", "bound", "spots"] ["self", "long", "bound"] (Xae Xvo) := fS
theorem XMw : BiS "chosen" "First.chosen" Xvo ["self", "long", "bound"] := fun _ _ _ _ _ _ us hl => match us, hl with | [_, _, _], _ => rfl
abbrev Xww : Stmt := Xag (top 48) 0
theorem Xqr : FnScope ["self", "long", "bound", "cells", "spots"] ["self", "long", "bound"] (Xae Xww) := fS
theorem XHk : BiS "chosen" "Best.chosen" Xww ["self", "long", "bound"] := fun _ _ _ _ _ _ us hl => match us, hl with | [_, _, _], _ => rfl
abbrev Xst : Stmt := Xag (top 49) 2
theorem Xxo : FnScope ["self", "long", "bound", "spots"] ["self", "long", "bound"] (Xae Xst) := fS
theorem XKw : BiS "chosen" "Next.chosen" Xst ["self", "long", "bound"] := fun _ _ _ _ _ _ us hl => match us, hl with | [_, _, _], _ => rfl
abbrev Xvn : Stmt := Xag (top 50) 0
theorem Xpq : FnScope ["self", "long", "bound", "cells", "spots"] ["self", "long", "bound"] (Xae Xvn) := fS
theorem XNr : BiS "chosen" "Likes.chosen" Xvn ["self", "long", "bound"] := fun _ _ _ _ _ _ us hl => match us, hl with | [_, _, _], _ => rfl
abbrev s_Z9 : Stmt := Xag (top 46) 1
theorem XEn : FnScope ["self", "count", "bound", "long", "at"] ["self", "count", "bound"] (Xae s_Z9) := fS
theorem XPj (T : Addr) (d1 : Value) (kV doc pm : Value) (an : Option Addr) (cdv ct : Value) (us : List Value) (hl : us.length = ["self", "count", "bound"].length) : ∃ k : Option (Array Value) → Sem (List (Str × Value)), bindArgs (PySem.W.fnOf "ask" "Stretches.ask" (Xbp s_Z9) (Xaz s_Z9) (Xae s_Z9) (.ref T) kV doc pm an cdv ct) ⟨us, []⟩ = seqItems? (.ref T) >>= k ∧ k (some [d1].toArray) = pure ((["self", "count", "bound"] : List Str).zip us) := match us, hl with | [_, _, _], _ => ⟨_, rfl, rfl⟩
theorem XOv (T : Addr) (d1 : Value) (kV doc pm : Value) (an : Option Addr) (cdv ct : Value) (us : List Value) (hl : (us ++ [d1]).length = ["self", "count", "bound"].length) : ∃ k : Option (Array Value) → Sem (List (Str × Value)), bindArgs (PySem.W.fnOf "ask" "Stretches.ask" (Xbp s_Z9) (Xaz s_Z9) (Xae s_Z9) (.ref T) kV doc pm an cdv ct) ⟨us, []⟩ = seqItems? (.ref T) >>= k ∧ k (some [d1].toArray) = pure ((["self", "count", "bound"] : List Str).zip (us ++ [d1])) := match us, (show us.length = 2 by simpa using hl) with | [_, _], _ => ⟨_, rfl, rfl⟩
abbrev s_Z7 : Stmt := Xag (top 46) 2
theorem XPe : FnScope ["self", "place"] ["self", "place"] (Xae s_Z7) := fS
theorem XNy : BiS "give" "Stretches.give" s_Z7 ["self", "place"] := fun _ _ _ _ _ _ us hl => match us, hl with | [_, _], _ => rfl
abbrev s_Z3 : Stmt := Xag (top 40) 13
theorem XHm : FnScope ["self", "place", "count", "bound", "goal"] ["self", "place", "count", "bound"] (Xae s_Z3) := fS
theorem XQb : BiS "room_moved" "Keeper.room_moved" s_Z3 ["self", "place", "count", "bound"] := fun _ _ _ _ _ _ us hl => match us, hl with | [_, _, _, _], _ => rfl
abbrev s_Z8 : Stmt := Xag (top 46) 3
theorem Xnu : FnScope ["self", "place", "count", "bound", "at", "had", "live", "long", "end"] ["self", "place", "count", "bound"] (Xae s_Z8) := fS
theorem XQq (T : Addr) (d1 : Value) (kV doc pm : Value) (an : Option Addr) (cdv ct : Value) (us : List Value) (hl : us.length = ["self", "place", "count", "bound"].length) : ∃ k : Option (Array Value) → Sem (List (Str × Value)), bindArgs (PySem.W.fnOf "grow" "Stretches.grow" (Xbp s_Z8) (Xaz s_Z8) (Xae s_Z8) (.ref T) kV doc pm an cdv ct) ⟨us, []⟩ = seqItems? (.ref T) >>= k ∧ k (some [d1].toArray) = pure ((["self", "place", "count", "bound"] : List Str).zip us) := match us, hl with | [_, _, _, _], _ => ⟨_, rfl, rfl⟩
theorem XPt (T : Addr) (d1 : Value) (kV doc pm : Value) (an : Option Addr) (cdv ct : Value) (us : List Value) (hl : (us ++ [d1]).length = ["self", "place", "count", "bound"].length) : ∃ k : Option (Array Value) → Sem (List (Str × Value)), bindArgs (PySem.W.fnOf "grow" "Stretches.grow" (Xbp s_Z8) (Xaz s_Z8) (Xae s_Z8) (.ref T) kV doc pm an cdv ct) ⟨us, []⟩ = seqItems? (.ref T) >>= k ∧ k (some [d1].toArray) = pure ((["self", "place", "count", "bound"] : List Str).zip (us ++ [d1])) := match us, (show us.length = 3 by simpa using hl) with | [_, _, _], _ => ⟨_, rfl, rfl⟩
structure Txt (K : PySem.W.Frag) (mg : Str → Option Value) (Y0 Y7 Y9 Y4 Y3 Y6 Y12 Y2 Y8 Y5 Y1 Y10 Y13 Y14 Y11 : Addr) (W0_ : Tok) (W1_ : Tok) : Prop where
 n_isinstance : mg "isinstance" = none
 n_len : mg "len" = none
 n_list : mg "list" = none
 n_min : mg "min" = none
 n_range : mg "range" = none
 g_LEAST_LIVE : mg "LEAST_LIVE" = some (.int 3 W0_)
 g_MARKS : mg "MARKS" = some (.int 2 W1_)
 c_StowError : mg "StowError" = some (.ref Y0)
 c_NoName : mg "NoName" = some (.ref Y7)
 c_NoSize : mg "NoSize" = some (.ref Y9)
 c_Broken : mg "Broken" = some (.ref Y4)
 c_NoPiece : mg "NoPiece" = some (.ref Y3)
 c_NoCell : mg "NoCell" = some (.ref Y6)
 c_NoAsk : mg "NoAsk" = some (.ref Y12)
 c_NoBound : mg "NoBound" = some (.ref Y2)
 c_NoRoom : mg "NoRoom" = some (.ref Y8)
 c_Keeper : mg "Keeper" = some (.ref Y5)
 c_Stretches : mg "Stretches" = some (.ref Y1)
 c_First : mg "First" = some (.ref Y10)
 c_Best : mg "Best" = some (.ref Y13)
 c_Next : mg "Next" = some (.ref Y14)
 c_Likes : mg "Likes" = some (.ref Y11)
 s_Broken : XSet K Y4 "cell"
 x_NoSize : XCls K mg "NoSize" Y9
 x_NoPiece : XCls K mg "NoPiece" Y3
 x_NoCell : XCls K mg "NoCell" Y6
 x_NoAsk : XCls K mg "NoAsk" Y12
 x_NoRoom : XCls K mg "NoRoom" Y8
 x_NoName : XCls K mg "NoName" Y7
 cl_First : Cls K Y10
 na_First_room_cells : Xck K Y10 "room_cells"
 cl_Best : Cls K Y13
 na_Best_room_cells : Xck K Y13 "room_cells"
 cl_Next : Cls K Y14
 na_Next_room_cells : Xck K Y14 "room_cells"
 na_Next_room_rover : Xck K Y14 "room_rover"
 cl_Likes : Cls K Y11
 na_Likes_room_cells : Xck K Y11 "room_cells"
 ik_First : InsK K Y10
 ik_Best : InsK K Y13
 ik_Next : InsK K Y14
 ik_Likes : InsK K Y11
 i_First_Keeper : PySem.W.kitOne K (.ref Y10) (.ref Y5) = some true
 i_Best_Keeper : PySem.W.kitOne K (.ref Y13) (.ref Y5) = some true
 i_Next_Keeper : PySem.W.kitOne K (.ref Y14) (.ref Y5) = some true
 i_Likes_Keeper : PySem.W.kitOne K (.ref Y11) (.ref Y5) = some true
 f_NoSize_StowError : Fits K Y9 Y0 true
 f_Broken_StowError : Fits K Y4 Y0 true
 f_NoPiece_StowError : Fits K Y3 Y0 true
 f_NoCell_StowError : Fits K Y6 Y0 true
 f_NoAsk_StowError : Fits K Y12 Y0 true
 f_NoRoom_StowError : Fits K Y8 Y0 true
 z_NoSize : XK0 K Y9
 z_Broken : XK0 K Y4
 z_NoPiece : XK0 K Y3
 z_NoCell : XK0 K Y6
 z_NoAsk : XK0 K Y12
 z_NoRoom : XK0 K Y8
 i_NoSize_NoSize : PySem.W.kitOne K (.ref Y9) (.ref Y9) = some true
 i_NoSize_Broken : PySem.W.kitOne K (.ref Y9) (.ref Y4) = some false
 i_NoSize_NoPiece : PySem.W.kitOne K (.ref Y9) (.ref Y3) = some false
 i_NoSize_NoCell : PySem.W.kitOne K (.ref Y9) (.ref Y6) = some false
 i_NoSize_NoAsk : PySem.W.kitOne K (.ref Y9) (.ref Y12) = some false
 i_NoSize_NoRoom : PySem.W.kitOne K (.ref Y9) (.ref Y8) = some false
 i_Broken_NoSize : PySem.W.kitOne K (.ref Y4) (.ref Y9) = some false
 i_Broken_Broken : PySem.W.kitOne K (.ref Y4) (.ref Y4) = some true
 i_Broken_NoPiece : PySem.W.kitOne K (.ref Y4) (.ref Y3) = some false
 i_Broken_NoCell : PySem.W.kitOne K (.ref Y4) (.ref Y6) = some false
 i_Broken_NoAsk : PySem.W.kitOne K (.ref Y4) (.ref Y12) = some false
 i_Broken_NoRoom : PySem.W.kitOne K (.ref Y4) (.ref Y8) = some false
 i_NoPiece_NoSize : PySem.W.kitOne K (.ref Y3) (.ref Y9) = some false
 i_NoPiece_Broken : PySem.W.kitOne K (.ref Y3) (.ref Y4) = some false
 i_NoPiece_NoPiece : PySem.W.kitOne K (.ref Y3) (.ref Y3) = some true
 i_NoPiece_NoCell : PySem.W.kitOne K (.ref Y3) (.ref Y6) = some false
 i_NoPiece_NoAsk : PySem.W.kitOne K (.ref Y3) (.ref Y12) = some false
 i_NoPiece_NoRoom : PySem.W.kitOne K (.ref Y3) (.ref Y8) = some false
 i_NoCell_NoSize : PySem.W.kitOne K (.ref Y6) (.ref Y9) = some false
 i_NoCell_Broken : PySem.W.kitOne K (.ref Y6) (.ref Y4) = some false
 i_NoCell_NoPiece : PySem.W.kitOne K (.ref Y6) (.ref Y3) = some false
 i_NoCell_NoCell : PySem.W.kitOne K (.ref Y6) (.ref Y6) = some true
 i_NoCell_NoAsk : PySem.W.kitOne K (.ref Y6) (.ref Y12) = some false
 i_NoCell_NoRoom : PySem.W.kitOne K (.ref Y6) (.ref Y8) = some false
 i_NoAsk_NoSize : PySem.W.kitOne K (.ref Y12) (.ref Y9) = some false
 i_NoAsk_Broken : PySem.W.kitOne K (.ref Y12) (.ref Y4) = some false
 i_NoAsk_NoPiece : PySem.W.kitOne K (.ref Y12) (.ref Y3) = some false
 i_NoAsk_NoCell : PySem.W.kitOne K (.ref Y12) (.ref Y6) = some false
 i_NoAsk_NoAsk : PySem.W.kitOne K (.ref Y12) (.ref Y12) = some true
 i_NoAsk_NoRoom : PySem.W.kitOne K (.ref Y12) (.ref Y8) = some false
 i_NoRoom_NoSize : PySem.W.kitOne K (.ref Y8) (.ref Y9) = some false
 i_NoRoom_Broken : PySem.W.kitOne K (.ref Y8) (.ref Y4) = some false
 i_NoRoom_NoPiece : PySem.W.kitOne K (.ref Y8) (.ref Y3) = some false
 i_NoRoom_NoCell : PySem.W.kitOne K (.ref Y8) (.ref Y6) = some false
 i_NoRoom_NoAsk : PySem.W.kitOne K (.ref Y8) (.ref Y12) = some false
 i_NoRoom_NoRoom : PySem.W.kitOne K (.ref Y8) (.ref Y8) = some true
section
variable {K : PySem.W.Frag} {mg : Str → Option Value} {Y0 Y7 Y9 Y4 Y3 Y6 Y12 Y2 Y8 Y5 Y1 Y10 Y13 Y14 Y11 : Addr} {W0_ : Tok} {W1_ : Tok}
theorem T_cl (T : Txt K mg Y0 Y7 Y9 Y4 Y3 Y6 Y12 Y2 Y8 Y5 Y1 Y10 Y13 Y14 Y11 W0_ W1_) : ∀ i, Cls K ((cF Y10 Y13 Y14 Y11) i) := four T.cl_First T.cl_Best T.cl_Next T.cl_Likes
theorem T_na (T : Txt K mg Y0 Y7 Y9 Y4 Y3 Y6 Y12 Y2 Y8 Y5 Y1 Y10 Y13 Y14 Y11 W0_ W1_) : ∀ i, Xck K ((cF Y10 Y13 Y14 Y11) i) "room_cells" := four (Q := fun C => Xck K C "room_cells") T.na_First_room_cells T.na_Best_room_cells T.na_Next_room_cells T.na_Likes_room_cells
theorem T_ik (T : Txt K mg Y0 Y7 Y9 Y4 Y3 Y6 Y12 Y2 Y8 Y5 Y1 Y10 Y13 Y14 Y11 W0_ W1_) : ∀ i, InsK K ((cF Y10 Y13 Y14 Y11) i) := four T.ik_First T.ik_Best T.ik_Next T.ik_Likes
theorem T_is (T : Txt K mg Y0 Y7 Y9 Y4 Y3 Y6 Y12 Y2 Y8 Y5 Y1 Y10 Y13 Y14 Y11 W0_ W1_) : ∀ i, PySem.W.kitOne K (.ref ((cF Y10 Y13 Y14 Y11) i)) (.ref Y5) = some true := four (Q := fun C => PySem.W.kitOne K (.ref C) (.ref Y5) = some true) T.i_First_Keeper T.i_Best_Keeper T.i_Next_Keeper T.i_Likes_Keeper
theorem XPo (T : Txt K mg Y0 Y7 Y9 Y4 Y3 Y6 Y12 Y2 Y8 Y5 Y1 Y10 Y13 Y14 Y11 W0_ W1_) : ∀ e, Fits K ((cE Y9 Y4 Y3 Y6 Y12 Y8) e) Y0 true := six (Q := fun C => Fits K C Y0 true) T.f_NoSize_StowError T.f_Broken_StowError T.f_NoPiece_StowError T.f_NoCell_StowError T.f_NoAsk_StowError T.f_NoRoom_StowError
end
def Xpt : Sp := fun vs H Q _ => ∃ (n : Int) (v : Bool), vs = [.int n, .bl v] ∧ n.natAbs < 2 ^ 220 ∧ Q (.int (n * 2 + if v then 1 else 0)) H
section
variable {P : Program} {w : World} {base : Heap} {K : PySem.W.Frag} {mg : Str → Option Value} {Y0 Y7 Y9 Y4 Y3 Y6 Y12 Y2 Y8 Y5 Y1 Y10 Y13 Y14 Y11 : Addr} {W0_ : Tok} {W1_ : Tok}
theorem XQc (S : Src K mg "mark_of" Xqt) (T : Txt K mg Y0 Y7 Y9 Y4 Y3 Y6 Y12 Y2 Y8 Y5 Y1 Y10 Y13 Y14 Y11 W0_ W1_)  : Defx P w K mg base "mark_of" 1 ["long", "live"] (Xpt) := by
 refine S.okx XLn XNi (fun vs H Q E h => by revert h; walk_at "len") (fun f cdv A outer s H vs Q E hr h => ?_)
 refine ⟨_, PSs.nox (Xab (Xax (Xcd (pv 1) (fun _ => rfl)) (Xac (Xao (Xal XOc (Xal Xos (pv 0) Xaf) Xaf))) Xak) (Xac (Xao (Xal Xos (pv 0) Xaf)))), ?_⟩
 obtain ⟨n, v, rfl, hn, q⟩ := h
 walk_at "go"
 refine Xff (fun hv => ?_) (fun hv => ?_)
 · walk_at "go"
   rw [two1, Xpe]
   subst hv
   exact q
 · walk_at "go"
   rw [two1]
   subst hv
   rw [if_neg Bool.false_ne_true, Int.add_zero] at q
   exact q
theorem XRr (S : Src K mg "long_of" Xrs) (T : Txt K mg Y0 Y7 Y9 Y4 Y3 Y6 Y12 Y2 Y8 Y5 Y1 Y10 Y13 Y14 Y11 W0_ W1_)  : Defx P w K mg base "long_of" 1 ["number"] (Xfo) := by
 refine S.okx XHi XKd (fun vs H Q E h => by revert h; walk_at "len") (fun f cdv A outer s H vs Q E hr h => ?_)
 refine ⟨_, PSs.nox (Xac (Xao (Xal XLq (pv 0) Xaf))), ?_⟩
 obtain ⟨n, rfl, q⟩ := h
 walk_at "go"
 rw [two1]
 exact q
theorem XRn (S : Src K mg "live_of" Xor) (T : Txt K mg Y0 Y7 Y9 Y4 Y3 Y6 Y12 Y2 Y8 Y5 Y1 Y10 Y13 Y14 Y11 W0_ W1_)  : Defx P w K mg base "live_of" 1 ["number"] (Xiw) := by
 refine S.okx XLa XHn (fun vs H Q E h => by revert h; walk_at "len") (fun f cdv A outer s H vs Q E hr h => ?_)
 refine ⟨_, PSs.nox (Xac (Xao (Xfy Xcr (Xal XLr (pv 0) Xaf) Xaf (Xam _)))), ?_⟩
 obtain ⟨n, rfl, q⟩ := h
 walk_at "go"
 rw [Xwe]
 exact q
theorem XOr (S : Src K mg "can_begin" Xpb) (T : Txt K mg Y0 Y7 Y9 Y4 Y3 Y6 Y12 Y2 Y8 Y5 Y1 Y10 Y13 Y14 Y11 W0_ W1_) (D_Z46 : Defx P w K mg base "long_of" 1 ["number"] (Xfo)) (D_Z51 : Defx P w K mg base "live_of" 1 ["number"] (Xiw)) : Defx P w K mg base "can_begin" 2 ["cells", "at"] (Xzl K) := by
 refine S.okx Xya XHq (fun vs H Q E h => by revert h; walk_at "len") (fun f cdv A outer s H vs Q E hr h => ?_)
 refine ⟨_, PSs.nox (Xab (Xaq (i := 2) Xya.nd rfl (Or.inl rfl) (Xaj D_Z46 hr (by rfl) (Xaa (Xbj Xbh (pv 0) (pv 1) (fun _ _ => rfl)) Xad))) (Xab (Xax (PW.pt (Xez (Xah Xef (pv 2) Xaf (Xam _)) (Xdg (Xah Xkl (Xal Xba (pv 1) (pv 2)) (Xbm Xbo (by rfl) T.n_len PySem.boot_len (Xaa (pv 0) Xad)) (Xam _))))) (Xac (Xao Xey)) Xak) (Xac (Xao (XOd (Xfy Xti (pv 2) (Xdd (v := .int 3) (by rfl) T.g_LEAST_LIVE ⟨_, rfl⟩) (Xam _)) (Xyi (XMh (Xaj D_Z51 hr (by rfl) (Xaa (Xbj Xbh (pv 0) (pv 1) (fun _ _ => rfl)) Xad))))))))), ?_⟩
 obtain ⟨a, ns, k, rfl, hS, h0, h1, q⟩ := h
 have q' : ∀ c, Xbr ns k = c → Q (.bl c) H := fun c e => e ▸ q
 walk_at "go"
 refine Xcf (fun hc => ?_) (fun hc => ?_)
 · walk_at "go"
   exact q' false (by unfold Xbr; rw [if_pos (Or.inl hc)])
 · walk_at "go"
   refine Xcf (fun hd => ?_) (fun hd => ?_)
   · walk_at "go"
     exact q' false (by unfold Xbr; rw [if_pos (Or.inr hd)])
   · walk_at "go"
     have ec : Xbr ns k = (decide (3 ≤ ns.getD k.toNat 0 / 2) || !decide (ns.getD k.toNat 0 % 2 = 1)) := by
       unfold Xbr
       rw [if_neg (by omega)]
     refine Xff (fun he => ?_) (fun he => ?_)
     · walk_at "go"
       exact q' true (by rw [ec, he, Bool.true_or])
     · walk_at "go"
       exact q' _ (by rw [ec, he, Bool.false_or])
theorem XRk (S : Src K mg "bad_of_piece" Xrz) (T : Txt K mg Y0 Y7 Y9 Y4 Y3 Y6 Y12 Y2 Y8 Y5 Y1 Y10 Y13 Y14 Y11 W0_ W1_) (D_Z46 : Defx P w K mg base "long_of" 1 ["number"] (Xfo)) (D_Z32 : Defx P w K mg base "can_begin" 2 ["cells", "at"] (Xzl K)) : Defx P w K mg base "bad_of_piece" 3 ["cells", "at"] (XAc K) := by
 refine S.okx Xyc XNb (fun vs H Q E h => by revert h; walk_at "len") (fun f cdv A outer s H vs Q E hr h => ?_)
 refine ⟨_, PSs.nox (Xab (Xax (Xfc (Xea (Xaj D_Z32 hr (by rfl) (Xaa (pv 0) (Xaa (pv 1) Xad))))) (Xac (Xao (pv 1))) Xak) (Xab (Xaq (i := 2) Xyc.nd rfl (Or.inl rfl) (Xal Xby (Xal Xba (pv 1) (Xaj D_Z46 hr (by rfl) (Xaa (Xbj Xbh (pv 0) (pv 1) (fun _ _ => rfl)) Xad))) Xaf)) (Xab (Xax (Xah Xjg (Xbj Xbh (pv 0) (pv 2) (fun _ _ => rfl)) (Xbj Xbh (pv 0) (pv 1) (fun _ _ => rfl)) (Xam _)) (Xac (Xao (pv 2))) Xak) (Xac (Xao Xgj))))), ?_⟩
 obtain ⟨a, ns, k, rfl, hS, h0, h1, q⟩ := h
 have q' : ∀ c, Xdc ns k = c → Q (optV c) H := fun c e => e ▸ q
 walk_at "go"
 refine Xff (fun hc => ?_) (fun hc => ?_)
 · obtain ⟨b1, b2, _⟩ := (Xgi ns k).mp hc
   walk_at "go"
   refine Xcf (fun hd => ?_) (fun hd => ?_)
   · walk_at "go"
     exact q' none (Xvr hc hd)
   · walk_at "go"
     exact q' (some _) (Xsf hc hd)
 · walk_at "go"
   exact q' (some k) (Xxz hc)
theorem Xvh {P : Program} {w : World} {base : Heap} {K : PySem.W.Frag} {mg : Str → Option Value} {Y4 Y0 : Addr} {fI : Addr} {fd : FuncData} (F : Fun K "__init__" "Broken.__init__" Xcz fI fd) (XI : XIni K mg "Broken" Y4 Y0 fI) (Z : XSet K Y4 "cell") : DefI P w K mg base "Broken" Y4 Y0 1 ["self", "cell"] (Xqu Y4 "cell") := by
 refine ⟨fI, fd, XI, Xbi F Xif (fun vs H Q E h => ?_) (fun cdv A outer s H vs Q E hr h => ?_), F.binds Xih⟩
 · obtain ⟨y, v, rfl, _⟩ := h
   rfl
 · obtain ⟨y, v, rfl, hy, q⟩ := h
   exact ⟨_, PSs.nox (Xac (XDf (pv 0) (pv 1))), _, rfl, _, rfl, y, _, rfl, hy, Z, fun dx hd => q dx hd⟩
def LkW (H : Hp) (a p : Addr) (ns : List Int) (m : Nat) (σ : L2.St) (H' : Hp) : Prop :=
 ∃ (ds : List Pc) (us : List V) (k : Int) (x y : Option V), σ = [some (.ref a), some (.ref p), some (.int k), x, y] ∧ m = (ns.length - k).toNat ∧ 0 ≤ k ∧ k ≤ ns.length ∧ (ds.length : Int) ≤ k ∧ WPre ns ds k ∧ Same H H' ∧ H' p = some (.lst us) ∧ Xbc H' us ds
theorem XOq (S : Src K mg "looked" Xqv) (T : Txt K mg Y0 Y7 Y9 Y4 Y3 Y6 Y12 Y2 Y8 Y5 Y1 Y10 Y13 Y14 Y11 W0_ W1_) (D_Z46 : Defx P w K mg base "long_of" 1 ["number"] (Xfo)) (D_Z51 : Defx P w K mg base "live_of" 1 ["number"] (Xiw)) (D_Z13 : Defx P w K mg base "bad_of_piece" 3 ["cells", "at"] (XAc K)) (D_Broken : DefI P w K mg base "Broken" Y4 Y0 1 ["self", "cell"] (Xqu Y4 "cell")) : Defx P w K mg base "looked" 4 ["cells"] (Xer K Y4) := by
 refine S.okx Xim XGl (fun vs H Q E h => by revert h; walk_at "len") (fun f cdv A outer s H vs Q E hr h => ?_)
 refine ⟨_, (Xab (Xaq (i := 1) Xim.nd rfl (Or.inl rfl) (Xdw Xad)) (Xab (Xaq (i := 2) Xim.nd rfl (Or.inl rfl) Xaf) (Xab (Xmo PassesOwn.leaving (Xah Xef (pv 2) (Xbm Xbo (by rfl) T.n_len PySem.boot_len (Xaa (pv 0) Xad)) (Xam _)) (Xab (Xaq (i := 3) Xim.nd rfl (Or.inl rfl) (Xaj D_Z13 hr (by rfl) (Xaa (pv 0) (Xaa (pv 2) Xad)))) (Xab (Xax (Xah Xlq (pv 3) Xgj (Xam _)) (Xac (Xrr D_Broken hr rfl (Xaa (pv 3) Xad))) Xak) (Xab (Xaq (i := 4) Xim.nd rfl (Or.inl rfl) (Xaj D_Z46 hr (by rfl) (Xaa (Xbj Xbh (pv 0) (pv 2) (fun _ _ => rfl)) Xad))) (Xab (Xau (Xhs PySem.F.plainAttrs_list PySem.F.slot_list_append PySem.F.type_list_append Xca (pv 1) (Xaa (Xfb (Xaa (pv 2) (Xaa (pv 4) (Xaa (Xaj D_Z51 hr (by rfl) (Xaa (Xbj Xbh (pv 0) (pv 2) (fun _ _ => rfl)) Xad)) Xad)))) Xad))) (Xac (Xaq (i := 2) Xim.nd rfl (Or.inl rfl) (Xal Xba (pv 2) (pv 4))))))))) (Xac (Xao (pv 1)))))), ?_⟩
 obtain ⟨a, ns, rfl, hS, hz, qe, q⟩ := h
 walk_at "go"
 intro p hp
 walk_at "go"
 refine ⟨LkW H a p ns, ⟨_, [], [], 0, none, none, rfl, rfl, by omega, by omega, by decide, WPre.nil ns, Same.new hp, upd_same, Xbc.nil⟩, ?_⟩
 rintro m σ H' ⟨ds, us, k, x, y, rfl, rfl, h0, hkl, hdl, w, s1, hp', pa⟩
 have hul := pa.1
 have hS' : SqL K H' a (ns.map V.int) := s1.seq hS
 walk_at "go"
 refine Xcf (fun hlt => ?_) (fun hlt => ?_)
 · refine ⟨fun σ' H'' => ∃ m', m' < (ns.length - k).toNat ∧ LkW H a p ns m' σ' H'', fun σ' H'' hw => hw, ?_⟩
   walk_at "go"
   cases hb : Xdc ns k with
   | some b =>
     walk_at "go"
     refine XKk (fun dx hd => ?_)
     exact qe b (by rw [w.bad hlt hb]) dx _ (s1.put (s1.free hd)) upd_same
   | none =>
     obtain ⟨b1, b2, b3⟩ := Xli hb
     walk_at "go"
     intro t ht
     have hpt : p ≠ t := Xan hp' ht
     walk_at "go"
     obtain ⟨g1, g2⟩ := Xbc.push (z := pcAt ns k) pa hp' ht
     dsimp only [pcAt] at g1 g2
     refine ⟨_, ?_, ds ++ [pcAt ns k], us ++ [.ref t], k + ns.getD k.toNat 0 / 2, _, _, rfl, rfl, by omega, by omega, ?_, w.step hlt hb, (s1.put (s1.free ht)).put hp, g1, g2⟩
     · omega
     · rw [List.length_append, List.length_singleton]
       omega
 · walk_at "go"
   exact q (by rw [w.fin hlt]) p us H' hp s1 hp' (by rw [w.fin hlt]; exact pa)
def Xdi (n : Int) : List Int := Xcy (List.replicate n.toNat 0) 0 n false
theorem Xev {n : Int} (h : 0 ≤ n) : ((Xdi n).length : Int) = n := by
 unfold Xdi
 rw [Xbq, List.length_replicate]
 omega
theorem Xtp (n : Nat) : (List.replicate n [V.int 0]).flatten = (List.replicate n (0 : Int)).map V.int := by
 induction n with
 | zero => rfl
 | succ n ih => rw [List.replicate_succ, List.flatten_cons, ih, List.replicate_succ, List.map_cons]; rfl
def Xgc (C : Addr) : Sp := fun vs H Q E => ∃ n : Int, vs = [.int n] ∧ n ≤ 4000 ∧ (n < 1 → E (.ref C) none H) ∧ (1 ≤ n → ∀ (p : Addr) (H' : Hp), H p = none → Same H H' → H' p = some (.lst ((Xdi n).map V.int)) → Q (.ref p) H')
theorem XPp (S : Src K mg "fresh_room" Xqp) (T : Txt K mg Y0 Y7 Y9 Y4 Y3 Y6 Y12 Y2 Y8 Y5 Y1 Y10 Y13 Y14 Y11 W0_ W1_) (D_Z43 : Defx P w K mg base "mark_of" 1 ["long", "live"] (Xpt)) : Defx P w K mg base "fresh_room" 2 ["count"] (Xgc Y9) := by
 refine S.okx Xxu XHr (fun vs H Q E h => by revert h; walk_at "len") (fun f cdv A outer s H vs Q E hr h => ?_)
 refine ⟨_, (Xab (Xax (Xah Xef (pv 0) Xaf (Xam _)) (Xac (Xcu T.x_NoSize hr.hd rfl (Xaa Xbd Xad))) Xak) (Xab (Xaq (i := 1) Xxu.nd rfl (Or.inl rfl) (Xal XMl (Xdw (Xaa Xaf Xad)) (pv 0))) (Xab (Xel (Xaj D_Z43 hr (by rfl) (Xaa (pv 0) (Xaa Xey Xad))) (Xip (pv 1) Xaf Xew)) (Xab (Xel (Xaj D_Z43 hr (by rfl) (Xaa (pv 0) (Xaa Xey Xad))) (Xip (pv 1) (Xal Xby (pv 0) Xaf) Xew)) (Xac (Xao (pv 1))))))), ?_⟩
 obtain ⟨n, rfl, h4, qe, q⟩ := h
 walk_at "go"
 refine Xcf (fun hc => ?_) (fun hc => ?_)
 · walk_at "go"
   exact qe hc
 · have hn : n.natAbs < 2 ^ 220 := Nat.lt_of_le_of_lt (show n.natAbs ≤ 4000 by omega) (by decide)
   walk_at "go"
   intro l hl
   walk_at "go"
   refine ⟨l, n, _, rfl, rfl, upd_same, by omega, by omega, (by show 1 * n.toNat ≤ sizeLine; exact Nat.le_of_lt (small4000 (by omega))), fun p hp => ?_⟩
   rw [Xtp]
   have np := (Same.new hl).free hp
   have s1 : Same H (upd (upd H l (.lst [.int 0])) p (.lst ((List.replicate n.toNat (0 : Int)).map V.int))) := (Same.new hl).put np
   have e1 : upd (upd H l (.lst [.int 0])) p (.lst ((List.replicate n.toNat (0 : Int)).map V.int)) p = some (.lst ((List.replicate n.toNat (0 : Int)).map V.int)) := upd_same
   generalize upd (upd H l (.lst [.int 0])) p (.lst ((List.replicate n.toNat (0 : Int)).map V.int)) = H1 at s1 e1 ⊢
   have hlr : (List.replicate n.toNat (0 : Int)).length = n.toNat := List.length_replicate
   walk_at "go"
   refine ⟨n, false, rfl, hn, ?_⟩
   walk_at "go"
   refine ⟨n, false, rfl, hn, ?_⟩
   walk_at "go"
   refine q (by omega) p _ np ((s1.put np).put np) ?_
   unfold Xdi Xcy
   rw [show (0 : Int) + n - 1 = n - 1 by omega]
   exact upd_same
def Xjx (K : PySem.W.Frag) : Sp := fun vs H Q _ => ∃ (a : Addr) (cs : List Int) (k l : Int) (v : Bool), vs = [.ref a, .int k, .int l, .bl v] ∧ SqL K H a (cs.map V.int) ∧ cs.length ≤ 4000 ∧ 0 ≤ k ∧ 1 ≤ l ∧ k + l ≤ cs.length ∧
 ∀ (p : Addr) (H' : Hp), H p = none → Same H H' → H' p = some (.lst ((Xcy cs k l v).map V.int)) → Q (.ref p) H'
theorem XRi (S : Src K mg "laid" Xqb) (T : Txt K mg Y0 Y7 Y9 Y4 Y3 Y6 Y12 Y2 Y8 Y5 Y1 Y10 Y13 Y14 Y11 W0_ W1_) (D_Z43 : Defx P w K mg base "mark_of" 1 ["long", "live"] (Xpt)) : Defx P w K mg base "laid" 2 ["cells", "at", "long", "live"] (Xjx K) := by
 refine S.okx Xyb XHj (fun vs H Q E h => by revert h; walk_at "len") (fun f cdv A outer s H vs Q E hr h => ?_)
 refine ⟨_, PSs.nox (Xab (Xaq (i := 4) Xyb.nd rfl (Or.inl rfl) (Xen Xcw (by rfl) T.n_list PyProof.Rows.boot_list (Xaa (pv 0) Xad))) (Xab (Xel (Xaj D_Z43 hr (by rfl) (Xaa (pv 2) (Xaa (pv 3) Xad))) (Xip (pv 4) (pv 1) Xew)) (Xab (Xel (Xaj D_Z43 hr (by rfl) (Xaa (pv 2) (Xaa (pv 3) Xad))) (Xip (pv 4) (Xal Xby (Xal Xba (pv 1) (pv 2)) Xaf) Xew)) (Xac (Xao (pv 4)))))), ?_⟩
 obtain ⟨a, cs, k, l, v, rfl, hS, hz, h0, h1, hl, q⟩ := h
 have hn : l.natAbs < 2 ^ 220 := Nat.lt_of_le_of_lt (show l.natAbs ≤ 4000 by omega) (by decide)
 walk_at "go"
 intro p hp
 walk_at "go"
 refine ⟨l, v, rfl, hn, ?_⟩
 walk_at "go"
 refine ⟨l, v, rfl, hn, ?_⟩
 walk_at "go"
 refine q p _ hp (((Same.new hp).put hp).put hp) upd_same
def Xet (K : PySem.W.Frag) : Sp := fun vs H Q _ => ∃ (a : Addr) (cs : List Int) (b e : Int), vs = [.ref a, .int b, .int e] ∧ SqL K H a (cs.map V.int) ∧ cs.length ≤ 4000 ∧ 0 ≤ b ∧ b ≤ e ∧ e ≤ cs.length ∧
 ∀ (p : Addr) (H' : Hp), H p = none → Same H H' → H' p = some (.lst ((lfI cs b e).map V.int)) → Q (.ref p) H'
theorem XQl (S : Src K mg "laid_free" Xrn) (T : Txt K mg Y0 Y7 Y9 Y4 Y3 Y6 Y12 Y2 Y8 Y5 Y1 Y10 Y13 Y14 Y11 W0_ W1_) (D_Z66 : Defx P w K mg base "laid" 2 ["cells", "at", "long", "live"] (Xjx K)) : Defx P w K mg base "laid_free" 3 ["cells", "begin", "end"] (Xet K) := by
 refine S.okx XId XLh (fun vs H Q E h => by revert h; walk_at "len") (fun f cdv A outer s H vs Q E hr h => ?_)
 refine ⟨_, PSs.nox (Xab (Xax (Xah Xcr (pv 1) (pv 2) (Xam _)) (Xac (Xao (Xen Xcw (by rfl) T.n_list PyProof.Rows.boot_list (Xaa (pv 0) Xad)))) Xak) (Xac (Xao (Xaj D_Z66 hr (by rfl) (Xaa (pv 0) (Xaa (pv 1) (Xaa (Xal Xby (pv 2) (pv 1)) (Xaa Xey Xad)))))))), ?_⟩
 obtain ⟨a, cs, b, e, rfl, hS, hz, h0, h1, hl, q⟩ := h
 walk_at "go"
 refine Xcf (fun he => ?_) (fun he => ?_)
 · walk_at "go"
   intro p hp
   walk_at "go"
   refine q p _ hp (Same.new hp) ?_
   unfold lfI
   rw [if_pos he]
   exact upd_same
 · walk_at "go"
   refine ⟨a, cs, b, e - b, false, rfl, hS, hz, h0, by omega, by omega, fun p H' hp s1 g1 => ?_⟩
   walk_at "go"
   refine q p H' hp s1 ?_
   unfold lfI
   rw [if_neg he]
   exact g1
def Xpd (K : PySem.W.Frag) : Sp := fun vs H Q _ => ∃ (b : Addr) (us : List V) (ps : List Pc), vs = [.ref b] ∧ H b = some (.lst us) ∧ Xbc H us ps ∧ ps.length ≤ 4000 ∧
 ∀ (p : Addr) (ws : List V) (H' : Hp), H p = none → Same H H' → H' p = some (.lst ws) → Xbc H' ws (Xdf ps) → Q (.ref p) H'
def JpW (f0 : Option V) (p : Addr) (ps : List Pc) (H : Hp) (i : Nat) (σ : L2.St) (H' : Hp) : Prop :=
 ∃ (ws : List V) (x2 x3 x4 : Option V), σ = [f0, some (.ref p), x2, x3, x4] ∧ Same H H' ∧ H' p = some (.lst ws) ∧ Xbc H' ws (Xdf (ps.take i))
theorem XPz (S : Src K mg "joined_pieces" Xrj) (T : Txt K mg Y0 Y7 Y9 Y4 Y3 Y6 Y12 Y2 Y8 Y5 Y1 Y10 Y13 Y14 Y11 W0_ W1_)  : Defx P w K mg base "joined_pieces" 1 ["pieces"] (Xpd K) := by
 refine S.okx Xju XGo (fun vs H Q E h => by revert h; walk_at "len") (fun f cdv A outer s H vs Q E hr h => ?_)
 refine ⟨_, PSs.nox (Xab (Xaq (i := 1) Xju.nd rfl (Or.inl rfl) (Xdw Xad)) (Xab (Xgl PassesOwn.never rfl (Xcm (pv 0)) (Xgm rfl (Xar (Xas (i := 2) Xju.nd rfl (Or.inl rfl)) (Xar (Xas (i := 3) Xju.nd rfl (Or.inl rfl)) (Xar (Xas (i := 4) Xju.nd rfl (Or.inl rfl)) Xcx)))) (Xac (Xax (PW.pt (Xdp (Xcd (pv 1) (fun _ => rfl)) (Xdp (Xfc (Xcd (pv 4) (fun _ => rfl))) (Xde (Xfc (Xcd (Xbj Xbz (Xbj Xbh (pv 1) (Xnl Xiv Xaf) (fun _ _ => rfl)) Xaf (fun _ _ => rfl)) (fun _ => rfl))))))) (Xac (Xel (Xfb (Xaa (Xbj Xbz (Xbj Xbh (pv 1) (Xnl Xiv Xaf) (fun _ _ => rfl)) Xaf (fun _ _ => rfl)) (Xaa (Xal Xba (Xbj Xbz (Xbj Xbh (pv 1) (Xnl Xiv Xaf) (fun _ _ => rfl)) Xaf (fun _ _ => rfl)) (pv 3)) (Xaa Xey Xad)))) (Xip (pv 1) (Xnl Xiv Xaf) Xew))) (Xac (Xau (Xhs PySem.F.plainAttrs_list PySem.F.slot_list_append PySem.F.type_list_append Xca (pv 1) (Xaa (Xfb (Xaa (pv 2) (Xaa (pv 3) (Xaa (pv 4) Xad)))) Xad))))))) (Xac (Xao (pv 1))))), ?_⟩
 obtain ⟨b, us, ps, rfl, hb, pa, hz, q⟩ := h
 have hul := pa.1
 walk_at "go"
 intro p hp
 walk_at "go"
 refine ⟨b, rfl, ⟨_, SqL.of (Same.new hp b _ hb)⟩, Xdm (K := K) (a := b) (xs := us) (JpW (some (.ref b)) p ps H) ⟨[], none, none, none, rfl, Same.new hp, upd_same, Xbc.nil⟩ (fun i σ H2 _ ⟨_, _, _, _, _, s2, _⟩ => SqL.of (s2 b _ hb)) ?_ ?_⟩
 · rintro i y σ H2 hi ⟨ws, x2, x3, x4, rfl, s2, hp2, pw⟩
   have hil : i < us.length := (List.getElem?_eq_some_iff.mp hi).1
   have hip : i < ps.length := by omega
   have hz1 : ps[i]? = some ps[i] := by simp [hip]
   obtain ⟨t, et, hT⟩ := pa.2 i ps[i] hz1
   have ey : y = .ref t := Option.some.inj (hi.symm.trans et)
   subst ey
   have hT2 := s2 t _ hT
   have hj := Xil hz1
   have hle := Xgo ps i (by omega)
   generalize ps[i] = z at hT2 hj
   have hwl := pw.1
   rcases Xbs (Xdf (ps.take i)) with e | ⟨D, w, e⟩
   · rw [e] at pw hj hwl
     have ew : ws = [] := List.length_eq_zero_iff.mp hwl
     subst ew
     walk_at "go"
     refine iteT ?_
     walk_at "go"
     intro t2 ht2
     walk_at "go"
     obtain ⟨g1, g2⟩ := Xbc.push (z := z) pw hp2 ht2
     exact ⟨_, _, _, _, rfl, (s2.put (s2.free ht2)).put hp, g1, by rw [hj]; exact g2⟩
   · rw [e] at pw hj hle
     obtain ⟨ui, t1, rfl, pi, h1⟩ := pw.unsnoc
     have hem : (ui ++ [V.ref t1]).isEmpty = false := by simp
     rw [List.length_append, List.length_singleton] at hle
     have hpl := pi.1
     have hsz : (ui ++ [V.ref t1]).length < 4000 := by rw [List.length_append, List.length_singleton]; omega
     walk_at "go"
     rw [hem]
     walk_at "go"
     refine Xff (fun hv => ?_) (fun hv => ?_)
     · walk_at "go"
       intro t2 ht2
       walk_at "go"
       obtain ⟨g1, g2⟩ := Xbc.push (z := z) pw hp2 ht2
       exact ⟨_, _, _, _, rfl, (s2.put (s2.free ht2)).put hp, g1, by rw [hj, Xcj hv]; exact g2⟩
     · walk_at "go"
       refine Xgy (SqL.of hp2) ?_
       walk_at "go"
       refine Xff (fun hv2 => ?_) (fun hv2 => ?_)
       · walk_at "go"
         intro t2 ht2
         walk_at "go"
         obtain ⟨g1, g2⟩ := Xbc.push (z := z) pw hp2 ht2
         exact ⟨_, _, _, _, rfl, (s2.put (s2.free ht2)).put hp, g1, by rw [hj, Xcs hv2]; exact g2⟩
       · walk_at "go"
         refine Xgy (SqL.of hp2) ?_
         walk_at "go"
         refine Xgy (SqL.of hp2) ?_
         walk_at "go"
         intro t2 ht2
         walk_at "go"
         refine Xqn (xs := ui) (v := .ref t1) (look_put ht2 hp2) ?_
         walk_at "go"
         have g := Xbc.relast (z := ⟨w.a, w.l + z.l, false⟩) pi hp2 ht2
         exact ⟨_, _, _, _, rfl, (s2.put (s2.free ht2)).put hp, upd_same, by rw [hj, Xcc hv2 hv]; exact g⟩
 · rintro σ H2 ⟨ws, x2, x3, x4, rfl, s2, hp2, pw⟩
   walk_at "go"
   rw [List.take_of_length_le (by omega)] at pw
   exact q p ws H2 hp s2 hp2 pw
def Xjr (K : PySem.W.Frag) : Sp := fun vs H Q _ => ∃ (a : Addr) (cs : List Int) (ps : List Pc), vs = [.ref a] ∧ SqL K H a (cs.map V.int) ∧ cs.length ≤ 4000 ∧ Xai 0 ps cs.length ∧ Xcn cs 0 = (ps, none) ∧
 ∀ (p : Addr) (H' : Hp), H p = none → Same H H' → H' p = some (.lst ((Xdz cs (Xdf ps)).map V.int)) → Q (.ref p) H'
def JdW (f0 : Option V) (lp : Addr) (us : List V) (js : List Pc) (cs : List Int) (H : Hp) (i : Nat) (σ : L2.St) (H' : Hp) : Prop :=
 ∃ (r : Addr) (x2 x3 x4 : Option V), σ = [f0, some (.ref r), x2, x3, x4] ∧ H r = none ∧ Same H H' ∧ H' r = some (.lst ((Xdz cs (js.take i)).map V.int)) ∧ H' lp = some (.lst us) ∧ Xbc H' us js
theorem XOp (S : Src K mg "joined" Xrq) (T : Txt K mg Y0 Y7 Y9 Y4 Y3 Y6 Y12 Y2 Y8 Y5 Y1 Y10 Y13 Y14 Y11 W0_ W1_) (D_Z57 : Defx P w K mg base "looked" 4 ["cells"] (Xer K Y4)) (D_Z10 : Defx P w K mg base "joined_pieces" 1 ["pieces"] (Xpd K)) (D_Z66 : Defx P w K mg base "laid" 2 ["cells", "at", "long", "live"] (Xjx K)) : Defx P w K mg base "joined" 5 ["cells"] (Xjr K) := by
 refine S.okx Xix XKl (fun vs H Q E h => by revert h; walk_at "len") (fun f cdv A outer s H vs Q E hr h => ?_)
 refine ⟨_, PSs.nox (Xab (Xaq (i := 1) Xix.nd rfl (Or.inl rfl) (Xen Xcw (by rfl) T.n_list PyProof.Rows.boot_list (Xaa (pv 0) Xad))) (Xab (Xgl PassesOwn.never rfl (Xcm (Xaj D_Z10 hr (by rfl) (Xaa (Xaj D_Z57 hr (by rfl) (Xaa (pv 0) Xad)) Xad))) (Xgm rfl (Xar (Xas (i := 2) Xix.nd rfl (Or.inl rfl)) (Xar (Xas (i := 3) Xix.nd rfl (Or.inl rfl)) (Xar (Xas (i := 4) Xix.nd rfl (Or.inl rfl)) Xcx)))) (Xac (Xaq (i := 1) Xix.nd rfl (Or.inl rfl) (Xaj D_Z66 hr (by rfl) (Xaa (pv 1) (Xaa (pv 2) (Xaa (pv 3) (Xaa (pv 4) Xad)))))))) (Xac (Xao (pv 1))))), ?_⟩
 obtain ⟨a, cs, ps, rfl, hS, hz, hc, hw, q⟩ := h
 walk_at "go"
 intro r0 hr0
 have s0 : Same H (upd H r0 (.lst (cs.map V.int))) := Same.new hr0
 have e0 : upd H r0 (.lst (cs.map V.int)) r0 = some (.lst (cs.map V.int)) := upd_same
 generalize upd H r0 (.lst (cs.map V.int)) = H0 at s0 e0 ⊢
 walk_at "go"
 refine ⟨a, cs, rfl, s0.seq hS, hz, (fun c hc => by rw [hw] at hc; cases hc), fun _ lp us H1 nlp s1 hlp pa => ?_⟩
 have pa : Xbc H1 us ps := by rw [hw] at pa; exact pa
 have hps : (ps.length : Int) ≤ cs.length := by have := hc.le; omega
 walk_at "go"
 refine ⟨lp, us, ps, rfl, hlp, pa, by omega, fun jp js H2 njp s2 hjp pj => ?_⟩
 have jc := Xhh hc
 generalize Xdf ps = qs at pj jc q
 have hjl := pj.1
 have s02 := (s0.trans s1).trans s2
 refine ⟨jp, rfl, ⟨_, SqL.of hjp⟩, Xdm (K := K) (a := jp) (xs := js) (JdW (some (.ref a)) jp js qs cs H) ⟨r0, none, none, none, rfl, hr0, s02, s2 _ _ (s1 _ _ e0), hjp, pj⟩ (fun i σ H2 _ ⟨_, _, _, _, _, _, _, _, h, _⟩ => SqL.of h) ?_ ?_⟩
 · rintro i y σ H3 hi ⟨r, x2, x3, x4, rfl, nr, s3, hr3, hj3, pj3⟩
   have hil : i < js.length := (List.getElem?_eq_some_iff.mp hi).1
   have hip : i < qs.length := by omega
   have hz1 : qs[i]? = some qs[i] := by simp [hip]
   obtain ⟨t, et, hT⟩ := pj3.2 i qs[i] hz1
   have ey : y = .ref t := Option.some.inj (hi.symm.trans et)
   subst ey
   have hj := Xlf (cs := cs) hz1
   obtain ⟨z0, z1, _, z4⟩ := jc.mem qs[i] (by simp)
   generalize qs[i] = z at hT hj z0 z1 z4
   have hll := Xds (qs.take i) cs
   walk_at "go"
   refine ⟨r, Xdz cs (qs.take i), z.a, z.l, z.v, rfl, SqL.of hr3, by omega, z0, z1, by omega, fun p H4 np s4 hp4 => ?_⟩
   walk_at "go"
   exact ⟨p, _, _, _, rfl, s3.free np, s3.trans s4, by rw [hj]; exact hp4, s4 _ _ hj3, pj3.same s4⟩
 · rintro σ H3 ⟨r, x2, x3, x4, rfl, nr, s3, hr3, hj3, pj3⟩
   walk_at "go"
   rw [List.take_of_length_le (by omega)] at hr3
   exact q r H3 nr s3 hr3
def Xhc (K : PySem.W.Frag) (C : Addr) : Sp := fun vs H Q E => ∃ (a : Addr) (cs : List Int) (ps : List Pc) (k : Int), vs = [.ref a, .int k] ∧ SqL K H a (cs.map V.int) ∧ cs.length ≤ 4000 ∧ Xcn cs 0 = (ps, none) ∧
 (∀ z ∈ ps, z.a = k → ∀ (t : Addr) (H' : Hp), Same H H' → H' t = some (.tup [.int z.a, .int z.l, .bl z.v]) → Q (.ref t) H') ∧
 ((∀ z ∈ ps, z.a ≠ k) → ∀ (H' : Hp), Same H H' → E (.ref C) none H')
def PaW (f0 f1 : Option V) (H1 : Hp) (ps : List Pc) (k : Int) (i : Nat) (σ : L2.St) (H' : Hp) : Prop := H1 = H' ∧ ∃ x2 : Option V, σ = [f0, f1, x2] ∧ ∀ z ∈ ps.take i, z.a ≠ k
theorem XQo (S : Src K mg "piece_at" Xom) (T : Txt K mg Y0 Y7 Y9 Y4 Y3 Y6 Y12 Y2 Y8 Y5 Y1 Y10 Y13 Y14 Y11 W0_ W1_) (D_Z57 : Defx P w K mg base "looked" 4 ["cells"] (Xer K Y4)) : Defx P w K mg base "piece_at" 5 ["cells", "at"] (Xhc K Y3) := by
 refine S.okx Xxy XJp (fun vs H Q E h => by revert h; walk_at "len") (fun f cdv A outer s H vs Q E hr h => ?_)
 refine ⟨_, (Xab (Xgl PassesOwn.leaving rfl (Xcm (Xce D_Z57 hr (by rfl) (Xaa (pv 0) Xad))) (Xas (i := 2) Xxy.nd rfl (Or.inl rfl)) (Xac (Xax (Xah Xcr (Xbj Xbz (pv 2) Xaf (fun _ _ => rfl)) (pv 1) (Xam _)) (Xac (Xao (pv 2))) Xak))) (Xac (Xcu T.x_NoPiece hr.hd rfl (Xaa Xbd Xad)))), ?_⟩
 obtain ⟨a, cs, ps, k, rfl, hS, hz, hw, q, qe⟩ := h
 walk_at "go"
 refine ⟨a, cs, rfl, hS, hz, (fun c hc => by rw [hw] at hc; cases hc), fun _ lp us H1 nlp s1 hlp pa => ?_⟩
 have pa : Xbc H1 us ps := by rw [hw] at pa; exact pa
 have hul := pa.1
 refine ⟨lp, rfl, ⟨_, SqL.of hlp⟩, Xdm (K := K) (a := lp) (xs := us) (PaW (some (.ref a)) (some (.int k)) H1 ps k) ⟨rfl, none, rfl, fun z hz => by cases hz⟩ (fun i σ H2 _ ⟨h, _⟩ => h ▸ SqL.of hlp) ?_ ?_⟩
 · rintro i y σ H2 hi ⟨rfl, x2, rfl, hq⟩
   have hil : i < us.length := (List.getElem?_eq_some_iff.mp hi).1
   have hip : i < ps.length := by omega
   obtain ⟨t, et, hT⟩ := pa.2 i ps[i] (by simp [hip])
   have ey : y = .ref t := Option.some.inj (hi.symm.trans et)
   subst ey
   walk_at "go"
   refine Xcf (fun hk => ?_) (fun hk => ?_)
   · walk_at "go"
     exact q ps[i] (by simp) hk t _ s1 hT
   · walk_at "go"
     refine ⟨rfl, _, rfl, fun z hz => ?_⟩
     rw [List.take_add_one, List.getElem?_eq_getElem hip] at hz
     rcases List.mem_append.mp hz with h | h
     · exact hq z h
     · have : z = ps[i] := by simpa using h
       rw [this]; exact hk
 · rintro σ H2 ⟨rfl, x2, rfl, hq⟩
   rw [List.take_of_length_le (by omega)] at hq
   walk_at "go"
   exact qe hq _ s1
def Xfx (K : PySem.W.Frag) (C : Addr) (v : Bool) : Sp := fun vs H Q E => ∃ (a : Addr) (cs : List Int) (ps : List Pc) (k : Int), vs = [.ref a, .int k] ∧ SqL K H a (cs.map V.int) ∧ cs.length ≤ 4000 ∧ Xcn cs 0 = (ps, none) ∧ Xai 0 ps cs.length ∧
 (∀ z ∈ ps, z.a = k → z.v = v → ∀ (t : Addr) (H' : Hp), Same H H' → H' t = some (.tup [.int z.a, .int z.l, .bl z.v]) → Q (.ref t) H') ∧
 ((∀ z ∈ ps, z.a = k → z.v ≠ v) → ∀ (H' : Hp), Same H H' → E (.ref C) none H')
theorem XQt (S : Src K mg "live_at" Xqq) (T : Txt K mg Y0 Y7 Y9 Y4 Y3 Y6 Y12 Y2 Y8 Y5 Y1 Y10 Y13 Y14 Y11 W0_ W1_) (D_Z40 : Defx P w K mg base "piece_at" 5 ["cells", "at"] (Xhc K Y3)) : Defx P w K mg base "live_at" 6 ["cells", "at"] (Xfx K Y3 true) := by
 refine S.okx Xyf XHe (fun vs H Q E h => by revert h; walk_at "len") (fun f cdv A outer s H vs Q E hr h => ?_)
 refine ⟨_, (Xab (Xaq (i := 2) Xyf.nd rfl (Or.inl rfl) (Xce D_Z40 hr (by rfl) (Xaa (pv 0) (Xaa (pv 1) Xad)))) (Xab (Xax (Xfc (Xcd (Xbj Xbz (pv 2) Xaf (fun _ _ => rfl)) (fun _ => rfl))) (Xac (Xcu T.x_NoPiece hr.hd rfl (Xaa Xbd Xad))) Xak) (Xac (Xao (pv 2))))), ?_⟩
 obtain ⟨a, cs, ps, k, rfl, hS, hz, hw, hc, q, qe⟩ := h
 walk_at "go"
 refine ⟨a, cs, ps, k, rfl, hS, hz, hw, fun z hm hk t H1 s1 ht => ?_, fun hn H1 s1 => qe (fun z hz hk => absurd hk (hn z hz)) _ s1⟩
 walk_at "go"
 refine Xff (fun hv => ?_) (fun hv => ?_)
 · walk_at "go"
   exact q z hm hk hv t _ s1 ht
 · walk_at "go"
   refine qe (fun y hy hk2 => ?_) _ s1
   rw [Xda hc hy hm (by omega), hv]
   exact fun z => nomatch z
theorem XNz (S : Src K mg "free_at" Xpp) (T : Txt K mg Y0 Y7 Y9 Y4 Y3 Y6 Y12 Y2 Y8 Y5 Y1 Y10 Y13 Y14 Y11 W0_ W1_) (D_Z40 : Defx P w K mg base "piece_at" 5 ["cells", "at"] (Xhc K Y3)) : Defx P w K mg base "free_at" 6 ["cells", "at"] (Xfx K Y3 false) := by
 refine S.okx Xxl XMg (fun vs H Q E h => by revert h; walk_at "len") (fun f cdv A outer s H vs Q E hr h => ?_)
 refine ⟨_, (Xab (Xaq (i := 2) Xxl.nd rfl (Or.inl rfl) (Xce D_Z40 hr (by rfl) (Xaa (pv 0) (Xaa (pv 1) Xad)))) (Xab (Xax (Xcd (Xbj Xbz (pv 2) Xaf (fun _ _ => rfl)) (fun _ => rfl)) (Xac (Xcu T.x_NoPiece hr.hd rfl (Xaa Xbd Xad))) Xak) (Xac (Xao (pv 2))))), ?_⟩
 obtain ⟨a, cs, ps, k, rfl, hS, hz, hw, hc, q, qe⟩ := h
 walk_at "go"
 refine ⟨a, cs, ps, k, rfl, hS, hz, hw, fun z hm hk t H1 s1 ht => ?_, fun hn H1 s1 => qe (fun z hz hk => absurd hk (hn z hz)) _ s1⟩
 walk_at "go"
 refine Xff (fun hv => ?_) (fun hv => ?_)
 · walk_at "go"
   refine qe (fun y hy hk2 => ?_) _ s1
   rw [Xda hc hy hm (by omega), hv]
   exact fun z => nomatch z
 · walk_at "go"
   exact q z hm hk hv t _ s1 ht
def XNe (K : PySem.W.Frag) (CP CR : Addr) : Sp := fun vs H Q E => ∃ (a : Addr) (cs : List Int) (ps : List Pc) (k s L : Int), vs = [.ref a, .int k, .int s, .int L] ∧ SqL K H a (cs.map V.int) ∧ cs.length ≤ 4000 ∧ Xai 0 ps cs.length ∧ Xbg cs ps ∧ 1 ≤ L ∧
 (∀ z ∈ ps, z.a = k → z.v = false → z.a ≤ s → s + L ≤ z.a + z.l → ∀ (p : Addr) (H' : Hp), H p = none → Same H H' → H' p = some (.lst ((cutO cs z.a z.l s L).map V.int)) → Q (.ref p) H') ∧
 (∀ z ∈ ps, z.a = k → z.v = false → ¬ (z.a ≤ s ∧ s + L ≤ z.a + z.l) → ∀ (H' : Hp), Same H H' → E (.ref CR) none H') ∧
 ((∀ z ∈ ps, z.a = k → z.v ≠ false) → ∀ (H' : Hp), Same H H' → E (.ref CP) none H')
theorem XOs (S : Src K mg "cut_out" Xrc) (T : Txt K mg Y0 Y7 Y9 Y4 Y3 Y6 Y12 Y2 Y8 Y5 Y1 Y10 Y13 Y14 Y11 W0_ W1_) (D_Z49 : Defx P w K mg base "free_at" 6 ["cells", "at"] (Xfx K Y3 false)) (D_Z34 : Defx P w K mg base "laid_free" 3 ["cells", "begin", "end"] (Xet K)) (D_Z66 : Defx P w K mg base "laid" 2 ["cells", "at", "long", "live"] (Xjx K)) : Defx P w K mg base "cut_out" 7 ["cells", "at", "place", "long"] (XNe K Y3 Y8) := by
 refine S.okx Xhm XGw (fun vs H Q E h => by revert h; walk_at "len") (fun f cdv A outer s H vs Q E hr h => ?_)
 refine ⟨_, (Xab (Xel (Xce D_Z49 hr (by rfl) (Xaa (pv 0) (Xaa (pv 1) Xad))) (Xgm rfl (Xar (Xas (i := 4) Xhm.nd rfl (Or.inl rfl)) (Xar (Xas (i := 5) Xhm.nd rfl (Or.inl rfl)) (Xar (Xas (i := 6) Xhm.nd rfl (Or.inl rfl)) Xcx))))) (Xab (Xaq (i := 7) Xhm.nd rfl (Or.inl rfl) (Xal Xba (pv 4) (pv 5))) (Xab (Xax (PW.pt (Xez (Xah Xef (pv 2) (pv 4) (Xam _)) (Xdg (Xah Xkl (Xal Xba (pv 2) (pv 3)) (pv 7) (Xam _))))) (Xac (Xcu T.x_NoRoom hr.hd rfl (Xaa Xbd Xad))) Xak) (Xab (Xaq (i := 8) Xhm.nd rfl (Or.inl rfl) (Xaj D_Z34 hr (by rfl) (Xaa (pv 0) (Xaa (pv 4) (Xaa (pv 2) Xad))))) (Xab (Xaq (i := 8) Xhm.nd rfl (Or.inl rfl) (Xaj D_Z66 hr (by rfl) (Xaa (pv 8) (Xaa (pv 2) (Xaa (pv 3) (Xaa Xey Xad)))))) (Xac (Xao (Xaj D_Z34 hr (by rfl) (Xaa (pv 8) (Xaa (Xal Xba (pv 2) (pv 3)) (Xaa (pv 7) Xad))))))))))), ?_⟩
 obtain ⟨a, cs, ps, k, s, L, rfl, hS, hz, hc, mk, hL, q, qr, qe⟩ := h
 have hw := Xay hc mk
 walk_at "go"
 refine ⟨a, cs, ps, k, rfl, hS, by omega, hw, hc, fun z hm hk hv t H1 s1 ht => ?_, fun hn H1 s1 => qe hn _ s1⟩
 obtain ⟨z0, z1, _, z4⟩ := hc.mem z hm
 walk_at "go"
 refine Xcf (fun h1 => ?_) (fun h1 => ?_)
 · walk_at "go"
   exact qr z hm hk hv (by omega) _ s1
 · walk_at "go"
   refine Xcf (fun h2 => ?_) (fun h2 => ?_)
   · walk_at "go"
     exact qr z hm hk hv (by omega) _ s1
   · walk_at "go"
     refine ⟨a, cs, z.a, s, rfl, s1.seq hS, hz, z0, by omega, by omega, fun p2 H2 n2 s2 g2 => ?_⟩
     walk_at "go"
     refine ⟨p2, lfI cs z.a s, s, L, true, rfl, SqL.of g2, by rw [Xcl]; exact hz, by omega, hL, by rw [Xcl]; omega, fun p3 H3 n3 s3 g3 => ?_⟩
     walk_at "go"
     refine ⟨p3, Xcy (lfI cs z.a s) s L true, s + L, z.a + z.l, rfl, SqL.of g3, by rw [Xbq, Xcl]; exact hz, by omega, by omega, by rw [Xbq, Xcl]; omega, fun p4 H4 n4 s4 g4 => ?_⟩
     walk_at "go"
     have s13 := (s1.trans s2).trans s3
     exact q z hm hk hv (by omega) (by omega) p4 H4 (s13.free n4) (s13.trans s4) g4
def Xxm (K : PySem.W.Frag) : Sp := fun vs H Q _ => ∃ (a : Addr) (cs : List Int) (ps : List Pc) (i : Nat) (z : Pc), vs = [.ref a, .int z.a] ∧ SqL K H a (cs.map V.int) ∧ Xai 0 ps cs.length ∧ Xbg cs ps ∧ ps[i]? = some z ∧ Q (.int (fbeg ps i z)) H
def Xri (K : PySem.W.Frag) : Sp := fun vs H Q _ => ∃ (a : Addr) (cs : List Int) (ps : List Pc) (i : Nat) (z : Pc), vs = [.ref a, .int (z.a + z.l)] ∧ SqL K H a (cs.map V.int) ∧ Xai 0 ps cs.length ∧ Xbg cs ps ∧ ps[i]? = some z ∧ Q (.int (fend ps i z)) H
theorem XRp (S : Src K mg "free_begin" Xoq) (T : Txt K mg Y0 Y7 Y9 Y4 Y3 Y6 Y12 Y2 Y8 Y5 Y1 Y10 Y13 Y14 Y11 W0_ W1_) (D_Z51 : Defx P w K mg base "live_of" 1 ["number"] (Xiw)) (D_Z46 : Defx P w K mg base "long_of" 1 ["number"] (Xfo)) : Defx P w K mg base "free_begin" 2 ["cells", "at"] (Xxm K) := by
 refine S.okx XMn XHz (fun vs H Q E h => by revert h; walk_at "len") (fun f cdv A outer s H vs Q E hr h => ?_)
 refine ⟨_, PSs.nox (Xab (Xax (PW.pt (Xez (Xah Xcr (pv 1) Xaf (Xam _)) (Xdg (Xea (Xaj D_Z51 hr (by rfl) (Xaa (Xbj Xbh (pv 0) (Xal Xby (pv 1) Xaf) (fun _ _ => rfl)) Xad)))))) (Xac (Xao (pv 1))) Xak) (Xac (Xao (Xal Xby (pv 1) (Xaj D_Z46 hr (by rfl) (Xaa (Xbj Xbh (pv 0) (Xal Xby (pv 1) Xaf) (fun _ _ => rfl)) Xad)))))), ?_⟩
 obtain ⟨a, cs, ps, i, z, rfl, hS, hc, mk, hi, q⟩ := h
 obtain ⟨z0, z1, _, z4⟩ := hc.mem z (List.mem_of_getElem? hi)
 cases i with
 | zero =>
   have e := Xlg hc hi
   walk_at "go"
   exact q
 | succ j =>
   have hp := Xhp hc hi
   have hj : j < ps.length := by have := (List.getElem?_eq_some_iff.mp hi).1; omega
   have hy : ps[j]? = some ps[j] := by simp [hj]
   have hm := Xnz hc mk hy hi
   have hn := Xch hc hy hi
   generalize ps[j] = y at hy hm hn
   have hm' : cs.getD (z.a - 1).toNat 0 = mkOf y.l y.v := hm
   walk_at "go"
   rw [hm', Xhe]
   refine Xff (fun hv => ?_) (fun hv => ?_)
   · walk_at "go"
     rw [Xfr hy hv] at q
     exact q
   · walk_at "go"
     rw [hm', Xgd, show z.a - y.l = y.a by omega]
     rw [Xfi hy hv] at q
     exact q
theorem XOl (S : Src K mg "free_end" Xrb) (T : Txt K mg Y0 Y7 Y9 Y4 Y3 Y6 Y12 Y2 Y8 Y5 Y1 Y10 Y13 Y14 Y11 W0_ W1_) (D_Z51 : Defx P w K mg base "live_of" 1 ["number"] (Xiw)) (D_Z46 : Defx P w K mg base "long_of" 1 ["number"] (Xfo)) : Defx P w K mg base "free_end" 2 ["cells", "end"] (Xri K) := by
 refine S.okx XNp XGn (fun vs H Q E h => by revert h; walk_at "len") (fun f cdv A outer s H vs Q E hr h => ?_)
 refine ⟨_, PSs.nox (Xab (Xax (PW.pt (Xez (Xah Xcr (pv 1) (Xbm Xbo (by rfl) T.n_len PySem.boot_len (Xaa (pv 0) Xad)) (Xam _)) (Xdg (Xea (Xaj D_Z51 hr (by rfl) (Xaa (Xbj Xbh (pv 0) (pv 1) (fun _ _ => rfl)) Xad)))))) (Xac (Xao (pv 1))) Xak) (Xac (Xao (Xal Xba (pv 1) (Xaj D_Z46 hr (by rfl) (Xaa (Xbj Xbh (pv 0) (pv 1) (fun _ _ => rfl)) Xad)))))), ?_⟩
 obtain ⟨a, cs, ps, i, z, rfl, hS, hc, mk, hi, q⟩ := h
 obtain ⟨z0, z1, _, z4⟩ := hc.mem z (List.mem_of_getElem? hi)
 by_cases hl : ps.length = i + 1
 · have e := Xnj hc hi hl
   walk_at "go"
   rw [Xft (List.getElem?_eq_none (by omega))] at q
   exact q
 · have hj : i + 1 < ps.length := by have := (List.getElem?_eq_some_iff.mp hi).1; omega
   have hy : ps[i + 1]? = some ps[i + 1] := by simp [hj]
   have hm := Xlj hc mk hi hy
   have hn := Xch hc hi hy
   generalize ps[i + 1] = y at hy hm hn
   obtain ⟨y0, y1, _, y4⟩ := hc.mem y (List.mem_of_getElem? hy)
   have hm' : cs.getD (z.a + z.l).toNat 0 = mkOf y.l y.v := hm
   walk_at "go"
   rw [hm', Xhe]
   refine Xff (fun hv => ?_) (fun hv => ?_)
   · walk_at "go"
     rw [Xeh hy hv] at q
     exact q
   · walk_at "go"
     rw [hm', Xgd, ← hn]
     rw [Xek hy hv] at q
     exact q
def Xph (K : PySem.W.Frag) (C : Addr) : Sp := fun vs H Q E => ∃ (a : Addr) (cs : List Int) (ps : List Pc) (k : Int), vs = [.ref a, .int k] ∧ SqL K H a (cs.map V.int) ∧ cs.length ≤ 4000 ∧ Xai 0 ps cs.length ∧ Xbg cs ps ∧
 (∀ i z, ps[i]? = some z → z.a = k → z.v = true → ∀ (p : Addr) (H' : Hp), H p = none → Same H H' → H' p = some (.lst ((lfI cs (fbeg ps i z) (fend ps i z)).map V.int)) → Q (.ref p) H') ∧
 ((∀ z ∈ ps, z.a = k → z.v ≠ true) → ∀ (H' : Hp), Same H H' → E (.ref C) none H')
theorem XRs (S : Src K mg "freed" Xoi) (T : Txt K mg Y0 Y7 Y9 Y4 Y3 Y6 Y12 Y2 Y8 Y5 Y1 Y10 Y13 Y14 Y11 W0_ W1_) (D_Z45 : Defx P w K mg base "live_at" 6 ["cells", "at"] (Xfx K Y3 true)) (D_Z25 : Defx P w K mg base "free_begin" 2 ["cells", "at"] (Xxm K)) (D_Z38 : Defx P w K mg base "free_end" 2 ["cells", "end"] (Xri K)) (D_Z34 : Defx P w K mg base "laid_free" 3 ["cells", "begin", "end"] (Xet K)) : Defx P w K mg base "freed" 7 ["cells", "at"] (Xph K Y3) := by
 refine S.okx Xnb XNa (fun vs H Q E h => by revert h; walk_at "len") (fun f cdv A outer s H vs Q E hr h => ?_)
 refine ⟨_, (Xab (Xel (Xce D_Z45 hr (by rfl) (Xaa (pv 0) (Xaa (pv 1) Xad))) (Xgm rfl (Xar (Xas (i := 2) Xnb.nd rfl (Or.inl rfl)) (Xar (Xas (i := 3) Xnb.nd rfl (Or.inl rfl)) (Xar (Xas (i := 4) Xnb.nd rfl (Or.inl rfl)) Xcx))))) (Xac (Xao (Xaj D_Z34 hr (by rfl) (Xaa (pv 0) (Xaa (Xaj D_Z25 hr (by rfl) (Xaa (pv 0) (Xaa (pv 2) Xad))) (Xaa (Xaj D_Z38 hr (by rfl) (Xaa (pv 0) (Xaa (Xal Xba (pv 2) (pv 3)) Xad))) Xad))))))), ?_⟩
 obtain ⟨a, cs, ps, k, rfl, hS, hz, hc, mk, q, qe⟩ := h
 have hw := Xay hc mk
 walk_at "go"
 refine ⟨a, cs, ps, k, rfl, hS, hz, hw, hc, fun z hm hk hv t H1 s1 ht => ?_, fun hn H1 s1 => qe hn _ s1⟩
 obtain ⟨i, hi⟩ := List.getElem?_of_mem hm
 have b1 := XBo hc hi
 have b2 := Xlu hc hi
 have hS1 := s1.seq hS
 obtain ⟨z0, z1, _, z4⟩ := hc.mem z hm
 walk_at "go"
 refine ⟨a, cs, ps, i, z, rfl, hS1, hc, mk, hi, ?_⟩
 walk_at "go"
 refine ⟨a, cs, ps, i, z, rfl, hS1, hc, mk, hi, ?_⟩
 walk_at "go"
 refine ⟨a, cs, _, _, rfl, hS1, hz, b1.1, by omega, by omega, fun p H2 n2 s2 g2 => ?_⟩
 walk_at "go"
 exact q i z hi hk hv p H2 (s1.free n2) (s1.trans s2) g2
def Xfd (L b : Int) (z : Pc) : Option (List V) := if z.v = true then none else (fp z.a z.l L b).map fun p => [V.int z.a, V.int p]
def Xeg (ps : List Pc) (L b : Int) : List (List V) := ps.filterMap (Xfd L b)
theorem Xkc {ps : List Pc} {L b : Int} {i : Nat} {z : Pc} (h : ps[i]? = some z) : Xeg (ps.take (i + 1)) L b = Xeg (ps.take i) L b ++ (Xfd L b z).toList := by
 unfold Xeg
 rw [List.take_add_one, h, List.filterMap_append]
 cases e : Xfd L b z <;> simp [e]
theorem Xlr (ps : List Pc) (L b : Int) : (Xeg ps L b).length ≤ ps.length := List.length_filterMap_le _ _
def Xou : Sp := fun vs H Q _ => ∃ (t : Addr) (a n L b : Int) (v : Bool), vs = [.ref t, .int L, .int b] ∧ H t = some (.tup [.int a, .int n, .bl v]) ∧ 1 ≤ b ∧ Q (optV (fp a n L b)) H
def Xhz (K : PySem.W.Frag) : Sp := fun vs H Q _ => ∃ (a : Addr) (cs : List Int) (ps : List Pc) (L b : Int), vs = [.ref a, .int L, .int b] ∧ SqL K H a (cs.map V.int) ∧ cs.length ≤ 4000 ∧ Xcn cs 0 = (ps, none) ∧ 1 ≤ b ∧
 ∀ (p : Addr) (us : List V) (H' : Hp), H p = none → Same H H' → H' p = some (.lst us) → Xbv H' us (Xeg ps L b) → Q (.ref p) H'
theorem XPk (S : Src K mg "first_place" Xol) (T : Txt K mg Y0 Y7 Y9 Y4 Y3 Y6 Y12 Y2 Y8 Y5 Y1 Y10 Y13 Y14 Y11 W0_ W1_)  : Defx P w K mg base "first_place" 1 ["piece", "long", "bound"] (Xou) := by
 refine S.okx Xkq XLu (fun vs H Q E h => by revert h; walk_at "len") (fun f cdv A outer s H vs Q E hr h => ?_)
 refine ⟨_, PSs.nox (Xab (Xel (pv 0) (Xgm rfl (Xar (Xas (i := 3) Xkq.nd rfl (Or.inl rfl)) (Xar (Xas (i := 4) Xkq.nd rfl (Or.inl rfl)) (Xar (Xas (i := 5) Xkq.nd rfl (Or.inl rfl)) Xcx))))) (Xab (Xaq (i := 6) Xkq.nd rfl (Or.inl rfl) (Xal Xba (pv 3) (Xal Xbw (Xnl Xiv (Xal Xba (pv 3) Xaf)) (pv 2)))) (Xab (Xax (Xah Xkl (Xal Xba (pv 6) (pv 1)) (Xal Xba (pv 3) (pv 4)) (Xam _)) (Xac (Xao Xgj)) Xak) (Xac (Xao (pv 6)))))), ?_⟩
 obtain ⟨t, a, n, L, b, v, rfl, ht, hb, q⟩ := h
 have e : a + -(a + 1) % b = fpl a b := by unfold fpl; rw [Xfn hb]
 walk_at "go"
 rw [e]
 refine Xcf (fun hc => ?_) (fun hc => ?_)
 · walk_at "go"
   unfold fp at q
   rw [if_neg (by omega)] at q
   exact q
 · walk_at "go"
   unfold fp at q
   rw [if_pos (by omega)] at q
   exact q
def SfW (f0 f1 f2 : Option V) (sp lp : Addr) (us : List V) (ps : List Pc) (L b : Int) (H : Hp) (i : Nat) (σ : L2.St) (H' : Hp) : Prop :=
 ∃ (ws : List V) (x4 x5 : Option V), σ = [f0, f1, f2, some (.ref sp), x4, x5] ∧ Same H H' ∧ H' lp = some (.lst us) ∧ Xbc H' us ps ∧ H' sp = some (.lst ws) ∧ Xbv H' ws (Xeg (ps.take i) L b)
theorem XRo (S : Src K mg "spots_for" Xqs) (T : Txt K mg Y0 Y7 Y9 Y4 Y3 Y6 Y12 Y2 Y8 Y5 Y1 Y10 Y13 Y14 Y11 W0_ W1_) (D_Z22 : Defx P w K mg base "first_place" 1 ["piece", "long", "bound"] (Xou)) (D_Z57 : Defx P w K mg base "looked" 4 ["cells"] (Xer K Y4)) : Defx P w K mg base "spots_for" 5 ["cells", "long", "bound"] (Xhz K) := by
 refine S.okx Xmu XJd (fun vs H Q E h => by revert h; walk_at "len") (fun f cdv A outer s H vs Q E hr h => ?_)
 refine ⟨_, PSs.nox (Xab (Xaq (i := 3) Xmu.nd rfl (Or.inl rfl) (Xdw Xad)) (Xab (Xgl PassesOwn.never rfl (Xcm (Xaj D_Z57 hr (by rfl) (Xaa (pv 0) Xad))) (Xas (i := 4) Xmu.nd rfl (Or.inl rfl)) (Xab (Xaq (i := 5) Xmu.nd rfl (Or.inl rfl) (Xaj D_Z22 hr (by rfl) (Xaa (pv 4) (Xaa (pv 1) (Xaa (pv 2) Xad))))) (Xac (Xax (PW.pt (Xdp (Xfc (Xcd (Xbj Xbz (pv 4) Xaf (fun _ _ => rfl)) (fun _ => rfl))) (Xde (Xah Xlq (pv 5) Xgj (Xam _))))) (Xac (Xau (Xhs PySem.F.plainAttrs_list PySem.F.slot_list_append PySem.F.type_list_append Xca (pv 3) (Xaa (Xfb (Xaa (Xbj Xbz (pv 4) Xaf (fun _ _ => rfl)) (Xaa (pv 5) Xad))) Xad)))) Xak)))) (Xac (Xao (pv 3))))), ?_⟩
 obtain ⟨a, cs, ps, L, b, rfl, hS, hz, hw, hb, q⟩ := h
 walk_at "go"
 intro sp hsp
 walk_at "go"
 refine ⟨a, cs, rfl, (Same.new hsp).seq hS, hz, (fun c hc => by rw [hw] at hc; cases hc), fun _ lp us H1 nlp s1 hlp pa => ?_⟩
 have pa : Xbc H1 us ps := by rw [hw] at pa; exact pa
 have hps : (ps.length : Int) ≤ cs.length := by
   have := Xjv cs cs.length 0 (by omega) (by omega)
   rw [hw] at this
   exact this
 have hul := pa.1
 have hsp1 := s1 sp _ upd_same
 have hne : lp ≠ sp := fun z => by rw [z, upd_same] at nlp; cases nlp
 have s01 : Same H H1 := (Same.new hsp).trans s1
 refine ⟨lp, rfl, ⟨_, SqL.of hlp⟩, Xdm (K := K) (a := lp) (xs := us) (SfW (some (.ref a)) (some (.int L)) (some (.int b)) sp lp us ps L b H) ⟨[], none, none, rfl, s01, hlp, pa, hsp1, Xbv.nil⟩ (fun i σ H2 _ ⟨_, _, _, _, _, h, _⟩ => SqL.of h) ?_ ?_⟩
 · rintro i y σ H2 hi ⟨ws, x4, x5, rfl, s2, hlp2, pa2, hsp2, ta⟩
   have hil : i < us.length := (List.getElem?_eq_some_iff.mp hi).1
   have hip : i < ps.length := by omega
   obtain ⟨t, et, hT⟩ := pa2.2 i ps[i] (by simp [hip])
   have ey : y = .ref t := Option.some.inj (hi.symm.trans et)
   subst ey
   have ht := Xkc (L := L) (b := b) (show ps[i]? = some ps[i] by simp [hip])
   have hwl : ws.length ≤ 4000 := by
     have h1 := ta.1
     have h2 := Xlr (ps.take i) L b
     rw [List.length_take] at h2
     omega
   generalize ps[i] = z at hT ht
   walk_at "go"
   refine ⟨t, z.a, z.l, L, b, z.v, rfl, hT, hb, ?_⟩
   cases ef : fp z.a z.l L b with
   | none =>
     walk_at "go"
     have e : Xfd L b z = none := by
       unfold Xfd
       split
       · rfl
       · rw [ef]; rfl
     rw [e, Option.toList_none, List.append_nil] at ht
     refine Xff (fun hv => ?_) (fun hv => ?_)
     · walk_at "go"
       exact ⟨ws, _, _, rfl, s2, hlp2, pa2, hsp2, by rw [ht]; exact ta⟩
     · walk_at "go"
       exact ⟨ws, _, _, rfl, s2, hlp2, pa2, hsp2, by rw [ht]; exact ta⟩
   | some p =>
     walk_at "go"
     refine Xff (fun hv => ?_) (fun hv => ?_)
     · walk_at "go"
       have e : Xfd L b z = none := by unfold Xfd; rw [if_pos hv]
       rw [e, Option.toList_none, List.append_nil] at ht
       exact ⟨ws, _, _, rfl, s2, hlp2, pa2, hsp2, by rw [ht]; exact ta⟩
     · walk_at "go"
       intro t2 ht2
       have hst : sp ≠ t2 := Xan hsp2 ht2
       have hlt : lp ≠ t2 := Xan hlp2 ht2
       walk_at "go"
       have e : Xfd L b z = some [V.int z.a, V.int p] := by unfold Xfd; rw [hv, if_neg Bool.false_ne_true, ef]; rfl
       rw [e] at ht
       exact ⟨ws ++ [.ref t2], _, _, rfl, (s2.put (s2.free ht2)).put hsp, look_ne hne (look_ne hlt hlp2), (pa2.mono (Xgp (.inl ht2))).mono (Xgp (.inr ⟨ws, look_ne hst hsp2⟩)), upd_same, by rw [ht]; exact ta.push hsp2 ht2⟩
 · rintro σ H2 ⟨ws, x4, x5, rfl, s2, hlp2, pa2, hsp2, ta⟩
   walk_at "go"
   rw [List.take_of_length_le (by omega)] at ta
   exact q sp ws H2 hsp s2 hsp2 ta
/-! the spots by numbers -/
def Xfa (L b : Int) (z : Pc) : Option (Int × Int) := if z.v = true then none else (fp z.a z.l L b).map fun p => (z.a, p)
def Xav (ps : List Pc) (L b : Int) : List (Int × Int) := ps.filterMap (Xfa L b)
theorem Xfh (ps : List Pc) (L b : Int) : Xeg ps L b = (Xav ps L b).map fun q => [V.int q.1, V.int q.2] := by
 unfold Xeg Xav
 rw [List.map_filterMap]
 congr 1
 funext z
 unfold Xfd Xfa
 split
 · rfl
 · cases fp z.a z.l L b <;> rfl
theorem Xlv : ∀ {ps : List Pc} {s e L b : Int}, Xai s ps e → ∀ q ∈ Xav ps L b, s ≤ q.1
 | [], s, e, L, b, _, q, hq => by simp [Xav] at hq
 | z :: r, s, e, L, b, c, q, hq => by
   obtain ⟨h0, h1, h2, h3⟩ := c
   unfold Xav at hq
   rw [List.filterMap_cons] at hq
   have rest : ∀ q ∈ r.filterMap (Xfa L b), s ≤ q.1 := fun q hq => by
     have := Xlv h3 q hq
     omega
   split at hq
   · exact rest q hq
   · rename_i q0 e0
     rcases List.mem_cons.mp hq with g | g
     · subst g
       unfold Xfa at e0
       split at e0
       · cases e0
       · obtain ⟨p, _, e1⟩ := Option.map_eq_some_iff.mp e0
         rw [← e1]
         show s ≤ z.a
         omega
     · exact rest q g
def Xhj : Sp := fun vs H Q _ => ∃ (p : Addr) (us : List V) (xs : List (List Int)), vs = [.ref p] ∧ H p = some (.lst us) ∧ Xbv H us (xs.map fun x => x.map V.int) ∧ (∀ x ∈ xs, x.length = 3) ∧
 (xs = [] → Q .non H) ∧ (0 < xs.length → Q (.int ((xs.getD (Xee xs (xs.length - 1)) []).getD 2 0)) H)
theorem XPu (S : Src K mg "least_place" Xsa) (T : Txt K mg Y0 Y7 Y9 Y4 Y3 Y6 Y12 Y2 Y8 Y5 Y1 Y10 Y13 Y14 Y11 W0_ W1_)  : Defx P w K mg base "least_place" 1 ["ranked"] (Xhj) := by
 refine S.okx XIc XGv (fun vs H Q E h => by revert h; walk_at "len") (fun f cdv A outer s H vs Q E hr h => ?_)
 refine ⟨_, PSs.nox (Xab (Xax (Xfc (Xcd (pv 0) (fun _ => rfl))) (Xac (Xao Xgj)) Xak) (Xac (Xao (Xbj Xbz (Xbm (Xra rfl hr.units) (by rfl) T.n_min PyProof.Rows.boot_min (Xaa (pv 0) Xad)) Xaf (fun _ _ => rfl))))), ?_⟩
 obtain ⟨p, us, xs, rfl, hp, ta, h3, q0, q⟩ := h
 have hl := ta.1
 rw [List.length_map] at hl
 cases hx : us with
 | nil =>
   rw [hx] at hp hl
   walk_at "go"
   refine iteT ?_
   walk_at "go"
   exact q0 (List.length_eq_zero_iff.mp hl.symm)
 | cons u r =>
   have hpos : 0 < xs.length := by rw [← hl, hx, List.length_cons]; omega
   have hm : Xee xs (xs.length - 1) < xs.length := by have := Xgv xs (xs.length - 1); omega
   rw [hx] at hp ta
   walk_at "go"
   refine iteF ?_
   walk_at "go"
   refine ⟨p, _, xs, rfl, hp, ta, hpos, fun t _ ht => ?_⟩
   have q1 := q hpos
   have hm3 : (xs.getD (Xee xs (xs.length - 1)) []).length = 3 := by
     have : xs.getD (Xee xs (xs.length - 1)) [] = xs[Xee xs (xs.length - 1)] := by simp [hm]
     rw [this]
     exact h3 _ (List.getElem_mem hm)
   generalize xs.getD (Xee xs (xs.length - 1)) [] = m at ht q1 hm3
   match m, hm3 with
   | [m0, m1, m2], _ =>
     walk_at "go"
     exact q1
def Xow (K : PySem.W.Frag) : Sp := fun vs H Q _ => ∃ (a : Addr) (cs : List Int) (s g c : Int), vs = [.ref a, .int s, .int g, .int c] ∧ SqL K H a (cs.map V.int) ∧ cs.length ≤ 1200 ∧ 0 ≤ s ∧ 0 ≤ g ∧ 0 ≤ c ∧ s + c ≤ cs.length ∧ g + c ≤ cs.length ∧
 ∀ (p : Addr) (H' : Hp), H p = none → Same H H' → H' p = some (.lst ((carI cs s.toNat g.toNat c.toNat).map V.int)) → Q (.ref p) H'
theorem XRj (S : Src K mg "carried" Xop) (T : Txt K mg Y0 Y7 Y9 Y4 Y3 Y6 Y12 Y2 Y8 Y5 Y1 Y10 Y13 Y14 Y11 W0_ W1_)  : Defx P w K mg base "carried" 1 ["cells", "source", "goal", "count"] (Xow K) := by
 refine S.okx Xyd XJk (fun vs H Q E h => by revert h; walk_at "len") (fun f cdv A outer s H vs Q E hr h => ?_)
 refine ⟨_, PSs.nox (Xab (Xaq (i := 4) Xyd.nd rfl (Or.inl rfl) (Xen Xcw (by rfl) T.n_list PyProof.Rows.boot_list (Xaa (pv 0) Xad))) (Xac (Xao (Xal Xmy (Xal Xmy (Xfs Xhn (pv 4) Xlz (Xfg (pv 2))) (Xfs Xhn (pv 4) (Xfg (pv 1)) (Xfg (Xal Xba (pv 1) (pv 3))))) (Xfs Xhn (pv 4) (Xfg (Xal Xba (pv 2) (pv 3))) Xlz))))), ?_⟩
 obtain ⟨a, cs, s, g, c, rfl, hS, hz, h0, h1, h2, h3, h4, q⟩ := h
 have n1 := Xjp cs none (some g)
 have n2 := Xjp cs (some s) (some (s + c))
 have n3 := Xjp cs (some (g + c)) none
 walk_at "go"
 intro p0 m0
 have s0 : Same H (upd H p0 (.lst (cs.map V.int))) := Same.new m0
 have e0 : upd H p0 (.lst (cs.map V.int)) p0 = some (.lst (cs.map V.int)) := upd_same
 generalize upd H p0 (.lst (cs.map V.int)) = H0 at s0 e0 ⊢
 have hS0 : SqL K H0 p0 (cs.map V.int) := SqL.of e0
 clear hS
 walk_at "go"
 intro p1 H1 m1 s1 hh1
 have hS1 := s1.seq hS0
 walk_at "go"
 intro p2 H2 m2 s2 hh2
 have h1' := s2 p1 _ hh1
 have hS2 := s2.seq hS1
 walk_at "go"
 intro p3 H3 m3 s3 hh3
 have hS3 := s3.seq hS2
 walk_at "go"
 intro p4 H4 m4 s4 hh4
 have h3' := s4 p3 _ hh3
 have n4 : (cutI cs none (some g) ++ cutI cs (some s) (some (s + c))).length + (cutI cs (some (g + c)) none).length ≤ 4000 := by rw [List.length_append]; omega
 walk_at "go"
 intro p5 H5 m5 s5 h5
 walk_at "go"
 have s14 := (((s0.trans s1).trans s2).trans s3).trans s4
 refine q p5 H5 (s14.free m5) (s14.trans s5) ?_
 rw [h5, XDq h1 (by omega), Xtq h0 h2 h3, Xki (by omega) h4]
 unfold carI
 rw [show (g + c).toNat = g.toNat + c.toNat by omega]
def Xly (CA : Addr) : Sp := fun vs H Q E => ∃ c b : Int, vs = [.int c, .int b] ∧ (c < 1 ∨ b < 1 → E (.ref CA) none H) ∧ (1 ≤ c → 1 ≤ b → Q .non H)
theorem XPf (S : Src K mg "check_ask" Xrw) (T : Txt K mg Y0 Y7 Y9 Y4 Y3 Y6 Y12 Y2 Y8 Y5 Y1 Y10 Y13 Y14 Y11 W0_ W1_)  : Defx P w K mg base "check_ask" 1 ["count", "bound"] (Xly Y12) := by
 refine S.okx XKa XHf (fun vs H Q E h => by revert h; walk_at "len") (fun f cdv A outer s H vs Q E hr h => ?_)
 refine ⟨_, (Xac (Xax (PW.pt (Xez (Xah Xef (pv 0) Xaf (Xam _)) (Xdg (Xah Xef (pv 1) Xaf (Xam _))))) (Xac (Xcu T.x_NoAsk hr.hd rfl (Xaa Xbd Xad))) Xak)), ?_⟩
 obtain ⟨c, b, rfl, qe, q⟩ := h
 walk_at "go"
 refine Xcf (fun h1 => ?_) (fun h1 => ?_)
 · walk_at "go"
   exact qe (.inl h1)
 · walk_at "go"
   refine Xcf (fun h2 => ?_) (fun h2 => ?_)
   · walk_at "go"
     exact qe (.inr h2)
   · walk_at "go"
     exact q (by omega) (by omega)
def BgW (H1 : Hp) (ps : List Pc) (s : Int) (D : Addr) (i : Nat) (ys : List V) (H2 : Hp) : Prop := Same H1 H2 ∧ H2 D = some (.lst ys) ∧ ys = (((ps.take i).filter fun z => decide (z.a ≤ s)).map fun z => V.int z.a)
def Xml (K : PySem.W.Frag) : Sp := fun vs H Q _ => ∃ (a : Addr) (cs : List Int) (ps : List Pc) (i : Nat) (z : Pc) (s : Int), vs = [.ref a, .int s] ∧ SqL K H a (cs.map V.int) ∧ cs.length ≤ 4000 ∧ Xai 0 ps cs.length ∧ Xbg cs ps ∧ ps[i]? = some z ∧ z.a ≤ s ∧ s < z.a + z.l ∧ ∀ (H' : Hp), Same H H' → Q (.int z.a) H'
theorem Xqk {ps : List Pc} {n s : Int} {i : Nat} {z : Pc} (hc : Xai 0 ps n) (hi : ps[i]? = some z) (h1 : z.a ≤ s) (h2 : s < z.a + z.l) : ∃ D, (ps.filter fun z => decide (z.a ≤ s)) = D ++ [z] := by
 obtain ⟨ds, rs, e1, e2, k1, k2⟩ := Xat hc hi
 subst e1
 refine ⟨ds.filter fun z => decide (z.a ≤ s), ?_⟩
 have e : (rs.filter fun z => decide (z.a ≤ s)) = [] := List.filter_eq_nil_iff.mpr fun p hp => by
   have := k2.fromOn p hp
   rw [decide_eq_false (by omega)]
   exact Bool.false_ne_true
 rw [List.filter_append, List.filter_cons, if_pos (decide_eq_true h1), e]
theorem XQe (S : Src K mg "begin_around" Xpw) (T : Txt K mg Y0 Y7 Y9 Y4 Y3 Y6 Y12 Y2 Y8 Y5 Y1 Y10 Y13 Y14 Y11 W0_ W1_) (D_Z57 : Defx P w K mg base "looked" 4 ["cells"] (Xer K Y4)) : Defx P w K mg base "begin_around" 5 ["cells", "cell"] (Xml K) := by
 refine S.okx Xxp XIe (fun vs H Q E h => by revert h; walk_at "len") (fun f cdv A outer s H vs Q E hr h => ?_)
 refine ⟨_, PSs.nox (Xab (Xhr (i := 2) ["at", "long", "live"] ["cell"] [1] Xxp.nd rfl (Or.inl rfl) rfl (Xcm (Xaj D_Z57 hr (by rfl) (Xaa (pv 0) Xad))) (fun cl C s₀ H₀ ex => (Xhi (K := K) (n := 3) rfl rfl (Xar (Xas (i := 0) (show ((["at", "long", "live"] : List Str) ++ (["cell"] : List Str)).Nodup by decide +kernel) rfl (Or.inl rfl)) (Xar (Xas (i := 1) (show ((["at", "long", "live"] : List Str) ++ (["cell"] : List Str)).Nodup by decide +kernel) rfl (Or.inl rfl)) (Xar (Xas (i := 2) (show ((["at", "long", "live"] : List Str) ++ (["cell"] : List Str)).Nodup by decide +kernel) rfl (Or.inl rfl)) Xcx))))) (fun cl C s₀ H₀ ex => (Xqi (Xah Xyv (pv 0) (pv 3) (Xam _)))) (fun cl C s₀ H₀ ex => (pv 0)) (Xeu rfl rfl rfl) (Xgu (n := "cell") (by decide +kernel) rfl) (fun y h => Xci (by decide +kernel) h)) (Xac (Xao (Xbj Xbh (pv 2) (Xnl Xiv Xaf) (fun _ _ => rfl))))), ?_⟩
 obtain ⟨a, cs, ps, i, z, s, rfl, hS, hz, hc, mk, hi, h1, h2, q⟩ := h
 have hw := Xay hc mk
 have hple := hc.le
 walk_at "go"
 refine ⟨a, cs, rfl, hS, hz, (fun c hc => by rw [hw] at hc; cases hc), fun _ lp us H1 nlp s1 hlp pa => ?_⟩
 have pa : Xbc H1 us ps := by rw [hw] at pa; exact pa
 have hul := pa.1
 walk_at "go"
 refine ⟨lp, rfl, ⟨_, SqL.of hlp⟩, Xdb (K := K) (a := lp) (xs := us) (fs := [some (.int s)]) (BgW H1 ps s) (fun D hD => ⟨Same.new hD, upd_same, rfl⟩) (fun D i ys H2 _ h => SqL.of (h.1 lp _ hlp)) ?_ ?_⟩
 · rintro D i y ys H2 hD hi ⟨s2, hD2, hy⟩ τ hτ
   have hil : i < us.length := (List.getElem?_eq_some_iff.mp hi).1
   obtain ⟨t, w, rfl, hw1, hT⟩ := Xhf (pa.same s2) hi
   have hfl := take_succ_filter (fun p : Pc => decide (p.a ≤ s)) ps i w hw1
   have hyl : ys.length ≤ i := by
     rw [hy, List.length_map]
     refine Nat.le_trans (List.length_filter_le _ _) ?_
     rw [List.length_take]
     omega
   match τ, hτ with
   | [τ0, τ1, τ2], _ =>
     walk_at "go"
     refine ⟨⟨[_, _, _], rfl, rfl⟩, ?_⟩
     walk_at "go"
     refine Xcf (fun hle => ?_) (fun hle => ?_)
     · rw [if_pos (decide_eq_true hle)] at hfl
       walk_at "go"
       refine ⟨hD2, small4000 (by omega), Xiy hil ⟨s2.put hD, upd_same, ?_⟩⟩
       rw [hfl, List.map_append, ← hy]
       rfl
     · rw [if_neg (by rw [decide_eq_false hle]; exact Bool.false_ne_true), List.append_nil] at hfl
       exact Xiy hil ⟨s2, hD2, by rw [hfl]; exact hy⟩
 · rintro D ys H2 hD ⟨s2, hD2, hy⟩
   rw [List.take_of_length_le (by omega)] at hy
   obtain ⟨D0, e0⟩ := Xqk hc hi h1 h2
   rw [e0, List.map_append] at hy
   subst hy
   walk_at "go"
   refine Xgy (SqL.of hD2) ?_
   walk_at "go"
   exact q H2 (s1.trans s2)
/-! ### four classes: what is made, begun, cleared, looked at -/
structure StS (C : W4 → Addr) (i : W4) (x dx a : Addr) (r : Int) (cs : List Int) (ps : List Pc) (H : Hp) : Prop where
 hx : H x = some (.ins (C i) dx (fsF i a r))
 ha : H a = some (.lst (cs.map V.int))
 hz : cs.length ≤ 1200
 hc : Xai 0 ps cs.length
 mm : Xbg cs ps
 nj : Xaw ps
theorem StS.same {C : W4 → Addr} {i : W4} {x dx a : Addr} {r : Int} {cs : List Int} {ps : List Pc} {H H' : Hp} (h : StS C i x dx a r cs ps H) (s : Same H H') : StS C i x dx a r cs ps H' := ⟨s x _ h.hx, s a _ h.ha, h.hz, h.hc, h.mm, h.nj⟩
theorem XGu {i : W4} {a : Addr} {r : Int} (r' : Int) (h : i ≠ W4.next) : fsF i a r = fsF i a r' := by
 cases i
 · rfl
 · rfl
 · exact absurd rfl h
 · rfl
def spMk (C CS : Addr) : Sp := fun vs H Q E => ∃ (x dx : Addr) (n : Int), vs = [.ref x, .int n] ∧ H x = some (.ins C dx []) ∧ n ≤ 4000 ∧ (n < 1 → E (.ref CS) none H) ∧
 (1 ≤ n → ∀ (a : Addr) (H' : Hp), H a = none → Xbk x H H' → H' x = some (.ins C dx [("room_cells", .ref a)]) → H' a = some (.lst ((Xdi n).map V.int)) → Q .non H')
theorem XEf {f₀ : Addr} {fd₀ : FuncData} (F : Fun K "__init__" "Keeper.__init__" Xbu f₀ fd₀) (M : Mk K Y10 f₀) (T : Txt K mg Y0 Y7 Y9 Y4 Y3 Y6 Y12 Y2 Y8 Y5 Y1 Y10 Y13 Y14 Y11 W0_ W1_) (D_Z28 : Defx P w K mg base "fresh_room" 2 ["count"] (Xgc Y9)) : Makex P w K mg base "First" Y10 3 ["self", "size"] [] (spMk Y10 Y9) := by
 refine ⟨⟨f₀, fd₀, [], Xbi F Xct (fun vs H Q E h => by revert h; walk_at "len") (fun cdv A outer s H vs Q E hr h => ?_), M, F.binds Xcv, .nil⟩, T.c_First⟩
 refine ⟨_, (Xac (Xdy (pv 0) (Xce D_Z28 hr (by rfl) (Xaa (pv 1) Xad)) rfl)), ?_⟩
 obtain ⟨x, dx, n, rfl, hx, h4, qe, q⟩ := h
 have cl := T.cl_First
 have na := T.na_First_room_cells
 walk_at "go"
 refine ⟨n, rfl, h4, fun z => qe z, fun h1 p H1 np s1 hp => ?_⟩
 have hx1 := s1 x _ hx
 have hne : p ≠ x := fun z => by rw [z, hx] at np; cases np
 walk_at "go"
 exact q h1 p _ np (Xbk.of s1).put upd_same (look_ne hne hp)
theorem XKv {f₀ : Addr} {fd₀ : FuncData} (F : Fun K "__init__" "Keeper.__init__" Xbu f₀ fd₀) (M : Mk K Y13 f₀) (T : Txt K mg Y0 Y7 Y9 Y4 Y3 Y6 Y12 Y2 Y8 Y5 Y1 Y10 Y13 Y14 Y11 W0_ W1_) (D_Z28 : Defx P w K mg base "fresh_room" 2 ["count"] (Xgc Y9)) : Makex P w K mg base "Best" Y13 3 ["self", "size"] [] (spMk Y13 Y9) := by
 refine ⟨⟨f₀, fd₀, [], Xbi F Xct (fun vs H Q E h => by revert h; walk_at "len") (fun cdv A outer s H vs Q E hr h => ?_), M, F.binds Xcv, .nil⟩, T.c_Best⟩
 refine ⟨_, (Xac (Xdy (pv 0) (Xce D_Z28 hr (by rfl) (Xaa (pv 1) Xad)) rfl)), ?_⟩
 obtain ⟨x, dx, n, rfl, hx, h4, qe, q⟩ := h
 have cl := T.cl_Best
 have na := T.na_Best_room_cells
 walk_at "go"
 refine ⟨n, rfl, h4, fun z => qe z, fun h1 p H1 np s1 hp => ?_⟩
 have hx1 := s1 x _ hx
 have hne : p ≠ x := fun z => by rw [z, hx] at np; cases np
 walk_at "go"
 exact q h1 p _ np (Xbk.of s1).put upd_same (look_ne hne hp)
theorem XEt {f₀ : Addr} {fd₀ : FuncData} (F : Fun K "__init__" "Keeper.__init__" Xbu f₀ fd₀) (M : Mk K Y11 f₀) (T : Txt K mg Y0 Y7 Y9 Y4 Y3 Y6 Y12 Y2 Y8 Y5 Y1 Y10 Y13 Y14 Y11 W0_ W1_) (D_Z28 : Defx P w K mg base "fresh_room" 2 ["count"] (Xgc Y9)) : Makex P w K mg base "Likes" Y11 3 ["self", "size"] [] (spMk Y11 Y9) := by
 refine ⟨⟨f₀, fd₀, [], Xbi F Xct (fun vs H Q E h => by revert h; walk_at "len") (fun cdv A outer s H vs Q E hr h => ?_), M, F.binds Xcv, .nil⟩, T.c_Likes⟩
 refine ⟨_, (Xac (Xdy (pv 0) (Xce D_Z28 hr (by rfl) (Xaa (pv 1) Xad)) rfl)), ?_⟩
 obtain ⟨x, dx, n, rfl, hx, h4, qe, q⟩ := h
 have cl := T.cl_Likes
 have na := T.na_Likes_room_cells
 walk_at "go"
 refine ⟨n, rfl, h4, fun z => qe z, fun h1 p H1 np s1 hp => ?_⟩
 have hx1 := s1 x _ hx
 have hne : p ≠ x := fun z => by rw [z, hx] at np; cases np
 walk_at "go"
 exact q h1 p _ np (Xbk.of s1).put upd_same (look_ne hne hp)
theorem XOf {f₀ : Addr} {fd₀ : FuncData} (F : Fun K "__init__" "Keeper.__init__" Xbu f₀ fd₀) (M : ClsM K Y1 "__init__" f₀) (T : Txt K mg Y0 Y7 Y9 Y4 Y3 Y6 Y12 Y2 Y8 Y5 Y1 Y10 Y13 Y14 Y11 W0_ W1_) (D_Z28 : Defx P w K mg base "fresh_room" 2 ["count"] (Xgc Y9)) : Basex P w K mg base "Stretches" "__init__" 3 ["self", "size"] (spMk Y14 Y9) := by
 refine ⟨⟨Y1, f₀, fd₀, Xbi F Xct (fun vs H Q E h => by revert h; walk_at "len") (fun cdv A outer s H vs Q E hr h => ?_), M, F.binds Xcv, T.c_Stretches⟩⟩
 refine ⟨_, (Xac (Xdy (pv 0) (Xce D_Z28 hr (by rfl) (Xaa (pv 1) Xad)) rfl)), ?_⟩
 obtain ⟨x, dx, n, rfl, hx, h4, qe, q⟩ := h
 have cl := T.cl_Next
 have na := T.na_Next_room_cells
 walk_at "go"
 refine ⟨n, rfl, h4, fun z => qe z, fun h1 p H1 np s1 hp => ?_⟩
 have hx1 := s1 x _ hx
 have hne : p ≠ x := fun z => by rw [z, hx] at np; cases np
 walk_at "go"
 exact q h1 p _ np (Xbk.of s1).put upd_same (look_ne hne hp)
def XIh (C CS : Addr) : Sp := fun vs H Q E => ∃ (x dx : Addr) (n : Int), vs = [.ref x, .int n] ∧ H x = some (.ins C dx []) ∧ n ≤ 4000 ∧ (n < 1 → E (.ref CS) none H) ∧
 (1 ≤ n → ∀ (a : Addr) (H' : Hp), H a = none → Xbk x H H' → H' x = some (.ins C dx [("room_cells", .ref a), ("room_rover", .int 0)]) → H' a = some (.lst ((Xdi n).map V.int)) → Q .non H')
theorem XLd {f₀ : Addr} {fd₀ : FuncData} (F : Fun K "__init__" "Next.__init__" Xec f₀ fd₀) (M : Mk K Y14 f₀) (T : Txt K mg Y0 Y7 Y9 Y4 Y3 Y6 Y12 Y2 Y8 Y5 Y1 Y10 Y13 Y14 Y11 W0_ W1_) (D_Z27 : Basex P w K mg base "Stretches" "__init__" 3 ["self", "size"] (spMk Y14 Y9)) : Makex P w K mg base "Next" Y14 4 ["self", "size"] [] (XIh Y14 Y9) := by
 refine ⟨⟨f₀, fd₀, [], Xbi F Xkr (fun vs H Q E h => by revert h; walk_at "len") (fun cdv A outer s H vs Q E hr h => ?_), M, F.binds Xkf, .nil⟩, T.c_Next⟩
 refine ⟨_, (Xab (Xau (Xuu D_Z27 Xcb hr (by rfl) (Xaa (pv 0) (Xaa (pv 1) Xad)))) (Xac (Xdy (pv 0) Xaf rfl))), ?_⟩
 obtain ⟨x, dx, n, rfl, hx, h4, qe, q⟩ := h
 have cl := T.cl_Next
 have na := T.na_Next_room_cells
 have nr := T.na_Next_room_rover
 walk_at "go"
 refine ⟨x, dx, n, rfl, hx, h4, fun z => qe z, fun h1 a H1 na1 k1 hx1 ha1 => ?_⟩
 have hne : a ≠ x := fun z => by rw [z, hx1] at ha1; cases ha1
 walk_at "go"
 exact q h1 a _ na1 (k1.trans Xbk.refl.put) upd_same (look_ne hne ha1)
def Xhx (K : PySem.W.Frag) (C : W4 → Addr) (i : W4) : Sp := fun vs H Q _ => ∃ (r : Int) (x h dx a : Addr) (cs : List Int) (ps : List Pc), vs = [.ref x, .ref h] ∧ H x = some (.ins (C i) dx (fsF i a r)) ∧ SqL K H h (cs.map V.int) ∧ cs.length ≤ 4000 ∧ Xai 0 ps cs.length ∧ Xcn cs 0 = (ps, none) ∧
 ∀ (a' : Addr) (H' : Hp), H a' = none → Xbk x H H' → H' x = some (.ins (C i) dx (fsF i a' 0)) → H' a' = some (.lst ((Xdz cs (Xdf ps)).map V.int)) → Q .non H'
theorem XQu {f₀ : Addr} {fd₀ : FuncData} (F : Fun K "room_begin" "Stretches.room_begin" s_Z1 f₀ fd₀) (M : ∀ i, (fun i => i ≠ W4.next) i → Meth K ((cF Y10 Y13 Y14 Y11) i) "room_begin" f₀) (T : Txt K mg Y0 Y7 Y9 Y4 Y3 Y6 Y12 Y2 Y8 Y5 Y1 Y10 Y13 Y14 Y11 W0_ W1_) (D_Z53 : Defx P w K mg base "joined" 5 ["cells"] (Xjr K)) : Xgq P w K mg base (fun i => i ≠ W4.next) (cF Y10 Y13 Y14 Y11) "room_begin" 6 ["self", "cells"] [] (Xhx K (cF Y10 Y13 Y14 Y11)) := by
 refine Xgq.made (Xbi F XOk (fun vs H Q E h => by obtain ⟨_, _, h⟩ := h; revert h; walk_at "len") (fun cdv A outer s H vs Q E hr h => ?_)) M (F.binds XQj) (T_cl T)
 refine ⟨_, PSs.nox (Xac (Xdy (pv 0) (Xaj D_Z53 hr (by rfl) (Xaa (pv 1) Xad)) rfl)), ?_⟩
 obtain ⟨i, hi, r, x, h, dx, a, cs, ps, rfl, hx, hS, hz, hc, hw, q⟩ := h
 have hi : i ≠ W4.next := hi
 have cl := T_cl T i
 have na := T_na T i
 walk_at "go"
 refine ⟨h, cs, ps, rfl, hS, hz, hc, hw, fun p H1 np s1 hp => ?_⟩
 have hx1 := s1 x _ hx
 have hne : p ≠ x := fun z => by rw [z, hx] at np; cases np
 walk_at "go"
 exact q p _ np (Xbk.of s1).put (by rw [upd_same, Xfj, XGu 0 hi]) (look_ne hne hp)
theorem XRb {f₀ : Addr} {fd₀ : FuncData} (F : Fun K "room_begin" "Next.room_begin" s_Z6 f₀ fd₀) (M : ∀ i, (fun i => i = W4.next) i → Meth K ((cF Y10 Y13 Y14 Y11) i) "room_begin" f₀) (T : Txt K mg Y0 Y7 Y9 Y4 Y3 Y6 Y12 Y2 Y8 Y5 Y1 Y10 Y13 Y14 Y11 W0_ W1_) (D_Z53 : Defx P w K mg base "joined" 5 ["cells"] (Xjr K)) : Xgq P w K mg base (fun i => i = W4.next) (cF Y10 Y13 Y14 Y11) "room_begin" 6 ["self", "cells"] [] (Xhx K (cF Y10 Y13 Y14 Y11)) := by
 refine Xgq.made (Xbi F XPw (fun vs H Q E h => by obtain ⟨_, _, h⟩ := h; revert h; walk_at "len") (fun cdv A outer s H vs Q E hr h => ?_)) M (F.binds XRl) (T_cl T)
 refine ⟨_, PSs.nox (Xab (Xdy (pv 0) (Xaj D_Z53 hr (by rfl) (Xaa (pv 1) Xad)) rfl) (Xac (Xdy (pv 0) Xaf rfl))), ?_⟩
 obtain ⟨i, hi, r, x, h, dx, a, cs, ps, rfl, hx, hS, hz, hc, hw, q⟩ := h
 have hi : i = W4.next := hi
 subst hi
 have hx : H x = some (.ins Y14 dx [("room_cells", .ref a), ("room_rover", .int r)]) := hx
 have cl := T.cl_Next
 have na := T.na_Next_room_cells
 have nr := T.na_Next_room_rover
 walk_at "go"
 refine ⟨h, cs, ps, rfl, hS, hz, hc, hw, fun p H1 np s1 hp => ?_⟩
 have hx1 := s1 x _ hx
 have hne : p ≠ x := fun z => by rw [z, hx] at np; cases np
 walk_at "go"
 generalize hH : upd H1 x _ = H2
 have hx2 : H2 x = some (.ins Y14 dx [("room_cells", .ref p), ("room_rover", .int r)]) := by rw [← hH]; exact upd_same
 have hp2 : H2 p = some (.lst ((Xdz cs (Xdf ps)).map V.int)) := by rw [← hH]; exact look_ne hne hp
 have k2 : Xbk x H H2 := by rw [← hH]; exact (Xbk.of s1).put
 walk_at "go"
 exact q p _ np k2.put upd_same (look_ne hne hp2)
theorem Xhd {n : Int} (h : 1 ≤ n) : Xai 0 [⟨0, n, false⟩] ((Xdi n).length : Int) ∧ Xbg (Xdi n) [⟨0, n, false⟩] := by
 have hl := Xev (show 0 ≤ n by omega)
 refine ⟨⟨rfl, h, (fun h => by cases h), ?_⟩, fun p hp => ?_⟩
 · show (0 : Int) + n = _
   rw [hl]; omega
 · rw [List.mem_singleton.mp hp]
   unfold Xdi at hl ⊢
   rw [Xbq] at hl
   exact ⟨Xhu (Int.le_refl 0) h (by omega), Xis (Int.le_refl 0) h (by omega)⟩
def Xql (C : W4 → Addr) (i : W4) : Sp := fun vs H Q _ => ∃ (r : Int) (x dx a : Addr) (cs : List Int), vs = [.ref x] ∧ H x = some (.ins (C i) dx (fsF i a r)) ∧ H a = some (.lst (cs.map V.int)) ∧ 1 ≤ cs.length ∧ cs.length ≤ 1200 ∧
 ∀ (a' : Addr) (cs' : List Int) (H' : Hp), H a' = none → Xbk x H H' → cs'.length = cs.length → StS C i x dx a' 0 cs' [⟨0, cs.length, false⟩] H' → Q .non H'
theorem XRf {f₀ : Addr} {fd₀ : FuncData} (F : Fun K "clear" "Keeper.clear" Xvu f₀ fd₀) (M : ∀ i, Meth K ((cF Y10 Y13 Y14 Y11) i) "clear" f₀) (T : Txt K mg Y0 Y7 Y9 Y4 Y3 Y6 Y12 Y2 Y8 Y5 Y1 Y10 Y13 Y14 Y11 W0_ W1_) (D_Z28 : Defx P w K mg base "fresh_room" 2 ["count"] (Xgc Y9)) (D_room_begin : Xbl P w K mg base (cF Y10 Y13 Y14 Y11) "room_begin" 6 ["self", "cells"] [] (Xhx K (cF Y10 Y13 Y14 Y11))) : Xbl P w K mg base (cF Y10 Y13 Y14 Y11) "clear" 7 ["self"] [] (Xql (cF Y10 Y13 Y14 Y11)) := by
 refine Xbl.made (Xbi F XJb (fun vs H Q E h => by obtain ⟨_, h⟩ := h; revert h; walk_at "len") (fun cdv A outer s H vs Q E hr h => ?_)) M (F.binds XKe) (T_cl T)
 refine ⟨_, PSs.nox (Xac (Xau (Xbb D_room_begin Xcg hr (pv 0) (Xaa (Xaj D_Z28 hr (by rfl) (Xaa (Xbm Xbo (by rfl) T.n_len PySem.boot_len (Xaa (Xcp (pv 0) rfl) Xad)) Xad)) Xad)))), ?_⟩
 obtain ⟨i, r, x, dx, a, cs, rfl, hx, ha, h1, hz, q⟩ := h
 have cl := T_cl T i
 have na := T_na T i
 walk_at "go"
 refine ⟨(cs.length : Int), rfl, by omega, fun z => absurd z (by omega), fun _ p H1 np s1 hp => ?_⟩
 have hx1 := s1 x _ hx
 obtain ⟨f1, f2⟩ := Xhd (n := (cs.length : Int)) (by omega)
 have fl := Xev (show (0 : Int) ≤ cs.length by omega)
 have fw := Xay f1 f2
 have hj : Xdf [(⟨0, cs.length, false⟩ : Pc)] = [⟨0, cs.length, false⟩] := rfl
 have f3 := Xgh (ds := []) (rs := [⟨0, cs.length, false⟩]) (m := 0) (cs := Xdi cs.length) rfl f1 (Xbg.nil _)
 walk_at "go"
 refine ⟨r, x, p, dx, a, Xdi cs.length, _, rfl, hx1, SqL.of hp, by omega, f1, fw, fun a' H2 na2 k2 hx2 ha2 => ?_⟩
 walk_at "go"
 rw [hj] at ha2
 exact q a' _ H2 (s1.free na2) ((Xbk.of s1).trans k2) (by rw [Xds]; exact Int.ofNat.inj fl) ⟨hx2, ha2, by rw [Xds]; omega, by rw [Xds]; exact f1, f3, Xcq _⟩
def Xjd (C : W4 → Addr) (i : W4) : Sp := fun vs H Q _ => ∃ (r r' : Int) (x dx a : Addr), vs = [.ref x, .int r'] ∧ H x = some (.ins (C i) dx (fsF i a r)) ∧ ∀ H', Xbk x H H' → H' x = some (.ins (C i) dx (fsF i a r')) → Q .non H'
theorem XPd {f₀ : Addr} {fd₀ : FuncData} (F : Fun K "room_granted" "Stretches.room_granted" s_Z0 f₀ fd₀) (M : ∀ i, (fun i => i ≠ W4.next) i → Meth K ((cF Y10 Y13 Y14 Y11) i) "room_granted" f₀) (T : Txt K mg Y0 Y7 Y9 Y4 Y3 Y6 Y12 Y2 Y8 Y5 Y1 Y10 Y13 Y14 Y11 W0_ W1_)  : Xgq P w K mg base (fun i => i ≠ W4.next) (cF Y10 Y13 Y14 Y11) "room_granted" 1 ["self", "behind"] [] (Xjd (cF Y10 Y13 Y14 Y11)) := by
 refine Xgq.made (Xbi F XPy (fun vs H Q E h => by obtain ⟨_, _, h⟩ := h; revert h; walk_at "len") (fun cdv A outer s H vs Q E hr h => ?_)) M (F.binds XPl) (T_cl T)
 refine ⟨_, PSs.nox (Xac XCt), ?_⟩
 obtain ⟨i, hi, r, r', x, dx, a, rfl, hx, q⟩ := h
 have hi : i ≠ W4.next := hi
 walk_at "go"
 exact q _ Xbk.refl (by rw [← XGu r' hi]; exact hx)
theorem XQi {f₀ : Addr} {fd₀ : FuncData} (F : Fun K "room_granted" "Next.room_granted" s_Z4 f₀ fd₀) (M : ∀ i, (fun i => i = W4.next) i → Meth K ((cF Y10 Y13 Y14 Y11) i) "room_granted" f₀) (T : Txt K mg Y0 Y7 Y9 Y4 Y3 Y6 Y12 Y2 Y8 Y5 Y1 Y10 Y13 Y14 Y11 W0_ W1_)  : Xgq P w K mg base (fun i => i = W4.next) (cF Y10 Y13 Y14 Y11) "room_granted" 1 ["self", "behind"] [] (Xjd (cF Y10 Y13 Y14 Y11)) := by
 refine Xgq.made (Xbi F XPm (fun vs H Q E h => by obtain ⟨_, _, h⟩ := h; revert h; walk_at "len") (fun cdv A outer s H vs Q E hr h => ?_)) M (F.binds XPb) (T_cl T)
 refine ⟨_, PSs.nox (Xac (Xdy (pv 0) (pv 1) rfl)), ?_⟩
 obtain ⟨i, hi, r, r', x, dx, a, rfl, hx, q⟩ := h
 have hi : i = W4.next := hi
 subst hi
 have hx : H x = some (.ins Y14 dx [("room_cells", .ref a), ("room_rover", .int r)]) := hx
 have cl := T.cl_Next
 have na := T.na_Next_room_cells
 have nr := T.na_Next_room_rover
 walk_at "go"
 exact q _ Xbk.refl.put upd_same
def Xgw (C : W4 → Addr) (k : W4) : Sp := fun vs H Q _ => ∃ (r : Int) (x dx a : Addr) (cs : List Int), vs = [.ref x] ∧ H x = some (.ins (C k) dx (fsF k a r)) ∧ H a = some (.lst (cs.map V.int)) ∧
 ∀ (p : Addr) (H' : Hp), H p = none → Same H H' → H' p = some (.lst (cs.map V.int)) → Q (.ref p) H'
theorem XOe {f₀ : Addr} {fd₀ : FuncData} (F : Fun K "cells" "Keeper.cells" Xud f₀ fd₀) (M : ∀ i, Meth K ((cF Y10 Y13 Y14 Y11) i) "cells" f₀) (T : Txt K mg Y0 Y7 Y9 Y4 Y3 Y6 Y12 Y2 Y8 Y5 Y1 Y10 Y13 Y14 Y11 W0_ W1_)  : Xbl P w K mg base (cF Y10 Y13 Y14 Y11) "cells" 1 ["self"] [] (Xgw (cF Y10 Y13 Y14 Y11)) := by
 refine Xbl.made (Xbi F XKt (fun vs H Q E h => by obtain ⟨_, h⟩ := h; revert h; walk_at "len") (fun cdv A outer s H vs Q E hr h => ?_)) M (F.binds XLm) (T_cl T)
 refine ⟨_, PSs.nox (Xac (Xao (Xen Xcw (by rfl) T.n_list PyProof.Rows.boot_list (Xaa (Xcp (pv 0) rfl) Xad)))), ?_⟩
 obtain ⟨k, r, x, dx, a, cs, rfl, hx, ha, q⟩ := h
 have cl := T_cl T k
 have na := T_na T k
 walk_at "go"
 intro p np
 walk_at "go"
 exact q p _ np (Same.new np) upd_same
def XLv (K : PySem.W.Frag) (C : W4 → Addr) (CS CB : Addr) (k : W4) : Sp := fun vs H Q E => ∃ (r : Int) (x h dx a : Addr) (cs0 cs : List Int), vs = [.ref x, .ref h] ∧ H x = some (.ins (C k) dx (fsF k a r)) ∧ H a = some (.lst (cs0.map V.int)) ∧ SqL K H h (cs.map V.int) ∧ cs.length ≤ 4000 ∧ cs0.length ≤ 4000 ∧
 (cs.length ≠ cs0.length → ∀ H', Same H H' → E (.ref CS) none H') ∧
 (cs.length = cs0.length → ∃ b, (Xcn cs 0).2 = some b ∧ ∀ (d : Addr) (H' : Hp), Same H H' → E (.ref CB) (some d) H')
theorem XPg {f₀ : Addr} {fd₀ : FuncData} (F : Fun K "lay" "Keeper.lay" Xvq f₀ fd₀) (M : ∀ i, Meth K ((cF Y10 Y13 Y14 Y11) i) "lay" f₀) (T : Txt K mg Y0 Y7 Y9 Y4 Y3 Y6 Y12 Y2 Y8 Y5 Y1 Y10 Y13 Y14 Y11 W0_ W1_) (D_Z57 : Defx P w K mg base "looked" 4 ["cells"] (Xer K Y4)) (D_room_begin : Xbl P w K mg base (cF Y10 Y13 Y14 Y11) "room_begin" 6 ["self", "cells"] [] (Xhx K (cF Y10 Y13 Y14 Y11))) : Xbl P w K mg base (cF Y10 Y13 Y14 Y11) "lay" 7 ["self", "cells"] [] (XLv K (cF Y10 Y13 Y14 Y11) Y9 Y4) := by
 refine Xbl.made (Xbi F XNq (fun vs H Q E h => by obtain ⟨_, h⟩ := h; revert h; walk_at "len") (fun cdv A outer s H vs Q E hr h => ?_)) M (F.binds XHy) (T_cl T)
 refine ⟨_, (Xab (Xax (Xah Xjg (Xbm Xbo (by rfl) T.n_len PySem.boot_len (Xaa (pv 1) Xad)) (Xbm Xbo (by rfl) T.n_len PySem.boot_len (Xaa (Xcp (pv 0) rfl) Xad)) (Xam _)) (Xac (Xcu T.x_NoSize hr.hd rfl (Xaa Xbd Xad))) Xak) (Xab (Xau (Xce D_Z57 hr (by rfl) (Xaa (pv 1) Xad))) (Xac (Xau (Xbb D_room_begin Xcg hr (pv 0) (Xaa (pv 1) Xad)))))), ?_⟩
 obtain ⟨k, r, x, h, dx, a, cs0, cs, rfl, hx, ha, hS, hz, hz0, qs, qb⟩ := h
 have cl := T_cl T k
 have na := T_na T k
 by_cases hl : cs.length = cs0.length
 · obtain ⟨b, hb, qb⟩ := qb hl
   walk_at "go"
   refine ⟨h, cs, rfl, hS, hz, fun b' hb' d H1 s1 hd => qb d H1 s1, fun hn => (by rw [hb] at hn; cases hn)⟩
 · have hl' : (cs.length : Int) ≠ cs0.length := by omega
   walk_at "go"
   exact qs hl _ (Same.refl _)
def Xmk (C : W4 → Addr) (CP : Addr) (k : W4) : Sp := fun vs H Q E => ∃ (r : Int) (x dx a : Addr) (cs : List Int) (ps : List Pc) (pl : Int), vs = [.ref x, .int pl] ∧ StS C k x dx a r cs ps H ∧ ((∀ z ∈ ps, z.v = true → z.a + 1 ≠ pl) → ∀ H', Same H H' → E (.ref CP) none H') ∧
 (∀ z ∈ ps, z.v = true → z.a + 1 = pl → ∀ (H' : Hp), Same H H' → Q (.int (z.l - 2)) H')
theorem XOj {f₀ : Addr} {fd₀ : FuncData} (F : Fun K "many" "Keeper.many" Xwn f₀ fd₀) (M : ∀ i, Meth K ((cF Y10 Y13 Y14 Y11) i) "many" f₀) (T : Txt K mg Y0 Y7 Y9 Y4 Y3 Y6 Y12 Y2 Y8 Y5 Y1 Y10 Y13 Y14 Y11 W0_ W1_) (D_Z45 : Defx P w K mg base "live_at" 6 ["cells", "at"] (Xfx K Y3 true)) : Xbl P w K mg base (cF Y10 Y13 Y14 Y11) "many" 7 ["self", "place"] [] (Xmk (cF Y10 Y13 Y14 Y11) Y3) := by
 refine Xbl.made (Xbi F Xmf (fun vs H Q E h => by obtain ⟨_, h⟩ := h; revert h; walk_at "len") (fun cdv A outer s H vs Q E hr h => ?_)) M (F.binds XMb) (T_cl T)
 refine ⟨_, (Xab (Xel (Xce D_Z45 hr (by rfl) (Xaa (Xcp (pv 0) rfl) (Xaa (Xal Xby (pv 1) Xaf) Xad))) (Xgm rfl (Xar (Xas (i := 2) Xmf.nd rfl (Or.inl rfl)) (Xar (Xas (i := 3) Xmf.nd rfl (Or.inl rfl)) (Xar (Xas (i := 4) Xmf.nd rfl (Or.inl rfl)) Xcx))))) (Xac (Xao (Xal Xby (pv 3) (Xdd (v := .int 2) (by rfl) T.g_MARKS ⟨_, rfl⟩))))), ?_⟩
 obtain ⟨k, r, x, dx, a, cs, ps, pl, rfl, ⟨hx, ha, hz, hc, mk, nj⟩, qe, q⟩ := h
 have cl := T_cl T k
 have na := T_na T k
 have hw := Xay hc mk
 walk_at "go"
 refine ⟨a, cs, ps, pl - 1, rfl, SqL.of ha, by omega, hw, hc, fun y hy hk hv t H1 s1 ht => ?_, fun hn H1 s1 => qe (fun z hz hv hk => hn z hz (by omega) hv) H1 s1⟩
 walk_at "go"
 exact q y hy hv (by omega) H1 s1
def Xja (C : W4 → Addr) (CP CC : Addr) (k : W4) : Sp := fun vs H Q E => ∃ (r : Int) (x dx a : Addr) (cs : List Int) (ps : List Pc) (pl j : Int), vs = [.ref x, .int pl, .int j] ∧ StS C k x dx a r cs ps H ∧ ((∀ z ∈ ps, z.v = true → z.a + 1 ≠ pl) → ∀ H', Same H H' → E (.ref CP) none H') ∧
 (∀ z ∈ ps, z.v = true → z.a + 1 = pl → j < 0 ∨ z.l - 2 ≤ j → ∀ (H' : Hp), Same H H' → E (.ref CC) none H') ∧
 (∀ z ∈ ps, z.v = true → z.a + 1 = pl → 0 ≤ j → j < z.l - 2 → ∀ (H' : Hp), Same H H' → Q (.int (pl + j)) H')
theorem XQx {f₀ : Addr} {fd₀ : FuncData} (F : Fun K "room_cell_of" "Keeper.room_cell_of" s_Z2 f₀ fd₀) (M : ∀ i, Meth K ((cF Y10 Y13 Y14 Y11) i) "room_cell_of" f₀) (T : Txt K mg Y0 Y7 Y9 Y4 Y3 Y6 Y12 Y2 Y8 Y5 Y1 Y10 Y13 Y14 Y11 W0_ W1_) (D_Z68 : Xbl P w K mg base (cF Y10 Y13 Y14 Y11) "many" 7 ["self", "place"] [] (Xmk (cF Y10 Y13 Y14 Y11) Y3)) : Xbl P w K mg base (cF Y10 Y13 Y14 Y11) "room_cell_of" 8 ["self", "place", "k"] [] (Xja (cF Y10 Y13 Y14 Y11) Y3 Y6) := by
 refine Xbl.made (Xbi F XLg (fun vs H Q E h => by obtain ⟨_, h⟩ := h; revert h; walk_at "len") (fun cdv A outer s H vs Q E hr h => ?_)) M (F.binds XRu) (T_cl T)
 refine ⟨_, (Xab (Xaq (i := 3) XLg.nd rfl (Or.inl rfl) (Xbb D_Z68 Xcb hr (pv 0) (Xaa (pv 1) Xad))) (Xab (Xax (PW.pt (Xez (Xah Xef (pv 2) Xaf (Xam _)) (Xdg (Xah Xti (pv 2) (pv 3) (Xam _))))) (Xac (Xcu T.x_NoCell hr.hd rfl (Xaa Xbd Xad))) Xak) (Xac (Xao (Xal Xba (pv 1) (pv 2)))))), ?_⟩
 obtain ⟨k, r, x, dx, a, cs, ps, pl, j, rfl, S, qp, qc, q⟩ := h
 have hx := S.hx
 walk_at "go"
 refine ⟨r, x, dx, a, cs, ps, pl, rfl, S, qp, fun z hz hv hk H1 s1 => ?_⟩
 walk_at "go"
 refine Xcf (fun h1 => ?_) (fun h1 => ?_)
 · walk_at "go"
   exact qc z hz hv hk (.inl h1) H1 s1
 · walk_at "go"
   refine Xcf (fun h2 => ?_) (fun h2 => ?_)
   · walk_at "go"
     exact qc z hz hv hk (.inr (by omega)) H1 s1
   · walk_at "go"
     exact q z hz hv hk (by omega) (by omega) H1 s1
theorem Xnd {cs : List Int} {ps : List Pc} {z : Pc} {n x k : Int} (c : Xai 0 ps n) (m : Xbg cs ps) (hz : z ∈ ps) (hv : z.v = true) (k0 : 0 ≤ k) (k1 : k < z.l - 2) : Xbg (cs.set (z.a + 1 + k).toNat x) ps := fun p hp => by
 obtain ⟨z0, z1, z3, z4⟩ := c.mem z hz
 obtain ⟨p0, p1, p3, p4⟩ := c.mem p hp
 obtain ⟨m1, m2⟩ := m p hp
 have far : p.a ≠ z.a + 1 + k ∧ p.a + p.l - 1 ≠ z.a + 1 + k := by
   by_cases e : p = z
   · subst e; omega
   · constructor
     · intro h
       exact e (Xeq c hp hz (Int.le_refl _) (by omega) (by omega) (by omega))
     · intro h
       exact e (Xeq c hp hz (p := p.a + p.l - 1) (by omega) (by omega) (by omega) (by omega))
 exact ⟨by rw [List.getElem?_set_ne (by omega)]; exact m1, by rw [List.getElem?_set_ne (by omega)]; exact m2⟩
def XJa (C : W4 → Addr) (CP CC : Addr) (k : W4) : Sp := fun vs H Q E => ∃ (r : Int) (x dx a : Addr) (cs : List Int) (ps : List Pc) (pl j n : Int), vs = [.ref x, .int pl, .int j, .int n] ∧ StS C k x dx a r cs ps H ∧ ((∀ z ∈ ps, z.v = true → z.a + 1 ≠ pl) → ∀ H', Same H H' → E (.ref CP) none H') ∧
 (∀ z ∈ ps, z.v = true → z.a + 1 = pl → j < 0 ∨ z.l - 2 ≤ j → ∀ (H' : Hp), Same H H' → E (.ref CC) none H') ∧
 (∀ z ∈ ps, z.v = true → z.a + 1 = pl → 0 ≤ j → j < z.l - 2 → ∀ (cs' : List Int) (H' : Hp), Xbk a H H' → cs'.length = cs.length → StS C k x dx a r cs' ps H' → Q .non H')
theorem XQn {f₀ : Addr} {fd₀ : FuncData} (F : Fun K "put" "Keeper.put" Xwq f₀ fd₀) (M : ∀ i, Meth K ((cF Y10 Y13 Y14 Y11) i) "put" f₀) (T : Txt K mg Y0 Y7 Y9 Y4 Y3 Y6 Y12 Y2 Y8 Y5 Y1 Y10 Y13 Y14 Y11 W0_ W1_) (D_Z15 : Xbl P w K mg base (cF Y10 Y13 Y14 Y11) "room_cell_of" 8 ["self", "place", "k"] [] (Xja (cF Y10 Y13 Y14 Y11) Y3 Y6)) : Xbl P w K mg base (cF Y10 Y13 Y14 Y11) "put" 9 ["self", "place", "k", "number"] [] (XJa (cF Y10 Y13 Y14 Y11) Y3 Y6) := by
 refine Xbl.made (Xbi F Xyg (fun vs H Q E h => by obtain ⟨_, h⟩ := h; revert h; walk_at "len") (fun cdv A outer s H vs Q E hr h => ?_)) M (F.binds XMt) (T_cl T)
 refine ⟨_, (Xab (Xaq (i := 4) Xyg.nd rfl (Or.inl rfl) (Xbb D_Z15 Xcb hr (pv 0) (Xaa (pv 1) (Xaa (pv 2) Xad)))) (Xac (Xel (pv 3) (Xip (Xcp (pv 0) rfl) (pv 4) Xew)))), ?_⟩
 obtain ⟨k, r, x, dx, a, cs, ps, pl, j, n, rfl, S, qp, qc, q⟩ := h
 have hx := S.hx
 have cl := T_cl T k
 have na := T_na T k
 walk_at "go"
 refine ⟨r, x, dx, a, cs, ps, pl, j, rfl, S, qp, qc, fun z hz hv hk h0 h1 H1 s1 => ?_⟩
 subst hk
 obtain ⟨z0, z1, z3, z4⟩ := S.hc.mem z hz
 have hz2 := S.hz
 have hx1 := s1 x _ hx
 have ha1 := s1 a _ S.ha
 have hxa : x ≠ a := fun e => by rw [e, ha1] at hx1; cases hx1
 have ls : (cs.set (z.a + 1 + j).toNat n).length = cs.length := List.length_set
 walk_at "go"
 exact q z hz hv rfl h0 h1 _ _ (Xbk.of s1).put ls ⟨look_ne hxa hx1, upd_same, by rw [ls]; exact hz2, by rw [ls]; exact S.hc, Xnd S.hc S.mm hz hv h0 h1, S.nj⟩
def XKz (C : W4 → Addr) (CP CC : Addr) (k : W4) : Sp := fun vs H Q E => ∃ (r : Int) (x dx a : Addr) (cs : List Int) (ps : List Pc) (pl j : Int), vs = [.ref x, .int pl, .int j] ∧ StS C k x dx a r cs ps H ∧ ((∀ z ∈ ps, z.v = true → z.a + 1 ≠ pl) → ∀ H', Same H H' → E (.ref CP) none H') ∧
 (∀ z ∈ ps, z.v = true → z.a + 1 = pl → j < 0 ∨ z.l - 2 ≤ j → ∀ (H' : Hp), Same H H' → E (.ref CC) none H') ∧
 (∀ z ∈ ps, z.v = true → z.a + 1 = pl → 0 ≤ j → j < z.l - 2 → ∀ (v : Int) (H' : Hp), Same H H' → Q (.int v) H')
theorem XPr {f₀ : Addr} {fd₀ : FuncData} (F : Fun K "get" "Keeper.get" Xxh f₀ fd₀) (M : ∀ i, Meth K ((cF Y10 Y13 Y14 Y11) i) "get" f₀) (T : Txt K mg Y0 Y7 Y9 Y4 Y3 Y6 Y12 Y2 Y8 Y5 Y1 Y10 Y13 Y14 Y11 W0_ W1_) (D_Z15 : Xbl P w K mg base (cF Y10 Y13 Y14 Y11) "room_cell_of" 8 ["self", "place", "k"] [] (Xja (cF Y10 Y13 Y14 Y11) Y3 Y6)) : Xbl P w K mg base (cF Y10 Y13 Y14 Y11) "get" 9 ["self", "place", "k"] [] (XKz (cF Y10 Y13 Y14 Y11) Y3 Y6) := by
 refine Xbl.made (Xbi F XHb (fun vs H Q E h => by obtain ⟨_, h⟩ := h; revert h; walk_at "len") (fun cdv A outer s H vs Q E hr h => ?_)) M (F.binds XNn) (T_cl T)
 refine ⟨_, (Xac (Xao (Xbj Xbh (Xcp (pv 0) rfl) (Xbb D_Z15 Xcb hr (pv 0) (Xaa (pv 1) (Xaa (pv 2) Xad))) (fun _ _ => rfl)))), ?_⟩
 obtain ⟨k, r, x, dx, a, cs, ps, pl, j, rfl, S, qp, qc, q⟩ := h
 have hx := S.hx
 have cl := T_cl T k
 have na := T_na T k
 walk_at "go"
 refine ⟨r, x, dx, a, cs, ps, pl, j, rfl, S, qp, qc, fun z hz hv hk h0 h1 H1 s1 => ?_⟩
 obtain ⟨z0, z1, z3, z4⟩ := S.hc.mem z hz
 have hx1 := s1 x _ hx
 have ha1 := s1 a _ S.ha
 walk_at "go"
 exact q z hz hv hk h0 h1 _ H1 s1
theorem XBe {X : Cx} {K : PySem.W.Frag} {e : Expr} {f : Str} {pos : Pos} {ta : TE} (hK : X.K = K) (he : PE X e ta) (hb : attributeBase e f X.env (eval e X.env) = eval e X.env) : PE X (.Attribute e f pos) (tFld K ta f) := hK ▸ Xcp he hb
theorem Xwt {L b : Int} {z : Pc} {q : Int × Int} (hb : 1 ≤ b) (h : Xfa L b z = some q) : z.v = false ∧ q = (z.a, fpl z.a b) ∧ z.a ≤ fpl z.a b ∧ fpl z.a b + L ≤ z.a + z.l := by
 unfold Xfa at h
 split at h
 · cases h
 · rename_i hv
   unfold fp at h
   split at h
   · rename_i hf
     have h : (z.a, fpl z.a b) = q := by simpa using h
     refine ⟨by simpa using hv, h.symm, ?_, hf⟩
     have := Int.emod_lt_of_pos z.a (show 0 < b by omega)
     unfold fpl
     omega
   · cases h
/-! bit_length -/
def bl (n : Int) : Int := ((Builtin.Int.intBits n : Nat) : Int)
section
variable {X : Cx}
def XFc : V → List V → Hp → VK → Prop := fun x xs H Q => ∃ i, x = .int i ∧ xs = [] ∧ Q (.int (bl i)) H
theorem Xsb : MtM X "int.bit_length" XFc := by
 intro pins s σ H x xs v us Q I rx rs h
 obtain ⟨i, rfl, rfl, q⟩ := h
 obtain ⟨t, rfl⟩ := rx
 cases rs
 exact PyProof.Rows.call_int_bit_length ⟨.int (bl i), H, I.tok _, ⟨_, rfl⟩, q⟩
end
theorem XDh {X : Cx} {K : PySem.W.Frag} {T : String} {name : Str} {id : String} {r : V → List V → Hp → VK → Prop} {o : Expr} {to : TE} {apos cpos : Pos} (hK : X.K = K) (pa : PlainAttrs T) (slot : Slot T name id) (hty : typeOf (.builtin id) = pure (.type "method_descriptor")) (hm : MtR X id r) (ho : PE X o to)
   (hbase : attributeBase o name X.env (eval o X.env) = eval o X.env := by rfl) (hline : (apos.endLine == cpos.line) = true := by rfl) : PE X (.Call (.Attribute o name apos) [] [] cpos) (tBM0 K T r to) := hK ▸ XIg pa slot hty hm ho hbase hline
theorem Xfm {ps : List Pc} {L b : Int} {q : Int × Int} (h : q ∈ Xav ps L b) : ∃ z ∈ ps, z.a = q.1 := by
 obtain ⟨z, hz, e⟩ := List.mem_filterMap.mp h
 refine ⟨z, hz, ?_⟩
 unfold Xfa at e
 split at e
 · cases e
 · obtain ⟨p, _, e1⟩ := Option.map_eq_some_iff.mp e
   rw [← e1]
/-! the ranks of the four rules, and the place that is chosen -/
def rk4 (i : W4) (r : Int) (cs : List Int) (q : Int × Int) : List Int := match i with
 | .first => [0, q.1, q.2]
 | .best => [cs.getD q.1.toNat 0 / 2, q.1, q.2]
 | .next => [if r ≤ q.1 then 0 else 1, q.1, q.2]
 | .likes => [bl (cs.getD q.1.toNat 0 / 2), q.1, q.2]
def chQ (i : W4) (r : Int) (cs : List Int) (qs : List (Int × Int)) : Option Int := if qs.length = 0 then none else some (((qs.map (rk4 i r cs)).getD (Xee (qs.map (rk4 i r cs)) ((qs.map (rk4 i r cs)).length - 1)) []).getD 2 0)
theorem Xjo {i : W4} {r : Int} {cs : List Int} {q : Int × Int} : (rk4 i r cs q).length = 3 := by cases i <;> rfl
theorem XDo {i : W4} {r : Int} {cs : List Int} {q : Int × Int} : (rk4 i r cs q).getD 2 0 = q.2 := by cases i <;> rfl
theorem Xld {i : W4} {r : Int} {cs : List Int} {qs : List (Int × Int)} (h : chQ i r cs qs = none) : qs = [] := by
 unfold chQ at h
 split at h
 · rename_i e
   exact List.length_eq_zero_iff.mp e
 · cases h
theorem XLl {i : W4} {r : Int} {cs : List Int} {qs : List (Int × Int)} {s : Int} (h : chQ i r cs qs = some s) : ∃ q ∈ qs, q.2 = s := by
 unfold chQ at h
 split at h
 · cases h
 · rename_i hl
   have hm : Xee (qs.map (rk4 i r cs)) ((qs.map (rk4 i r cs)).length - 1) < qs.length := by
     have h1 := Xgv (qs.map (rk4 i r cs)) ((qs.map (rk4 i r cs)).length - 1)
     have h2 : (qs.map (rk4 i r cs)).length = qs.length := List.length_map _
     omega
   generalize Xee (qs.map (rk4 i r cs)) ((qs.map (rk4 i r cs)).length - 1) = m at h hm
   have e : (qs.map (rk4 i r cs)).getD m [] = rk4 i r cs qs[m] := by
     rw [List.getD_eq_getElem?_getD, List.getElem?_map, List.getElem?_eq_getElem hm]
     rfl
   rw [e, XDo] at h
   exact ⟨qs[m], List.getElem_mem hm, Option.some.inj h⟩
theorem XBq {i : W4} {r : Int} {cs : List Int} {ps : List Pc} {L b s : Int} (hb : 1 ≤ b) (h : chQ i r cs (Xav ps L b) = some s) : ∃ (j : Nat) (z : Pc), ps[j]? = some z ∧ z.v = false ∧ z.a ≤ s ∧ s + L ≤ z.a + z.l ∧ (s + 1) % b = 0 := by
 obtain ⟨q, hq, rfl⟩ := XLl h
 obtain ⟨z, hz, e⟩ := List.mem_filterMap.mp hq
 obtain ⟨j, hj⟩ := List.getElem?_of_mem hz
 obtain ⟨h1, h2, h3, h4⟩ := Xwt hb e
 rw [h2]
 exact ⟨j, z, hj, h1, h3, h4, XDe hb⟩
def Xdk (C : W4 → Addr) (i : W4) : Sp := fun vs H Q _ => ∃ (r : Int) (x dx a : Addr) (cs : List Int) (ps : List Pc) (L b : Int), vs = [.ref x, .int L, .int b] ∧ StS C i x dx a r cs ps H ∧ 1 ≤ b ∧ ∀ (H' : Hp), Same H H' → Q (optV (chQ i r cs (Xav ps L b))) H'
def ChW (H1 : Hp) (k : W4) (r : Int) (cs : List Int) (qs : List (Int × Int)) (D : Addr) (i : Nat) (ys : List V) (H2 : Hp) : Prop := Same H1 H2 ∧ H2 D = some (.lst ys) ∧ Xbv H2 ys (((qs.take i).map (rk4 k r cs)).map fun x => x.map V.int)
theorem XOm {f₀ : Addr} {fd₀ : FuncData} (F : Fun K "chosen" "First.chosen" Xvo f₀ fd₀) (M : Meth K Y10 "chosen" f₀) (T : Txt K mg Y0 Y7 Y9 Y4 Y3 Y6 Y12 Y2 Y8 Y5 Y1 Y10 Y13 Y14 Y11 W0_ W1_) (D_Z35 : Defx P w K mg base "spots_for" 5 ["cells", "long", "bound"] (Xhz K)) (D_Z20 : Defx P w K mg base "least_place" 1 ["ranked"] (Xhj)) : Methx P w K mg base Y10 "chosen" 6 ["self", "long", "bound"] [] (Xdk (cF Y10 Y13 Y14 Y11) W4.first) := by
 refine ⟨⟨f₀, fd₀, [], Xbi F Xxx (fun vs H Q E h => by revert h; walk_at "len") (fun cdv A outer s H vs Q E hr h => ?_), M, F.binds XMw, .nil⟩, T.cl_First⟩
 refine ⟨_, PSs.nox (Xab (Xaq (i := 3) Xxx.nd rfl (Or.inl rfl) (Xaj D_Z35 hr (by rfl) (Xaa (Xcp (pv 0) rfl) (Xaa (pv 1) (Xaa (pv 2) Xad))))) (Xac (Xao (Xaj D_Z20 hr (by rfl) (Xaa (Xss ["at", "place"] rfl (Xcm (pv 3)) (fun cl C s₀ H₀ ex => (Xhi (K := K) (n := 2) rfl rfl (Xar (Xas (i := 0) (show ((["at", "place"] : List Str) ++ ([] : List Str)).Nodup by decide +kernel) rfl (Or.inl rfl)) (Xar (Xas (i := 1) (show ((["at", "place"] : List Str) ++ ([] : List Str)).Nodup by decide +kernel) rfl (Or.inl rfl)) Xcx)))) (fun cl C s₀ H₀ ex => Xjq) (fun cl C s₀ H₀ ex => (Xfb (Xaa Xaf (Xaa (pv 0) (Xaa (pv 1) Xad))))) ) Xad))))), ?_⟩
 obtain ⟨r, x, dx, a, cs, ps, L, b, rfl, ⟨hx, ha, hz, hc, mk, nj⟩, hb, q⟩ := h
 have hx : H x = some (.ins Y10 dx [("room_cells", .ref a)]) := hx
 have cl := T.cl_First
 have na := T.na_First_room_cells
 have hw := Xay hc mk
 walk_at "go"
 refine ⟨a, cs, ps, L, b, rfl, SqL.of ha, by omega, hw, hb, fun sp us H1 nsp s1 hsp tsp => ?_⟩
 rw [Xfh] at tsp
 have hql : (Xav ps L b).length ≤ 1200 := by
   have h1 : (Xav ps L b).length ≤ ps.length := List.length_filterMap_le _ _
   have h2 := hc.le
   omega
 have hin : ∀ w ∈ Xav ps L b, 0 ≤ w.1 ∧ w.1 < cs.length := fun w hw => by
   obtain ⟨z, hz, e⟩ := Xfm hw
   have := hc.mem z hz
   omega
 generalize Xav ps L b = qs at tsp hql hin q
 have htl := tsp.1
 rw [List.length_map] at htl
 have ha1 := s1 a _ ha
 have hx1 := s1 x _ hx
 walk_at "go"
 refine ⟨sp, rfl, ⟨_, SqL.of hsp⟩, Xdb (K := K) (a := sp) (xs := us) (fs := []) (ChW H1 W4.first r cs qs) (fun D hD => ⟨Same.new hD, upd_same, Xbv.nil⟩) (fun D i ys H2 _ h => SqL.of (h.1 sp _ hsp)) ?_ ?_⟩
 · rintro D i y ys H2 hD hi ⟨s2, hD2, ta⟩ τ hτ
   have hil : i < us.length := (List.getElem?_eq_some_iff.mp hi).1
   have hiq : i < qs.length := by omega
   obtain ⟨t, et, hT⟩ := tsp.2 i [V.int qs[i].1, V.int qs[i].2] (by simp [hiq])
   have ey : y = .ref t := Option.some.inj (hi.symm.trans et)
   subst ey
   have hT2 := s2 t _ hT
   have ha2 := s2 a _ ha1
   have hx2 := s2 x _ hx1
   have etk : qs.take (i + 1) = qs.take i ++ [qs[i]] := by rw [List.take_add_one, List.getElem?_eq_getElem hiq]; rfl
   have hyl := ta.1
   rw [List.length_map, List.length_map, List.length_take] at hyl
   obtain ⟨w0, w1⟩ := hin qs[i] (List.getElem_mem hiq)
   generalize qs[i] = w at hT2 etk w0 w1
   match τ, hτ with
   | [τ0, τ1], _ =>
     walk_at "go"
     refine ⟨⟨[_, _], rfl, rfl⟩, ?_⟩
     walk_at "go"
     intro t2 ht2
     refine ⟨look_put ht2 hD2, small4000 (by omega), Xiy hil ⟨(s2.put (s2.free ht2)).put hD, upd_same, ?_⟩⟩
     rw [etk, List.map_append, List.map_append]
     exact ta.push hD2 ht2
 · rintro D ys H2 hD ⟨s2, hD2, ta⟩
   rw [List.take_of_length_le (by omega)] at ta
   have h3 : ∀ x ∈ qs.map (rk4 W4.first r cs), x.length = 3 := fun x hx => by
     obtain ⟨w, _, rfl⟩ := List.mem_map.mp hx
     exact Xjo
   have := q H2 (s1.trans s2)
   unfold chQ at this
   walk_at "go"
   refine ⟨D, ys, qs.map (rk4 W4.first r cs), rfl, hD2, ta, h3, fun z => ?_, fun hp => ?_⟩
   · walk_at "go"
     rw [if_pos (show qs.length = 0 by rw [List.map_eq_nil_iff.mp z]; rfl)] at this
     exact this
   · walk_at "go"
     rw [if_neg (by rw [List.length_map] at hp; omega)] at this
     exact this
theorem XQs {f₀ : Addr} {fd₀ : FuncData} (F : Fun K "chosen" "Best.chosen" Xww f₀ fd₀) (M : Meth K Y13 "chosen" f₀) (T : Txt K mg Y0 Y7 Y9 Y4 Y3 Y6 Y12 Y2 Y8 Y5 Y1 Y10 Y13 Y14 Y11 W0_ W1_) (D_Z35 : Defx P w K mg base "spots_for" 5 ["cells", "long", "bound"] (Xhz K)) (D_Z20 : Defx P w K mg base "least_place" 1 ["ranked"] (Xhj)) (D_Z46 : Defx P w K mg base "long_of" 1 ["number"] (Xfo)) : Methx P w K mg base Y13 "chosen" 6 ["self", "long", "bound"] [] (Xdk (cF Y10 Y13 Y14 Y11) W4.best) := by
 refine ⟨⟨f₀, fd₀, [], Xbi F Xqr (fun vs H Q E h => by revert h; walk_at "len") (fun cdv A outer s H vs Q E hr h => ?_), M, F.binds XHk, .nil⟩, T.cl_Best⟩
 refine ⟨_, PSs.nox (Xab (Xaq (i := 3) Xqr.nd rfl (Or.inr rfl) (Xcp (pv 0) rfl)) (Xab (Xaq (i := 4) Xqr.nd rfl (Or.inl rfl) (Xaj D_Z35 hr (by rfl) (Xaa (pv 3) (Xaa (pv 1) (Xaa (pv 2) Xad))))) (Xac (Xao (Xaj D_Z20 hr (by rfl) (Xaa (Xgt ["at", "place"] ["cells"] [3] rfl (Xcm (pv 4)) (fun cl C s₀ H₀ ex => (Xhi (K := K) (n := 2) rfl rfl (Xar (Xas (i := 0) (show ((["at", "place"] : List Str) ++ (["cells"] : List Str)).Nodup by decide +kernel) rfl (Or.inl rfl)) (Xar (Xas (i := 1) (show ((["at", "place"] : List Str) ++ (["cells"] : List Str)).Nodup by decide +kernel) rfl (Or.inl rfl)) Xcx)))) (fun cl C s₀ H₀ ex => Xjq) (fun cl C s₀ H₀ ex => (Xfb (Xaa (Xaj D_Z46 hr (by rfl) (Xaa (Xbj (Xmn (K := K) rfl) (pv 2) (pv 0) (fun _ _ => rfl)) Xad)) (Xaa (pv 0) (Xaa (pv 1) Xad))))) (Xeu rfl rfl rfl) (Xgu (n := "cells") (by decide +kernel) rfl) (fun y h => Xci (by decide +kernel) h)) Xad)))))), ?_⟩
 obtain ⟨r, x, dx, a, cs, ps, L, b, rfl, ⟨hx, ha, hz, hc, mk, nj⟩, hb, q⟩ := h
 have hx : H x = some (.ins Y13 dx [("room_cells", .ref a)]) := hx
 have cl := T.cl_Best
 have na := T.na_Best_room_cells
 have hw := Xay hc mk
 walk_at "go"
 refine ⟨a, cs, ps, L, b, rfl, SqL.of ha, by omega, hw, hb, fun sp us H1 nsp s1 hsp tsp => ?_⟩
 rw [Xfh] at tsp
 have hql : (Xav ps L b).length ≤ 1200 := by
   have h1 : (Xav ps L b).length ≤ ps.length := List.length_filterMap_le _ _
   have h2 := hc.le
   omega
 have hin : ∀ w ∈ Xav ps L b, 0 ≤ w.1 ∧ w.1 < cs.length := fun w hw => by
   obtain ⟨z, hz, e⟩ := Xfm hw
   have := hc.mem z hz
   omega
 generalize Xav ps L b = qs at tsp hql hin q
 have htl := tsp.1
 rw [List.length_map] at htl
 have ha1 := s1 a _ ha
 have hx1 := s1 x _ hx
 walk_at "go"
 refine ⟨sp, rfl, ⟨_, SqL.of hsp⟩, Xdb (K := K) (a := sp) (xs := us) (fs := [some (.ref a)]) (ChW H1 W4.best r cs qs) (fun D hD => ⟨Same.new hD, upd_same, Xbv.nil⟩) (fun D i ys H2 _ h => SqL.of (h.1 sp _ hsp)) ?_ ?_⟩
 · rintro D i y ys H2 hD hi ⟨s2, hD2, ta⟩ τ hτ
   have hil : i < us.length := (List.getElem?_eq_some_iff.mp hi).1
   have hiq : i < qs.length := by omega
   obtain ⟨t, et, hT⟩ := tsp.2 i [V.int qs[i].1, V.int qs[i].2] (by simp [hiq])
   have ey : y = .ref t := Option.some.inj (hi.symm.trans et)
   subst ey
   have hT2 := s2 t _ hT
   have ha2 := s2 a _ ha1
   have hx2 := s2 x _ hx1
   have etk : qs.take (i + 1) = qs.take i ++ [qs[i]] := by rw [List.take_add_one, List.getElem?_eq_getElem hiq]; rfl
   have hyl := ta.1
   rw [List.length_map, List.length_map, List.length_take] at hyl
   obtain ⟨w0, w1⟩ := hin qs[i] (List.getElem_mem hiq)
   generalize qs[i] = w at hT2 etk w0 w1
   match τ, hτ with
   | [τ0, τ1], _ =>
     walk_at "go"
     refine ⟨⟨[_, _], rfl, rfl⟩, ?_⟩
     walk_at "go"
     intro t2 ht2
     refine ⟨look_put ht2 hD2, small4000 (by omega), Xiy hil ⟨(s2.put (s2.free ht2)).put hD, upd_same, ?_⟩⟩
     rw [etk, List.map_append, List.map_append]
     exact ta.push hD2 ht2
 · rintro D ys H2 hD ⟨s2, hD2, ta⟩
   rw [List.take_of_length_le (by omega)] at ta
   have h3 : ∀ x ∈ qs.map (rk4 W4.best r cs), x.length = 3 := fun x hx => by
     obtain ⟨w, _, rfl⟩ := List.mem_map.mp hx
     exact Xjo
   have := q H2 (s1.trans s2)
   unfold chQ at this
   walk_at "go"
   refine ⟨D, ys, qs.map (rk4 W4.best r cs), rfl, hD2, ta, h3, fun z => ?_, fun hp => ?_⟩
   · walk_at "go"
     rw [if_pos (show qs.length = 0 by rw [List.map_eq_nil_iff.mp z]; rfl)] at this
     exact this
   · walk_at "go"
     rw [if_neg (by rw [List.length_map] at hp; omega)] at this
     exact this
theorem XOt {f₀ : Addr} {fd₀ : FuncData} (F : Fun K "chosen" "Next.chosen" Xst f₀ fd₀) (M : Meth K Y14 "chosen" f₀) (T : Txt K mg Y0 Y7 Y9 Y4 Y3 Y6 Y12 Y2 Y8 Y5 Y1 Y10 Y13 Y14 Y11 W0_ W1_) (D_Z35 : Defx P w K mg base "spots_for" 5 ["cells", "long", "bound"] (Xhz K)) (D_Z20 : Defx P w K mg base "least_place" 1 ["ranked"] (Xhj)) : Methx P w K mg base Y14 "chosen" 6 ["self", "long", "bound"] [] (Xdk (cF Y10 Y13 Y14 Y11) W4.next) := by
 refine ⟨⟨f₀, fd₀, [], Xbi F Xxo (fun vs H Q E h => by revert h; walk_at "len") (fun cdv A outer s H vs Q E hr h => ?_), M, F.binds XKw, .nil⟩, T.cl_Next⟩
 refine ⟨_, PSs.nox (Xab (Xaq (i := 3) Xxo.nd rfl (Or.inl rfl) (Xaj D_Z35 hr (by rfl) (Xaa (Xcp (pv 0) rfl) (Xaa (pv 1) (Xaa (pv 2) Xad))))) (Xac (Xao (Xaj D_Z20 hr (by rfl) (Xaa (Xgt ["at", "place"] ["self"] [0] rfl (Xcm (pv 3)) (fun cl C s₀ H₀ ex => (Xhi (K := K) (n := 2) rfl rfl (Xar (Xas (i := 0) (show ((["at", "place"] : List Str) ++ (["self"] : List Str)).Nodup by decide +kernel) rfl (Or.inl rfl)) (Xar (Xas (i := 1) (show ((["at", "place"] : List Str) ++ (["self"] : List Str)).Nodup by decide +kernel) rfl (Or.inl rfl)) Xcx)))) (fun cl C s₀ H₀ ex => Xjq) (fun cl C s₀ H₀ ex => (Xfb (Xaa (Xtw (Xah Xti (pv 0) (XBe (K := K) rfl (pv 2) rfl) (Xam _)) Xaf Xaf) (Xaa (pv 0) (Xaa (pv 1) Xad))))) (Xeu rfl rfl rfl) (Xgu (n := "self") (by decide +kernel) rfl) (fun y h => Xci (by decide +kernel) h)) Xad))))), ?_⟩
 obtain ⟨r, x, dx, a, cs, ps, L, b, rfl, ⟨hx, ha, hz, hc, mk, nj⟩, hb, q⟩ := h
 have hx : H x = some (.ins Y14 dx [("room_cells", .ref a), ("room_rover", .int r)]) := hx
 have cl := T.cl_Next
 have na := T.na_Next_room_cells
 have nr := T.na_Next_room_rover
 have hw := Xay hc mk
 walk_at "go"
 refine ⟨a, cs, ps, L, b, rfl, SqL.of ha, by omega, hw, hb, fun sp us H1 nsp s1 hsp tsp => ?_⟩
 rw [Xfh] at tsp
 have hql : (Xav ps L b).length ≤ 1200 := by
   have h1 : (Xav ps L b).length ≤ ps.length := List.length_filterMap_le _ _
   have h2 := hc.le
   omega
 have hin : ∀ w ∈ Xav ps L b, 0 ≤ w.1 ∧ w.1 < cs.length := fun w hw => by
   obtain ⟨z, hz, e⟩ := Xfm hw
   have := hc.mem z hz
   omega
 generalize Xav ps L b = qs at tsp hql hin q
 have htl := tsp.1
 rw [List.length_map] at htl
 have ha1 := s1 a _ ha
 have hx1 := s1 x _ hx
 walk_at "go"
 refine ⟨sp, rfl, ⟨_, SqL.of hsp⟩, Xdb (K := K) (a := sp) (xs := us) (fs := [some (.ref x)]) (ChW H1 W4.next r cs qs) (fun D hD => ⟨Same.new hD, upd_same, Xbv.nil⟩) (fun D i ys H2 _ h => SqL.of (h.1 sp _ hsp)) ?_ ?_⟩
 · rintro D i y ys H2 hD hi ⟨s2, hD2, ta⟩ τ hτ
   have hil : i < us.length := (List.getElem?_eq_some_iff.mp hi).1
   have hiq : i < qs.length := by omega
   obtain ⟨t, et, hT⟩ := tsp.2 i [V.int qs[i].1, V.int qs[i].2] (by simp [hiq])
   have ey : y = .ref t := Option.some.inj (hi.symm.trans et)
   subst ey
   have hT2 := s2 t _ hT
   have ha2 := s2 a _ ha1
   have hx2 := s2 x _ hx1
   have etk : qs.take (i + 1) = qs.take i ++ [qs[i]] := by rw [List.take_add_one, List.getElem?_eq_getElem hiq]; rfl
   have hyl := ta.1
   rw [List.length_map, List.length_map, List.length_take] at hyl
   obtain ⟨w0, w1⟩ := hin qs[i] (List.getElem_mem hiq)
   generalize qs[i] = w at hT2 etk w0 w1
   match τ, hτ with
   | [τ0, τ1], _ =>
     walk_at "go"
     refine ⟨⟨[_, _], rfl, rfl⟩, ?_⟩
     walk_at "go"
     refine Xcf (fun hge => ?_) (fun hge => ?_)
     · walk_at "go"
       intro t2 ht2
       refine ⟨look_put ht2 hD2, small4000 (by omega), Xiy hil ⟨(s2.put (s2.free ht2)).put hD, upd_same, ?_⟩⟩
       rw [etk, List.map_append, List.map_append]
       have e : rk4 W4.next r cs w = [0, w.1, w.2] := by unfold rk4; rw [if_pos hge]
       rw [List.map_singleton, List.map_singleton, e]
       exact ta.push hD2 ht2
     · walk_at "go"
       intro t2 ht2
       refine ⟨look_put ht2 hD2, small4000 (by omega), Xiy hil ⟨(s2.put (s2.free ht2)).put hD, upd_same, ?_⟩⟩
       rw [etk, List.map_append, List.map_append]
       have e : rk4 W4.next r cs w = [1, w.1, w.2] := by unfold rk4; rw [if_neg hge]
       rw [List.map_singleton, List.map_singleton, e]
       exact ta.push hD2 ht2
 · rintro D ys H2 hD ⟨s2, hD2, ta⟩
   rw [List.take_of_length_le (by omega)] at ta
   have h3 : ∀ x ∈ qs.map (rk4 W4.next r cs), x.length = 3 := fun x hx => by
     obtain ⟨w, _, rfl⟩ := List.mem_map.mp hx
     exact Xjo
   have := q H2 (s1.trans s2)
   unfold chQ at this
   walk_at "go"
   refine ⟨D, ys, qs.map (rk4 W4.next r cs), rfl, hD2, ta, h3, fun z => ?_, fun hp => ?_⟩
   · walk_at "go"
     rw [if_pos (show qs.length = 0 by rw [List.map_eq_nil_iff.mp z]; rfl)] at this
     exact this
   · walk_at "go"
     rw [if_neg (by rw [List.length_map] at hp; omega)] at this
     exact this
theorem XRe {f₀ : Addr} {fd₀ : FuncData} (F : Fun K "chosen" "Likes.chosen" Xvn f₀ fd₀) (M : Meth K Y11 "chosen" f₀) (T : Txt K mg Y0 Y7 Y9 Y4 Y3 Y6 Y12 Y2 Y8 Y5 Y1 Y10 Y13 Y14 Y11 W0_ W1_) (D_Z35 : Defx P w K mg base "spots_for" 5 ["cells", "long", "bound"] (Xhz K)) (D_Z20 : Defx P w K mg base "least_place" 1 ["ranked"] (Xhj)) (D_Z46 : Defx P w K mg base "long_of" 1 ["number"] (Xfo)) : Methx P w K mg base Y11 "chosen" 6 ["self", "long", "bound"] [] (Xdk (cF Y10 Y13 Y14 Y11) W4.likes) := by
 refine ⟨⟨f₀, fd₀, [], Xbi F Xpq (fun vs H Q E h => by revert h; walk_at "len") (fun cdv A outer s H vs Q E hr h => ?_), M, F.binds XNr, .nil⟩, T.cl_Likes⟩
 refine ⟨_, PSs.nox (Xab (Xaq (i := 3) Xpq.nd rfl (Or.inr rfl) (Xcp (pv 0) rfl)) (Xab (Xaq (i := 4) Xpq.nd rfl (Or.inl rfl) (Xaj D_Z35 hr (by rfl) (Xaa (pv 3) (Xaa (pv 1) (Xaa (pv 2) Xad))))) (Xac (Xao (Xaj D_Z20 hr (by rfl) (Xaa (Xgt ["at", "place"] ["cells"] [3] rfl (Xcm (pv 4)) (fun cl C s₀ H₀ ex => (Xhi (K := K) (n := 2) rfl rfl (Xar (Xas (i := 0) (show ((["at", "place"] : List Str) ++ (["cells"] : List Str)).Nodup by decide +kernel) rfl (Or.inl rfl)) (Xar (Xas (i := 1) (show ((["at", "place"] : List Str) ++ (["cells"] : List Str)).Nodup by decide +kernel) rfl (Or.inl rfl)) Xcx)))) (fun cl C s₀ H₀ ex => Xjq) (fun cl C s₀ H₀ ex => (Xfb (Xaa (XDh (K := K) rfl PySem.F.plainAttrs_int PySem.F.slot_int_bit_length PySem.F.type_int_bit_length Xsb (Xaj D_Z46 hr (by rfl) (Xaa (Xbj (Xmn (K := K) rfl) (pv 2) (pv 0) (fun _ _ => rfl)) Xad))) (Xaa (pv 0) (Xaa (pv 1) Xad))))) (Xeu rfl rfl rfl) (Xgu (n := "cells") (by decide +kernel) rfl) (fun y h => Xci (by decide +kernel) h)) Xad)))))), ?_⟩
 obtain ⟨r, x, dx, a, cs, ps, L, b, rfl, ⟨hx, ha, hz, hc, mk, nj⟩, hb, q⟩ := h
 have hx : H x = some (.ins Y11 dx [("room_cells", .ref a)]) := hx
 have cl := T.cl_Likes
 have na := T.na_Likes_room_cells
 have hw := Xay hc mk
 walk_at "go"
 refine ⟨a, cs, ps, L, b, rfl, SqL.of ha, by omega, hw, hb, fun sp us H1 nsp s1 hsp tsp => ?_⟩
 rw [Xfh] at tsp
 have hql : (Xav ps L b).length ≤ 1200 := by
   have h1 : (Xav ps L b).length ≤ ps.length := List.length_filterMap_le _ _
   have h2 := hc.le
   omega
 have hin : ∀ w ∈ Xav ps L b, 0 ≤ w.1 ∧ w.1 < cs.length := fun w hw => by
   obtain ⟨z, hz, e⟩ := Xfm hw
   have := hc.mem z hz
   omega
 generalize Xav ps L b = qs at tsp hql hin q
 have htl := tsp.1
 rw [List.length_map] at htl
 have ha1 := s1 a _ ha
 have hx1 := s1 x _ hx
 walk_at "go"
 refine ⟨sp, rfl, ⟨_, SqL.of hsp⟩, Xdb (K := K) (a := sp) (xs := us) (fs := [some (.ref a)]) (ChW H1 W4.likes r cs qs) (fun D hD => ⟨Same.new hD, upd_same, Xbv.nil⟩) (fun D i ys H2 _ h => SqL.of (h.1 sp _ hsp)) ?_ ?_⟩
 · rintro D i y ys H2 hD hi ⟨s2, hD2, ta⟩ τ hτ
   have hil : i < us.length := (List.getElem?_eq_some_iff.mp hi).1
   have hiq : i < qs.length := by omega
   obtain ⟨t, et, hT⟩ := tsp.2 i [V.int qs[i].1, V.int qs[i].2] (by simp [hiq])
   have ey : y = .ref t := Option.some.inj (hi.symm.trans et)
   subst ey
   have hT2 := s2 t _ hT
   have ha2 := s2 a _ ha1
   have hx2 := s2 x _ hx1
   have etk : qs.take (i + 1) = qs.take i ++ [qs[i]] := by rw [List.take_add_one, List.getElem?_eq_getElem hiq]; rfl
   have hyl := ta.1
   rw [List.length_map, List.length_map, List.length_take] at hyl
   obtain ⟨w0, w1⟩ := hin qs[i] (List.getElem_mem hiq)
   generalize qs[i] = w at hT2 etk w0 w1
   match τ, hτ with
   | [τ0, τ1], _ =>
     walk_at "go"
     refine ⟨⟨[_, _], rfl, rfl⟩, ?_⟩
     walk_at "go"
     refine ⟨rfl, _, rfl, rfl, ?_⟩
     walk_at "go"
     intro t2 ht2
     refine ⟨look_put ht2 hD2, small4000 (by omega), Xiy hil ⟨(s2.put (s2.free ht2)).put hD, upd_same, ?_⟩⟩
     rw [etk, List.map_append, List.map_append]
     exact ta.push hD2 ht2
 · rintro D ys H2 hD ⟨s2, hD2, ta⟩
   rw [List.take_of_length_le (by omega)] at ta
   have h3 : ∀ x ∈ qs.map (rk4 W4.likes r cs), x.length = 3 := fun x hx => by
     obtain ⟨w, _, rfl⟩ := List.mem_map.mp hx
     exact Xjo
   have := q H2 (s1.trans s2)
   unfold chQ at this
   walk_at "go"
   refine ⟨D, ys, qs.map (rk4 W4.likes r cs), rfl, hD2, ta, h3, fun z => ?_, fun hp => ?_⟩
   · walk_at "go"
     rw [if_pos (show qs.length = 0 by rw [List.map_eq_nil_iff.mp z]; rfl)] at this
     exact this
   · walk_at "go"
     rw [if_neg (by rw [List.length_map] at hp; omega)] at this
     exact this
theorem Xbk.free {x b : Addr} {H H' : Hp} {o : HO} (k : Xbk x H H') (hx : H' x = some o) (hn : H' b = none) : H b = none := by
 cases e : H b with
 | none => rfl
 | some o' =>
   have := k b o' (fun z => by rw [z, hx] at hn; cases hn) e
   rw [hn] at this
   cases this
def XGc (C : W4 → Addr) (CA CN : Addr) (i : W4) : Sp := fun vs H Q E => ∃ (r : Int) (x dx a : Addr) (cs : List Int) (ps : List Pc) (c b : Int), vs = [.ref x, .int c, .int b] ∧ StS C i x dx a r cs ps H ∧ (c < 1 ∨ b < 1 → ∀ H', Same H H' → E (.ref CA) none H') ∧ (1 ≤ c → 1 ≤ b →
 (chQ i r cs (Xav ps (c + 2) b) = none → ∀ H', Same H H' → E (.ref CN) none H') ∧
 (∀ s, chQ i r cs (Xav ps (c + 2) b) = some s → ∀ (a' : Addr) (cs' : List Int) (H' : Hp), H a' = none → Xbk x H H' → cs'.length = cs.length → StS C i x dx a' (s + (c + 2)) cs' (cutL ps s (c + 2)) H' → Q (.int (s + 1)) H'))
theorem XOw {f₀ T₀ : Addr} {fd₀ : FuncData} {tk₀ : Tok} {tc₀ : Value} {td₀ : Option Addr} {tn₀ : Nat} {ts₀ : Array (Option Value)} (F : FunD K "ask" "Stretches.ask" s_Z9 (.ref T₀) f₀ fd₀) (LT : K.lookup T₀ = some ⟨tc₀, td₀, .seq [.int 1 tk₀].toArray tn₀, ts₀⟩) (M : ∀ i, Meth K ((cF Y10 Y13 Y14 Y11) i) "ask" f₀) (T : Txt K mg Y0 Y7 Y9 Y4 Y3 Y6 Y12 Y2 Y8 Y5 Y1 Y10 Y13 Y14 Y11 W0_ W1_) (D_Z36 : Defx P w K mg base "check_ask" 1 ["count", "bound"] (Xly Y12)) (D_chosen : Xbl P w K mg base (cF Y10 Y13 Y14 Y11) "chosen" 6 ["self", "long", "bound"] [] (Xdk (cF Y10 Y13 Y14 Y11))) (D_Z47 : Defx P w K mg base "cut_out" 7 ["cells", "at", "place", "long"] (XNe K Y3 Y8)) (D_Z12 : Defx P w K mg base "begin_around" 5 ["cells", "cell"] (Xml K)) (D_room_granted : Xbl P w K mg base (cF Y10 Y13 Y14 Y11) "room_granted" 1 ["self", "behind"] [] (Xjd (cF Y10 Y13 Y14 Y11))) : MethFD P w K mg base (cF Y10 Y13 Y14 Y11) "ask" 8 ["self", "count", "bound"] [.int 1] (XGc (cF Y10 Y13 Y14 Y11) Y12 Y8) := by
 refine MethFD.made (fd := fd₀) ?_ M (F.bindsA LT (XPj T₀ _)) (F.bindsD LT (XOv T₀ _)) (.cons ⟨tk₀, rfl⟩ .nil) (T_cl T)
 refine Xmp F XEn (fun vs H Q E h => by obtain ⟨_, h⟩ := h; revert h; walk_at "len") (fun cdv A outer s H vs Q E hr h => ?_)
 refine ⟨_, (Xab (Xau (Xce D_Z36 hr (by rfl) (Xaa (pv 1) (Xaa (pv 2) Xad)))) (Xab (Xaq (i := 3) XEn.nd rfl (Or.inl rfl) (Xal Xba (pv 1) (Xdd (v := .int 2) (by rfl) T.g_MARKS ⟨_, rfl⟩))) (Xab (Xaq (i := 4) XEn.nd rfl (Or.inl rfl) (Xbb D_chosen Xcg hr (pv 0) (Xaa (pv 3) (Xaa (pv 2) Xad)))) (Xab (Xax (Xah XJn (pv 4) Xgj (Xam _)) (Xac (Xcu T.x_NoRoom hr.hd rfl (Xaa Xbd Xad))) Xak) (Xab (Xdy (pv 0) (Xce D_Z47 hr (by rfl) (Xaa (Xcp (pv 0) rfl) (Xaa (Xaj D_Z12 hr (by rfl) (Xaa (Xcp (pv 0) rfl) (Xaa (pv 4) Xad))) (Xaa (pv 4) (Xaa (pv 3) Xad))))) rfl) (Xab (Xau (Xbb D_room_granted Xcg hr (pv 0) (Xaa (Xal Xba (pv 4) (pv 3)) Xad))) (Xac (Xao (Xal Xba (pv 4) Xaf))))))))), ?_⟩
 obtain ⟨k, r, x, dx, a, cs, ps, c, b, rfl, S, qa, qq⟩ := h
 have cl := T_cl T k
 have na := T_na T k
 obtain ⟨hx, ha, hz, hc, mk, nj⟩ := id S
 walk_at "go"
 refine ⟨c, b, rfl, fun h => qa h _ (Same.refl _), fun h1 h2 => ?_⟩
 obtain ⟨qn, q⟩ := qq h1 h2
 walk_at "go"
 refine ⟨r, x, dx, a, cs, ps, _, b, rfl, S, h2, fun H1 s1 => ?_⟩
 have hx1 := s1 x _ hx
 have ha1 := s1 a _ ha
 cases hn : chQ k r cs (Xav ps (c + 2) b) with
 | none =>
   walk_at "go"
   exact qn hn H1 s1
 | some s =>
   obtain ⟨i, z, hi, hv, g1, g2, _⟩ := XBq h2 hn
   have hzm := List.mem_of_getElem? hi
   walk_at "go"
   refine ⟨a, cs, ps, i, z, s, rfl, SqL.of ha1, by omega, hc, mk, hi, g1, by omega, fun H2 s2 => ?_⟩
   have hx2 := s2 x _ hx1
   have ha2 := s2 a _ ha1
   walk_at "go"
   refine ⟨a, cs, ps, z.a, s, c + 2, rfl, SqL.of ha2, by omega, hc, mk, by omega, fun y hy hk hv' e1 e2 p H3 np s3 hp => ?_, fun y hy hk hv' hn' => ?_, fun hn' => absurd hv (hn' z hzm rfl)⟩
   · have ey := Xda hc hy hzm hk
     subst ey
     have hx3 := s3 x _ hx2
     have hne : p ≠ x := fun z => by rw [z, hx2] at np; cases np
     have s13 := (s1.trans s2).trans s3
     walk_at "go"
     generalize hH : upd H3 x _ = H4
     have hx4 : H4 x = some (.ins ((cF Y10 Y13 Y14 Y11) k) dx (fsF k p r)) := by rw [← hH, upd_same, Xfj]
     have hp4 : H4 p = some (.lst ((cutO cs y.a y.l s (c + 2)).map V.int)) := by rw [← hH]; exact look_ne hne hp
     have k4 : Xbk x H H4 := by rw [← hH]; exact (Xbk.of s13).put
     walk_at "go"
     refine ⟨r, s + (c + 2), x, dx, p, rfl, hx4, fun H5 k5 hx5 => ?_⟩
     walk_at "go"
     obtain ⟨y0, y1, y3, y4⟩ := hc.mem y hzm
     obtain ⟨ds, rs, e3, e4, c1, c2⟩ := Xat hc hi
     subst e3
     have ecut := Xyt hc hv (show 1 ≤ c + 2 by omega) g1 g2
     refine q s hn p _ H5 ((s1.trans s2).free np) (k4.trans k5) (by rw [Xjk]) ⟨hx5, k5 p _ hne hp4, by rw [Xjk]; exact hz, ?_, ?_, ?_⟩
     · rw [Xjk, ecut]
       exact Xob (by omega) g1 g2 c1 c2
     · rw [ecut]
       exact Xoa y0 (by omega) g1 g2 (by omega) (c1.endBy (Int.le_refl 0)) c2.fromOn mk
     · rw [ecut]
       exact Xnx nj hv
   · have ey := Xda hc hy hzm hk
     subst ey
     exact absurd ⟨g1, g2⟩ hn'
def Xrk (C : W4 → Addr) (CP : Addr) (k : W4) : Sp := fun vs H Q E => ∃ (r : Int) (x dx a : Addr) (cs : List Int) (ps : List Pc) (pl : Int), vs = [.ref x, .int pl] ∧ StS C k x dx a r cs ps H ∧ ((∀ z ∈ ps, z.v = true → z.a + 1 ≠ pl) → ∀ H', Same H H' → E (.ref CP) none H') ∧
 (∀ z ∈ ps, z.v = true → z.a + 1 = pl → ∀ (a' : Addr) (cs' : List Int) (H' : Hp), H a' = none → Xbk x H H' → cs'.length = cs.length → StS C k x dx a' r cs' (Xdf (modF ps z.a)) H' → Q .non H')
theorem XRt {f₀ : Addr} {fd₀ : FuncData} (F : Fun K "give" "Stretches.give" s_Z7 f₀ fd₀) (M : ∀ i, Meth K ((cF Y10 Y13 Y14 Y11) i) "give" f₀) (T : Txt K mg Y0 Y7 Y9 Y4 Y3 Y6 Y12 Y2 Y8 Y5 Y1 Y10 Y13 Y14 Y11 W0_ W1_) (D_Z61 : Defx P w K mg base "freed" 7 ["cells", "at"] (Xph K Y3)) : Xbl P w K mg base (cF Y10 Y13 Y14 Y11) "give" 8 ["self", "place"] [] (Xrk (cF Y10 Y13 Y14 Y11) Y3) := by
 refine Xbl.made (Xbi F XPe (fun vs H Q E h => by obtain ⟨_, h⟩ := h; revert h; walk_at "len") (fun cdv A outer s H vs Q E hr h => ?_)) M (F.binds XNy) (T_cl T)
 refine ⟨_, (Xac (Xdy (pv 0) (Xce D_Z61 hr (by rfl) (Xaa (Xcp (pv 0) rfl) (Xaa (Xal Xby (pv 1) Xaf) Xad))) rfl)), ?_⟩
 obtain ⟨k, r, x, dx, a, cs, ps, pl, rfl, ⟨hx, ha, hz, hc, mk, nj⟩, qe, q⟩ := h
 have cl := T_cl T k
 have na := T_na T k
 walk_at "go"
 refine ⟨a, cs, ps, pl - 1, rfl, SqL.of ha, by omega, hc, mk, fun j y hj hk hv p H1 np s1 hp => ?_, fun hn H1 s1 => qe (fun z hz hv hk => hn z hz (by omega) hv) H1 s1⟩
 have hx1 := s1 x _ hx
 have hne : p ≠ x := fun z => by rw [z, hx] at np; cases np
 walk_at "go"
 obtain ⟨ds, rs, e1, e2, _, _⟩ := Xat hc hj
 subst e1 e2
 obtain ⟨k1, k3, k4⟩ := Xxk hc mk nj hv
 exact q y (List.mem_of_getElem? hj) hv (by omega) p _ _ np (Xbk.of s1).put (by rw [Xcl]) ⟨by rw [upd_same, Xfj], look_ne hne hp, by rw [Xcl]; exact hz, by rw [Xcl]; exact k1, k4, k3⟩
theorem Xqy {ps : List Pc} {p : Pc} {s L : Int} (hp : p ∈ ps) (hv : p.v = true) : p ∈ cutL ps s L := by
 unfold cutL
 refine List.mem_flatten.mpr ⟨ct1 s L p, List.mem_map.mpr ⟨p, hp, rfl⟩, ?_⟩
 unfold ct1
 rw [if_pos (.inl hv)]
 exact List.mem_singleton.mpr rfl
theorem Xxd {ps : List Pc} {p : Pc} {s L : Int} (hp : p ∈ ps) (hv : p.v = false) (h1 : p.a ≤ s) (h2 : s < p.a + p.l) : (⟨s, L, true⟩ : Pc) ∈ cutL ps s L := by
 unfold cutL
 refine List.mem_flatten.mpr ⟨ct1 s L p, List.mem_map.mpr ⟨p, hp, rfl⟩, ?_⟩
 unfold ct1
 rw [if_neg (by rw [hv]; simp; omega)]
 simp
def Xlx (C : W4 → Addr) (CN : Addr) (k : W4) : Sp := fun vs H Q E => ∃ (r : Int) (x dx a : Addr) (cs : List Int) (ps : List Pc) (z : Pc) (c b : Int), vs = [.ref x, .int (z.a + 1), .int c, .int b] ∧ StS C k x dx a r cs ps H ∧ z ∈ ps ∧ z.v = true ∧ 1 ≤ c ∧ 1 ≤ b ∧
 (chQ k r cs (Xav ps (c + 2) b) = none → ∀ H', Same H H' → E (.ref CN) none H') ∧
 (∀ s, chQ k r cs (Xav ps (c + 2) b) = some s → ∀ (a' : Addr) (cs' : List Int) (H' : Hp), H a' = none → Xbk x H H' → cs'.length = cs.length → StS C k x dx a' (s + (c + 2)) cs' (Xdf (modF (cutL ps s (c + 2)) z.a)) H' → Q (.int (s + 1)) H')
theorem XQd {f₀ : Addr} {fd₀ : FuncData} (F : Fun K "room_moved" "Keeper.room_moved" s_Z3 f₀ fd₀) (M : ∀ i, Meth K ((cF Y10 Y13 Y14 Y11) i) "room_moved" f₀) (T : Txt K mg Y0 Y7 Y9 Y4 Y3 Y6 Y12 Y2 Y8 Y5 Y1 Y10 Y13 Y14 Y11 W0_ W1_) (D_ask : MethFD P w K mg base (cF Y10 Y13 Y14 Y11) "ask" 8 ["self", "count", "bound"] [.int 1] (XGc (cF Y10 Y13 Y14 Y11) Y12 Y8)) (D_Z44 : Defx P w K mg base "carried" 1 ["cells", "source", "goal", "count"] (Xow K)) (D_Z68 : Xbl P w K mg base (cF Y10 Y13 Y14 Y11) "many" 7 ["self", "place"] [] (Xmk (cF Y10 Y13 Y14 Y11) Y3)) (D_Z64 : Xbl P w K mg base (cF Y10 Y13 Y14 Y11) "give" 8 ["self", "place"] [] (Xrk (cF Y10 Y13 Y14 Y11) Y3)) : Xbl P w K mg base (cF Y10 Y13 Y14 Y11) "room_moved" 9 ["self", "place", "count", "bound"] [] (Xlx (cF Y10 Y13 Y14 Y11) Y8) := by
 refine Xbl.made (Xbi F XHm (fun vs H Q E h => by obtain ⟨_, h⟩ := h; revert h; walk_at "len") (fun cdv A outer s H vs Q E hr h => ?_)) M (F.binds XQb) (T_cl T)
 refine ⟨_, (Xab (Xaq (i := 4) XHm.nd rfl (Or.inl rfl) (Xbb D_ask.all Xcb hr (pv 0) (Xaa (pv 2) (Xaa (pv 3) Xad)))) (Xab (Xdy (pv 0) (Xaj D_Z44 hr (by rfl) (Xaa (Xcp (pv 0) rfl) (Xaa (pv 1) (Xaa (pv 4) (Xaa (Xbm (Xpc rfl) (by rfl) T.n_min PyProof.Rows.boot_min (Xaa (Xbb D_Z68 Xcb hr (pv 0) (Xaa (pv 1) Xad)) (Xaa (pv 2) Xad))) Xad))))) rfl) (Xab (Xau (Xbb D_Z64 Xcb hr (pv 0) (Xaa (pv 1) Xad))) (Xac (Xao (pv 4)))))), ?_⟩
 obtain ⟨k, r, x, dx, a, cs, ps, z, c, b, rfl, S, hm, hv, h1, h2, qn, q⟩ := h
 have cl := T_cl T k
 have na := T_na T k
 have hx := S.hx
 walk_at "go"
 refine ⟨r, x, dx, a, cs, ps, c, b, rfl, S, fun h => (by omega), fun _ _ => ⟨fun hn H1 s1 => qn hn H1 s1, fun s hn a1 cs1 H1 na1 k1 l1 S1 => ?_⟩⟩
 obtain ⟨i0, z0, hi0, hv0, g1, g2, _⟩ := XBq h2 hn
 have hzc := Xqy (s := s) (L := c + 2) hm hv
 have hnc := Xxd (L := c + 2) (List.mem_of_getElem? hi0) hv0 g1 (by omega)
 have hz := S1.hz
 obtain ⟨z1, z2, z3, z4⟩ := S1.hc.mem z hzc
 have z3 := z3 hv
 obtain ⟨n1, n2, n3, n4⟩ := S1.hc.mem _ hnc
 have n4 : s + (c + 2) ≤ cs1.length := n4
 have n1 : 0 ≤ s := n1
 have hx1 := S1.hx
 have ha1 := S1.ha
 walk_at "go"
 refine ⟨_, x, dx, a1, cs1, cutL ps s (c + 2), z.a + 1, rfl, S1, fun hn => absurd rfl (hn z hzc hv), fun y hy hyv hyk H2 s2 => ?_⟩
 have ey := (Xda S1.hc hy hzc (by omega)).symm
 subst ey
 have hx2 := s2 x _ hx1
 have ha2 := s2 a1 _ ha1
 walk_at "go"
 have b1 : (if c < z.l - 2 then c else z.l - 2) ≤ c := by split <;> omega
 have b2 : (if c < z.l - 2 then c else z.l - 2) ≤ z.l - 2 := by split <;> omega
 have b3 : 0 ≤ (if c < z.l - 2 then c else z.l - 2) := by split <;> omega
 generalize (if c < z.l - 2 then c else z.l - 2) = m at b1 b2 b3 ⊢
 refine ⟨a1, cs1, z.a + 1, s + 1, m, rfl, SqL.of ha2, hz, by omega, by omega, b3, by omega, by omega, fun p H3 np s3 hp => ?_⟩
 have hx3 := s3 x _ hx2
 have hne : p ≠ x := fun z => by rw [z, hx2] at np; cases np
 have lc : (carI cs1 (z.a + 1).toNat (s + 1).toNat m.toNat).length = cs1.length := Xun (by omega) (by omega)
 have mc := Xlh (s := (z.a + 1).toNat) (c := m.toNat) S1.hc rfl S1.mm hnc rfl (by omega) (show (m.toNat : Int) ≤ c + 2 - 2 by omega)
 have mc : Xbg (carI cs1 (z.a + 1).toNat (s + 1).toNat m.toNat) (cutL ps s (c + 2)) := mc
 walk_at "go"
 generalize hH : upd H3 x _ = H4
 have S4 : StS (cF Y10 Y13 Y14 Y11) k x dx p (s + (c + 2)) (carI cs1 (z.a + 1).toNat (s + 1).toNat m.toNat) (cutL ps s (c + 2)) H4 := ⟨by rw [← hH, upd_same, Xfj], by rw [← hH]; exact look_ne hne hp, by rw [lc]; exact hz, by rw [lc]; exact S1.hc, mc, S1.nj⟩
 have k4 : Xbk x H H4 := by rw [← hH]; exact (k1.trans (Xbk.of (s2.trans s3))).put
 obtain ⟨j, hj⟩ := List.getElem?_of_mem hzc
 have hx4 := S4.hx
 walk_at "go"
 refine ⟨_, x, dx, p, _, _, z.a + 1, rfl, S4, fun hn => absurd rfl (hn z hzc hv), fun y' hy' hyv' hyk' a' cs' H5 na5 k5 l5 S5 => ?_⟩
 have ey := (Xda S4.hc hy' hzc (by omega)).symm
 subst ey
 walk_at "go"
 exact q s hn a' cs' H5 (k4.free S4.hx na5) (k4.trans k5) (by omega) S5
def Kp2 (x a : Addr) (H H' : Hp) : Prop := ∀ b o, b ≠ x → b ≠ a → H b = some o → H' b = some o
def OkS (C : W4 → Addr) (k : W4) (x dx a : Addr) (n : Nat) (H : Hp) (R : Hp → Prop) : Prop := ∀ (a' : Addr) (r' : Int) (cs' : List Int) (ps' : List Pc) (H' : Hp), (a' = a ∨ H a' = none) → Kp2 x a H H' → cs'.length = n → StS C k x dx a' r' cs' ps' H' → R H'
def Stay (ps : List Pc) (z : Pc) (c b : Int) : Prop := (z.a + 1) % b = 0 ∧ z.a + (c + 2) ≤ enF ps z.a
def Xxw (C : W4 → Addr) (CP CA CN : Addr) (k : W4) : Sp := fun vs H Q E => ∃ (r : Int) (x dx a : Addr) (cs : List Int) (ps : List Pc) (pl c b : Int), vs = [.ref x, .int pl, .int c, .int b] ∧ StS C k x dx a r cs ps H ∧ ((∀ z ∈ ps, z.v = true → z.a + 1 ≠ pl) → ∀ H', Same H H' → E (.ref CP) none H') ∧
 (∀ z ∈ ps, z.v = true → z.a + 1 = pl → c < 1 ∨ b < 1 → ∀ H', Same H H' → E (.ref CA) none H') ∧
 (∀ z ∈ ps, z.v = true → z.a + 1 = pl → 1 ≤ c → 1 ≤ b → ¬ Stay ps z c b → Xav ps (c + 2) b = [] → ∀ H', Same H H' → E (.ref CN) none H') ∧
 (∀ z ∈ ps, z.v = true → z.a + 1 = pl → 1 ≤ c → 1 ≤ b → Stay ps z c b ∨ Xav ps (c + 2) b ≠ [] → ∀ v : Int, OkS C k x dx a cs.length H (Q (.int v)))
theorem XPa {f₀ T₀ : Addr} {fd₀ : FuncData} {tk₀ : Tok} {tc₀ : Value} {td₀ : Option Addr} {tn₀ : Nat} {ts₀ : Array (Option Value)} (F : FunD K "grow" "Stretches.grow" s_Z8 (.ref T₀) f₀ fd₀) (LT : K.lookup T₀ = some ⟨tc₀, td₀, .seq [.int 1 tk₀].toArray tn₀, ts₀⟩) (M : ∀ i, Meth K ((cF Y10 Y13 Y14 Y11) i) "grow" f₀) (T : Txt K mg Y0 Y7 Y9 Y4 Y3 Y6 Y12 Y2 Y8 Y5 Y1 Y10 Y13 Y14 Y11 W0_ W1_) (D_Z45 : Defx P w K mg base "live_at" 6 ["cells", "at"] (Xfx K Y3 true)) (D_Z36 : Defx P w K mg base "check_ask" 1 ["count", "bound"] (Xly Y12)) (D_Z38 : Defx P w K mg base "free_end" 2 ["cells", "end"] (Xri K)) (D_Z29 : Xbl P w K mg base (cF Y10 Y13 Y14 Y11) "room_moved" 9 ["self", "place", "count", "bound"] [] (Xlx (cF Y10 Y13 Y14 Y11) Y8)) (D_Z66 : Defx P w K mg base "laid" 2 ["cells", "at", "long", "live"] (Xjx K)) (D_Z34 : Defx P w K mg base "laid_free" 3 ["cells", "begin", "end"] (Xet K)) : MethFD P w K mg base (cF Y10 Y13 Y14 Y11) "grow" 10 ["self", "place", "count", "bound"] [.int 1] (Xxw (cF Y10 Y13 Y14 Y11) Y3 Y12 Y8) := by
 refine MethFD.made (fd := fd₀) ?_ M (F.bindsA LT (XQq T₀ _)) (F.bindsD LT (XPt T₀ _)) (.cons ⟨tk₀, rfl⟩ .nil) (T_cl T)
 refine Xmp F Xnu (fun vs H Q E h => by obtain ⟨_, h⟩ := h; revert h; walk_at "len") (fun cdv A outer s H vs Q E hr h => ?_)
 refine ⟨_, (Xab (Xel (Xce D_Z45 hr (by rfl) (Xaa (Xcp (pv 0) rfl) (Xaa (Xal Xby (pv 1) Xaf) Xad))) (Xgm rfl (Xar (Xas (i := 4) Xnu.nd rfl (Or.inl rfl)) (Xar (Xas (i := 5) Xnu.nd rfl (Or.inl rfl)) (Xar (Xas (i := 6) Xnu.nd rfl (Or.inl rfl)) Xcx))))) (Xab (Xau (Xce D_Z36 hr (by rfl) (Xaa (pv 2) (Xaa (pv 3) Xad)))) (Xab (Xaq (i := 7) Xnu.nd rfl (Or.inl rfl) (Xal Xba (pv 2) (Xdd (v := .int 2) (by rfl) T.g_MARKS ⟨_, rfl⟩))) (Xab (Xaq (i := 8) Xnu.nd rfl (Or.inl rfl) (Xaj D_Z38 hr (by rfl) (Xaa (Xcp (pv 0) rfl) (Xaa (Xal Xba (pv 4) (pv 5)) Xad)))) (Xab (Xax (PW.pt (Xez (Xah Xjg (Xal Xbw (pv 1) (pv 3)) Xaf (Xam _)) (Xdg (Xah Xkl (Xal Xba (pv 4) (pv 7)) (pv 8) (Xam _))))) (Xac (Xao (Xbb D_Z29 Xcb hr (pv 0) (Xaa (pv 1) (Xaa (pv 2) (Xaa (pv 3) Xad)))))) Xak) (Xab (Xdy (pv 0) (Xaj D_Z34 hr (by rfl) (Xaa (Xaj D_Z66 hr (by rfl) (Xaa (Xcp (pv 0) rfl) (Xaa (pv 4) (Xaa (pv 7) (Xaa Xey Xad))))) (Xaa (Xal Xba (pv 4) (pv 7)) (Xaa (pv 8) Xad)))) rfl) (Xac (Xao (pv 1))))))))), ?_⟩
 obtain ⟨k, r, x, dx, a, cs, ps, pl, c, b, rfl, S, qp, qa, qn, q⟩ := h
 have cl := T_cl T k
 have na := T_na T k
 obtain ⟨hx, ha, hz, hc, mk, nj⟩ := id S
 have hw := Xay hc mk
 walk_at "go"
 refine ⟨a, cs, ps, pl - 1, rfl, SqL.of ha, by omega, hw, hc, fun y hm hk hv t H1 s1 ht => ?_, fun hn H1 s1 => qp (fun z hz hv hk => hn z hz (by omega) hv) H1 s1⟩
 have hpl : y.a + 1 = pl := by omega
 subst hpl
 obtain ⟨i, hi⟩ := List.getElem?_of_mem hm
 obtain ⟨z0, z1, z3, z4⟩ := hc.mem y hm
 obtain ⟨f1, f2⟩ := Xlu hc hi
 have hen : enF ps y.a = fend ps i y := by
   obtain ⟨ds, rs, e1, e2, _, _⟩ := Xat hc hi
   subst e1 e2
   exact XJr hc nj
 have hx1 := s1 x _ hx
 have ha1 := s1 a _ ha
 have S1 := S.same s1
 walk_at "go"
 refine ⟨c, b, rfl, fun h => qa y hm hv rfl h H1 s1, fun h1 h2 => ?_⟩
 have qn := qn y hm hv rfl h1 h2
 have q := q y hm hv rfl h1 h2
 unfold Stay at qn q
 rw [hen] at qn q
 have ka : ∀ {H' : Hp}, Xbk x H H' → Kp2 x a H H' := fun h b o n1 _ e => h b o n1 e
 have mv : ¬ ((y.a + 1) % b = 0 ∧ y.a + (c + 2) ≤ fend ps i y) → Xlx (cF Y10 Y13 Y14 Y11) Y8 k [.ref x, .int (y.a + 1), .int c, .int b] H1 Q E := fun hs => ⟨r, x, dx, a, cs, ps, y, c, b, rfl, S1, hm, hv, h1, h2, fun hn H2 s2 => qn hs (Xld hn) H2 (s1.trans s2), fun s hn a' cs' H2 na2 k2 l2 S2 => q (.inr (fun e => by rw [e] at hn; cases hn)) (s + 1) a' _ cs' _ H2 (.inr (s1.free na2)) (ka ((Xbk.of s1).trans k2)) l2 S2⟩
 walk_at "go"
 refine ⟨a, cs, ps, i, y, rfl, SqL.of ha1, hc, mk, hi, ?_⟩
 walk_at "go"
 refine Xcf (fun h3 => ?_) (fun h3 => ?_)
 · walk_at "go"
   refine Xcf (fun h4 => ?_) (fun h4 => ?_)
   · walk_at "go"
     exact mv (fun z => by omega)
   · walk_at "go"
     refine ⟨a, cs, y.a, c + 2, true, rfl, SqL.of ha1, by omega, z0, by omega, by omega, fun p H2 np s2 hp => ?_⟩
     walk_at "go"
     refine ⟨p, _, _, _, rfl, SqL.of hp, by rw [Xbq]; omega, by omega, by omega, by rw [Xbq]; omega, fun p2 H3 np2 s3 hp2 => ?_⟩
     have s13 := (s1.trans s2).trans s3
     have hx3 := s13 x _ hx
     have hne : p2 ≠ x := fun z => by rw [z, (s1.trans s2) x _ hx] at np2; cases np2
     walk_at "go"
     obtain ⟨ds, rs, e1, e2, _, _⟩ := Xat hc hi
     subst e1 e2
     obtain ⟨k1, k3, k4⟩ := Xxe hc mk nj (show 3 ≤ c + 2 by omega) (by omega)
     exact q (.inl ⟨h3, by omega⟩) _ p2 r _ _ _ (.inr ((s1.trans s2).free np2)) (ka (Xbk.of s13).put) (by rw [Xcl, Xbq]) ⟨by rw [upd_same, Xfj], look_ne hne hp2, by rw [Xcl, Xbq]; exact hz, by rw [Xcl, Xbq]; exact k1, k4, k3⟩
 · walk_at "go"
   exact mv (fun z => h3 z.1)
def Xpk : W4 → Str
 | .first => "first"
 | .best => "best"
 | .next => "next"
 | .likes => "likes"
theorem Xjf {C : W4 → Addr} {i : W4} {x dx a : Addr} {n : Int} {H H1 H2 : Hp} (n1 : 1 ≤ n) (n2 : n ≤ 1200) (nx : H x = none) (s : Same H H1) (k : Xbk x H1 H2) (hx : H2 x = some (.ins (C i) dx (fsF i a 0))) (ha : H2 a = some (.lst ((Xdi n).map V.int))) : Same H H2 ∧ StS C i x dx a 0 (Xdi n) [⟨0, n, false⟩] H2 := by
 obtain ⟨f1, f2⟩ := Xhd n1
 have fl := Xev (show 0 ≤ n by omega)
 exact ⟨fun b o h => k b o (fun e => by rw [e, nx] at h; cases h) (s b o h), ⟨hx, ha, by omega, f1, f2, Xcq _⟩⟩
def spOf (C : W4 → Addr) (CN CS : Addr) : Sp := fun vs H Q E => ∃ (wd : Str) (n : Int), vs = [.str wd, .int n] ∧ n ≤ 1200 ∧ ((∀ i, wd ≠ Xpk i) → ∀ H', Same H H' → E (.ref CN) none H') ∧ (∀ i, wd = Xpk i → n < 1 → ∀ H', Same H H' → E (.ref CS) none H') ∧
 (∀ i, wd = Xpk i → 1 ≤ n → ∀ (x dx a : Addr) (H' : Hp), H x = none → Same H H' → StS C i x dx a 0 (Xdi n) [⟨0, n, false⟩] H' → Q (.ref x) H')
theorem XRd (S : Src K mg "stretches_of" Xpz) (T : Txt K mg Y0 Y7 Y9 Y4 Y3 Y6 Y12 Y2 Y8 Y5 Y1 Y10 Y13 Y14 Y11 W0_ W1_) (D_First : Makex P w K mg base "First" Y10 3 ["self", "size"] [] (spMk Y10 Y9)) (D_Best : Makex P w K mg base "Best" Y13 3 ["self", "size"] [] (spMk Y13 Y9)) (D_Next : Makex P w K mg base "Next" Y14 4 ["self", "size"] [] (XIh Y14 Y9)) (D_Likes : Makex P w K mg base "Likes" Y11 3 ["self", "size"] [] (spMk Y11 Y9)) : Defx P w K mg base "stretches_of" 6 ["word", "size"] (spOf (cF Y10 Y13 Y14 Y11) Y7 Y9) := by
 refine S.okx XIu XIa (fun vs H Q E h => by revert h; walk_at "len") (fun f cdv A outer s H vs Q E hr h => ?_)
 refine ⟨_, (Xab (Xax (Xah Xcr (pv 0) Xbd (Xam _)) (Xac (Xao (Xha D_First Xcb hr (by rfl) (Xaa (pv 1) Xad)))) Xak) (Xab (Xax (Xah Xcr (pv 0) Xbd (Xam _)) (Xac (Xao (Xha D_Best Xcb hr (by rfl) (Xaa (pv 1) Xad)))) Xak) (Xab (Xax (Xah Xcr (pv 0) Xbd (Xam _)) (Xac (Xao (Xha D_Next Xcb hr (by rfl) (Xaa (pv 1) Xad)))) Xak) (Xab (Xax (Xah Xcr (pv 0) Xbd (Xam _)) (Xac (Xao (Xha D_Likes Xcb hr (by rfl) (Xaa (pv 1) Xad)))) Xak) (Xac (Xcu T.x_NoName hr.hd rfl (Xaa Xbd Xad))))))), ?_⟩
 obtain ⟨wd, n, rfl, h4, qn, qs, q⟩ := h
 walk_at "go"
 refine Xcf (fun h_first => ?_) (fun h_first => ?_)
 · walk_at "go"
   intro x dx nx ndx nex
   have s6 : Same H (upd (upd H dx (.own x)) x (.ins Y10 dx [])) := (Same.new ndx).put nx
   refine ⟨x, dx, n, rfl, upd_same, by omega, fun hn => qs W4.first h_first hn _ s6, fun h1 a H7 na7 k7 hx7 ha7 => ⟨rfl, ?_⟩⟩
   obtain ⟨s7, S7⟩ := Xjf (C := (cF Y10 Y13 Y14 Y11)) (i := W4.first) h1 h4 nx s6 k7 hx7 ha7
   walk_at "go"
   exact q W4.first h_first h1 x dx a H7 nx s7 S7
 walk_at "go"
 refine Xcf (fun h_best => ?_) (fun h_best => ?_)
 · walk_at "go"
   intro x dx nx ndx nex
   have s6 : Same H (upd (upd H dx (.own x)) x (.ins Y13 dx [])) := (Same.new ndx).put nx
   refine ⟨x, dx, n, rfl, upd_same, by omega, fun hn => qs W4.best h_best hn _ s6, fun h1 a H7 na7 k7 hx7 ha7 => ⟨rfl, ?_⟩⟩
   obtain ⟨s7, S7⟩ := Xjf (C := (cF Y10 Y13 Y14 Y11)) (i := W4.best) h1 h4 nx s6 k7 hx7 ha7
   walk_at "go"
   exact q W4.best h_best h1 x dx a H7 nx s7 S7
 walk_at "go"
 refine Xcf (fun h_next => ?_) (fun h_next => ?_)
 · walk_at "go"
   intro x dx nx ndx nex
   have s6 : Same H (upd (upd H dx (.own x)) x (.ins Y14 dx [])) := (Same.new ndx).put nx
   refine ⟨x, dx, n, rfl, upd_same, by omega, fun hn => qs W4.next h_next hn _ s6, fun h1 a H7 na7 k7 hx7 ha7 => ⟨rfl, ?_⟩⟩
   obtain ⟨s7, S7⟩ := Xjf (C := (cF Y10 Y13 Y14 Y11)) (i := W4.next) h1 h4 nx s6 k7 hx7 ha7
   walk_at "go"
   exact q W4.next h_next h1 x dx a H7 nx s7 S7
 walk_at "go"
 refine Xcf (fun h_likes => ?_) (fun h_likes => ?_)
 · walk_at "go"
   intro x dx nx ndx nex
   have s6 : Same H (upd (upd H dx (.own x)) x (.ins Y11 dx [])) := (Same.new ndx).put nx
   refine ⟨x, dx, n, rfl, upd_same, by omega, fun hn => qs W4.likes h_likes hn _ s6, fun h1 a H7 na7 k7 hx7 ha7 => ⟨rfl, ?_⟩⟩
   obtain ⟨s7, S7⟩ := Xjf (C := (cF Y10 Y13 Y14 Y11)) (i := W4.likes) h1 h4 nx s6 k7 hx7 ha7
   walk_at "go"
   exact q W4.likes h_likes h1 x dx a H7 nx s7 S7
 walk_at "go"
 refine qn (fun i e => ?_) _ (Same.refl _)
 cases i
 · exact h_first e
 · exact h_best e
 · exact h_next e
 · exact h_likes e
/-! ### what is due -/
def bF (w k : Int) : Int := if w = 5 ∨ w = 7 then 1 else k
def dueF (ps : List Pc) (w pl k ct : Int) : Option Er :=
 if 7 < w then (if w = 8 then some .size else some .broken)
 else if w < 6 ∧ Xdj ps pl = 0 then some .piece
 else if w < 2 ∧ (k < 0 ∨ Xdj ps pl ≤ k) then some .cell
 else if 3 < w ∧ (ct < 1 ∨ bF w k < 1) then some .ask
 else if w < 4 ∨ (w < 6 ∧ pl % bF w k = 0 ∧ pl - 1 + (ct + 2) ≤ enF ps (pl - 1)) then none
 else if Xav ps (ct + 2) (bF w k) = [] then some .narrow else none
section
variable {ps : List Pc} {n w pl k ct : Int} {z : Pc}
theorem Xdv (h : w < 6) (hn : ∀ z ∈ ps, z.v = true → z.a + 1 ≠ pl) : dueF ps w pl k ct = some .piece := by
 unfold dueF
 rw [if_neg (by omega), if_pos ⟨h, Xme hn⟩]
theorem Xfw (c : Xai 0 ps n) (hz : z ∈ ps) (hv : z.v = true) (hk : z.a + 1 = pl) : Xdj ps pl = z.l - 2 ∧ 1 ≤ z.l - 2 := by
 have h3 := (c.mem z hz).2.2.1 hv
 subst hk
 exact ⟨Xnk c hz hv, by omega⟩
theorem Xmz (c : Xai 0 ps n) (h : w < 2) (hz : z ∈ ps) (hv : z.v = true) (hk : z.a + 1 = pl) (g : k < 0 ∨ z.l - 2 ≤ k) : dueF ps w pl k ct = some .cell := by
 obtain ⟨e, e1⟩ := Xfw c hz hv hk
 unfold dueF
 rw [if_neg (by omega), if_neg (by omega), if_pos ⟨h, by omega⟩]
theorem Xmg (c : Xai 0 ps n) (h : w < 4) (hz : z ∈ ps) (hv : z.v = true) (hk : z.a + 1 = pl) (g : w < 2 → 0 ≤ k ∧ k < z.l - 2) : dueF ps w pl k ct = none := by
 obtain ⟨e, e1⟩ := Xfw c hz hv hk
 unfold dueF
 rw [if_neg (by omega), if_neg (by omega), if_neg (by omega), if_neg (by omega), if_pos (.inl h)]
theorem Xji {b : Int} (c : Xai 0 ps n) (h3 : 3 < w) (h7 : w ≤ 7) (hm : w < 6 → ∃ z ∈ ps, z.v = true ∧ z.a + 1 = pl) (hb : bF w k = b) (g : ct < 1 ∨ b < 1) : dueF ps w pl k ct = some .ask := by
 have hm : ¬ (w < 6 ∧ Xdj ps pl = 0) := fun ⟨h6, e0⟩ => by
   obtain ⟨z, hz, hv, hk⟩ := hm h6
   obtain ⟨e, e1⟩ := Xfw c hz hv hk
   omega
 unfold dueF
 rw [if_neg (by omega), if_neg hm, if_neg (by omega), if_pos ⟨h3, by rw [hb]; exact g⟩]
theorem Xdn {b : Int} (c : Xai 0 ps n) (h3 : 3 < w) (h7 : w ≤ 7) (hm : w < 6 → ∃ z ∈ ps, z.v = true ∧ z.a + 1 = pl ∧ ¬ Stay ps z ct b) (hb : bF w k = b) (g1 : 1 ≤ ct) (g2 : 1 ≤ b) : dueF ps w pl k ct = if Xav ps (ct + 2) b = [] then some .narrow else none := by
 have h1 : ¬ (w < 6 ∧ Xdj ps pl = 0) := fun ⟨h6, e0⟩ => by
   obtain ⟨z, hz, hv, hk, _⟩ := hm h6
   obtain ⟨e, e1⟩ := Xfw c hz hv hk
   omega
 have h2 : ¬ (w < 4 ∨ (w < 6 ∧ pl % b = 0 ∧ pl - 1 + (ct + 2) ≤ enF ps (pl - 1))) := fun h => by
   rcases h with h | ⟨h6, e1, e2⟩
   · omega
   · obtain ⟨z, hz, hv, hk, hs⟩ := hm h6
     subst hk
     rw [Int.add_sub_cancel] at e2
     exact hs ⟨e1, e2⟩
 unfold dueF
 rw [hb, if_neg (by omega), if_neg h1, if_neg (by omega), if_neg (by omega), if_neg h2]
theorem Xmj {b : Int} (c : Xai 0 ps n) (h3 : 3 < w) (h6 : w < 6) (hz : z ∈ ps) (hv : z.v = true) (hk : z.a + 1 = pl) (hb : bF w k = b) (g1 : 1 ≤ ct) (g2 : 1 ≤ b) (hs : Stay ps z ct b) : dueF ps w pl k ct = none := by
 obtain ⟨e, e1⟩ := Xfw c hz hv hk
 obtain ⟨s1, s2⟩ := hs
 unfold dueF
 rw [hb, if_neg (by omega), if_neg (by omega), if_neg (by omega), if_neg (by omega), if_pos (.inr ⟨h6, by rw [← hk]; exact s1, by rw [← hk, Int.add_sub_cancel]; exact s2⟩)]
end
theorem Xxa {e : Er} : Xnq e ≠ "ok" := by cases e <;> decide +kernel
theorem XRg (S : Src K mg "_law_cell_at" Xoz) (T : Txt K mg Y0 Y7 Y9 Y4 Y3 Y6 Y12 Y2 Y8 Y5 Y1 Y10 Y13 Y14 Y11 W0_ W1_)  : Defx P w K mg base "_law_cell_at" 1 ["_law_script", "_law_k"] (Xry K) := by
 refine S.okx XHx XLp (fun vs H Q E h => by revert h; walk_at "len") (fun f cdv A outer s H vs Q E hr h => ?_)
 refine ⟨_, PSs.nox (Xab (Xax (Xah Xef (pv 1) (Xbm Xbo (by rfl) T.n_len PySem.boot_len (Xaa (pv 0) Xad)) (Xam _)) (Xac (Xao (Xbj Xbh (pv 0) (pv 1) (fun _ _ => rfl)))) Xak) (Xac (Xao Xaf))), ?_⟩
 obtain ⟨a, ns, k, rfl, hS, h0, q⟩ := h
 walk_at "go"
 refine Xcf (fun hc => ?_) (fun hc => ?_)
 · walk_at "go"
   exact q
 · walk_at "go"
   have e : ns.getD k.toNat 0 = 0 := by
     rw [List.getD_eq_getElem?_getD, List.getElem?_eq_none (by omega)]
     rfl
   rw [e] at q
   exact q
def Xlk (K : PySem.W.Frag) : Sp := fun vs H Q _ => ∃ (r : Addr) (cs : List Int) (ps : List Pc), vs = [.ref r] ∧ H r = some (.lst (cs.map V.int)) ∧ Xai 0 ps cs.length ∧ Xbg cs ps ∧ cs.length ≤ 1200 ∧ ∀ (p : Addr) (us : List V) (H' : Hp), H p = none → Same H H' → H' p = some (.lst us) → Xbc H' us ps → Q (.ref p) H'
def WkW (r p : Addr) (n : Int) (ps : List Pc) (H : Hp) (m : Nat) (σ : L2.St) (H' : Hp) : Prop :=
 ∃ (ds rs : List Pc) (us : List V) (k : Int) (x3 : Option V), σ = [some (.ref r), some (.ref p), some (.int k), x3] ∧ m = (n - k).toNat ∧ ps = ds ++ rs ∧ Xai 0 ds k ∧ Xai k rs n ∧ Same H H' ∧ H' p = some (.lst us) ∧ Xbc H' us ds
theorem XPc (S : Src K mg "_law_walk" Xqw) (T : Txt K mg Y0 Y7 Y9 Y4 Y3 Y6 Y12 Y2 Y8 Y5 Y1 Y10 Y13 Y14 Y11 W0_ W1_)  : Defx P w K mg base "_law_walk" 1 ["_law_cells"] (Xlk K) := by
 refine S.okx Xkm XMm (fun vs H Q E h => by revert h; walk_at "len") (fun f cdv A outer s H vs Q E hr h => ?_)
 refine ⟨_, PSs.nox (Xab (Xaq (i := 1) Xkm.nd rfl (Or.inl rfl) (Xdw Xad)) (Xab (Xaq (i := 2) Xkm.nd rfl (Or.inl rfl) Xaf) (Xab (Xmo PassesOwn.never (Xah Xef (pv 2) (Xbm Xbo (by rfl) T.n_len PySem.boot_len (Xaa (pv 0) Xad)) (Xam _)) (Xab (Xaq (i := 3) Xkm.nd rfl (Or.inl rfl) (Xal XBd (Xbj Xbh (pv 0) (pv 2) (fun _ _ => rfl)) Xaf)) (Xab (Xax (PW.pt (Xez (Xah Xef (pv 3) Xaf (Xam _)) (Xez (Xah Xkl (pv 3) (Xal Xby (Xbm Xbo (by rfl) T.n_len PySem.boot_len (Xaa (pv 0) Xad)) (pv 2)) (Xam _)) (Xdg (Xah Xjg (Xbj Xbh (pv 0) (Xal Xby (Xal Xba (pv 2) (pv 3)) Xaf) (fun _ _ => rfl)) (Xbj Xbh (pv 0) (pv 2) (fun _ _ => rfl)) (Xam _)))))) (Xac (Xao (Xdw Xad))) Xak) (Xab (Xau (Xhs PySem.F.plainAttrs_list PySem.F.slot_list_append PySem.F.type_list_append Xca (pv 1) (Xaa (Xfb (Xaa (pv 2) (Xaa (pv 3) (Xaa (Xfy Xcr (Xal Xbw (Xbj Xbh (pv 0) (pv 2) (fun _ _ => rfl)) Xaf) Xaf (Xam _)) Xad)))) Xad))) (Xac (Xaq (i := 2) Xkm.nd rfl (Or.inl rfl) (Xal Xba (pv 2) (pv 3)))))))) (Xac (Xao (pv 1)))))), ?_⟩
 obtain ⟨r, cs, ps, rfl, hR, hc, mk, hz, q⟩ := h
 walk_at "go"
 intro p hp
 walk_at "go"
 refine ⟨WkW r p cs.length ps H, ⟨_, [], ps, [], 0, none, rfl, rfl, rfl, rfl, hc, Same.new hp, upd_same, Xbc.nil⟩, ?_⟩
 rintro m σ H1 ⟨ds, rs, us, k, x3, rfl, rfl, eps, c1, c2, s1, hp1, pu⟩
 have hul := pu.1
 have hS1 : SqL K H1 r (cs.map V.int) := SqL.of (s1 r _ hR)
 have k0 := c1.le
 walk_at "go"
 refine Xcf (fun hlt => ?_) (fun hlt => ?_)
 · refine ⟨fun σ' H'' => ∃ m', m' < ((cs.length : Int) - k).toNat ∧ WkW r p cs.length ps H m' σ' H'', fun σ' H'' hw => hw, ?_⟩
   cases rs with
   | nil =>
     have : k = cs.length := c2
     omega
   | cons z r2 =>
     obtain ⟨ea, z1, z3, c3⟩ := c2
     have hle := c3.le
     obtain ⟨m1, m2⟩ := mk z (by rw [eps]; simp)
     have g1 := Xfz m1
     have g2 := Xfz m2
     rw [ea] at g1 g2
     have e1 : cs.getD k.toNat 0 = mkOf z.l z.v := g1
     have e2 : cs.getD (k + z.l - 1).toNat 0 = mkOf z.l z.v := g2
     have hkl : ds.length ≤ 1200 := by omega
     walk_at "g1"
     rw [e1, Xgd]
     walk_at "go"
     rw [e1, Xhe]
     intro t ht
     walk_at "go"
     obtain ⟨g1, g2⟩ := Xbc.push (z := z) pu hp1 ht
     rw [ea] at g2
     refine ⟨_, ?_, ds ++ [z], r2, _, k + z.l, _, rfl, rfl, by rw [eps]; simp, ?_, c3, (s1.put (s1.free ht)).put hp, upd_same, g2⟩
     · omega
     · have := Xai.snoc (p := z) (by rw [ea]; exact c1) z1 z3
       rwa [ea] at this
 · have er : rs = [] := by
     cases rs with
     | nil => rfl
     | cons z r2 =>
       have := c2.le
       rw [List.length_cons] at this
       omega
   rw [er, List.append_nil] at eps
   subst eps
   walk_at "go"
   exact q p us H1 hp s1 hp1 pu
/-! ### a def called within an except suite: it raises nothing, and does not ask what is handled -/
structure RoomH (k : Nat) (A : Around) : Prop where
 dp : A.depth + 3 * k + 5 < recursionLimit
 un : A.units + 16 * k + 200 < cLine
theorem RoomH.mono {j k : Nat} {A : Around} (r : RoomH k A) (h : j ≤ k) : RoomH j A := ⟨by have := r.dp; omega, by have := r.un; omega⟩
theorem RoomH.of {k : Nat} {A : Around} {y : Option Value} (r : Room k A) : RoomH k (A.mark y) := ⟨r.dp, r.un⟩
abbrev cxH (P : Program) (w : World) (K : PySem.W.Frag) (mg : Str → Option Value) (base : Heap) (N : List Str) (qual : Str) (scope : Scope) (f : Addr) (cd : Value) (A : Around) (outer : List Env) (s : Shared) (H : Hp) : Cx :=
 { cxOf (CXe P w) P w K mg base N qual scope f cd A outer s H E0 with calm := false, xe := fun _ _ => False }
structure DefH (P : Program) (w : World) (K : PySem.W.Frag) (mg : Str → Option Value) (base : Heap) (x : Str) (k : Nat) (ps : List Str) (sp : Sp) : Prop where
 ex : ∃ (f : Addr) (fd : FuncData), (∀ vs H Q E, sp vs H Q E → vs.length = ps.length) ∧ (∀ (A : Around) (outer : List Env) (s : Shared) (H : Hp) (args : Args) (us : List Value) (vs : List V) (Q : VK), RoomH k A → Env0 P w K mg base A outer s H → BindsTo s fd args (ps.zip us) → Vals vs us → sp vs H Q E0 →
   codeAny (model P w) A (.call (.ref f) args) (CR (CXe P w) outer P w H s Q E0) s) ∧ mg x = some (.ref f) ∧ PySem.W.keepIn K (.ref f) = true ∧ Xco K fd ps []
theorem Src.okH {P : Program} {w : World} {K : PySem.W.Frag} {mg : Str → Option Value} {base : Heap} {x : Str} {st : Stmt} {N ps : List Str} {sp : Sp} (S : Src K mg x st) (sc : FnScope N ps (Xae st))
   (hb : ∀ (kV doc pm : Value) (an : Option Addr) (cdv ct : Value) (us : List Value), us.length = ps.length → bindArgs (PySem.W.fnOf x x (Xbp st) (Xaz st) (Xae st) .none kV doc pm an cdv ct) ⟨us, []⟩ = pure (ps.zip us))
   (len : ∀ vs H Q E, sp vs H Q E → vs.length = ps.length)
   (hbody : ∀ (f : Addr) (cdv : Value) (A : Around) (outer : List Env) (s : Shared) (H : Hp) (vs : List V) (Q : VK), sp vs H Q E0 →
     ∃ t, PSs (cxH P w K mg base N x (Xae st) f cdv A outer s H) (Xaz st) t ∧ t { nx := fun _ H' => Q .non H', rt := Q } (start N vs) H) : DefH P w K mg base x 1 ps sp := by
 obtain ⟨f, fd, F, hm⟩ := S.ex
 refine ⟨f, fd, len, ?_, hm, F.kp, F.binds hb⟩
 obtain ⟨oc, od, kV, doc, pm, an, cdv, ct, osl, rfl, lk, hcd⟩ := F.ex
 intro A outer s H args us vs Q hr e0 hbd r hsp
 have hl := len _ _ _ _ hsp
 have KX : K.In s.heap := e0.mod.kin.keeps fun b o e => (e0.bs b o e).1
 have lim : s.heap.NoLimit := e0.mod.nolimit.keeps fun b o e => (e0.bs b o e).1
 have hkind : ∀ y ∈ ps.zip us, (Xae st).names.lookup y.1 = some .local ∨ ((Xae st).names.lookup y.1 = some .cell ∧ ((cellsFrom (s.heap.objs.size + 1) (Xae st).names []).lookup y.1).isSome = true) := fun ⟨n, v⟩ hy => by
   rcases sc.par n (List.of_mem_zip hy).1 with q | q
   · exact .inl q
   · exact .inr ⟨q, PySem.W.cellsFrom_some _ _ _ (.inl q)⟩
 refine codeAny_call_function (by have := hr.dp; omega) (KX _ _ lk) rfl sc.co sc.gen rfl (PySem.W.codeRec_of KX hcd) (hbd _ _ _ _ ?_)
 refine wpAny_newFunctionEnv_cells sc.kind hkind fun env he s1 x1 => ?_
 subst he
 refine ⟨lim.keeps x1.toInCall.keep, codeAny_func ?_⟩
 obtain ⟨t, ht, hq⟩ := hbody f cdv A outer s H vs Q hsp
 have I0 := Xkj (CX := CXe P w) (E := E0) (A := { A with handled := none }) sc rfl ⟨e0.frames, e0.mod, e0.bs, e0.bsz, e0.funs, e0.frf, e0.hok, e0.bare⟩ hl r x1
 have I : Inv (cxH P w K mg base N x (Xae st) f cdv A outer s H) [] (start N vs) H s1 :=
   ⟨⟨I0.ok.mod, I0.ok.kind, I0.ok.glob, I0.ok.blt, I0.ok.above, I0.ok.inj, I0.ok.has, I0.ok.cab, fun z => (nomatch z), Around.frames_deeper e0.frames, I0.ok.stk, I0.ok.exf, I0.ok.bs, I0.ok.bsz, I0.ok.noex, I0.ok.exfs, I0.ok.funs, I0.ok.frf⟩, I0.os, I0.bare, I0.base, I0.loc, I0.cell, I0.free, I0.freeC, I0.pin, I0.hok, I0.len⟩
 refine wpAny_mono (ht [] s1 (start N vs) H _ I hq) (fun fl s' hs => ?_) fun e s' hs => hs.elim
 have fin : ∀ {σ' : L2.St} {H' : Hp} {v : V} {u : Value}, Inv (cxH P w K mg base N x (Xae st) f cdv A outer s H) [] σ' H' s' → RelV v u → Q v H' → CE outer P w H s Q u s' :=
   fun {σ' H' v u} J rv q => ⟨v, H', J.os, J.bare, J.base, J.hok, rv, q⟩
 cases fl with
 | ret u =>
   obtain ⟨v, σ', H', J, rv, q⟩ := hs
   exact fin J rv q
 | next =>
   obtain ⟨σ', H', J, q⟩ := hs
   exact fin (v := V.non) (u := Value.none) J rfl q
 | brk =>
   obtain ⟨_, _, _, q⟩ := hs
   exact False.elim q
 | cont =>
   obtain ⟨_, _, _, q⟩ := hs
   exact False.elim q
theorem XEb {X : Cx} {x : Str} {j k : Nat} {ps : List Str} {sp : Sp} {p pos : Pos} {e : Expr} {es : List Expr} {t : TA} (D : DefH X.prog X.w X.K X.mg X.base x j ps sp) (hr : RoomH k X.A) (hg : Gl X x) (ha : PA X (e :: es) t) (hk : j ≤ k := by decide)
   (hdb : (x == ("__debug__" : Str)) = false := by decide) (he : starEach (e :: es) X.env = (false, eval e X.env) :: starEach es X.env := by rfl) (hpl : (backTo pos (starEach es X.env)).any (·.1) = false := by rfl) :
   PE X (.Call (.Name x p) (e :: es) [] pos) (Xnf sp [] E0 t) := by
 obtain ⟨f, fd, len, F, hm, kp, b⟩ := D.ex
 intro pins s σ H Q I h
 refine wpAny_Call_Name_kw (Xdo I hg hm ?_ hdb)
 refine PySem.W.callWith_K (h₀ := X.base) I.ok.mod.kin kp (thn (ha pos pins s σ H _ I h) fun us s1 ⟨vs, H1, I1, r, q⟩ => ⟨I1.kIn, ?_⟩) he hpl
 have r2 : Vals (vs ++ []) (us ++ []) := r.append .nil
 have hl : (us ++ []).length = ps.length := by rw [← r2.length]; exact len _ _ _ _ q
 refine wpAny_call (codeAny_mono (F X.A X.stack s1 H1 ⟨us, []⟩ (us ++ []) (vs ++ []) Q (hr.mono hk) I1.env0 (b s1 us I1.kIn hl) r2 q) fun r s' hq => ?_)
 cases r with
 | error e => exact Xcg pins σ H1 s1 e s' I1 hq
 | ok fl =>
   cases fl with
   | ret u => exact I1.after hq
   | next => exact False.elim hq
   | brk => exact False.elim hq
   | cont => exact False.elim hq
def Xye (C : Er → Addr) : Sp := fun vs H Q _ => ∃ (e : Er) (y : Addr) (od : Option Addr), vs = [.ref y] ∧ H y = some (ExcO y (C e) od) ∧ ∀ H', Same H H' → Q (.str (Xnq e)) H'
theorem XRa (S : Src K mg "_law_word" Xqf) (T : Txt K mg Y0 Y7 Y9 Y4 Y3 Y6 Y12 Y2 Y8 Y5 Y1 Y10 Y13 Y14 Y11 W0_ W1_)  : DefH P w K mg base "_law_word" 1 ["_law_e"] (Xye (cE Y9 Y4 Y3 Y6 Y12 Y8)) := by
 refine S.okH Xxq XNo (fun vs H Q E h => by revert h; walk_at "len") (fun f cdv A outer s H vs Q h => ?_)
 refine ⟨_, (Xab (Xaq (i := 1) Xxq.nd rfl (Or.inl rfl) (Xdw Xad)) (Xab (Xax (Xea (Xbm (Xdq PySem.F.attr_ValueError.ga) (by rfl) T.n_isinstance PyProof.Rows.boot_isinstance (Xaa (pv 0) (Xaa (Xdd (v := .ref Y9) (by rfl) T.c_NoSize rfl) Xad)))) (Xac (Xau (Xhs PySem.F.plainAttrs_list PySem.F.slot_list_append PySem.F.type_list_append Xca (pv 1) (Xaa Xbd Xad)))) Xak) (Xab (Xax (Xea (Xbm (Xdq PySem.F.attr_ValueError.ga) (by rfl) T.n_isinstance PyProof.Rows.boot_isinstance (Xaa (pv 0) (Xaa (Xdd (v := .ref Y4) (by rfl) T.c_Broken rfl) Xad)))) (Xac (Xau (Xhs PySem.F.plainAttrs_list PySem.F.slot_list_append PySem.F.type_list_append Xca (pv 1) (Xaa Xbd Xad)))) Xak) (Xab (Xax (Xea (Xbm (Xdq PySem.F.attr_ValueError.ga) (by rfl) T.n_isinstance PyProof.Rows.boot_isinstance (Xaa (pv 0) (Xaa (Xdd (v := .ref Y3) (by rfl) T.c_NoPiece rfl) Xad)))) (Xac (Xau (Xhs PySem.F.plainAttrs_list PySem.F.slot_list_append PySem.F.type_list_append Xca (pv 1) (Xaa Xbd Xad)))) Xak) (Xab (Xax (Xea (Xbm (Xdq PySem.F.attr_ValueError.ga) (by rfl) T.n_isinstance PyProof.Rows.boot_isinstance (Xaa (pv 0) (Xaa (Xdd (v := .ref Y6) (by rfl) T.c_NoCell rfl) Xad)))) (Xac (Xau (Xhs PySem.F.plainAttrs_list PySem.F.slot_list_append PySem.F.type_list_append Xca (pv 1) (Xaa Xbd Xad)))) Xak) (Xab (Xax (Xea (Xbm (Xdq PySem.F.attr_ValueError.ga) (by rfl) T.n_isinstance PyProof.Rows.boot_isinstance (Xaa (pv 0) (Xaa (Xdd (v := .ref Y12) (by rfl) T.c_NoAsk rfl) Xad)))) (Xac (Xau (Xhs PySem.F.plainAttrs_list PySem.F.slot_list_append PySem.F.type_list_append Xca (pv 1) (Xaa Xbd Xad)))) Xak) (Xab (Xax (Xea (Xbm (Xdq PySem.F.attr_ValueError.ga) (by rfl) T.n_isinstance PyProof.Rows.boot_isinstance (Xaa (pv 0) (Xaa (Xdd (v := .ref Y8) (by rfl) T.c_NoRoom rfl) Xad)))) (Xac (Xau (Xhs PySem.F.plainAttrs_list PySem.F.slot_list_append PySem.F.type_list_append Xca (pv 1) (Xaa Xbd Xad)))) Xak) (Xac (Xao (Xhs PySem.F.plainAttrs_str PySem.F.slot_str_join PySem.F.type_str_join XCh Xbd (Xaa (pv 1) Xad))))))))))), ?_⟩
 obtain ⟨e, y, od, rfl, hy, q⟩ := h
 cases e
 · have hy : H y = some (ExcO y Y9 od) := hy
   have x0 := T.z_NoSize
   have i0 := T.i_NoSize_NoSize
   have i1 := T.i_NoSize_Broken
   have i2 := T.i_NoSize_NoPiece
   have i3 := T.i_NoSize_NoCell
   have i4 := T.i_NoSize_NoAsk
   have i5 := T.i_NoSize_NoRoom
   walk_at "go"
   intro p hp
   have hyp : y ≠ p := Xan hy hp
   walk_at "go"
   refine ⟨rfl, ?_⟩
   walk_at "go"
   refine ⟨_, p, "size", rfl, rfl, by walk_at "look", by decide +kernel, ?_⟩
   walk_at "go"
   exact q _ ((Same.new hp).put hp)
 · have hy : H y = some (ExcO y Y4 od) := hy
   have x0 := T.z_Broken
   have i0 := T.i_Broken_NoSize
   have i1 := T.i_Broken_Broken
   have i2 := T.i_Broken_NoPiece
   have i3 := T.i_Broken_NoCell
   have i4 := T.i_Broken_NoAsk
   have i5 := T.i_Broken_NoRoom
   walk_at "go"
   intro p hp
   have hyp : y ≠ p := Xan hy hp
   walk_at "go"
   refine ⟨rfl, ?_⟩
   walk_at "go"
   refine ⟨_, p, "broken", rfl, rfl, by walk_at "look", by decide +kernel, ?_⟩
   walk_at "go"
   exact q _ ((Same.new hp).put hp)
 · have hy : H y = some (ExcO y Y3 od) := hy
   have x0 := T.z_NoPiece
   have i0 := T.i_NoPiece_NoSize
   have i1 := T.i_NoPiece_Broken
   have i2 := T.i_NoPiece_NoPiece
   have i3 := T.i_NoPiece_NoCell
   have i4 := T.i_NoPiece_NoAsk
   have i5 := T.i_NoPiece_NoRoom
   walk_at "go"
   intro p hp
   have hyp : y ≠ p := Xan hy hp
   walk_at "go"
   refine ⟨rfl, ?_⟩
   walk_at "go"
   refine ⟨_, p, "piece", rfl, rfl, by walk_at "look", by decide +kernel, ?_⟩
   walk_at "go"
   exact q _ ((Same.new hp).put hp)
 · have hy : H y = some (ExcO y Y6 od) := hy
   have x0 := T.z_NoCell
   have i0 := T.i_NoCell_NoSize
   have i1 := T.i_NoCell_Broken
   have i2 := T.i_NoCell_NoPiece
   have i3 := T.i_NoCell_NoCell
   have i4 := T.i_NoCell_NoAsk
   have i5 := T.i_NoCell_NoRoom
   walk_at "go"
   intro p hp
   have hyp : y ≠ p := Xan hy hp
   walk_at "go"
   refine ⟨rfl, ?_⟩
   walk_at "go"
   refine ⟨_, p, "cell", rfl, rfl, by walk_at "look", by decide +kernel, ?_⟩
   walk_at "go"
   exact q _ ((Same.new hp).put hp)
 · have hy : H y = some (ExcO y Y12 od) := hy
   have x0 := T.z_NoAsk
   have i0 := T.i_NoAsk_NoSize
   have i1 := T.i_NoAsk_Broken
   have i2 := T.i_NoAsk_NoPiece
   have i3 := T.i_NoAsk_NoCell
   have i4 := T.i_NoAsk_NoAsk
   have i5 := T.i_NoAsk_NoRoom
   walk_at "go"
   intro p hp
   have hyp : y ≠ p := Xan hy hp
   walk_at "go"
   refine ⟨rfl, ?_⟩
   walk_at "go"
   refine ⟨_, p, "ask", rfl, rfl, by walk_at "look", by decide +kernel, ?_⟩
   walk_at "go"
   exact q _ ((Same.new hp).put hp)
 · have hy : H y = some (ExcO y Y8 od) := hy
   have x0 := T.z_NoRoom
   have i0 := T.i_NoRoom_NoSize
   have i1 := T.i_NoRoom_Broken
   have i2 := T.i_NoRoom_NoPiece
   have i3 := T.i_NoRoom_NoCell
   have i4 := T.i_NoRoom_NoAsk
   have i5 := T.i_NoRoom_NoRoom
   walk_at "go"
   intro p hp
   have hyp : y ≠ p := Xan hy hp
   walk_at "go"
   refine ⟨rfl, ?_⟩
   walk_at "go"
   refine ⟨_, p, "narrow", rfl, rfl, by walk_at "look", by decide +kernel, ?_⟩
   walk_at "go"
   exact q _ ((Same.new hp).put hp)
theorem Xmi {a : Int} (h : a.natAbs < 2 ^ 220) : Builtin.Int.intBits a ≤ 220 := by
 unfold Builtin.Int.intBits
 split
 · omega
 · rename_i hn
   have := (Nat.log2_lt (n := a.natAbs) (k := 220) (by simp at hn; omega)).mpr h
   omega
theorem Xyu {a b : Int} (ha : a.natAbs < 2 ^ 220) (hb : b.natAbs < 2 ^ 220) : IntMulOk a b := by
 have h1 := Xmi ha
 have h2 := Xmi hb
 unfold IntMulOk
 have h3 : Builtin.Int.intTooBig (Builtin.Int.intBits a + Builtin.Int.intBits b) = false := by
   unfold Builtin.Int.intTooBig
   exact decide_eq_false (by simp only [bitsLine]; omega)
 rw [h3, Bool.and_false]
 exact Bool.false_ne_true
theorem XBs {X : Cx} : OpR X (binaryOp .Mult) (rI IntMulOk fun i j => .int (i * j)) := opI fun _ _ _ _ _ _ _ hc q => mul_int q hc
def Xxr (C : W4 → Addr) (CE : Er → Addr) : Sp := fun vs H Q E => ∃ (k : W4) (r : Int) (x dx a : Addr) (cs : List Int) (ps : List Pc) (w pl j ct : Int), vs = [.ref x, .int w, .int pl, .int j, .int ct] ∧ StS C k x dx a r cs ps H ∧ 1 ≤ cs.length ∧ 0 ≤ w ∧ w ≤ 9 ∧ (w = 9 → ct.natAbs < 2 ^ 220) ∧
 (∀ e, dueF ps w pl j ct = some e → ∀ od H', Same H H' → E (.ref (CE e)) od H') ∧
 (dueF ps w pl j ct = none → ∀ (a' : Addr) (r' : Int) (cs' : List Int) (ps' : List Pc) (H' : Hp), (a' = a ∨ H a' = none) → Kp2 x a H H' → cs'.length = cs.length → (w = 7 → ∃ s, chQ k r cs (Xav ps (ct + 2) 1) = some s ∧ ps' = cutL ps s (ct + 2)) → StS C k x dx a' r' cs' ps' H' → Q .non H')
theorem XOb (S : Src K mg "_law_done" Xse) (T : Txt K mg Y0 Y7 Y9 Y4 Y3 Y6 Y12 Y2 Y8 Y5 Y1 Y10 Y13 Y14 Y11 W0_ W1_) (D_put : Xbl P w K mg base (cF Y10 Y13 Y14 Y11) "put" 9 ["self", "place", "k", "number"] [] (XJa (cF Y10 Y13 Y14 Y11) Y3 Y6)) (D_get : Xbl P w K mg base (cF Y10 Y13 Y14 Y11) "get" 9 ["self", "place", "k"] [] (XKz (cF Y10 Y13 Y14 Y11) Y3 Y6)) (D_Z68 : Xbl P w K mg base (cF Y10 Y13 Y14 Y11) "many" 7 ["self", "place"] [] (Xmk (cF Y10 Y13 Y14 Y11) Y3)) (D_Z64 : Xbl P w K mg base (cF Y10 Y13 Y14 Y11) "give" 8 ["self", "place"] [] (Xrk (cF Y10 Y13 Y14 Y11) Y3)) (D_Z65 : MethFD P w K mg base (cF Y10 Y13 Y14 Y11) "grow" 10 ["self", "place", "count", "bound"] [.int 1] (Xxw (cF Y10 Y13 Y14 Y11) Y3 Y12 Y8)) (D_ask : MethFD P w K mg base (cF Y10 Y13 Y14 Y11) "ask" 8 ["self", "count", "bound"] [.int 1] (XGc (cF Y10 Y13 Y14 Y11) Y12 Y8)) (D_lay : Xbl P w K mg base (cF Y10 Y13 Y14 Y11) "lay" 7 ["self", "cells"] [] (XLv K (cF Y10 Y13 Y14 Y11) Y9 Y4)) (D_Z62 : Xbl P w K mg base (cF Y10 Y13 Y14 Y11) "cells" 1 ["self"] [] (Xgw (cF Y10 Y13 Y14 Y11))) : Defx P w K mg base "_law_done" 11 ["_law_keeper", "_law_way", "_law_place", "_law_k", "_law_count"] (Xxr (cF Y10 Y13 Y14 Y11) (cE Y9 Y4 Y3 Y6 Y12 Y8)) := by
 refine S.okx XKj XLj (fun vs H Q E h => by revert h; walk_at "len") (fun f cdv A outer s H vs Q E hr h => ?_)
 refine ⟨_, (Xab (Xax (Xah Xcr (pv 1) Xaf (Xam _)) (Xac (Xau (Xbb D_put Xcb hr (pv 0) (Xaa (pv 2) (Xaa (pv 3) (Xaa (Xal Xxv Xaf Xaf) Xad)))))) Xak) (Xab (Xax (Xah Xcr (pv 1) Xaf (Xam _)) (Xac (Xau (Xbb D_get Xcb hr (pv 0) (Xaa (pv 2) (Xaa (pv 3) Xad))))) Xak) (Xab (Xax (Xah Xcr (pv 1) Xaf (Xam _)) (Xac (Xau (Xbb D_Z68 Xcb hr (pv 0) (Xaa (pv 2) Xad)))) Xak) (Xab (Xax (Xah Xcr (pv 1) Xaf (Xam _)) (Xac (Xau (Xbb D_Z64 Xcb hr (pv 0) (Xaa (pv 2) Xad)))) Xak) (Xab (Xax (Xah Xcr (pv 1) Xaf (Xam _)) (Xac (Xau (Xbb D_Z65.all Xcb hr (pv 0) (Xaa (pv 2) (Xaa (pv 4) (Xaa (pv 3) Xad)))))) Xak) (Xab (Xax (Xah Xcr (pv 1) Xaf (Xam _)) (Xac (Xau (Xbb D_Z65.less Xcb hr (pv 0) (Xaa (pv 2) (Xaa (pv 4) Xad))))) Xak) (Xab (Xax (Xah Xcr (pv 1) Xaf (Xam _)) (Xac (Xau (Xbb D_ask.all Xcb hr (pv 0) (Xaa (pv 4) (Xaa (pv 3) Xad))))) Xak) (Xab (Xax (Xah Xcr (pv 1) Xaf (Xam _)) (Xac (Xau (Xbb D_ask.less Xcb hr (pv 0) (Xaa (pv 4) Xad)))) Xak) (Xab (Xax (Xah Xcr (pv 1) Xaf (Xam _)) (Xac (Xau (Xbb D_lay Xcb hr (pv 0) (Xaa (Xal Xmy (Xdh D_Z62 Xcg hr (pv 0)) (Xdw (Xaa Xaf Xad))) Xad)))) Xak) (Xac (Xax (Xah Xcr (pv 1) Xaf (Xam _)) (Xac (Xau (Xbb D_lay Xcb hr (pv 0) (Xaa (Xal Xmy (Xdw (Xaa (Xal Xby Xaf (Xal XBs (pv 4) (pv 4))) Xad)) (Xfs Xhn (Xdh D_Z62 Xcg hr (pv 0)) (Xfg Xaf) Xlz)) Xad)))) Xak))))))))))), ?_⟩
 obtain ⟨k, r, x, dx, a, cs, ps, w, pl, j, ct, rfl, S, hpos, w0, w9, h9, qe, q⟩ := h
 have hx := S.hx
 have ha := S.ha
 have hz := S.hz
 have hc := S.hc
 have kx : ∀ {H' : Hp}, Xbk x H H' → Kp2 x a H H' := fun h b o n1 _ e => h b o n1 e
 have ka : ∀ {H' : Hp}, Xbk a H H' → Kp2 x a H H' := fun h b o _ n2 e => h b o n2 e
 have ks : ∀ {H' : Hp}, Same H H' → Kp2 x a H H' := fun h b o _ _ e => h b o e
 rcases (show w = 0 ∨ w = 1 ∨ w = 2 ∨ w = 3 ∨ w = 4 ∨ w = 5 ∨ w = 6 ∨ w = 7 ∨ w = 8 ∨ w = 9 by omega) with rfl | rfl | rfl | rfl | rfl | rfl | rfl | rfl | rfl | rfl
 · walk_at "go"
   refine ⟨r, x, dx, a, cs, ps, pl, j, _, rfl, S, fun hn H1 s1 => qe .piece (Xdv (by omega) hn) none H1 s1, fun z hz hv hk g H1 s1 => qe .cell (Xmz hc (by omega) hz hv hk g) none H1 s1, fun z hz hv hk h0 h1 cs' H1 k1 l1 S1 => ?_⟩
   walk_at "go"
   exact q (Xmg hc (by omega) hz hv hk fun _ => ⟨h0, h1⟩) a r cs' ps H1 (.inl rfl) (ka k1) l1 (fun h => by omega) S1
 · walk_at "go"
   refine ⟨r, x, dx, a, cs, ps, pl, j, rfl, S, fun hn H1 s1 => qe .piece (Xdv (by omega) hn) none H1 s1, fun z hz hv hk g H1 s1 => qe .cell (Xmz hc (by omega) hz hv hk g) none H1 s1, fun z hz hv hk h0 h1 v H1 s1 => ?_⟩
   walk_at "go"
   exact q (Xmg hc (by omega) hz hv hk fun _ => ⟨h0, h1⟩) a r cs ps H1 (.inl rfl) (ks s1) rfl (fun h => by omega) (S.same s1)
 · walk_at "go"
   refine ⟨r, x, dx, a, cs, ps, pl, rfl, S, fun hn H1 s1 => qe .piece (Xdv (by omega) hn) none H1 s1, fun z hz hv hk H1 s1 => ?_⟩
   walk_at "go"
   exact q (Xmg hc (by omega) hz hv hk fun h => by omega) a r cs ps H1 (.inl rfl) (ks s1) rfl (fun h => by omega) (S.same s1)
 · walk_at "go"
   refine ⟨r, x, dx, a, cs, ps, pl, rfl, S, fun hn H1 s1 => qe .piece (Xdv (by omega) hn) none H1 s1, fun z hz hv hk a' cs' H1 na1 k1 l1 S1 => ?_⟩
   walk_at "go"
   exact q (Xmg hc (by omega) hz hv hk fun h => by omega) a' r cs' _ H1 (.inr na1) (kx k1) l1 (fun h => by omega) S1
 · walk_at "go"
   have hb : bF 4 j = j := rfl
   refine ⟨r, x, dx, a, cs, ps, pl, ct, j, rfl, S, fun hn H1 s1 => qe .piece (Xdv (by omega) hn) none H1 s1, fun z hz hv hk g H1 s1 => qe .ask (Xji hc (by omega) (by omega) (fun _ => ⟨z, hz, hv, hk⟩) hb g) none H1 s1, fun z hz hv hk g1 g2 hs hn H1 s1 => qe .narrow ((Xdn hc (by omega) (by omega) (fun _ => ⟨z, hz, hv, hk, hs⟩) hb g1 g2).trans (if_pos hn)) none H1 s1, fun z hz hv hk g1 g2 hs v a' r' cs' ps' H1 na1 k1 l1 S1 => ?_⟩
   walk_at "go"
   refine q ?_ a' r' cs' ps' H1 na1 k1 l1 (fun h => by omega) S1
   by_cases g : Stay ps z ct j
   · exact Xmj hc (by omega) (by omega) hz hv hk hb g1 g2 g
   · exact (Xdn hc (by omega) (by omega) (fun _ => ⟨z, hz, hv, hk, g⟩) hb g1 g2).trans (if_neg (hs.resolve_left g))
 · walk_at "go"
   have hb : bF 5 j = 1 := rfl
   refine ⟨r, x, dx, a, cs, ps, pl, ct, 1, rfl, S, fun hn H1 s1 => qe .piece (Xdv (by omega) hn) none H1 s1, fun z hz hv hk g H1 s1 => qe .ask (Xji hc (by omega) (by omega) (fun _ => ⟨z, hz, hv, hk⟩) hb g) none H1 s1, fun z hz hv hk g1 g2 hs hn H1 s1 => qe .narrow ((Xdn hc (by omega) (by omega) (fun _ => ⟨z, hz, hv, hk, hs⟩) hb g1 g2).trans (if_pos hn)) none H1 s1, fun z hz hv hk g1 g2 hs v a' r' cs' ps' H1 na1 k1 l1 S1 => ?_⟩
   walk_at "go"
   refine q ?_ a' r' cs' ps' H1 na1 k1 l1 (fun h => by omega) S1
   by_cases g : Stay ps z ct 1
   · exact Xmj hc (by omega) (by omega) hz hv hk hb g1 g2 g
   · exact (Xdn hc (by omega) (by omega) (fun _ => ⟨z, hz, hv, hk, g⟩) hb g1 g2).trans (if_neg (hs.resolve_left g))
 · walk_at "go"
   have hb : bF 6 j = j := rfl
   refine ⟨r, x, dx, a, cs, ps, ct, j, rfl, S, fun g H1 s1 => qe .ask (Xji hc (by omega) (by omega) (fun h => by omega) hb g) none H1 s1, fun g1 g2 => ⟨fun hn H1 s1 => qe .narrow ((Xdn hc (by omega) (by omega) (fun h => by omega) hb g1 g2).trans (if_pos (Xld hn))) none H1 s1, fun s hn a' cs' H1 na1 k1 l1 S1 => ?_⟩⟩
   walk_at "go"
   exact q ((Xdn hc (by omega) (by omega) (fun h => by omega) hb g1 g2).trans (if_neg (fun e => by rw [e] at hn; cases hn))) a' _ cs' _ H1 (.inr na1) (kx k1) l1 (fun _ => by omega) S1
 · walk_at "go"
   have hb : bF 7 j = 1 := rfl
   refine ⟨r, x, dx, a, cs, ps, ct, 1, rfl, S, fun g H1 s1 => qe .ask (Xji hc (by omega) (by omega) (fun h => by omega) hb g) none H1 s1, fun g1 g2 => ⟨fun hn H1 s1 => qe .narrow ((Xdn hc (by omega) (by omega) (fun h => by omega) hb g1 g2).trans (if_pos (Xld hn))) none H1 s1, fun s hn a' cs' H1 na1 k1 l1 S1 => ?_⟩⟩
   walk_at "go"
   exact q ((Xdn hc (by omega) (by omega) (fun h => by omega) hb g1 g2).trans (if_neg (fun e => by rw [e] at hn; cases hn))) a' _ cs' _ H1 (.inr na1) (kx k1) l1 (fun _ => ⟨s, hn, rfl⟩) S1
 · walk_at "go"
   refine ⟨r, x, dx, a, cs, rfl, hx, ha, fun p H1 np s1 hp => ?_⟩
   walk_at "go"
   intro p2 np2
   have s2 := s1.trans (Same.new (o := .lst [.int 2]) np2)
   have hp' : upd H1 p2 (.lst [.int 2]) p = some (.lst (cs.map V.int)) := (Same.new np2) p _ hp
   have hp2 : upd H1 p2 (.lst [.int 2]) p2 = some (.lst [.int 2]) := upd_same
   generalize upd H1 p2 (.lst [.int 2]) = H2 at s2 hp' hp2 ⊢
   refine ⟨p, p2, cs.map V.int, [.int 2], rfl, rfl, hp', hp2, Nat.le_of_lt (small4000 (by rw [List.length_map]; show cs.length + 1 ≤ 4000; omega)), fun p3 np3 => ?_⟩
   have s3 := s2.trans (Same.new (o := .lst (cs.map V.int ++ [.int 2])) np3)
   have hp3 : upd H2 p3 (.lst (cs.map V.int ++ [.int 2])) p3 = some (.lst ((cs ++ [2]).map V.int)) := by rw [upd_same, List.map_append]; rfl
   generalize upd H2 p3 (.lst (cs.map V.int ++ [.int 2])) = H3 at s3 hp3 ⊢
   have hx3 := s3 x _ hx
   walk_at "go"
   refine ⟨r, x, p3, dx, a, cs, cs ++ [2], rfl, hx3, s3 a _ ha, SqL.of hp3, by rw [List.length_append, List.length_singleton]; omega, by omega, fun _ H4 s4 => qe .size (by unfold dueF; rw [if_pos (by decide), if_pos rfl]) none H4 (s3.trans s4), fun hl => ?_⟩
   rw [List.length_append, List.length_singleton] at hl
   omega
 · have hneg : 0 - ct * ct ≤ 0 := by
     have : 0 ≤ ct * ct := by
       rcases Int.le_total 0 ct with h | h
       · exact Int.mul_nonneg h h
       · exact Int.mul_nonneg_of_nonpos_of_nonpos h h
     omega
   walk_at "go"
   refine ⟨ct, ct, rfl, rfl, Xyu (h9 rfl) (h9 rfl), ?_⟩
   walk_at "go"
   generalize 0 - ct * ct = c0 at hneg ⊢
   intro p0 np0
   have s0 : Same H (upd H p0 (.lst [.int c0])) := Same.new np0
   have hp0 : upd H p0 (.lst [.int c0]) p0 = some (.lst [.int c0]) := upd_same
   generalize upd H p0 (.lst [.int c0]) = H0 at s0 hp0 ⊢
   have hx0 := s0 x _ hx
   walk_at "go"
   refine ⟨r, x, dx, a, cs, rfl, hx0, s0 a _ ha, fun p H1 np s1 hp => ?_⟩
   have hp01 := s1 p0 _ hp0
   have s01 := s0.trans s1
   walk_at "go"
   intro p1 H2 np1 s2 hp1
   have hp02 := s2 p0 _ hp01
   have ec : cutI cs (some 1) none = cs.drop 1 := Xki (by omega) (by omega)
   rw [ec] at hp1
   have s02 := s01.trans s2
   have ld : (cs.drop 1).length = cs.length - 1 := List.length_drop
   refine ⟨p0, p1, [.int c0], (cs.drop 1).map V.int, rfl, rfl, hp02, hp1, Nat.le_of_lt (small4000 (by rw [List.length_map]; show 1 + (cs.drop 1).length ≤ 4000; omega)), fun p3 np3 => ?_⟩
   have s3 := s02.trans (Same.new (o := .lst ([.int c0] ++ (cs.drop 1).map V.int)) np3)
   have hp3 : upd H2 p3 (.lst ([.int c0] ++ (cs.drop 1).map V.int)) p3 = some (.lst ((c0 :: cs.drop 1).map V.int)) := by rw [upd_same]; rfl
   generalize upd H2 p3 (.lst ([.int c0] ++ (cs.drop 1).map V.int)) = H3 at s3 hp3 ⊢
   have hl : (c0 :: cs.drop 1).length = cs.length := by rw [List.length_cons]; omega
   have hx3 := s3 x _ hx
   walk_at "go"
   exact ⟨r, x, p3, dx, a, cs, c0 :: cs.drop 1, rfl, hx3, s3 a _ ha, SqL.of hp3, by omega, by omega, fun hn => absurd hl hn, fun _ => ⟨0, Xvj _ hneg, fun d H4 s4 => qe .broken (by unfold dueF; rw [if_pos (by decide), if_neg (by decide)]) (some d) H4 (s3.trans s4)⟩⟩
def Xln (C : W4 → Addr) : Sp := fun vs H Q _ => ∃ (k : W4) (r : Int) (x dx a : Addr) (cs : List Int) (ps : List Pc) (w pl j ct : Int), vs = [.ref x, .int w, .int pl, .int j, .int ct] ∧ StS C k x dx a r cs ps H ∧ 1 ≤ cs.length ∧ 0 ≤ w ∧ w ≤ 9 ∧ (w = 9 → ct.natAbs < 2 ^ 220) ∧
 (∀ e, dueF ps w pl j ct = some e → ∀ H', Same H H' → Q (.str (Xnq e)) H') ∧
 (dueF ps w pl j ct = none → ∀ (a' : Addr) (r' : Int) (cs' : List Int) (ps' : List Pc) (H' : Hp), (a' = a ∨ H a' = none) → Kp2 x a H H' → cs'.length = cs.length → (w = 7 → ∃ s, chQ k r cs (Xav ps (ct + 2) 1) = some s ∧ ps' = cutL ps s (ct + 2)) → StS C k x dx a' r' cs' ps' H' → Q (.str "ok") H')
theorem XRc (S : Src K mg "_law_tried" Xrv) (T : Txt K mg Y0 Y7 Y9 Y4 Y3 Y6 Y12 Y2 Y8 Y5 Y1 Y10 Y13 Y14 Y11 W0_ W1_) (D_Z55 : Defx P w K mg base "_law_done" 11 ["_law_keeper", "_law_way", "_law_place", "_law_k", "_law_count"] (Xxr (cF Y10 Y13 Y14 Y11) (cE Y9 Y4 Y3 Y6 Y12 Y8))) (D_Z56 : DefH P w K mg base "_law_word" 1 ["_law_e"] (Xye (cE Y9 Y4 Y3 Y6 Y12 Y8))) : Defx P w K mg base "_law_tried" 12 ["_law_keeper", "_law_way", "_law_place", "_law_k", "_law_count"] (Xln (cF Y10 Y13 Y14 Y11)) := by
 refine S.okx Xmv XIy (fun vs H Q E h => by revert h; walk_at "len") (fun f cdv A outer s H vs Q E hr h => ?_)
 refine ⟨_, PSs.nox (Xab (Xaq (i := 5) Xmv.nd rfl (Or.inl rfl) Xbd) (Xab (XEl (XDu D_Z55 hr (by rfl) (Xaa (pv 0) (Xaa (pv 1) (Xaa (pv 2) (Xaa (pv 3) (Xaa (pv 4) Xad)))))) ⟨rfl, rfl⟩ (Xpr (i := 6) (by rfl) T.c_StowError Xmv.nd rfl rfl (fun x => (Xac (Xaq (i := 5) Xmv.nd rfl (Or.inl rfl) (XEb D_Z56 (RoomH.of hr) (by rfl) (Xaa (pv 6) Xad))))) XIo)) (Xac (Xao (pv 5))))), ?_⟩
 obtain ⟨k, r, x, dx, a, cs, ps, w, pl, j, ct, rfl, S, hpos, w0, w9, h9, qe, q⟩ := h
 walk_at "go"
 refine ⟨k, r, x, dx, a, cs, ps, w, pl, j, ct, rfl, S, hpos, w0, w9, h9, fun e he od H1 s1 => ⟨_, rfl, fun y hy => Or.inl ⟨XPo T e, ?_⟩⟩, fun hn a' r' cs' ps' H1 ha1 k1 l1 h7 S1 => ?_⟩
 · have s2 := s1.put (o := ExcO y ((cE Y9 Y4 Y3 Y6 Y12 Y8) e) od) (s1.free hy)
   have hy2 : upd H1 y (ExcO y ((cE Y9 Y4 Y3 Y6 Y12 Y8) e) od) y = some (ExcO y ((cE Y9 Y4 Y3 Y6 Y12 Y8) e) od) := upd_same
   generalize upd H1 y (ExcO y ((cE Y9 Y4 Y3 Y6 Y12 Y8) e) od) = H2 at s2 hy2 ⊢
   walk_at "go"
   refine ⟨e, y, od, rfl, hy2, fun H3 s3 => ?_⟩
   walk_at "go"
   exact qe e he H3 (s2.trans s3)
 · walk_at "go"
   exact q hn a' r' cs' ps' H1 ha1 k1 l1 h7 S1
def Xia : Sp := fun vs H Q _ => ∃ (b : Addr) (us : List V) (ps : List Pc) (L bd : Int), vs = [.ref b, .int L, .int bd] ∧ H b = some (.lst us) ∧ Xbc H us ps ∧ 1 ≤ bd ∧ (Xav ps L bd = [] → Q (.bl false) H) ∧ (Xav ps L bd ≠ [] → Q (.bl true) H)
def RfW (f0 f1 f2 : Option V) (ps : List Pc) (L bd : Int) (H : Hp) (i : Nat) (σ : L2.St) (H' : Hp) : Prop := H = H' ∧ (∀ z ∈ ps.take i, Xfa L bd z = none) ∧ ∃ x3 x4 : Option V, σ = [f0, f1, f2, x3, x4]
theorem XQh (S : Src K mg "_law_room_for" Xoe) (T : Txt K mg Y0 Y7 Y9 Y4 Y3 Y6 Y12 Y2 Y8 Y5 Y1 Y10 Y13 Y14 Y11 W0_ W1_)  : Defx P w K mg base "_law_room_for" 1 ["_law_pieces", "_law_long", "_law_bound"] (Xia) := by
 refine S.okx Xox XLt (fun vs H Q E h => by revert h; walk_at "len") (fun f cdv A outer s H vs Q E hr h => ?_)
 refine ⟨_, PSs.nox (Xab (Xgl PassesOwn.never rfl (Xcm (pv 0)) (Xas (i := 3) Xox.nd rfl (Or.inl rfl)) (Xab (Xaq (i := 4) Xox.nd rfl (Or.inl rfl) (Xal Xba (Xbj Xbz (pv 3) Xaf (fun _ _ => rfl)) (Xal Xbw (Xal Xby (Xal Xby Xaf (Xbj Xbz (pv 3) Xaf (fun _ _ => rfl))) Xaf) (pv 2)))) (Xac (Xax (PW.pt (Xdp (Xfc (Xcd (Xbj Xbz (pv 3) Xaf (fun _ _ => rfl)) (fun _ => rfl))) (Xde (Xah Xyv (Xal Xba (pv 4) (pv 1)) (Xal Xba (Xbj Xbz (pv 3) Xaf (fun _ _ => rfl)) (Xbj Xbz (pv 3) Xaf (fun _ _ => rfl))) (Xam _))))) (Xac (Xao Xey)) Xak)))) (Xac (Xao Xey))), ?_⟩
 obtain ⟨b, us, ps, L, bd, rfl, hb, pa, hbd, q0, q⟩ := h
 have hul := pa.1
 walk_at "go"
 refine ⟨b, rfl, ⟨_, SqL.of hb⟩, Xdm (K := K) (a := b) (xs := us) (RfW (some (.ref b)) (some (.int L)) (some (.int bd)) ps L bd H) ⟨rfl, (fun z hz => by simp at hz), none, none, rfl⟩ (fun i σ H2 _ ⟨h, _⟩ => h ▸ SqL.of hb) ?_ ?_⟩
 · rintro i y σ H2 hi ⟨rfl, hno, x3, x4, rfl⟩
   obtain ⟨t, z, rfl, hz1, hT⟩ := Xhf pa hi
   have es : z.a + (0 - z.a - 1) % bd = fpl z.a bd := by
     unfold fpl
     rw [show 0 - z.a - 1 = -(z.a + 1) by omega, Xfn hbd]
   have more : Xfa L bd z = none → ∀ y ∈ ps.take (i + 1), Xfa L bd y = none := fun e y hy => by
     rw [List.take_add_one, hz1] at hy
     rcases List.mem_append.mp hy with g | g
     · exact hno y g
     · rw [List.mem_singleton.mp (show y ∈ [z] from g)]
       exact e
   walk_at "go"
   rw [es]
   refine Xff (fun hv => ?_) (fun hv => ?_)
   · walk_at "go"
     exact ⟨rfl, more (by unfold Xfa; rw [if_pos hv]), _, _, rfl⟩
   · walk_at "go"
     refine Xcf (fun hf => ?_) (fun hf => ?_)
     · walk_at "go"
       refine q (fun e => ?_)
       have hs : Xfa L bd z = some (z.a, fpl z.a bd) := by
         unfold Xfa fp
         rw [if_neg (by rw [hv]; exact Bool.false_ne_true), if_pos hf]
         rfl
       have := List.filterMap_eq_nil_iff.mp e z (List.mem_of_getElem? hz1)
       rw [hs] at this
       cases this
     · walk_at "go"
       refine ⟨rfl, more ?_, _, _, rfl⟩
       unfold Xfa fp
       rw [if_neg (by rw [hv]; exact Bool.false_ne_true), if_neg hf]
       rfl
 · rintro σ H2 ⟨rfl, hno, x3, x4, rfl⟩
   rw [List.take_of_length_le (by omega)] at hno
   walk_at "go"
   exact q0 (List.filterMap_eq_nil_iff.mpr hno)
def Xov : Sp := fun vs H Q _ => ∃ (b : Addr) (us : List V) (ps : List Pc) (n : Int) (z : Pc) (L bd : Int), vs = [.ref b, .int (z.a + 1), .int L, .int bd] ∧ H b = some (.lst us) ∧ Xbc H us ps ∧ Xai 0 ps n ∧ Xaw ps ∧ z ∈ ps ∧ 1 ≤ bd ∧
 ((z.a + 1) % bd = 0 ∧ z.a + L ≤ enF ps z.a → Q (.bl true) H) ∧ (¬ ((z.a + 1) % bd = 0 ∧ z.a + L ≤ enF ps z.a) → Q (.bl false) H)
def SyW (f0 f1 f2 f3 : Option V) (ps : List Pc) (k : Int) (H : Hp) (i : Nat) (σ : L2.St) (H' : Hp) : Prop := H = H' ∧ ∃ x5 : Option V, σ = [f0, f1, f2, f3, some (optV (endO (ps.take i) k)), x5]
theorem XRh (S : Src K mg "_law_stays" Xpx) (T : Txt K mg Y0 Y7 Y9 Y4 Y3 Y6 Y12 Y2 Y8 Y5 Y1 Y10 Y13 Y14 Y11 W0_ W1_)  : Defx P w K mg base "_law_stays" 1 ["_law_pieces", "_law_place", "_law_long", "_law_bound"] (Xov) := by
 refine S.okx Xmm XNt (fun vs H Q E h => by revert h; walk_at "len") (fun f cdv A outer s H vs Q E hr h => ?_)
 refine ⟨_, PSs.nox (Xab (Xaq (i := 4) Xmm.nd rfl (Or.inl rfl) Xgj) (Xab (Xgl PassesOwn.never rfl (Xcm (pv 0)) (Xas (i := 5) Xmm.nd rfl (Or.inl rfl)) (Xac (Xax (PW.pt (Xez (Xah Xcr (Xbj Xbz (pv 5) Xaf (fun _ _ => rfl)) (Xal Xby (pv 1) Xaf) (Xam _)) (Xdg (PW.pt (Xdp (Xah Xlq (pv 4) Xgj (Xam _)) (Xdp (Xah Xcr (Xbj Xbz (pv 5) Xaf (fun _ _ => rfl)) (pv 4) (Xam _)) (Xde (Xfc (Xcd (Xbj Xbz (pv 5) Xaf (fun _ _ => rfl)) (fun _ => rfl)))))))))) (Xac (Xaq (i := 4) Xmm.nd rfl (Or.inl rfl) (Xal Xba (Xbj Xbz (pv 5) Xaf (fun _ _ => rfl)) (Xbj Xbz (pv 5) Xaf (fun _ _ => rfl))))) Xak))) (Xac (Xao (XJz (Xfy Xcr (Xal Xbw (pv 1) (pv 3)) Xaf (Xam _)) (Xyi (Xfy Xyv (Xal Xba (Xal Xby (pv 1) Xaf) (pv 2)) (pv 4) (Xam _)))))))), ?_⟩
 obtain ⟨b, us, ps, n, z, L, bd, rfl, hb, pa, hc, nj, hz, hbd, q1, q0⟩ := h
 have hul := pa.1
 have m0 := Int.emod_nonneg (z.a + 1) (show bd ≠ 0 by omega)
 walk_at "go"
 refine ⟨b, rfl, ⟨_, SqL.of hb⟩, Xdm (K := K) (a := b) (xs := us) (SyW (some (.ref b)) (some (.int (z.a + 1))) (some (.int L)) (some (.int bd)) ps z.a H) ⟨rfl, none, rfl⟩ (fun i σ H2 _ ⟨h, _⟩ => h ▸ SqL.of hb) ?_ ?_⟩
 · rintro i y σ H2 hi ⟨rfl, x5, rfl⟩
   obtain ⟨t, w, rfl, hw1, hT⟩ := Xhf pa hi
   have hst := Xoj (k := z.a) hw1
   unfold eo1 at hst
   have yes : w.a = z.a → endO (ps.take (i + 1)) z.a = some (w.a + w.l) := fun h => by rw [hst, if_pos (.inl h)]
   cases he : endO (ps.take i) z.a with
   | none =>
     rw [he] at hst
     walk_at "go"
     refine Xcf (fun h1 => ?_) (fun h1 => ?_)
     · walk_at "go"
       exact ⟨rfl, _, by rw [yes (by omega)]⟩
     · walk_at "go"
       exact ⟨rfl, _, by rw [hst, if_neg (fun h => h.elim (fun h => h1 (by omega)) fun h => nomatch h.1)]⟩
   | some e =>
     rw [he] at hst
     walk_at "go"
     refine Xcf (fun h1 => ?_) (fun h1 => ?_)
     · walk_at "go"
       exact ⟨rfl, _, by rw [yes (by omega)]⟩
     · walk_at "go"
       refine Xcf (fun h2 => ?_) (fun h2 => ?_)
       · walk_at "go"
         refine Xff (fun h3 => ?_) (fun h3 => ?_)
         · walk_at "go"
           exact ⟨rfl, _, by rw [hst, if_neg (fun h => h.elim (fun h => h1 (by omega)) fun h => by rw [h3] at h; cases h.2)]⟩
         · walk_at "go"
           exact ⟨rfl, _, by rw [hst, if_pos (.inr ⟨by rw [h2], h3⟩)]⟩
       · walk_at "go"
         exact ⟨rfl, _, by rw [hst, if_neg (fun h => h.elim (fun h => h1 (by omega)) fun h => h2 (Option.some.inj h.1).symm)]⟩
 · rintro σ H2 ⟨rfl, x5, rfl⟩
   rw [List.take_of_length_le (by omega), XAh hc nj hz]
   by_cases h1 : (z.a + 1) % bd = 0
   · by_cases h2 : z.a + L ≤ enF ps z.a
     · walk_at "go"
       first | exact q1 ⟨h1, h2⟩ | (rw [decide_eq_true (by omega)]; exact q1 ⟨h1, h2⟩)
     · walk_at "go"
       first | exact q0 (fun h => h2 h.2) | (rw [decide_eq_false (by omega)]; exact q0 (fun h => h2 h.2))
   · walk_at "go"
     first | exact q0 (fun h => h1 h.1) | (rw [decide_eq_false (by omega)]; exact q0 (fun h => h1 h.1))
def XMv : Sp := fun vs H Q _ => ∃ (b : Addr) (us : List V) (ps : List Pc) (n w pl j ct : Int), vs = [.ref b, .int w, .int pl, .int j, .int ct] ∧ H b = some (.lst us) ∧ Xbc H us ps ∧ Xai 0 ps n ∧ Xaw ps ∧ 0 ≤ w ∧ w ≤ 9 ∧ ∀ H', Same H H' → Q (.str (Xzx (dueF ps w pl j ct))) H'
def DmW (f0 f1 f2 f3 f4 : Option V) (ps : List Pc) (pl : Int) (H : Hp) (i : Nat) (σ : L2.St) (H' : Hp) : Prop := H = H' ∧ ∃ x6 : Option V, σ = [f0, f1, f2, f3, f4, some (.int (Xdj (ps.take i) pl)), x6, none]
theorem XQr (S : Src K mg "_law_due" Xpm) (T : Txt K mg Y0 Y7 Y9 Y4 Y3 Y6 Y12 Y2 Y8 Y5 Y1 Y10 Y13 Y14 Y11 W0_ W1_) (D_Z42 : Defx P w K mg base "_law_stays" 1 ["_law_pieces", "_law_place", "_law_long", "_law_bound"] (Xov)) (D_Z31 : Defx P w K mg base "_law_room_for" 1 ["_law_pieces", "_law_long", "_law_bound"] (Xia)) : Defx P w K mg base "_law_due" 2 ["_law_pieces", "_law_way", "_law_place", "_law_k", "_law_count"] (XMv) := by
 refine S.okx Xir XIq (fun vs H Q E h => by revert h; walk_at "len") (fun f cdv A outer s H vs Q E hr h => ?_)
 refine ⟨_, PSs.nox (Xab (Xax (Xah Xkl (pv 1) Xaf (Xam _)) (Xac (Xao (Xbj Xbh (Xdw (Xaa Xbd (Xaa Xbd Xad))) (Xal Xby (pv 1) Xaf) (fun _ _ => rfl)))) Xak) (Xab (Xaq (i := 5) Xir.nd rfl (Or.inl rfl) Xaf) (Xab (Xgl PassesOwn.never rfl (Xcm (pv 0)) (Xas (i := 6) Xir.nd rfl (Or.inl rfl)) (Xac (Xax (PW.pt (Xdp (Xcd (Xbj Xbz (pv 6) Xaf (fun _ _ => rfl)) (fun _ => rfl)) (Xde (Xah Xcr (Xal Xba (Xbj Xbz (pv 6) Xaf (fun _ _ => rfl)) Xaf) (pv 2) (Xam _))))) (Xac (Xaq (i := 5) Xir.nd rfl (Or.inl rfl) (Xal Xby (Xbj Xbz (pv 6) Xaf (fun _ _ => rfl)) Xaf))) Xak))) (Xab (Xaq (i := 7) Xir.nd rfl (Or.inl rfl) (pv 3)) (Xab (Xax (PW.pt (Xez (Xah Xcr (pv 1) Xaf (Xam _)) (Xdg (Xah Xcr (pv 1) Xaf (Xam _))))) (Xac (Xaq (i := 7) Xir.nd rfl (Or.inl rfl) Xaf)) Xak) (Xab (Xax (PW.pt (Xdp (Xah Xef (pv 1) Xaf (Xam _)) (Xde (Xah Xcr (pv 5) Xaf (Xam _))))) (Xac (Xao Xbd)) Xak) (Xab (Xax (PW.pt (Xdp (Xah Xef (pv 1) Xaf (Xam _)) (Xde (PW.pt (Xez (Xah Xef (pv 3) Xaf (Xam _)) (Xdg (Xah Xti (pv 3) (pv 5) (Xam _)))))))) (Xac (Xao Xbd)) Xak) (Xab (Xax (PW.pt (Xdp (Xah Xkl (pv 1) Xaf (Xam _)) (Xde (PW.pt (Xez (Xah Xef (pv 4) Xaf (Xam _)) (Xdg (Xah Xef (pv 7) Xaf (Xam _)))))))) (Xac (Xao Xbd)) Xak) (Xab (Xax (PW.pt (Xez (Xah Xef (pv 1) Xaf (Xam _)) (Xdg (PW.pt (Xdp (Xah Xef (pv 1) Xaf (Xam _)) (Xde (Xea (Xaj D_Z42 hr (by rfl) (Xaa (pv 0) (Xaa (pv 2) (Xaa (Xal Xba (pv 4) Xaf) (Xaa (pv 7) Xad)))))))))))) (Xac (Xao Xbd)) Xak) (Xab (Xax (Xea (Xaj D_Z31 hr (by rfl) (Xaa (pv 0) (Xaa (Xal Xba (pv 4) Xaf) (Xaa (pv 7) Xad))))) (Xac (Xao Xbd)) Xak) (Xac (Xao Xbd)))))))))))), ?_⟩
 obtain ⟨b, us, ps, n, w, pl, j, ct, rfl, hb, pa, hc, nj, w0, w9, q⟩ := h
 have hul := pa.1
 by_cases h7 : 7 < w
 · walk_at "go"
   intro p hp
   rcases (show w = 8 ∨ w = 9 by omega) with rfl | rfl
   · walk_at "go"
     refine Xrg (xs := [.str "size", .str "broken"]) (v := .str "size") (SqL.of upd_same) rfl ?_
     walk_at "go"
     have := q _ (Same.new (o := .lst [.str "size", .str "broken"]) hp)
     rw [show dueF ps 8 pl j ct = some .size by unfold dueF; rw [if_pos (by decide), if_pos rfl]] at this
     exact this
   · walk_at "go"
     refine Xrg (xs := [.str "size", .str "broken"]) (v := .str "broken") (SqL.of upd_same) rfl ?_
     walk_at "go"
     have := q _ (Same.new (o := .lst [.str "size", .str "broken"]) hp)
     rw [show dueF ps 9 pl j ct = some .broken by unfold dueF; rw [if_pos (by decide), if_neg (by decide)]] at this
     exact this
 have q := q _ (Same.refl _)
 walk_at "go"
 refine ⟨b, rfl, ⟨_, SqL.of hb⟩, Xdm (K := K) (a := b) (xs := us) (DmW (some (.ref b)) (some (.int w)) (some (.int pl)) (some (.int j)) (some (.int ct)) ps pl H) ⟨rfl, none, rfl⟩ (fun i σ H2 _ ⟨h, _⟩ => h ▸ SqL.of hb) ?_ ?_⟩
 · rintro i y σ H2 hi ⟨rfl, x6, rfl⟩
   obtain ⟨t, z, rfl, hz1, hT⟩ := Xhf pa hi
   have hst := Xnv (pl := pl) hz1
   unfold mn1 at hst
   walk_at "go"
   refine Xff (fun h1 => ?_) (fun h1 => ?_)
   · walk_at "go"
     refine Xcf (fun h2 => ?_) (fun h2 => ?_)
     · walk_at "go"
       exact ⟨rfl, _, by rw [hst, if_pos ⟨h1, h2⟩]⟩
     · walk_at "go"
       exact ⟨rfl, _, by rw [hst, if_neg (fun h => h2 h.2)]⟩
   · walk_at "go"
     exact ⟨rfl, _, by rw [hst, if_neg (fun h => by rw [h1] at h; cases h.1)]⟩
 rintro σ H2 ⟨rfl, x6, rfl⟩
 rw [List.take_of_length_le (by omega)]
 walk_at "gs"
 refine Xgn (M := fun σ' H' => H = H' ∧ σ' = [some (.ref b), some (.int w), some (.int pl), some (.int j), some (.int ct), some (.int (Xdj ps pl)), x6, some (.int (bF w j))]) ?_ (fun nx hM => ?_)
 rotate_left
 · by_cases h : w = 5 ∨ w = 7
   · have e : bF w j = 1 := if_pos h
     rw [e] at hM
     rcases h with rfl | rfl
     · walk_at "go"
       exact hM _ _ ⟨rfl, rfl⟩
     · walk_at "go"
       exact hM _ _ ⟨rfl, rfl⟩
   · have e : bF w j = j := if_neg h
     rw [e] at hM
     have h5 : w ≠ 5 := fun e => h (.inl e)
     have h7 : w ≠ 7 := fun e => h (.inr e)
     walk_at "go"
     exact hM _ _ ⟨rfl, rfl⟩
 rintro σ' H' ⟨rfl, rfl⟩
 unfold dueF at q
 rw [if_neg h7] at q
 generalize hbd : bF w j = bd at q ⊢
 by_cases c1 : w < 6 ∧ Xdj ps pl = 0
 · rw [if_pos c1] at q
   obtain ⟨c1, c2⟩ := c1
   walk_at "go"
   exact q
 rw [if_neg c1] at q
 walk_at "gs"
 refine Xgn (M := fun σ' H' => H = H' ∧ σ' = [some (.ref b), some (.int w), some (.int pl), some (.int j), some (.int ct), some (.int (Xdj ps pl)), x6, some (.int bd)]) ?_ (fun nx hM => ?_)
 rotate_left
 · by_cases d1 : w < 6
   · have d2 : ¬ Xdj ps pl = 0 := fun e => c1 ⟨d1, e⟩
     walk_at "go"
     exact hM _ _ ⟨rfl, rfl⟩
   · walk_at "go"
     exact hM _ _ ⟨rfl, rfl⟩
 rintro σ' H' ⟨rfl, rfl⟩
 by_cases c2 : w < 2 ∧ (j < 0 ∨ Xdj ps pl ≤ j)
 · rw [if_pos c2] at q
   obtain ⟨d1, d2⟩ := c2
   by_cases d3 : j < 0
   · walk_at "go"
     exact q
   · have d4 : Xdj ps pl ≤ j := d2.resolve_left d3
     walk_at "go"
     exact q
 rw [if_neg c2] at q
 walk_at "gs"
 refine Xgn (M := fun σ' H' => H = H' ∧ σ' = [some (.ref b), some (.int w), some (.int pl), some (.int j), some (.int ct), some (.int (Xdj ps pl)), x6, some (.int bd)]) ?_ (fun nx hM => ?_)
 rotate_left
 · by_cases d1 : w < 2
   · have d2 : ¬ j < 0 := fun e => c2 ⟨d1, .inl e⟩
     have d3 : ¬ Xdj ps pl ≤ j := fun e => c2 ⟨d1, .inr e⟩
     walk_at "go"
     exact hM _ _ ⟨rfl, rfl⟩
   · walk_at "go"
     exact hM _ _ ⟨rfl, rfl⟩
 rintro σ' H' ⟨rfl, rfl⟩
 by_cases c3 : 3 < w ∧ (ct < 1 ∨ bd < 1)
 · rw [if_pos c3] at q
   obtain ⟨d1, d2⟩ := c3
   by_cases d3 : ct < 1
   · walk_at "go"
     exact q
   · have d4 : bd < 1 := d2.resolve_left d3
     walk_at "go"
     exact q
 rw [if_neg c3] at q
 walk_at "gs"
 refine Xgn (M := fun σ' H' => H = H' ∧ σ' = [some (.ref b), some (.int w), some (.int pl), some (.int j), some (.int ct), some (.int (Xdj ps pl)), x6, some (.int bd)]) ?_ (fun nx hM => ?_)
 rotate_left
 · by_cases d1 : 3 < w
   · have d2 : ¬ ct < 1 := fun e => c3 ⟨d1, .inl e⟩
     have d3 : ¬ bd < 1 := fun e => c3 ⟨d1, .inr e⟩
     walk_at "go"
     exact hM _ _ ⟨rfl, rfl⟩
   · walk_at "go"
     exact hM _ _ ⟨rfl, rfl⟩
 rintro σ' H' ⟨rfl, rfl⟩
 by_cases d1 : w < 4
 · rw [if_pos (.inl d1)] at q
   walk_at "go"
   exact q
 have d2 : 1 ≤ ct := by
   rcases Int.lt_or_le ct 1 with g | g
   · exact absurd ⟨by omega, .inl g⟩ c3
   · exact g
 have d3 : 1 ≤ bd := by
   rcases Int.lt_or_le bd 1 with g | g
   · exact absurd ⟨by omega, .inr g⟩ c3
   · exact g
 have fin : ¬ (w < 4 ∨ (w < 6 ∧ pl % bd = 0 ∧ pl - 1 + (ct + 2) ≤ enF ps (pl - 1))) → Xia [.ref b, .int (ct + 2), .int bd] H (fun v H1 => ∃ B, v = .bl B ∧ (B = true → Q (.str "ok") H1) ∧ (B = false → Q (.str "narrow") H1)) E := fun hn => by
   rw [if_neg hn] at q
   refine ⟨b, us, ps, ct + 2, bd, rfl, hb, pa, d3, fun e => ⟨_, rfl, (fun h => by cases h), fun _ => ?_⟩, fun e => ⟨_, rfl, fun _ => ?_, (fun h => by cases h)⟩⟩
   · rw [if_pos e] at q
     exact q
   · rw [if_neg e] at q
     exact q
 by_cases d4 : w < 6
 · obtain ⟨z, hz, hv, hk⟩ := Xuv hc (fun e => c1 ⟨d4, e⟩)
   subst hk
   rw [Int.add_sub_cancel] at q fin
   walk_at "go"
   refine ⟨b, us, ps, n, z, ct + 2, bd, rfl, hb, pa, hc, nj, hz, d3, fun h => ?_, fun h => ?_⟩
   · rw [if_pos (.inr ⟨d4, h⟩)] at q
     walk_at "go"
     exact q
   · have fin := fin (fun g => g.elim d1 fun g => h g.2)
     obtain ⟨b1, us1, ps1, L1, bd1, e1, hb1, pa1, f3, f1, f2⟩ := fin
     walk_at "go"
     refine ⟨b1, us1, ps1, L1, bd1, e1, hb1, pa1, f3, fun e => ?_, fun e => ?_⟩
     · obtain ⟨B, e2, g1, g2⟩ := f1 e
       cases e2
       walk_at "go"
       exact g2 rfl
     · obtain ⟨B, e2, g1, g2⟩ := f2 e
       cases e2
       walk_at "go"
       exact g1 rfl
 · have fin := fin (fun g => g.elim d1 fun g => d4 g.1)
   obtain ⟨b1, us1, ps1, L1, bd1, e1, hb1, pa1, f3, f1, f2⟩ := fin
   walk_at "go"
   refine ⟨b1, us1, ps1, L1, bd1, e1, hb1, pa1, f3, fun e => ?_, fun e => ?_⟩
   · obtain ⟨B, e2, g1, g2⟩ := f1 e
     cases e2
     walk_at "go"
     exact g2 rfl
   · obtain ⟨B, e2, g1, g2⟩ := f2 e
     cases e2
     walk_at "go"
     exact g1 rfl
def LvW (H1 : Hp) (ps : List Pc) (D : Addr) (i : Nat) (ys : List V) (H2 : Hp) : Prop := Same H1 H2 ∧ H2 D = some (.lst ys) ∧ Xbc H2 ys ((ps.take i).filter (·.v)) ∧ ys.length ≤ i
def Xxt (C : W4 → Addr) : Sp := fun vs H Q _ => ∃ (k : W4) (r : Int) (x dx a : Addr) (cs : List Int) (ps : List Pc) (c0 : Int), vs = [.ref x, .int c0, .int (cs.length : Int)] ∧ StS C k x dx a r cs ps H ∧ 1 ≤ cs.length ∧ OkS C k x dx a cs.length H (Q (.bl true))
theorem XOi (S : Src K mg "_law_step" Xsc) (T : Txt K mg Y0 Y7 Y9 Y4 Y3 Y6 Y12 Y2 Y8 Y5 Y1 Y10 Y13 Y14 Y11 W0_ W1_) (D_Z62 : Xbl P w K mg base (cF Y10 Y13 Y14 Y11) "cells" 1 ["self"] [] (Xgw (cF Y10 Y13 Y14 Y11))) (D_Z54 : Defx P w K mg base "_law_walk" 1 ["_law_cells"] (Xlk K)) (D_Z59 : Defx P w K mg base "_law_due" 2 ["_law_pieces", "_law_way", "_law_place", "_law_k", "_law_count"] (XMv)) (D_chosen : Xbl P w K mg base (cF Y10 Y13 Y14 Y11) "chosen" 6 ["self", "long", "bound"] [] (Xdk (cF Y10 Y13 Y14 Y11))) (D_Z48 : Defx P w K mg base "_law_tried" 12 ["_law_keeper", "_law_way", "_law_place", "_law_k", "_law_count"] (Xln (cF Y10 Y13 Y14 Y11))) : Defx P w K mg base "_law_step" 13 ["_law_keeper", "_law_c", "_law_size"] (Xxt (cF Y10 Y13 Y14 Y11)) := by
 refine S.okx Xep XIi (fun vs H Q E h => by revert h; walk_at "len") (fun f cdv A outer s H vs Q E hr h => ?_)
 refine ⟨_, PSs.nox (Xab (Xaq (i := 3) Xep.nd rfl (Or.inl rfl) (Xaj D_Z54 hr (by rfl) (Xaa (Xdh D_Z62 Xcg hr (pv 0)) Xad))) (Xab (Xlp (i := 4) ["_law_piece"] Xep.nd rfl (Or.inl rfl) rfl (Xcm (pv 3)) (fun cl C s₀ H₀ ex => (Xas (i := 0) (show ((["_law_piece"] : List Str) ++ ([] : List Str)).Nodup by decide +kernel) rfl (Or.inl rfl))) (fun cl C s₀ H₀ ex => (Xqi (Xpl (K := K) rfl (Xbj (XBa (K := K) rfl) (pv 0) Xaf (fun _ _ => rfl)) (fun _ => rfl)))) (fun cl C s₀ H₀ ex => (pv 0)) ) (Xab (Xaq (i := 5) Xep.nd rfl (Or.inl rfl) (Xal Xby (Xal Xbw (Xal Xbw (Xal Xfl (pv 1) Xaf) Xaf) (Xal Xba (pv 2) Xaf)) Xaf)) (Xab (Xax (PW.pt (Xdp (Xcd (pv 4) (fun _ => rfl)) (Xde (Xah Xkl (Xal Xbw (Xal Xbw (Xal Xfl (pv 1) Xaf) Xaf) Xaf) Xaf (Xam _))))) (Xac (Xaq (i := 5) Xep.nd rfl (Or.inl rfl) (Xal Xba (Xbj Xbz (Xbj Xbh (pv 4) (Xal Xbw (Xal Xbw (Xal Xfl (pv 1) Xaf) Xaf) (Xbm Xbo (by rfl) T.n_len PySem.boot_len (Xaa (pv 4) Xad))) (fun _ _ => rfl)) Xaf (fun _ _ => rfl)) Xaf))) Xak) (Xab (Xaq (i := 6) Xep.nd rfl (Or.inl rfl) (Xal Xbw (Xal Xbw (Xal Xfl (pv 1) Xaf) Xaf) Xaf)) (Xab (Xaq (i := 7) Xep.nd rfl (Or.inl rfl) (Xal Xby (Xal Xbw (Xal Xbw (Xal Xfl (pv 1) Xaf) Xaf) Xaf) Xaf)) (Xab (Xaq (i := 8) Xep.nd rfl (Or.inl rfl) (Xbj Xbh (Xdw (Xaa (Xal Xby (Xal Xbw (Xal Xbw (Xal Xfl (pv 1) Xaf) Xaf) Xaf) Xaf) (Xaa (Xal Xbw (Xal Xbw (Xal Xfl (pv 1) Xaf) Xaf) (Xal Xba (pv 2) Xaf)) (Xaa (Xal Xxv Xaf Xaf) Xad)))) (Xal Xbw (Xal Xbw (Xal Xfl (pv 1) Xaf) Xaf) Xaf) (fun _ _ => rfl))) (Xab (Xaq (i := 9) Xep.nd rfl (Or.inl rfl) (Xaj D_Z59 hr (by rfl) (Xaa (pv 3) (Xaa (pv 6) (Xaa (pv 5) (Xaa (pv 7) (Xaa (pv 8) Xad))))))) (Xab (Xaq (i := 10) Xep.nd rfl (Or.inl rfl) (Xdh D_Z62 Xcg hr (pv 0))) (Xab (Xaq (i := 11) Xep.nd rfl (Or.inl rfl) (Xbb D_chosen Xcg hr (pv 0) (Xaa Xaf (Xaa Xaf Xad)))) (Xab (Xax (Xah Xjg (Xaj D_Z48 hr (by rfl) (Xaa (pv 0) (Xaa (pv 6) (Xaa (pv 5) (Xaa (pv 7) (Xaa (pv 8) Xad)))))) (pv 9) (Xam _)) (Xac (Xao Xey)) Xak) (Xab (Xax (PW.pt (Xdp (Xah Xjg (pv 9) Xbd (Xam _)) (Xde (PW.pt (Xez (Xah (XKp hr.units) (Xdh D_Z62 Xcg hr (pv 0)) (pv 10) (Xam _)) (Xdg (Xah Xjg (Xbb D_chosen Xcg hr (pv 0) (Xaa Xaf (Xaa Xaf Xad))) (pv 11) (Xam _)))))))) (Xac (Xao Xey)) Xak) (Xac (Xao Xey)))))))))))))), ?_⟩
 obtain ⟨k, r, x, dx, a, cs, ps, c0, rfl, S, hpos, q⟩ := h
 obtain ⟨hx, ha, hz, hc, mk, nj⟩ := id S
 have hple := hc.le
 have t0 := Int.emod_nonneg (c0 * 30903 % 17389) (show (3 : Int) ≠ 0 by decide)
 have t1 := Int.emod_lt_of_pos (c0 * 30903 % 17389) (show (0 : Int) < 3 by decide)
 have w0 := Int.emod_nonneg (c0 * 69621 % 32749) (show (10 : Int) ≠ 0 by decide)
 have w1 := Int.emod_lt_of_pos (c0 * 69621 % 32749) (show (0 : Int) < 10 by decide)
 walk_at "go"
 refine ⟨r, x, dx, a, cs, rfl, hx, ha, fun p1 H1 np1 s1 hp1 => ?_⟩
 walk_at "go"
 refine ⟨p1, cs, ps, rfl, hp1, hc, mk, hz, fun bb us H2 nbb s2' hbb pa => ?_⟩
 have s2 := s1.trans s2'
 have hul := pa.1
 clear s1 s2' np1 hp1 nbb
 walk_at "go"
 refine ⟨bb, rfl, ⟨_, SqL.of hbb⟩, Xdb (K := K) (a := bb) (xs := us) (fs := []) (LvW H2 ps) (fun D hD => ⟨Same.new hD, upd_same, Xbc.nil, Nat.le_refl _⟩) (fun D i ys H3 _ h => SqL.of (h.1 bb _ hbb)) ?_ ?_⟩
 · rintro D i y ys H5 hD hi ⟨s5, hD5, py, hyl⟩ τ hτ
   have hil : i < us.length := (List.getElem?_eq_some_iff.mp hi).1
   obtain ⟨t, z, rfl, hz1, hT⟩ := Xhf (pa.same s5) hi
   have hfl := take_succ_filter (fun p : Pc => p.v) ps i z hz1
   match τ, hτ with
   | [τ0], _ =>
     walk_at "go"
     refine ⟨⟨[_], rfl, rfl⟩, ?_⟩
     walk_at "go"
     refine Xff (fun hv => ?_) (fun hv => ?_)
     · rw [if_pos hv] at hfl
       walk_at "go"
       refine ⟨hD5, small4000 (by omega), Xiy hil ⟨s5.put hD, upd_same, ?_, by rw [List.length_append, List.length_singleton]; omega⟩⟩
       rw [hfl]
       exact (py.mono (Xgp (o := .lst (ys ++ [.ref t])) (.inr ⟨_, hD5⟩))).snoc (look_tup hD5 hT)
     · rw [if_neg (by rw [hv]; exact Bool.false_ne_true), List.append_nil] at hfl
       exact Xiy hil ⟨s5, hD5, by rw [hfl]; exact py, by omega⟩
 rintro D ys H3 hD ⟨s3', hD3, py, hyl⟩
 rw [List.take_of_length_le (by omega)] at py
 have s3 := s2.trans s3'
 have hbb3 := s3' bb _ hbb
 have pa3 := pa.same s3'
 clear s2 s3' hbb pa hD
 walk_at "gs"
 refine Xgn (M := fun σ' H' => H3 = H' ∧ ∃ pl : Int, σ' = [some (.ref x), some (.int c0), some (.int (cs.length : Int)), some (.ref bb), some (.ref D), some (.int pl), none, none, none, none, none, none]) ?_ (fun nx hM => ?_)
 rotate_left
 · cases hys : ys with
   | nil =>
     rw [hys] at hD3
     walk_at "go"
     refine iteT ?_
     walk_at "go"
     exact hM _ _ ⟨rfl, _, rfl⟩
   | cons y0 yr =>
     have hyl0 : 0 < ys.length := by rw [hys, List.length_cons]; omega
     rw [hys] at hD3
     walk_at "go"
     refine iteF ?_
     rw [← hys] at hD3
     have i0 := Int.emod_nonneg (c0 * 39373 % 28657) (show (ys.length : Int) ≠ 0 by omega)
     have i1 := Int.emod_lt_of_pos (c0 * 39373 % 28657) (show (0 : Int) < ys.length by omega)
     walk_at "go"
     refine Xcf (fun _ => ?_) (fun _ => ?_)
     · walk_at "go"
       obtain ⟨t, z, et, hz1, hT⟩ := py.at i0 i1
       refine Xrg (SqL.of hD3) et ?_
       walk_at "go"
       exact hM _ _ ⟨rfl, _, rfl⟩
     · walk_at "go"
       exact hM _ _ ⟨rfl, _, rfl⟩
 rintro σ' H' ⟨rfl, pl, rfl⟩
 walk_at "go"
 intro p4 np4
 have v91 := Int.emod_nonneg (c0 * 28629 % 12041) (show (9 : Int) ≠ 0 by decide)
 have v92 := Int.emod_lt_of_pos (c0 * 28629 % 12041) (show (0 : Int) < 9 by decide)
 have v93 := Int.emod_nonneg (c0 * 28629 % 12041) (show (cs.length : Int) + 3 ≠ 0 by omega)
 have v94 := Int.emod_lt_of_pos (c0 * 28629 % 12041) (show (0 : Int) < (cs.length : Int) + 3 by omega)
 obtain ⟨v1, ev1, v11, v12⟩ : ∃ v : Int, c0 * 28629 % 12041 % 9 - 1 = v ∧ -1 ≤ v ∧ v ≤ 9 := ⟨_, rfl, by omega, by omega⟩
 obtain ⟨v2, ev2, v21, v22⟩ : ∃ v : Int, c0 * 28629 % 12041 % ((cs.length : Int) + 3) = v ∧ 0 ≤ v ∧ v ≤ 1300 := ⟨_, rfl, by omega, by omega⟩
 rw [ev1, ev2]
 clear ev1 ev2 v91 v92 v93 v94
 have hct : (([v1, v2, 10 ^ (60 : Int).toNat] : List Int).getD (c0 * 30903 % 17389 % 3).toNat 0).natAbs < 2 ^ 220 := by
   have hj : (c0 * 30903 % 17389 % 3).toNat < 3 := by omega
   generalize (c0 * 30903 % 17389 % 3).toNat = jj at hj ⊢
   rcases jj with _ | _ | _ | jj
   · exact Nat.lt_of_le_of_lt (show v1.natAbs ≤ 4000 by omega) (by decide)
   · exact Nat.lt_of_le_of_lt (show v2.natAbs ≤ 4000 by omega) (by decide)
   · show ((10 : Int) ^ (60 : Int).toNat).natAbs < 2 ^ 220
     decide +kernel
   · omega
 have s4 : Same H (upd H3 p4 (.lst [.int v1, .int v2, .int (10 ^ (60 : Int).toNat)])) := s3.trans (Same.new np4)
 have hp4 : upd H3 p4 (.lst [.int v1, .int v2, .int (10 ^ (60 : Int).toNat)]) p4 = some (.lst (([v1, v2, 10 ^ (60 : Int).toNat] : List Int).map V.int)) := upd_same
 have hbb4 : upd H3 p4 (.lst [.int v1, .int v2, .int (10 ^ (60 : Int).toNat)]) bb = some (.lst us) := (Same.new np4) bb _ hbb3
 have pa4 : Xbc (upd H3 p4 (.lst [.int v1, .int v2, .int (10 ^ (60 : Int).toNat)])) us ps := pa3.same (Same.new np4)
 generalize upd H3 p4 (.lst [.int v1, .int v2, .int (10 ^ (60 : Int).toNat)]) = H4 at s4 hp4 hbb4 pa4 ⊢
 clear s3 hbb3 pa3 hD3 np4
 walk_at "go"
 generalize ([v1, v2, 10 ^ (60 : Int).toNat] : List Int).getD (c0 * 30903 % 17389 % 3).toNat 0 = ct at hct ⊢
 generalize c0 * 40692 % 21013 % 12 - 2 = j
 generalize c0 * 69621 % 32749 % 10 = w at w0 w1 ⊢
 refine ⟨bb, us, ps, cs.length, w, pl, j, ct, rfl, hbb4, pa4, hc, nj, w0, by omega, fun H5 s5' => ?_⟩
 have s5 := s4.trans s5'
 have hx5 := s5 x _ hx
 have ha5 := s5 a _ ha
 have hn : ∀ {H' : Hp}, Same H H' → Kp2 x a H H' := fun h b o _ _ e => h b o e
 clear s4 hp4 hbb4 pa4 s5' t0 t1
 walk_at "go"
 refine ⟨r, x, dx, a, cs, rfl, hx5, ha5, fun p6 H6 np6 s6' hp6 => ?_⟩
 have s6 := s5.trans s6'
 have S6 := S.same s6
 have hx6 := S6.hx
 clear s5 s6' hx5 ha5
 walk_at "go"
 refine ⟨r, x, dx, a, cs, ps, 5, 1, rfl, S6, Int.le_refl 1, fun H7 s7' => ?_⟩
 have s7 := s6.trans s7'
 have S7 := S.same s7
 have hx7 := S7.hx
 have hp7 := s7' p6 _ hp6
 clear s6 s7' S6 hx6 hp6
 walk_at "go"
 cases hd : dueF ps w pl j ct with
 | none =>
   rw [show Xzx none = "ok" from rfl]
   refine ⟨k, r, x, dx, a, cs, ps, w, pl, j, ct, rfl, S7, hpos, w0, by omega, fun _ => hct, fun e he => (by rw [hd] at he; cases he), fun _ a' r' cs' ps' H8 ha8 k8 l8 _ S8 => ?_⟩
   walk_at "go"
   exact q a' r' cs' ps' H8 (ha8.imp id s7.free) (fun b o n1 n2 h => k8 b o n1 n2 (s7 b o h)) l8 S8
 | some e =>
   rw [show Xzx (some e) = Xnq e from rfl]
   refine ⟨k, r, x, dx, a, cs, ps, w, pl, j, ct, rfl, S7, hpos, w0, by omega, fun _ => hct, fun e' he H8 s8' => ?_, fun h => (by rw [hd] at h; cases h)⟩
   have ee : e = e' := by rw [hd] at he; exact Option.some.inj he
   subst ee
   have s8 := s7.trans s8'
   have S8 := S.same s8
   have hx8 := S8.hx
   have ha8 := S8.ha
   have hp8 := s8' p6 _ hp7
   walk_at "go"
   rw [decide_eq_false Xxa]
   walk_at "go"
   refine ⟨r, x, dx, a, cs, rfl, hx8, ha8, fun p9 H9 np9 s9' hp9 => ?_⟩
   have s9 := s8.trans s9'
   have S9 := S.same s9
   have hx9 := S9.hx
   walk_at "go"
   refine ⟨p9, p6, cs, cs, rfl, rfl, SqL.of hp9, SqL.of (s9' p6 _ hp8), ?_⟩
   rw [decide_eq_true rfl]
   walk_at "go"
   refine ⟨r, x, dx, a, cs, ps, 5, 1, rfl, S9, Int.le_refl 1, fun H10 s10' => ?_⟩
   have s10 := s9.trans s10'
   have fin := q a r cs ps H10 (.inl rfl) (hn s10) rfl (S.same s10)
   cases hch : chQ k r cs (Xav ps 5 1) with
   | none =>
     walk_at "go"
     refine ⟨rfl, ?_⟩
     rw [decide_eq_true rfl]
     walk_at "go"
     exact fin
   | some s =>
     walk_at "go"
     exact fin
theorem Xsy {k : Int} (h0 : 0 ≤ k) (h1 : k < 4) : ∃ i, atI [V.str "first", V.str "best", V.str "next", V.str "likes"] k = some (.str (Xpk i)) := by
 rcases (show k = 0 ∨ k = 1 ∨ k = 2 ∨ k = 3 by omega) with rfl | rfl | rfl | rfl
 · exact ⟨.first, rfl⟩
 · exact ⟨.best, rfl⟩
 · exact ⟨.next, rfl⟩
 · exact ⟨.likes, rfl⟩
theorem Xle {n : Int} : Xav [⟨0, n, false⟩] n 1 = [(0, 0)] := by
 have e : Xfa n 1 ⟨0, n, false⟩ = some (0, 0) := by
   unfold Xfa fp
   rw [if_neg (show ¬ (false = true) from Bool.false_ne_true), if_pos (show fpl 0 1 + n ≤ 0 + n by unfold fpl; omega)]
   rfl
 unfold Xav
 rw [List.filterMap_cons, e]
 rfl
theorem Xqo {n : Int} (h : 1 ≤ n) : cutL [⟨0, n, false⟩] 0 n = [⟨0, n, true⟩] := by
 have e : ct1 0 n ⟨0, n, false⟩ = [⟨0, n, true⟩] := by
   unfold ct1
   rw [if_neg (show ¬ ((⟨0, n, false⟩ : Pc).v = true ∨ (0 : Int) < (⟨0, n, false⟩ : Pc).a ∨ (⟨0, n, false⟩ : Pc).a + (⟨0, n, false⟩ : Pc).l ≤ 0) from fun g => by
     rcases g with g | g | g
     · cases g
     · exact absurd (show (0 : Int) < 0 from g) (by omega)
     · exact absurd (show (0 : Int) + n ≤ 0 from g) (by omega))]
   rw [if_neg (show ¬ ((⟨0, n, false⟩ : Pc).a < 0) from fun g => absurd (show (0 : Int) < 0 from g) (by omega)), if_neg (show ¬ (0 + n < (⟨0, n, false⟩ : Pc).a + (⟨0, n, false⟩ : Pc).l) from fun g => absurd (show 0 + n < 0 + n from g) (by omega))]
   rfl
 unfold cutL
 rw [List.map_singleton, e]
 rfl
theorem Xof {n : Int} (h : 3 ≤ n) : dueF [⟨0, n, false⟩] 7 0 0 (n - 2) = none := by
 unfold dueF
 rw [if_neg (by decide), if_neg (by omega), if_neg (by omega), show bF 7 0 = 1 from rfl, if_neg (by omega), if_neg (by omega), show n - 2 + 2 = n by omega, Xle, if_neg (fun h => by cases h)]
theorem Xmt {n : Int} : dueF [⟨0, n, true⟩] 7 0 0 1 = some .narrow := by
 unfold dueF
 rw [if_neg (by decide), if_neg (by omega), if_neg (by omega), show bF 7 0 = 1 from rfl, if_neg (by omega), if_neg (by omega), if_pos (show Xav [⟨0, n, true⟩] (1 + 2) 1 = [] from rfl)]
def KpS (C : W4 → Addr) (k : W4) (f0 f1 : Option V) (x dx q1 : Addr) (zs : List Int) (n : Nat) (x3 : Option V) (σ : L2.St) (H' : Hp) : Prop :=
 ∃ (a : Addr) (r : Int) (cs : List Int) (ps : List Pc), σ = [f0, f1, some (.ref x), x3] ∧ H' q1 = some (.lst (zs.map V.int)) ∧ a ≠ q1 ∧ StS C k x dx a r cs ps H' ∧ cs.length = n
def LwW (C : W4 → Addr) (k : W4) (f0 f1 : Option V) (x dx q1 : Addr) (zs : List Int) (n : Nat) (i : Nat) (σ : L2.St) (H' : Hp) : Prop := ∃ x3, KpS C k f0 f1 x dx q1 zs n x3 σ H'
theorem Xma {C : W4 → Addr} {k : W4} {f0 f1 x3 : Option V} {x dx a a' q1 : Addr} {zs cs' : List Int} {n : Nat} {r r' : Int} {cs : List Int} {ps ps' : List Pc} {H H' : Hp} (hq : H q1 = some (.lst (zs.map V.int))) (naq : a ≠ q1) (S : StS C k x dx a r cs ps H) (hl : cs.length = n) (ha : a' = a ∨ H a' = none) (kp : Kp2 x a H H') (l : cs'.length = cs.length) (S' : StS C k x dx a' r' cs' ps' H') :
   KpS C k f0 f1 x dx q1 zs n x3 [f0, f1, some (.ref x), x3] H' := by
 have hqx : q1 ≠ x := fun e => by rw [e, S.hx] at hq; cases hq
 refine ⟨a', r', cs', ps', rfl, kp q1 _ hqx (Ne.symm naq) hq, ?_, S', by omega⟩
 rcases ha with e | e
 · rw [e]; exact naq
 · exact fun w => by rw [w, hq] at e; cases e
theorem XKq {f : Addr} {fd : FuncData} (F : Fun K "law" "law" Xkz f fd) (T : Txt K mg Y0 Y7 Y9 Y4 Y3 Y6 Y12 Y2 Y8 Y5 Y1 Y10 Y13 Y14 Y11 W0_ W1_) (D_Z33 : Defx P w K mg base "_law_cell_at" 1 ["_law_script", "_law_k"] (Xry K)) (D_Z14 : Defx P w K mg base "stretches_of" 6 ["word", "size"] (spOf (cF Y10 Y13 Y14 Y11) Y7 Y9)) (D_Z48 : Defx P w K mg base "_law_tried" 12 ["_law_keeper", "_law_way", "_law_place", "_law_k", "_law_count"] (Xln (cF Y10 Y13 Y14 Y11))) (D_Z52 : Defx P w K mg base "_law_step" 13 ["_law_keeper", "_law_c", "_law_size"] (Xxt (cF Y10 Y13 Y14 Y11))) (D_Z58 : Xbl P w K mg base (cF Y10 Y13 Y14 Y11) "clear" 7 ["self"] [] (Xql (cF Y10 Y13 Y14 Y11))) (D_Z54 : Defx P w K mg base "_law_walk" 1 ["_law_cells"] (Xlk K)) (D_Z62 : Xbl P w K mg base (cF Y10 Y13 Y14 Y11) "cells" 1 ["self"] [] (Xgw (cF Y10 Y13 Y14 Y11))) : FnOk P w K mg base (CXe P w) 14 f fd ["_law_script"] (Xsk K) := by
 refine Xbi F Xms (fun vs H Q E h => by revert h; walk_at "len") (fun cdv A outer s H vs Q E hr h => ?_)
 refine ⟨_, PSs.nox (Xab (Xaq (i := 1) Xms.nd rfl (Or.inl rfl) (Xal Xba Xaf (Xal Xbw (Xaj D_Z33 hr (by rfl) (Xaa (pv 0) (Xaa Xaf Xad))) Xaf))) (Xab (Xaq (i := 2) Xms.nd rfl (Or.inl rfl) (Xaj D_Z14 hr (by rfl) (Xaa (Xbj Xbh (Xdw (Xaa Xbd (Xaa Xbd (Xaa Xbd (Xaa Xbd Xad))))) (Xal Xbw (Xaj D_Z33 hr (by rfl) (Xaa (pv 0) (Xaa Xaf Xad))) Xaf) (fun _ _ => rfl)) (Xaa (pv 1) Xad)))) (Xab (Xax (Xfc (Xea (Xbm Xok (by rfl) T.n_isinstance PyProof.Rows.boot_isinstance (Xaa (pv 2) (Xaa (Xdd (v := .ref Y5) (by rfl) T.c_Keeper rfl) Xad))))) (Xac (Xao Xey)) Xak) (Xab (Xgl PassesOwn.never rfl (Xcm (Xfs Xhn (pv 0) (Xfg Xaf) (Xfg Xaf))) (Xas (i := 3) Xms.nd rfl (Or.inl rfl)) (Xab (Xau (Xaj D_Z48 hr (by rfl) (Xaa (pv 2) (Xaa Xaf (Xaa Xaf (Xaa Xaf (Xaa (Xal Xba Xaf (Xal Xbw (Xal Xbw (Xal Xfl (pv 3) Xaf) Xaf) Xaf)) Xad))))))) (Xac (Xax (Xfc (Xea (Xaj D_Z52 hr (by rfl) (Xaa (pv 2) (Xaa (pv 3) (Xaa (pv 1) Xad)))))) (Xac (Xao Xey)) Xak)))) (Xab (Xau (Xaj D_Z48 hr (by rfl) (Xaa (pv 2) (Xaa Xaf (Xaa Xaf (Xaa Xaf (Xaa (Xal Xby (pv 1) Xaf) Xad))))))) (Xab (Xau (Xdh D_Z58 Xcg hr (pv 2))) (Xab (Xax (PW.pt (Xez (Xah Xjg (Xaj D_Z48 hr (by rfl) (Xaa (pv 2) (Xaa Xaf (Xaa Xaf (Xaa Xaf (Xaa (Xal Xby (pv 1) Xaf) Xad)))))) Xbd (Xam _)) (Xdg (Xah Xjg (Xaj D_Z48 hr (by rfl) (Xaa (pv 2) (Xaa Xaf (Xaa Xaf (Xaa Xaf (Xaa Xaf Xad)))))) Xbd (Xam _))))) (Xac (Xao Xey)) Xak) (Xac (Xao (Xfy (XDg hr.units) (Xaj D_Z54 hr (by rfl) (Xaa (Xdh D_Z62 Xcg hr (pv 2)) Xad)) (Xdw (Xaa (Xfb (Xaa Xaf (Xaa (pv 1) (Xaa Xey Xad)))) Xad)) (Xam _))))))))))), ?_⟩
 obtain ⟨sc, ns, rfl, hS, hlen, kk⟩ := h
 have v0 := Int.emod_nonneg (ns.getD (0 : Int).toNat 0) (show (58 : Int) ≠ 0 by decide)
 have v1 := Int.emod_lt_of_pos (ns.getD (0 : Int).toNat 0) (show (0 : Int) < 58 by decide)
 have c40 := Int.emod_nonneg (ns.getD (1 : Int).toNat 0) (show (4 : Int) ≠ 0 by decide)
 have c41 := Int.emod_lt_of_pos (ns.getD (1 : Int).toNat 0) (show (0 : Int) < 4 by decide)
 walk_at "go"
 obtain ⟨n, en, n1, n2⟩ : ∃ n : Int, 3 + ns.getD (0 : Int).toNat 0 % 58 = n ∧ 3 ≤ n ∧ n ≤ 60 := ⟨_, rfl, by omega, by omega⟩
 rw [en]
 clear en v0 v1
 intro l1 hl1
 have s1 : Same H (upd H l1 (.lst [.str "first", .str "best", .str "next", .str "likes"])) := Same.new hl1
 have h1 : upd H l1 (.lst [.str "first", .str "best", .str "next", .str "likes"]) l1 = some (.lst [.str "first", .str "best", .str "next", .str "likes"]) := upd_same
 generalize upd H l1 (.lst [.str "first", .str "best", .str "next", .str "likes"]) = H1 at s1 h1 ⊢
 have hS1 := s1.seq hS
 walk_at "go"
 obtain ⟨k, ek⟩ := Xsy c40 c41
 refine Xrg (SqL.of h1) ek ?_
 walk_at "go"
 refine ⟨Xpk k, n, rfl, by omega, fun hw => absurd rfl (hw k), fun i hi hn => absurd hn (by omega), fun k' hk _ x dx a H7 nx7 s7 S7 => ?_⟩
 have hS7 := s7.seq hS1
 clear hk hS1 s1 h1 hl1 hS c40 c41 ek
 have hx7 := S7.hx
 have ik := T_ik T k'
 have ist := T_is T k'
 walk_at "go"
 intro q1 H9 mq1 s9 hq1
 have S9 := S7.same s9
 have naq : a ≠ q1 := fun e => by rw [← e, S7.ha] at mq1; cases mq1
 have fl := Xev (show 0 ≤ n by omega)
 obtain ⟨m, em⟩ : ∃ m : Nat, (Xdi n).length = m := ⟨_, rfl⟩
 generalize cutI ns (some 2) (some 32) = zs at hq1 ⊢
 clear S7 hx7 mq1 s9 hS7 nx7 s7
 refine ⟨q1, rfl, ⟨_, SqL.of hq1⟩, Xdm (K := K) (a := q1) (xs := zs.map V.int) (LwW (cF Y10 Y13 Y14 Y11) k' (some (.ref sc)) (some (.int n)) x dx q1 zs m) ⟨none, a, 0, _, _, rfl, hq1, naq, S9, em⟩ (fun i σ H2 _ ⟨_, _, _, _, _, _, h, _⟩ => SqL.of h) ?_ ?_⟩
 · rintro i y σ H2 hi ⟨x3, a, r, cs, ps, rfl, hq2, naq, S, hl⟩
   rw [List.getElem?_map] at hi
   obtain ⟨c0, hc0, rfl⟩ := Option.map_eq_some_iff.mp hi
   have hnm : n = (m : Int) := by omega
   refine r_gnameN (σ' := [some (.ref sc), some (.int n), some (.ref x), some (.int c0)]) (by walk_at "set") ?_
   refine Xgn (M := KpS (cF Y10 Y13 Y14 Y11) k' (some (.ref sc)) (some (.int n)) x dx q1 zs m (some (.int c0))) ?_ (fun nx hM => ?_)
   rotate_left
   · walk_at "go"
     refine ⟨k', r, x, dx, a, cs, ps, 7, 0, 0, _, rfl, S, by omega, by omega, by omega, (fun h => absurd h (by decide)), fun e he H3 s3 => ?_, fun _ a' r' cs' ps' H3 ha3 k3 l3 _ S3 => ?_⟩
     · walk_at "go"
       exact hM _ _ ⟨a, r, cs, ps, rfl, s3 q1 _ hq2, naq, S.same s3, hl⟩
     · walk_at "go"
       exact hM _ _ (Xma hq2 naq S hl ha3 k3 l3 S3)
   rintro σ' H3 ⟨a, r, cs, ps, rfl, hq3, naq, S, hl⟩
   walk_at "go"
   refine ⟨k', r, x, dx, a, cs, ps, c0, by rw [show n = (cs.length : Int) by omega], S, by omega, fun a' r' cs' ps' H4 ha4 k4 l4 S4 => ?_⟩
   walk_at "go"
   exact ⟨_, Xma hq3 naq S hl ha4 k4 l4 S4⟩
 rintro σ H2 ⟨x3, a, r, cs, ps, rfl, hq2, naq, S, hl⟩
 refine Xgn (M := fun σ' H' => H2 = H' ∧ σ' = [some (.ref sc), some (.int n), some (.ref x), x3]) ?_ (fun nx hM => hM _ _ ⟨rfl, rfl⟩)
 rintro σ' H' ⟨rfl, rfl⟩
 refine Xgn (M := KpS (cF Y10 Y13 Y14 Y11) k' (some (.ref sc)) (some (.int n)) x dx q1 zs m x3) ?_ (fun nx hM => ?_)
 rotate_left
 · walk_at "go"
   refine ⟨k', r, x, dx, a, cs, ps, 7, 0, 0, _, rfl, S, by omega, by omega, by omega, (fun h => absurd h (by decide)), fun e he H3 s3 => ?_, fun _ a' r' cs' ps' H3 ha3 k3 l3 _ S3 => ?_⟩
   · walk_at "go"
     exact hM _ _ ⟨a, r, cs, ps, rfl, s3 q1 _ hq2, naq, S.same s3, hl⟩
   · walk_at "go"
     exact hM _ _ (Xma hq2 naq S hl ha3 k3 l3 S3)
 rintro σ' H3 ⟨a, r, cs, ps, rfl, hq3, naq, S, hl⟩
 have hx3 := S.hx
 walk_at "go"
 refine ⟨r, x, dx, a, cs, rfl, hx3, S.ha, by omega, S.hz, fun a' cs' H4 na4 k4 l4 S4 => ?_⟩
 rw [show (cs.length : Int) = n by omega] at S4
 clear hq3 naq S hx3 hq1 S9
 have hx4 := S4.hx
 walk_at "go"
 refine ⟨k', 0, x, dx, a', cs', _, 7, 0, 0, n - 2, rfl, S4, by omega, by omega, by omega, (fun h => absurd h (by decide)), fun e he => (by rw [Xof n1] at he; cases he), fun _ a5 r5 cs5 ps5 H5 ha5 k5 l5 h5 S5 => ?_⟩
 obtain ⟨s, hs, e5⟩ := h5 rfl
 rw [show n - 2 + 2 = n by omega] at hs e5
 obtain ⟨i0, z0, hz0, _, g1, g2, _⟩ := XBq (Int.le_refl 1) hs
 have ez : z0 = ⟨0, n, false⟩ := by
   have := List.mem_of_getElem? hz0
   exact List.mem_singleton.mp this
 subst ez
 have es : s = 0 := by
   have g1 : 0 ≤ s := g1
   have g2 : s + n ≤ 0 + n := g2
   omega
 subst es
 rw [Xqo (by omega)] at e5
 subst e5
 have hx5 := S5.hx
 walk_at "go"
 refine ⟨k', r5, x, dx, a5, cs5, _, 7, 0, 0, 1, rfl, S5, by omega, by omega, by omega, (fun h => absurd h (by decide)), fun e he H6 s6 => ?_, fun h => (by rw [Xmt] at h; cases h)⟩
 have ee : e = .narrow := by rw [Xmt] at he; exact (Option.some.inj he).symm
 subst ee
 rw [show Xnq .narrow = "narrow" from rfl]
 have S6 := S5.same s6
 have hx6 := S6.hx
 walk_at "go"
 refine ⟨r5, x, dx, a5, cs5, rfl, hx6, S6.ha, fun p7 H7 np7 s7 hp7 => ?_⟩
 walk_at "go"
 refine ⟨p7, cs5, _, rfl, hp7, S6.hc, S6.mm, S6.hz, fun b8 us8 H8 nb8 s8 hb8 pa8 => ?_⟩
 walk_at "go"
 intro t1 ht1
 walk_at "go"
 intro l1 hl1
 have s9 := (Same.new (o := .tup [.int 0, .int n, .bl true]) ht1).trans (Same.new (o := .lst [.ref t1]) hl1)
 refine ⟨b8, l1, us8, [.ref t1], [⟨0, n, true⟩], rfl, rfl, s9 b8 _ hb8, upd_same, pa8.same s9, Xbc.nil.snoc (p := ⟨0, n, true⟩) ((Same.new hl1) t1 _ upd_same), ?_⟩
 walk_at "go"
 first | exact kk _ | (rw [decide_eq_true rfl]; exact kk _)
end
abbrev LkF (K : PySem.W.Frag) (x q : Str) (s : Stmt) (D : Value) (f : Addr) (oc : Value) (od : Option Addr) (kV dc pm : Value) (an : Option Addr) (cd ct : Value) (sl : Array (Option Value)) : Prop := K.lookup f = some ⟨oc, od, .func (PySem.W.fnOf x q (Xbp s) (Xaz s) (Xae s) D kV dc pm an cd ct), sl⟩
set_option autoImplicit true in
set_option relaxedAutoImplicit true in
theorem all_mk {l : PySem.W.OpenLaw} {w : World} {K : PySem.W.Frag} {h : Heap} {mg : Str → Option Value} {fa : Addr} (X : K.In h) (G : h.Ns mainGlobals mg) (hfa : mg "law" = some (.ref fa))
   (a_Z60 : PySem.W.nsIn K mainGlobals "_wall" = some (some (.ref f_Z60)))
   (l_Z60 : LkF K "_wall" "_wall" Xty .none f_Z60 oc_Z60 od_Z60 kV_Z60 dc_Z60 pm_Z60 an_Z60 cd_Z60 ct_Z60 sl_Z60)
   (c_Z60 : PySem.W.codeIn K cd_Z60 "_wall" = true)
   (k_Z60 : PySem.W.keepIn K (.ref f_Z60) = true)
   (a_Z36 : PySem.W.nsIn K mainGlobals "check_ask" = some (some (.ref f_Z36)))
   (l_Z36 : LkF K "check_ask" "check_ask" Xrw .none f_Z36 oc_Z36 od_Z36 kV_Z36 dc_Z36 pm_Z36 an_Z36 cd_Z36 ct_Z36 sl_Z36)
   (c_Z36 : PySem.W.codeIn K cd_Z36 "check_ask" = true)
   (k_Z36 : PySem.W.keepIn K (.ref f_Z36) = true)
   (a_Z5 : PySem.W.nsIn K mainGlobals "check_plain_ask" = some (some (.ref f_Z5)))
   (l_Z5 : LkF K "check_plain_ask" "check_plain_ask" s_Z5 .none f_Z5 oc_Z5 od_Z5 kV_Z5 dc_Z5 pm_Z5 an_Z5 cd_Z5 ct_Z5 sl_Z5)
   (c_Z5 : PySem.W.codeIn K cd_Z5 "check_plain_ask" = true)
   (k_Z5 : PySem.W.keepIn K (.ref f_Z5) = true)
   (a_Z43 : PySem.W.nsIn K mainGlobals "mark_of" = some (some (.ref f_Z43)))
   (l_Z43 : LkF K "mark_of" "mark_of" Xqt .none f_Z43 oc_Z43 od_Z43 kV_Z43 dc_Z43 pm_Z43 an_Z43 cd_Z43 ct_Z43 sl_Z43)
   (c_Z43 : PySem.W.codeIn K cd_Z43 "mark_of" = true)
   (k_Z43 : PySem.W.keepIn K (.ref f_Z43) = true)
   (a_Z46 : PySem.W.nsIn K mainGlobals "long_of" = some (some (.ref f_Z46)))
   (l_Z46 : LkF K "long_of" "long_of" Xrs .none f_Z46 oc_Z46 od_Z46 kV_Z46 dc_Z46 pm_Z46 an_Z46 cd_Z46 ct_Z46 sl_Z46)
   (c_Z46 : PySem.W.codeIn K cd_Z46 "long_of" = true)
   (k_Z46 : PySem.W.keepIn K (.ref f_Z46) = true)
   (a_Z51 : PySem.W.nsIn K mainGlobals "live_of" = some (some (.ref f_Z51)))
   (l_Z51 : LkF K "live_of" "live_of" Xor .none f_Z51 oc_Z51 od_Z51 kV_Z51 dc_Z51 pm_Z51 an_Z51 cd_Z51 ct_Z51 sl_Z51)
   (c_Z51 : PySem.W.codeIn K cd_Z51 "live_of" = true)
   (k_Z51 : PySem.W.keepIn K (.ref f_Z51) = true)
   (a_Z32 : PySem.W.nsIn K mainGlobals "can_begin" = some (some (.ref f_Z32)))
   (l_Z32 : LkF K "can_begin" "can_begin" Xpb .none f_Z32 oc_Z32 od_Z32 kV_Z32 dc_Z32 pm_Z32 an_Z32 cd_Z32 ct_Z32 sl_Z32)
   (c_Z32 : PySem.W.codeIn K cd_Z32 "can_begin" = true)
   (k_Z32 : PySem.W.keepIn K (.ref f_Z32) = true)
   (a_Z13 : PySem.W.nsIn K mainGlobals "bad_of_piece" = some (some (.ref f_Z13)))
   (l_Z13 : LkF K "bad_of_piece" "bad_of_piece" Xrz .none f_Z13 oc_Z13 od_Z13 kV_Z13 dc_Z13 pm_Z13 an_Z13 cd_Z13 ct_Z13 sl_Z13)
   (c_Z13 : PySem.W.codeIn K cd_Z13 "bad_of_piece" = true)
   (k_Z13 : PySem.W.keepIn K (.ref f_Z13) = true)
   (a_Z57 : PySem.W.nsIn K mainGlobals "looked" = some (some (.ref f_Z57)))
   (l_Z57 : LkF K "looked" "looked" Xqv .none f_Z57 oc_Z57 od_Z57 kV_Z57 dc_Z57 pm_Z57 an_Z57 cd_Z57 ct_Z57 sl_Z57)
   (c_Z57 : PySem.W.codeIn K cd_Z57 "looked" = true)
   (k_Z57 : PySem.W.keepIn K (.ref f_Z57) = true)
   (a_Z28 : PySem.W.nsIn K mainGlobals "fresh_room" = some (some (.ref f_Z28)))
   (l_Z28 : LkF K "fresh_room" "fresh_room" Xqp .none f_Z28 oc_Z28 od_Z28 kV_Z28 dc_Z28 pm_Z28 an_Z28 cd_Z28 ct_Z28 sl_Z28)
   (c_Z28 : PySem.W.codeIn K cd_Z28 "fresh_room" = true)
   (k_Z28 : PySem.W.keepIn K (.ref f_Z28) = true)
   (a_Z66 : PySem.W.nsIn K mainGlobals "laid" = some (some (.ref f_Z66)))
   (l_Z66 : LkF K "laid" "laid" Xqb .none f_Z66 oc_Z66 od_Z66 kV_Z66 dc_Z66 pm_Z66 an_Z66 cd_Z66 ct_Z66 sl_Z66)
   (c_Z66 : PySem.W.codeIn K cd_Z66 "laid" = true)
   (k_Z66 : PySem.W.keepIn K (.ref f_Z66) = true)
   (a_Z34 : PySem.W.nsIn K mainGlobals "laid_free" = some (some (.ref f_Z34)))
   (l_Z34 : LkF K "laid_free" "laid_free" Xrn .none f_Z34 oc_Z34 od_Z34 kV_Z34 dc_Z34 pm_Z34 an_Z34 cd_Z34 ct_Z34 sl_Z34)
   (c_Z34 : PySem.W.codeIn K cd_Z34 "laid_free" = true)
   (k_Z34 : PySem.W.keepIn K (.ref f_Z34) = true)
   (a_Z40 : PySem.W.nsIn K mainGlobals "piece_at" = some (some (.ref f_Z40)))
   (l_Z40 : LkF K "piece_at" "piece_at" Xom .none f_Z40 oc_Z40 od_Z40 kV_Z40 dc_Z40 pm_Z40 an_Z40 cd_Z40 ct_Z40 sl_Z40)
   (c_Z40 : PySem.W.codeIn K cd_Z40 "piece_at" = true)
   (k_Z40 : PySem.W.keepIn K (.ref f_Z40) = true)
   (a_Z45 : PySem.W.nsIn K mainGlobals "live_at" = some (some (.ref f_Z45)))
   (l_Z45 : LkF K "live_at" "live_at" Xqq .none f_Z45 oc_Z45 od_Z45 kV_Z45 dc_Z45 pm_Z45 an_Z45 cd_Z45 ct_Z45 sl_Z45)
   (c_Z45 : PySem.W.codeIn K cd_Z45 "live_at" = true)
   (k_Z45 : PySem.W.keepIn K (.ref f_Z45) = true)
   (a_Z49 : PySem.W.nsIn K mainGlobals "free_at" = some (some (.ref f_Z49)))
   (l_Z49 : LkF K "free_at" "free_at" Xpp .none f_Z49 oc_Z49 od_Z49 kV_Z49 dc_Z49 pm_Z49 an_Z49 cd_Z49 ct_Z49 sl_Z49)
   (c_Z49 : PySem.W.codeIn K cd_Z49 "free_at" = true)
   (k_Z49 : PySem.W.keepIn K (.ref f_Z49) = true)
   (a_Z12 : PySem.W.nsIn K mainGlobals "begin_around" = some (some (.ref f_Z12)))
   (l_Z12 : LkF K "begin_around" "begin_around" Xpw .none f_Z12 oc_Z12 od_Z12 kV_Z12 dc_Z12 pm_Z12 an_Z12 cd_Z12 ct_Z12 sl_Z12)
   (c_Z12 : PySem.W.codeIn K cd_Z12 "begin_around" = true)
   (k_Z12 : PySem.W.keepIn K (.ref f_Z12) = true)
   (a_Z25 : PySem.W.nsIn K mainGlobals "free_begin" = some (some (.ref f_Z25)))
   (l_Z25 : LkF K "free_begin" "free_begin" Xoq .none f_Z25 oc_Z25 od_Z25 kV_Z25 dc_Z25 pm_Z25 an_Z25 cd_Z25 ct_Z25 sl_Z25)
   (c_Z25 : PySem.W.codeIn K cd_Z25 "free_begin" = true)
   (k_Z25 : PySem.W.keepIn K (.ref f_Z25) = true)
   (a_Z38 : PySem.W.nsIn K mainGlobals "free_end" = some (some (.ref f_Z38)))
   (l_Z38 : LkF K "free_end" "free_end" Xrb .none f_Z38 oc_Z38 od_Z38 kV_Z38 dc_Z38 pm_Z38 an_Z38 cd_Z38 ct_Z38 sl_Z38)
   (c_Z38 : PySem.W.codeIn K cd_Z38 "free_end" = true)
   (k_Z38 : PySem.W.keepIn K (.ref f_Z38) = true)
   (a_Z47 : PySem.W.nsIn K mainGlobals "cut_out" = some (some (.ref f_Z47)))
   (l_Z47 : LkF K "cut_out" "cut_out" Xrc .none f_Z47 oc_Z47 od_Z47 kV_Z47 dc_Z47 pm_Z47 an_Z47 cd_Z47 ct_Z47 sl_Z47)
   (c_Z47 : PySem.W.codeIn K cd_Z47 "cut_out" = true)
   (k_Z47 : PySem.W.keepIn K (.ref f_Z47) = true)
   (a_Z61 : PySem.W.nsIn K mainGlobals "freed" = some (some (.ref f_Z61)))
   (l_Z61 : LkF K "freed" "freed" Xoi .none f_Z61 oc_Z61 od_Z61 kV_Z61 dc_Z61 pm_Z61 an_Z61 cd_Z61 ct_Z61 sl_Z61)
   (c_Z61 : PySem.W.codeIn K cd_Z61 "freed" = true)
   (k_Z61 : PySem.W.keepIn K (.ref f_Z61) = true)
   (a_Z10 : PySem.W.nsIn K mainGlobals "joined_pieces" = some (some (.ref f_Z10)))
   (l_Z10 : LkF K "joined_pieces" "joined_pieces" Xrj .none f_Z10 oc_Z10 od_Z10 kV_Z10 dc_Z10 pm_Z10 an_Z10 cd_Z10 ct_Z10 sl_Z10)
   (c_Z10 : PySem.W.codeIn K cd_Z10 "joined_pieces" = true)
   (k_Z10 : PySem.W.keepIn K (.ref f_Z10) = true)
   (a_Z53 : PySem.W.nsIn K mainGlobals "joined" = some (some (.ref f_Z53)))
   (l_Z53 : LkF K "joined" "joined" Xrq .none f_Z53 oc_Z53 od_Z53 kV_Z53 dc_Z53 pm_Z53 an_Z53 cd_Z53 ct_Z53 sl_Z53)
   (c_Z53 : PySem.W.codeIn K cd_Z53 "joined" = true)
   (k_Z53 : PySem.W.keepIn K (.ref f_Z53) = true)
   (a_Z44 : PySem.W.nsIn K mainGlobals "carried" = some (some (.ref f_Z44)))
   (l_Z44 : LkF K "carried" "carried" Xop .none f_Z44 oc_Z44 od_Z44 kV_Z44 dc_Z44 pm_Z44 an_Z44 cd_Z44 ct_Z44 sl_Z44)
   (c_Z44 : PySem.W.codeIn K cd_Z44 "carried" = true)
   (k_Z44 : PySem.W.keepIn K (.ref f_Z44) = true)
   (a_Z22 : PySem.W.nsIn K mainGlobals "first_place" = some (some (.ref f_Z22)))
   (l_Z22 : LkF K "first_place" "first_place" Xol .none f_Z22 oc_Z22 od_Z22 kV_Z22 dc_Z22 pm_Z22 an_Z22 cd_Z22 ct_Z22 sl_Z22)
   (c_Z22 : PySem.W.codeIn K cd_Z22 "first_place" = true)
   (k_Z22 : PySem.W.keepIn K (.ref f_Z22) = true)
   (a_Z35 : PySem.W.nsIn K mainGlobals "spots_for" = some (some (.ref f_Z35)))
   (l_Z35 : LkF K "spots_for" "spots_for" Xqs .none f_Z35 oc_Z35 od_Z35 kV_Z35 dc_Z35 pm_Z35 an_Z35 cd_Z35 ct_Z35 sl_Z35)
   (c_Z35 : PySem.W.codeIn K cd_Z35 "spots_for" = true)
   (k_Z35 : PySem.W.keepIn K (.ref f_Z35) = true)
   (a_Z20 : PySem.W.nsIn K mainGlobals "least_place" = some (some (.ref f_Z20)))
   (l_Z20 : LkF K "least_place" "least_place" Xsa .none f_Z20 oc_Z20 od_Z20 kV_Z20 dc_Z20 pm_Z20 an_Z20 cd_Z20 ct_Z20 sl_Z20)
   (c_Z20 : PySem.W.codeIn K cd_Z20 "least_place" = true)
   (k_Z20 : PySem.W.keepIn K (.ref f_Z20) = true)
   (a_Z14 : PySem.W.nsIn K mainGlobals "stretches_of" = some (some (.ref f_Z14)))
   (l_Z14 : LkF K "stretches_of" "stretches_of" Xpz .none f_Z14 oc_Z14 od_Z14 kV_Z14 dc_Z14 pm_Z14 an_Z14 cd_Z14 ct_Z14 sl_Z14)
   (c_Z14 : PySem.W.codeIn K cd_Z14 "stretches_of" = true)
   (k_Z14 : PySem.W.keepIn K (.ref f_Z14) = true)
   (a_Z33 : PySem.W.nsIn K mainGlobals "_law_cell_at" = some (some (.ref f_Z33)))
   (l_Z33 : LkF K "_law_cell_at" "_law_cell_at" Xoz .none f_Z33 oc_Z33 od_Z33 kV_Z33 dc_Z33 pm_Z33 an_Z33 cd_Z33 ct_Z33 sl_Z33)
   (c_Z33 : PySem.W.codeIn K cd_Z33 "_law_cell_at" = true)
   (k_Z33 : PySem.W.keepIn K (.ref f_Z33) = true)
   (a_Z54 : PySem.W.nsIn K mainGlobals "_law_walk" = some (some (.ref f_Z54)))
   (l_Z54 : LkF K "_law_walk" "_law_walk" Xqw .none f_Z54 oc_Z54 od_Z54 kV_Z54 dc_Z54 pm_Z54 an_Z54 cd_Z54 ct_Z54 sl_Z54)
   (c_Z54 : PySem.W.codeIn K cd_Z54 "_law_walk" = true)
   (k_Z54 : PySem.W.keepIn K (.ref f_Z54) = true)
   (a_Z56 : PySem.W.nsIn K mainGlobals "_law_word" = some (some (.ref f_Z56)))
   (l_Z56 : LkF K "_law_word" "_law_word" Xqf .none f_Z56 oc_Z56 od_Z56 kV_Z56 dc_Z56 pm_Z56 an_Z56 cd_Z56 ct_Z56 sl_Z56)
   (c_Z56 : PySem.W.codeIn K cd_Z56 "_law_word" = true)
   (k_Z56 : PySem.W.keepIn K (.ref f_Z56) = true)
   (a_Z55 : PySem.W.nsIn K mainGlobals "_law_done" = some (some (.ref f_Z55)))
   (l_Z55 : LkF K "_law_done" "_law_done" Xse .none f_Z55 oc_Z55 od_Z55 kV_Z55 dc_Z55 pm_Z55 an_Z55 cd_Z55 ct_Z55 sl_Z55)
   (c_Z55 : PySem.W.codeIn K cd_Z55 "_law_done" = true)
   (k_Z55 : PySem.W.keepIn K (.ref f_Z55) = true)
   (a_Z48 : PySem.W.nsIn K mainGlobals "_law_tried" = some (some (.ref f_Z48)))
   (l_Z48 : LkF K "_law_tried" "_law_tried" Xrv .none f_Z48 oc_Z48 od_Z48 kV_Z48 dc_Z48 pm_Z48 an_Z48 cd_Z48 ct_Z48 sl_Z48)
   (c_Z48 : PySem.W.codeIn K cd_Z48 "_law_tried" = true)
   (k_Z48 : PySem.W.keepIn K (.ref f_Z48) = true)
   (a_Z31 : PySem.W.nsIn K mainGlobals "_law_room_for" = some (some (.ref f_Z31)))
   (l_Z31 : LkF K "_law_room_for" "_law_room_for" Xoe .none f_Z31 oc_Z31 od_Z31 kV_Z31 dc_Z31 pm_Z31 an_Z31 cd_Z31 ct_Z31 sl_Z31)
   (c_Z31 : PySem.W.codeIn K cd_Z31 "_law_room_for" = true)
   (k_Z31 : PySem.W.keepIn K (.ref f_Z31) = true)
   (a_Z42 : PySem.W.nsIn K mainGlobals "_law_stays" = some (some (.ref f_Z42)))
   (l_Z42 : LkF K "_law_stays" "_law_stays" Xpx .none f_Z42 oc_Z42 od_Z42 kV_Z42 dc_Z42 pm_Z42 an_Z42 cd_Z42 ct_Z42 sl_Z42)
   (c_Z42 : PySem.W.codeIn K cd_Z42 "_law_stays" = true)
   (k_Z42 : PySem.W.keepIn K (.ref f_Z42) = true)
   (a_Z59 : PySem.W.nsIn K mainGlobals "_law_due" = some (some (.ref f_Z59)))
   (l_Z59 : LkF K "_law_due" "_law_due" Xpm .none f_Z59 oc_Z59 od_Z59 kV_Z59 dc_Z59 pm_Z59 an_Z59 cd_Z59 ct_Z59 sl_Z59)
   (c_Z59 : PySem.W.codeIn K cd_Z59 "_law_due" = true)
   (k_Z59 : PySem.W.keepIn K (.ref f_Z59) = true)
   (a_Z52 : PySem.W.nsIn K mainGlobals "_law_step" = some (some (.ref f_Z52)))
   (l_Z52 : LkF K "_law_step" "_law_step" Xsc .none f_Z52 oc_Z52 od_Z52 kV_Z52 dc_Z52 pm_Z52 an_Z52 cd_Z52 ct_Z52 sl_Z52)
   (c_Z52 : PySem.W.codeIn K cd_Z52 "_law_step" = true)
   (k_Z52 : PySem.W.keepIn K (.ref f_Z52) = true)
   (a_law : PySem.W.nsIn K mainGlobals "law" = some (some (.ref f_law)))
   (l_law : LkF K "law" "law" Xkz .none f_law oc_law od_law kV_law dc_law pm_law an_law cd_law ct_law sl_law)
   (c_law : PySem.W.codeIn K cd_law "law" = true)
   (k_law : PySem.W.keepIn K (.ref f_law) = true)
   {W0_ : Tok}
   {W1_ : Tok}
   {Y0 Y7 Y9 Y4 Y3 Y6 Y12 Y2 Y8 Y5 Y1 Y10 Y13 Y14 Y11 : Addr}
   (z_isinstance : PySem.W.nsIn K mainGlobals "isinstance" = some none)
   (z_len : PySem.W.nsIn K mainGlobals "len" = some none)
   (z_list : PySem.W.nsIn K mainGlobals "list" = some none)
   (z_min : PySem.W.nsIn K mainGlobals "min" = some none)
   (z_range : PySem.W.nsIn K mainGlobals "range" = some none)
   (g_LEAST_LIVE : PySem.W.nsIn K mainGlobals "LEAST_LIVE" = some (some (.int 3 W0_)))
   (g_MARKS : PySem.W.nsIn K mainGlobals "MARKS" = some (some (.int 2 W1_)))
   (cc_StowError : PySem.W.nsIn K mainGlobals "StowError" = some (some (.ref Y0)))
   (cc_NoName : PySem.W.nsIn K mainGlobals "NoName" = some (some (.ref Y7)))
   (cc_NoSize : PySem.W.nsIn K mainGlobals "NoSize" = some (some (.ref Y9)))
   (cc_Broken : PySem.W.nsIn K mainGlobals "Broken" = some (some (.ref Y4)))
   (cc_NoPiece : PySem.W.nsIn K mainGlobals "NoPiece" = some (some (.ref Y3)))
   (cc_NoCell : PySem.W.nsIn K mainGlobals "NoCell" = some (some (.ref Y6)))
   (cc_NoAsk : PySem.W.nsIn K mainGlobals "NoAsk" = some (some (.ref Y12)))
   (cc_NoBound : PySem.W.nsIn K mainGlobals "NoBound" = some (some (.ref Y2)))
   (cc_NoRoom : PySem.W.nsIn K mainGlobals "NoRoom" = some (some (.ref Y8)))
   (cc_Keeper : PySem.W.nsIn K mainGlobals "Keeper" = some (some (.ref Y5)))
   (cc_Stretches : PySem.W.nsIn K mainGlobals "Stretches" = some (some (.ref Y1)))
   (cc_First : PySem.W.nsIn K mainGlobals "First" = some (some (.ref Y10)))
   (cc_Best : PySem.W.nsIn K mainGlobals "Best" = some (some (.ref Y13)))
   (cc_Next : PySem.W.nsIn K mainGlobals "Next" = some (some (.ref Y14)))
   (cc_Likes : PySem.W.nsIn K mainGlobals "Likes" = some (some (.ref Y11)))
   (s1_Broken : PySem.W.findIn K (.ref Y4) "__setattr__" = some (some (.builtin "object.__setattr__")))
   {cd_Broken : ClassData}
   (s2_Broken : PySem.W.clsIn K Y4 = some cd_Broken)
   (s5_Broken : Xhq cd_Broken.mro = true)
   (s6_Broken : cd_Broken.hasDict = true)
   (s3_Broken : PySem.W.mroIn K Y4 (.type "object") = some true)
   (s4_Broken : PySem.W.findIn K (.ref Y4) "cell" = some none)
   (xx_NoSize : PySem.W.excIn K Y9 [.type "ValueError", .type "Exception", .type "BaseException", .type "object"] "ValueError.__new__" = true)
   (xx_NoPiece : PySem.W.excIn K Y3 [.type "ValueError", .type "Exception", .type "BaseException", .type "object"] "ValueError.__new__" = true)
   (xx_NoCell : PySem.W.excIn K Y6 [.type "ValueError", .type "Exception", .type "BaseException", .type "object"] "ValueError.__new__" = true)
   (xx_NoAsk : PySem.W.excIn K Y12 [.type "ValueError", .type "Exception", .type "BaseException", .type "object"] "ValueError.__new__" = true)
   (xx_NoRoom : PySem.W.excIn K Y8 [.type "ValueError", .type "Exception", .type "BaseException", .type "object"] "ValueError.__new__" = true)
   (xx_NoName : PySem.W.excIn K Y7 [.type "ValueError", .type "Exception", .type "BaseException", .type "object"] "ValueError.__new__" = true)
   (pg_First : PySem.W.plainGet K Y10 Str.empty = true)
   (hd_First : PySem.W.hasDictIn K Y10 = true)
   (po_First : PySem.W.plainOver K Y10 = true)
   (sa_First : PySem.W.findIn K (.ref Y10) "__setattr__" = some (some (.builtin "object.__setattr__")))
   (na_First_room_cells : PySem.W.findIn K (.ref Y10) "room_cells" = some none)
   (pg_Best : PySem.W.plainGet K Y13 Str.empty = true)
   (hd_Best : PySem.W.hasDictIn K Y13 = true)
   (po_Best : PySem.W.plainOver K Y13 = true)
   (sa_Best : PySem.W.findIn K (.ref Y13) "__setattr__" = some (some (.builtin "object.__setattr__")))
   (na_Best_room_cells : PySem.W.findIn K (.ref Y13) "room_cells" = some none)
   (pg_Next : PySem.W.plainGet K Y14 Str.empty = true)
   (hd_Next : PySem.W.hasDictIn K Y14 = true)
   (po_Next : PySem.W.plainOver K Y14 = true)
   (sa_Next : PySem.W.findIn K (.ref Y14) "__setattr__" = some (some (.builtin "object.__setattr__")))
   (na_Next_room_cells : PySem.W.findIn K (.ref Y14) "room_cells" = some none)
   (na_Next_room_rover : PySem.W.findIn K (.ref Y14) "room_rover" = some none)
   (pg_Likes : PySem.W.plainGet K Y11 Str.empty = true)
   (hd_Likes : PySem.W.hasDictIn K Y11 = true)
   (po_Likes : PySem.W.plainOver K Y11 = true)
   (sa_Likes : PySem.W.findIn K (.ref Y11) "__setattr__" = some (some (.builtin "object.__setattr__")))
   (na_Likes_room_cells : PySem.W.findIn K (.ref Y11) "room_cells" = some none)
   (ic_First : PySem.W.findIn K (.ref Y10) "__class__" = some (some (.builtin "object.__class__")))
   (ig : PySem.W.specialIn K (.builtin "object.__class__") "__get__" = some (some (.builtin "getset_descriptor.__get__")))
   (it : PySem.W.takesIn K (.builtin "object.__class__") = some true)
   (im_First : PySem.W.mroIn K Y10 (.type "object") = some true)
   (ic_Best : PySem.W.findIn K (.ref Y13) "__class__" = some (some (.builtin "object.__class__")))
   (im_Best : PySem.W.mroIn K Y13 (.type "object") = some true)
   (ic_Next : PySem.W.findIn K (.ref Y14) "__class__" = some (some (.builtin "object.__class__")))
   (im_Next : PySem.W.mroIn K Y14 (.type "object") = some true)
   (ic_Likes : PySem.W.findIn K (.ref Y11) "__class__" = some (some (.builtin "object.__class__")))
   (im_Likes : PySem.W.mroIn K Y11 (.type "object") = some true)
   (i_First_Keeper : PySem.W.kitOne K (.ref Y10) (.ref Y5) = some true)
   (i_Best_Keeper : PySem.W.kitOne K (.ref Y13) (.ref Y5) = some true)
   (i_Next_Keeper : PySem.W.kitOne K (.ref Y14) (.ref Y5) = some true)
   (i_Likes_Keeper : PySem.W.kitOne K (.ref Y11) (.ref Y5) = some true)
   (lc_NoSize : K.lookup Y9 = some (excClassObj nm_NoSize qn_NoSize Y9 N_NoSize bs_NoSize bm_NoSize hd_NoSize sn_NoSize sub_NoSize ab_NoSize col_NoSize dd_NoSize k0_NoSize k1_NoSize k2_NoSize k3_NoSize k5_NoSize ni_NoSize))
   (lc_StowError : K.lookup Y0 = some (excClassObj nm_StowError qn_StowError Y0 N_StowError bs_StowError bm_StowError hd_StowError sn_StowError sub_StowError ab_StowError col_StowError dd_StowError k0_StowError k1_StowError k2_StowError k3_StowError k5_StowError ni_StowError))
   (fb_StowError : (Value.ref Y0 :: bm_StowError).contains (.type "BaseException") = true)
   (fm_NoSize_StowError : (Value.ref Y9 :: bm_NoSize).contains (.ref Y0) = true)
   (lc_Broken : K.lookup Y4 = some (excClassObj nm_Broken qn_Broken Y4 N_Broken bs_Broken bm_Broken hd_Broken sn_Broken sub_Broken ab_Broken col_Broken dd_Broken k0_Broken k1_Broken k2_Broken k3_Broken k5_Broken ni_Broken))
   (fm_Broken_StowError : (Value.ref Y4 :: bm_Broken).contains (.ref Y0) = true)
   (lc_NoPiece : K.lookup Y3 = some (excClassObj nm_NoPiece qn_NoPiece Y3 N_NoPiece bs_NoPiece bm_NoPiece hd_NoPiece sn_NoPiece sub_NoPiece ab_NoPiece col_NoPiece dd_NoPiece k0_NoPiece k1_NoPiece k2_NoPiece k3_NoPiece k5_NoPiece ni_NoPiece))
   (fm_NoPiece_StowError : (Value.ref Y3 :: bm_NoPiece).contains (.ref Y0) = true)
   (lc_NoCell : K.lookup Y6 = some (excClassObj nm_NoCell qn_NoCell Y6 N_NoCell bs_NoCell bm_NoCell hd_NoCell sn_NoCell sub_NoCell ab_NoCell col_NoCell dd_NoCell k0_NoCell k1_NoCell k2_NoCell k3_NoCell k5_NoCell ni_NoCell))
   (fm_NoCell_StowError : (Value.ref Y6 :: bm_NoCell).contains (.ref Y0) = true)
   (lc_NoAsk : K.lookup Y12 = some (excClassObj nm_NoAsk qn_NoAsk Y12 N_NoAsk bs_NoAsk bm_NoAsk hd_NoAsk sn_NoAsk sub_NoAsk ab_NoAsk col_NoAsk dd_NoAsk k0_NoAsk k1_NoAsk k2_NoAsk k3_NoAsk k5_NoAsk ni_NoAsk))
   (fm_NoAsk_StowError : (Value.ref Y12 :: bm_NoAsk).contains (.ref Y0) = true)
   (lc_NoRoom : K.lookup Y8 = some (excClassObj nm_NoRoom qn_NoRoom Y8 N_NoRoom bs_NoRoom bm_NoRoom hd_NoRoom sn_NoRoom sub_NoRoom ab_NoRoom col_NoRoom dd_NoRoom k0_NoRoom k1_NoRoom k2_NoRoom k3_NoRoom k5_NoRoom ni_NoRoom))
   (fm_NoRoom_StowError : (Value.ref Y8 :: bm_NoRoom).contains (.ref Y0) = true)
   (g1_NoSize : PySem.W.findIn K (.ref Y9) "__getattribute__" = some (some (.builtin "BaseException.__getattribute__")))
   (g2_NoSize : PySem.W.findIn K (.ref Y9) "__getattr__" = some none)
   (g3_NoSize : PySem.W.findIn K (.ref Y9) "__class__" = some (some (.builtin "object.__class__")))
   (g4_NoSize : PySem.W.mroIn K Y9 (.type "object") = some true)
   (g5_NoSize : PySem.W.mroIn K Y9 (.type "BaseException") = some true)
   (g1_Broken : PySem.W.findIn K (.ref Y4) "__getattribute__" = some (some (.builtin "BaseException.__getattribute__")))
   (g2_Broken : PySem.W.findIn K (.ref Y4) "__getattr__" = some none)
   (g3_Broken : PySem.W.findIn K (.ref Y4) "__class__" = some (some (.builtin "object.__class__")))
   (g4_Broken : PySem.W.mroIn K Y4 (.type "object") = some true)
   (g5_Broken : PySem.W.mroIn K Y4 (.type "BaseException") = some true)
   (g1_NoPiece : PySem.W.findIn K (.ref Y3) "__getattribute__" = some (some (.builtin "BaseException.__getattribute__")))
   (g2_NoPiece : PySem.W.findIn K (.ref Y3) "__getattr__" = some none)
   (g3_NoPiece : PySem.W.findIn K (.ref Y3) "__class__" = some (some (.builtin "object.__class__")))
   (g4_NoPiece : PySem.W.mroIn K Y3 (.type "object") = some true)
   (g5_NoPiece : PySem.W.mroIn K Y3 (.type "BaseException") = some true)
   (g1_NoCell : PySem.W.findIn K (.ref Y6) "__getattribute__" = some (some (.builtin "BaseException.__getattribute__")))
   (g2_NoCell : PySem.W.findIn K (.ref Y6) "__getattr__" = some none)
   (g3_NoCell : PySem.W.findIn K (.ref Y6) "__class__" = some (some (.builtin "object.__class__")))
   (g4_NoCell : PySem.W.mroIn K Y6 (.type "object") = some true)
   (g5_NoCell : PySem.W.mroIn K Y6 (.type "BaseException") = some true)
   (g1_NoAsk : PySem.W.findIn K (.ref Y12) "__getattribute__" = some (some (.builtin "BaseException.__getattribute__")))
   (g2_NoAsk : PySem.W.findIn K (.ref Y12) "__getattr__" = some none)
   (g3_NoAsk : PySem.W.findIn K (.ref Y12) "__class__" = some (some (.builtin "object.__class__")))
   (g4_NoAsk : PySem.W.mroIn K Y12 (.type "object") = some true)
   (g5_NoAsk : PySem.W.mroIn K Y12 (.type "BaseException") = some true)
   (g1_NoRoom : PySem.W.findIn K (.ref Y8) "__getattribute__" = some (some (.builtin "BaseException.__getattribute__")))
   (g2_NoRoom : PySem.W.findIn K (.ref Y8) "__getattr__" = some none)
   (g3_NoRoom : PySem.W.findIn K (.ref Y8) "__class__" = some (some (.builtin "object.__class__")))
   (g4_NoRoom : PySem.W.mroIn K Y8 (.type "object") = some true)
   (g5_NoRoom : PySem.W.mroIn K Y8 (.type "BaseException") = some true)
   (i_NoSize_NoSize : PySem.W.kitOne K (.ref Y9) (.ref Y9) = some true)
   (i_NoSize_Broken : PySem.W.kitOne K (.ref Y9) (.ref Y4) = some false)
   (i_NoSize_NoPiece : PySem.W.kitOne K (.ref Y9) (.ref Y3) = some false)
   (i_NoSize_NoCell : PySem.W.kitOne K (.ref Y9) (.ref Y6) = some false)
   (i_NoSize_NoAsk : PySem.W.kitOne K (.ref Y9) (.ref Y12) = some false)
   (i_NoSize_NoRoom : PySem.W.kitOne K (.ref Y9) (.ref Y8) = some false)
   (i_Broken_NoSize : PySem.W.kitOne K (.ref Y4) (.ref Y9) = some false)
   (i_Broken_Broken : PySem.W.kitOne K (.ref Y4) (.ref Y4) = some true)
   (i_Broken_NoPiece : PySem.W.kitOne K (.ref Y4) (.ref Y3) = some false)
   (i_Broken_NoCell : PySem.W.kitOne K (.ref Y4) (.ref Y6) = some false)
   (i_Broken_NoAsk : PySem.W.kitOne K (.ref Y4) (.ref Y12) = some false)
   (i_Broken_NoRoom : PySem.W.kitOne K (.ref Y4) (.ref Y8) = some false)
   (i_NoPiece_NoSize : PySem.W.kitOne K (.ref Y3) (.ref Y9) = some false)
   (i_NoPiece_Broken : PySem.W.kitOne K (.ref Y3) (.ref Y4) = some false)
   (i_NoPiece_NoPiece : PySem.W.kitOne K (.ref Y3) (.ref Y3) = some true)
   (i_NoPiece_NoCell : PySem.W.kitOne K (.ref Y3) (.ref Y6) = some false)
   (i_NoPiece_NoAsk : PySem.W.kitOne K (.ref Y3) (.ref Y12) = some false)
   (i_NoPiece_NoRoom : PySem.W.kitOne K (.ref Y3) (.ref Y8) = some false)
   (i_NoCell_NoSize : PySem.W.kitOne K (.ref Y6) (.ref Y9) = some false)
   (i_NoCell_Broken : PySem.W.kitOne K (.ref Y6) (.ref Y4) = some false)
   (i_NoCell_NoPiece : PySem.W.kitOne K (.ref Y6) (.ref Y3) = some false)
   (i_NoCell_NoCell : PySem.W.kitOne K (.ref Y6) (.ref Y6) = some true)
   (i_NoCell_NoAsk : PySem.W.kitOne K (.ref Y6) (.ref Y12) = some false)
   (i_NoCell_NoRoom : PySem.W.kitOne K (.ref Y6) (.ref Y8) = some false)
   (i_NoAsk_NoSize : PySem.W.kitOne K (.ref Y12) (.ref Y9) = some false)
   (i_NoAsk_Broken : PySem.W.kitOne K (.ref Y12) (.ref Y4) = some false)
   (i_NoAsk_NoPiece : PySem.W.kitOne K (.ref Y12) (.ref Y3) = some false)
   (i_NoAsk_NoCell : PySem.W.kitOne K (.ref Y12) (.ref Y6) = some false)
   (i_NoAsk_NoAsk : PySem.W.kitOne K (.ref Y12) (.ref Y12) = some true)
   (i_NoAsk_NoRoom : PySem.W.kitOne K (.ref Y12) (.ref Y8) = some false)
   (i_NoRoom_NoSize : PySem.W.kitOne K (.ref Y8) (.ref Y9) = some false)
   (i_NoRoom_Broken : PySem.W.kitOne K (.ref Y8) (.ref Y4) = some false)
   (i_NoRoom_NoPiece : PySem.W.kitOne K (.ref Y8) (.ref Y3) = some false)
   (i_NoRoom_NoCell : PySem.W.kitOne K (.ref Y8) (.ref Y6) = some false)
   (i_NoRoom_NoAsk : PySem.W.kitOne K (.ref Y8) (.ref Y12) = some false)
   (i_NoRoom_NoRoom : PySem.W.kitOne K (.ref Y8) (.ref Y8) = some true)
   (xx_StowError : PySem.W.excIn K Y0 [.type "ValueError", .type "Exception", .type "BaseException", .type "object"] "ValueError.__new__" = true)
   (kp_Broken : PySem.W.keepIn K (.ref Y4) = true)
   (e56_ : PySem.W.findIn K (.ref Y4) "__init__" = some (some (.ref f_Broken_init)))
   (l_Broken_init : LkF K "__init__" "Broken.__init__" Xcz .none f_Broken_init oc_Broken_init od_Broken_init kV_Broken_init dc_Broken_init pm_Broken_init an_Broken_init cd_Broken_init ct_Broken_init sl_Broken_init)
   (c_Broken_init : PySem.W.codeIn K cd_Broken_init "Broken.__init__" = true)
   (k_Broken_init : PySem.W.keepIn K (.ref f_Broken_init) = true)
   (eb_Broken : bm_Broken = .ref Y0 :: [.type "ValueError", .type "Exception", .type "BaseException", .type "object"])
   (en_Broken : ni_Broken = "ValueError.__new__")
   (eo_Broken : oc_Broken_init = .type "function")
   (e37_ : PySem.W.findIn K (.ref Y10) "__init__" = some (some (.ref f_Keeper_init)))
   (l_Keeper_init : LkF K "__init__" "Keeper.__init__" Xbu .none f_Keeper_init oc_Keeper_init od_Keeper_init kV_Keeper_init dc_Keeper_init pm_Keeper_init an_Keeper_init cd_Keeper_init ct_Keeper_init sl_Keeper_init)
   (c_Keeper_init : PySem.W.codeIn K cd_Keeper_init "Keeper.__init__" = true)
   (k_Keeper_init : PySem.W.keepIn K (.ref f_Keeper_init) = true)
   (if_Keeper_init : PySem.W.isFn K (.ref f_Keeper_init) = true)
   (mk_First : PySem.W.makesIn K Y10 = true)
   (kp_First : PySem.W.keepIn K (.ref Y10) = true)
   (e45_ : PySem.W.findIn K (.ref Y13) "__init__" = some (some (.ref f_Keeper_init)))
   (mk_Best : PySem.W.makesIn K Y13 = true)
   (kp_Best : PySem.W.keepIn K (.ref Y13) = true)
   (e38_ : PySem.W.findIn K (.ref Y11) "__init__" = some (some (.ref f_Keeper_init)))
   (mk_Likes : PySem.W.makesIn K Y11 = true)
   (kp_Likes : PySem.W.keepIn K (.ref Y11) = true)
   (e12_ : PySem.W.findCls K (.ref Y1) (.type "type") "__init__" = some (.val (.ref f_Keeper_init)))
   (bs_Stretches : PySem.W.specialIn K (.ref Y1) "__getattribute__" = some (some (.builtin "type.__getattribute__")))
   (br_Stretches : PySem.W.readsIn K Y1 (.type "type") = true)
   (e57_ : PySem.W.findIn K (.ref Y14) "__init__" = some (some (.ref f_Next_init)))
   (l_Next_init : LkF K "__init__" "Next.__init__" Xec .none f_Next_init oc_Next_init od_Next_init kV_Next_init dc_Next_init pm_Next_init an_Next_init cd_Next_init ct_Next_init sl_Next_init)
   (c_Next_init : PySem.W.codeIn K cd_Next_init "Next.__init__" = true)
   (k_Next_init : PySem.W.keepIn K (.ref f_Next_init) = true)
   (if_Next_init : PySem.W.isFn K (.ref f_Next_init) = true)
   (mk_Next : PySem.W.makesIn K Y14 = true)
   (kp_Next : PySem.W.keepIn K (.ref Y14) = true)
   (e3_ : PySem.W.findIn K (.ref Y10) "room_begin" = some (some (.ref f_Z1)))
   (e5_ : PySem.W.findIn K (.ref Y13) "room_begin" = some (some (.ref f_Z1)))
   (e4_ : PySem.W.findIn K (.ref Y11) "room_begin" = some (some (.ref f_Z1)))
   (l_Z1 : LkF K "room_begin" "Stretches.room_begin" s_Z1 .none f_Z1 oc_Z1 od_Z1 kV_Z1 dc_Z1 pm_Z1 an_Z1 cd_Z1 ct_Z1 sl_Z1)
   (c_Z1 : PySem.W.codeIn K cd_Z1 "Stretches.room_begin" = true)
   (k_Z1 : PySem.W.keepIn K (.ref f_Z1) = true)
   (if_Z1 : PySem.W.isFn K (.ref f_Z1) = true)
   (e16_ : PySem.W.findIn K (.ref Y14) "room_begin" = some (some (.ref f_Z6)))
   (l_Z6 : LkF K "room_begin" "Next.room_begin" s_Z6 .none f_Z6 oc_Z6 od_Z6 kV_Z6 dc_Z6 pm_Z6 an_Z6 cd_Z6 ct_Z6 sl_Z6)
   (c_Z6 : PySem.W.codeIn K cd_Z6 "Next.room_begin" = true)
   (k_Z6 : PySem.W.keepIn K (.ref f_Z6) = true)
   (if_Z6 : PySem.W.isFn K (.ref f_Z6) = true)
   (e30_ : PySem.W.findIn K (.ref Y10) "clear" = some (some (.ref f_Z17)))
   (e34_ : PySem.W.findIn K (.ref Y13) "clear" = some (some (.ref f_Z17)))
   (e40_ : PySem.W.findIn K (.ref Y14) "clear" = some (some (.ref f_Z17)))
   (e29_ : PySem.W.findIn K (.ref Y11) "clear" = some (some (.ref f_Z17)))
   (l_Z17 : LkF K "clear" "Keeper.clear" Xvu .none f_Z17 oc_Z17 od_Z17 kV_Z17 dc_Z17 pm_Z17 an_Z17 cd_Z17 ct_Z17 sl_Z17)
   (c_Z17 : PySem.W.codeIn K cd_Z17 "Keeper.clear" = true)
   (k_Z17 : PySem.W.keepIn K (.ref f_Z17) = true)
   (if_Z17 : PySem.W.isFn K (.ref f_Z17) = true)
   (e1_ : PySem.W.findIn K (.ref Y10) "room_granted" = some (some (.ref f_Z0)))
   (e2_ : PySem.W.findIn K (.ref Y13) "room_granted" = some (some (.ref f_Z0)))
   (e0_ : PySem.W.findIn K (.ref Y11) "room_granted" = some (some (.ref f_Z0)))
   (l_Z0 : LkF K "room_granted" "Stretches.room_granted" s_Z0 .none f_Z0 oc_Z0 od_Z0 kV_Z0 dc_Z0 pm_Z0 an_Z0 cd_Z0 ct_Z0 sl_Z0)
   (c_Z0 : PySem.W.codeIn K cd_Z0 "Stretches.room_granted" = true)
   (k_Z0 : PySem.W.keepIn K (.ref f_Z0) = true)
   (if_Z0 : PySem.W.isFn K (.ref f_Z0) = true)
   (e14_ : PySem.W.findIn K (.ref Y14) "room_granted" = some (some (.ref f_Z4)))
   (l_Z4 : LkF K "room_granted" "Next.room_granted" s_Z4 .none f_Z4 oc_Z4 od_Z4 kV_Z4 dc_Z4 pm_Z4 an_Z4 cd_Z4 ct_Z4 sl_Z4)
   (c_Z4 : PySem.W.codeIn K cd_Z4 "Next.room_granted" = true)
   (k_Z4 : PySem.W.keepIn K (.ref f_Z4) = true)
   (if_Z4 : PySem.W.isFn K (.ref f_Z4) = true)
   (e31_ : PySem.W.findIn K (.ref Y10) "cells" = some (some (.ref f_Z16)))
   (e35_ : PySem.W.findIn K (.ref Y13) "cells" = some (some (.ref f_Z16)))
   (e36_ : PySem.W.findIn K (.ref Y14) "cells" = some (some (.ref f_Z16)))
   (e32_ : PySem.W.findIn K (.ref Y11) "cells" = some (some (.ref f_Z16)))
   (l_Z16 : LkF K "cells" "Keeper.cells" Xud .none f_Z16 oc_Z16 od_Z16 kV_Z16 dc_Z16 pm_Z16 an_Z16 cd_Z16 ct_Z16 sl_Z16)
   (c_Z16 : PySem.W.codeIn K cd_Z16 "Keeper.cells" = true)
   (k_Z16 : PySem.W.keepIn K (.ref f_Z16) = true)
   (if_Z16 : PySem.W.isFn K (.ref f_Z16) = true)
   (e42_ : PySem.W.findIn K (.ref Y10) "lay" = some (some (.ref f_Z30)))
   (e55_ : PySem.W.findIn K (.ref Y13) "lay" = some (some (.ref f_Z30)))
   (e50_ : PySem.W.findIn K (.ref Y14) "lay" = some (some (.ref f_Z30)))
   (e43_ : PySem.W.findIn K (.ref Y11) "lay" = some (some (.ref f_Z30)))
   (l_Z30 : LkF K "lay" "Keeper.lay" Xvq .none f_Z30 oc_Z30 od_Z30 kV_Z30 dc_Z30 pm_Z30 an_Z30 cd_Z30 ct_Z30 sl_Z30)
   (c_Z30 : PySem.W.codeIn K cd_Z30 "Keeper.lay" = true)
   (k_Z30 : PySem.W.keepIn K (.ref f_Z30) = true)
   (if_Z30 : PySem.W.isFn K (.ref f_Z30) = true)
   (e33_ : PySem.W.findIn K (.ref Y10) "many" = some (some (.ref f_Z21)))
   (e48_ : PySem.W.findIn K (.ref Y13) "many" = some (some (.ref f_Z21)))
   (e49_ : PySem.W.findIn K (.ref Y14) "many" = some (some (.ref f_Z21)))
   (e39_ : PySem.W.findIn K (.ref Y11) "many" = some (some (.ref f_Z21)))
   (l_Z21 : LkF K "many" "Keeper.many" Xwn .none f_Z21 oc_Z21 od_Z21 kV_Z21 dc_Z21 pm_Z21 an_Z21 cd_Z21 ct_Z21 sl_Z21)
   (c_Z21 : PySem.W.codeIn K cd_Z21 "Keeper.many" = true)
   (k_Z21 : PySem.W.keepIn K (.ref f_Z21) = true)
   (if_Z21 : PySem.W.isFn K (.ref f_Z21) = true)
   (e6_ : PySem.W.findIn K (.ref Y10) "room_cell_of" = some (some (.ref f_Z2)))
   (e9_ : PySem.W.findIn K (.ref Y13) "room_cell_of" = some (some (.ref f_Z2)))
   (e8_ : PySem.W.findIn K (.ref Y14) "room_cell_of" = some (some (.ref f_Z2)))
   (e7_ : PySem.W.findIn K (.ref Y11) "room_cell_of" = some (some (.ref f_Z2)))
   (l_Z2 : LkF K "room_cell_of" "Keeper.room_cell_of" s_Z2 .none f_Z2 oc_Z2 od_Z2 kV_Z2 dc_Z2 pm_Z2 an_Z2 cd_Z2 ct_Z2 sl_Z2)
   (c_Z2 : PySem.W.codeIn K cd_Z2 "Keeper.room_cell_of" = true)
   (k_Z2 : PySem.W.keepIn K (.ref f_Z2) = true)
   (if_Z2 : PySem.W.isFn K (.ref f_Z2) = true)
   (e44_ : PySem.W.findIn K (.ref Y10) "put" = some (some (.ref f_Z26)))
   (e51_ : PySem.W.findIn K (.ref Y13) "put" = some (some (.ref f_Z26)))
   (e53_ : PySem.W.findIn K (.ref Y14) "put" = some (some (.ref f_Z26)))
   (e46_ : PySem.W.findIn K (.ref Y11) "put" = some (some (.ref f_Z26)))
   (l_Z26 : LkF K "put" "Keeper.put" Xwq .none f_Z26 oc_Z26 od_Z26 kV_Z26 dc_Z26 pm_Z26 an_Z26 cd_Z26 ct_Z26 sl_Z26)
   (c_Z26 : PySem.W.codeIn K cd_Z26 "Keeper.put" = true)
   (k_Z26 : PySem.W.keepIn K (.ref f_Z26) = true)
   (if_Z26 : PySem.W.isFn K (.ref f_Z26) = true)
   (e41_ : PySem.W.findIn K (.ref Y10) "get" = some (some (.ref f_Z24)))
   (e54_ : PySem.W.findIn K (.ref Y13) "get" = some (some (.ref f_Z24)))
   (e52_ : PySem.W.findIn K (.ref Y14) "get" = some (some (.ref f_Z24)))
   (e47_ : PySem.W.findIn K (.ref Y11) "get" = some (some (.ref f_Z24)))
   (l_Z24 : LkF K "get" "Keeper.get" Xxh .none f_Z24 oc_Z24 od_Z24 kV_Z24 dc_Z24 pm_Z24 an_Z24 cd_Z24 ct_Z24 sl_Z24)
   (c_Z24 : PySem.W.codeIn K cd_Z24 "Keeper.get" = true)
   (k_Z24 : PySem.W.keepIn K (.ref f_Z24) = true)
   (if_Z24 : PySem.W.isFn K (.ref f_Z24) = true)
   (a_Z18 : PySem.W.findIn K (.ref Y10) "chosen" = some (some (.ref f_Z18)))
   (l_Z18 : LkF K "chosen" "First.chosen" Xvo .none f_Z18 oc_Z18 od_Z18 kV_Z18 dc_Z18 pm_Z18 an_Z18 cd_Z18 ct_Z18 sl_Z18)
   (c_Z18 : PySem.W.codeIn K cd_Z18 "First.chosen" = true)
   (k_Z18 : PySem.W.keepIn K (.ref f_Z18) = true)
   (if_Z18 : PySem.W.isFn K (.ref f_Z18) = true)
   (a_Z19 : PySem.W.findIn K (.ref Y13) "chosen" = some (some (.ref f_Z19)))
   (l_Z19 : LkF K "chosen" "Best.chosen" Xww .none f_Z19 oc_Z19 od_Z19 kV_Z19 dc_Z19 pm_Z19 an_Z19 cd_Z19 ct_Z19 sl_Z19)
   (c_Z19 : PySem.W.codeIn K cd_Z19 "Best.chosen" = true)
   (k_Z19 : PySem.W.keepIn K (.ref f_Z19) = true)
   (if_Z19 : PySem.W.isFn K (.ref f_Z19) = true)
   (a_Z23 : PySem.W.findIn K (.ref Y14) "chosen" = some (some (.ref f_Z23)))
   (l_Z23 : LkF K "chosen" "Next.chosen" Xst .none f_Z23 oc_Z23 od_Z23 kV_Z23 dc_Z23 pm_Z23 an_Z23 cd_Z23 ct_Z23 sl_Z23)
   (c_Z23 : PySem.W.codeIn K cd_Z23 "Next.chosen" = true)
   (k_Z23 : PySem.W.keepIn K (.ref f_Z23) = true)
   (if_Z23 : PySem.W.isFn K (.ref f_Z23) = true)
   (a_Z11 : PySem.W.findIn K (.ref Y11) "chosen" = some (some (.ref f_Z11)))
   (l_Z11 : LkF K "chosen" "Likes.chosen" Xvn .none f_Z11 oc_Z11 od_Z11 kV_Z11 dc_Z11 pm_Z11 an_Z11 cd_Z11 ct_Z11 sl_Z11)
   (c_Z11 : PySem.W.codeIn K cd_Z11 "Likes.chosen" = true)
   (k_Z11 : PySem.W.keepIn K (.ref f_Z11) = true)
   (if_Z11 : PySem.W.isFn K (.ref f_Z11) = true)
   {dt_Z9 : Addr} {dk_Z9 : Tok} {dtc_Z9 : Value} {dtd_Z9 : Option Addr} {dtn_Z9 : Nat} {dts_Z9 : Array (Option Value)}
   (e21_ : PySem.W.findIn K (.ref Y10) "ask" = some (some (.ref f_Z9)))
   (e27_ : PySem.W.findIn K (.ref Y13) "ask" = some (some (.ref f_Z9)))
   (e28_ : PySem.W.findIn K (.ref Y14) "ask" = some (some (.ref f_Z9)))
   (e23_ : PySem.W.findIn K (.ref Y11) "ask" = some (some (.ref f_Z9)))
   (l_Z9 : LkF K "ask" "Stretches.ask" s_Z9 (.ref dt_Z9) f_Z9 oc_Z9 od_Z9 kV_Z9 dc_Z9 pm_Z9 an_Z9 cd_Z9 ct_Z9 sl_Z9)
   (ld_Z9 : K.lookup dt_Z9 = some ⟨dtc_Z9, dtd_Z9, .seq [.int 1 dk_Z9].toArray dtn_Z9, dts_Z9⟩)
   (c_Z9 : PySem.W.codeIn K cd_Z9 "Stretches.ask" = true)
   (k_Z9 : PySem.W.keepIn K (.ref f_Z9) = true)
   (if_Z9 : PySem.W.isFn K (.ref f_Z9) = true)
   (e17_ : PySem.W.findIn K (.ref Y10) "give" = some (some (.ref f_Z7)))
   (e25_ : PySem.W.findIn K (.ref Y13) "give" = some (some (.ref f_Z7)))
   (e22_ : PySem.W.findIn K (.ref Y14) "give" = some (some (.ref f_Z7)))
   (e18_ : PySem.W.findIn K (.ref Y11) "give" = some (some (.ref f_Z7)))
   (l_Z7 : LkF K "give" "Stretches.give" s_Z7 .none f_Z7 oc_Z7 od_Z7 kV_Z7 dc_Z7 pm_Z7 an_Z7 cd_Z7 ct_Z7 sl_Z7)
   (c_Z7 : PySem.W.codeIn K cd_Z7 "Stretches.give" = true)
   (k_Z7 : PySem.W.keepIn K (.ref f_Z7) = true)
   (if_Z7 : PySem.W.isFn K (.ref f_Z7) = true)
   (e11_ : PySem.W.findIn K (.ref Y10) "room_moved" = some (some (.ref f_Z3)))
   (e15_ : PySem.W.findIn K (.ref Y13) "room_moved" = some (some (.ref f_Z3)))
   (e13_ : PySem.W.findIn K (.ref Y14) "room_moved" = some (some (.ref f_Z3)))
   (e10_ : PySem.W.findIn K (.ref Y11) "room_moved" = some (some (.ref f_Z3)))
   (l_Z3 : LkF K "room_moved" "Keeper.room_moved" s_Z3 .none f_Z3 oc_Z3 od_Z3 kV_Z3 dc_Z3 pm_Z3 an_Z3 cd_Z3 ct_Z3 sl_Z3)
   (c_Z3 : PySem.W.codeIn K cd_Z3 "Keeper.room_moved" = true)
   (k_Z3 : PySem.W.keepIn K (.ref f_Z3) = true)
   (if_Z3 : PySem.W.isFn K (.ref f_Z3) = true)
   {dt_Z8 : Addr} {dk_Z8 : Tok} {dtc_Z8 : Value} {dtd_Z8 : Option Addr} {dtn_Z8 : Nat} {dts_Z8 : Array (Option Value)}
   (e19_ : PySem.W.findIn K (.ref Y10) "grow" = some (some (.ref f_Z8)))
   (e26_ : PySem.W.findIn K (.ref Y13) "grow" = some (some (.ref f_Z8)))
   (e24_ : PySem.W.findIn K (.ref Y14) "grow" = some (some (.ref f_Z8)))
   (e20_ : PySem.W.findIn K (.ref Y11) "grow" = some (some (.ref f_Z8)))
   (l_Z8 : LkF K "grow" "Stretches.grow" s_Z8 (.ref dt_Z8) f_Z8 oc_Z8 od_Z8 kV_Z8 dc_Z8 pm_Z8 an_Z8 cd_Z8 ct_Z8 sl_Z8)
   (ld_Z8 : K.lookup dt_Z8 = some ⟨dtc_Z8, dtd_Z8, .seq [.int 1 dk_Z8].toArray dtn_Z8, dts_Z8⟩)
   (c_Z8 : PySem.W.codeIn K cd_Z8 "Stretches.grow" = true)
   (k_Z8 : PySem.W.keepIn K (.ref f_Z8) = true)
   (if_Z8 : PySem.W.isFn K (.ref f_Z8) = true) :
   ∃ fd : FuncData, (∀ (s : Shared) (v : Value), BindsTo s fd ⟨[v], []⟩ [("_law_script", v)]) ∧ ∀ base : Heap, K.In base → base.Ns mainGlobals mg → FnOk l.prog w K mg base (CXe l.prog w) 14 fa fd ["_law_script"] (Xsk K) := by
 have e := hfa.symm.trans (PySem.W.mg_of X G a_law)
 cases e
 have T : Txt K mg Y0 Y7 Y9 Y4 Y3 Y6 Y12 Y2 Y8 Y5 Y1 Y10 Y13 Y14 Y11 W0_ W1_ := ⟨PySem.W.mg_none_of X G z_isinstance, PySem.W.mg_none_of X G z_len, PySem.W.mg_none_of X G z_list, PySem.W.mg_none_of X G z_min, PySem.W.mg_none_of X G z_range, PySem.W.mg_of X G g_LEAST_LIVE, PySem.W.mg_of X G g_MARKS, PySem.W.mg_of X G cc_StowError, PySem.W.mg_of X G cc_NoName, PySem.W.mg_of X G cc_NoSize, PySem.W.mg_of X G cc_Broken, PySem.W.mg_of X G cc_NoPiece, PySem.W.mg_of X G cc_NoCell, PySem.W.mg_of X G cc_NoAsk, PySem.W.mg_of X G cc_NoBound, PySem.W.mg_of X G cc_NoRoom, PySem.W.mg_of X G cc_Keeper, PySem.W.mg_of X G cc_Stretches, PySem.W.mg_of X G cc_First, PySem.W.mg_of X G cc_Best, PySem.W.mg_of X G cc_Next, PySem.W.mg_of X G cc_Likes, ⟨s1_Broken, ⟨_, s2_Broken, s5_Broken, s6_Broken⟩, s3_Broken, s4_Broken⟩, ⟨PySem.W.mg_of X G cc_NoSize, _, _, _, _, xx_NoSize, PySem.F.excBase_ValueError, PySem.F.excBase_ValueError.hasBase⟩, ⟨PySem.W.mg_of X G cc_NoPiece, _, _, _, _, xx_NoPiece, PySem.F.excBase_ValueError, PySem.F.excBase_ValueError.hasBase⟩, ⟨PySem.W.mg_of X G cc_NoCell, _, _, _, _, xx_NoCell, PySem.F.excBase_ValueError, PySem.F.excBase_ValueError.hasBase⟩, ⟨PySem.W.mg_of X G cc_NoAsk, _, _, _, _, xx_NoAsk, PySem.F.excBase_ValueError, PySem.F.excBase_ValueError.hasBase⟩, ⟨PySem.W.mg_of X G cc_NoRoom, _, _, _, _, xx_NoRoom, PySem.F.excBase_ValueError, PySem.F.excBase_ValueError.hasBase⟩, ⟨PySem.W.mg_of X G cc_NoName, _, _, _, _, xx_NoName, PySem.F.excBase_ValueError, PySem.F.excBase_ValueError.hasBase⟩, ⟨pg_First, hd_First, po_First, sa_First⟩, na_First_room_cells, ⟨pg_Best, hd_Best, po_Best, sa_Best⟩, na_Best_room_cells, ⟨pg_Next, hd_Next, po_Next, sa_Next⟩, na_Next_room_cells, na_Next_room_rover, ⟨pg_Likes, hd_Likes, po_Likes, sa_Likes⟩, na_Likes_room_cells, ⟨⟨pg_First, hd_First, po_First, sa_First⟩, ic_First, ig, it, im_First⟩, ⟨⟨pg_Best, hd_Best, po_Best, sa_Best⟩, ic_Best, ig, it, im_Best⟩, ⟨⟨pg_Next, hd_Next, po_Next, sa_Next⟩, ic_Next, ig, it, im_Next⟩, ⟨⟨pg_Likes, hd_Likes, po_Likes, sa_Likes⟩, ic_Likes, ig, it, im_Likes⟩, i_First_Keeper, i_Best_Keeper, i_Next_Keeper, i_Likes_Keeper, ⟨_, _, ⟨_, _, _, _, _, _, _, _, _, _, _, _, _, _, _, _, lc_NoSize⟩, ⟨_, _, _, _, _, _, _, _, _, _, _, _, _, _, _, _, lc_StowError⟩, fb_StowError, fm_NoSize_StowError⟩, ⟨_, _, ⟨_, _, _, _, _, _, _, _, _, _, _, _, _, _, _, _, lc_Broken⟩, ⟨_, _, _, _, _, _, _, _, _, _, _, _, _, _, _, _, lc_StowError⟩, fb_StowError, fm_Broken_StowError⟩, ⟨_, _, ⟨_, _, _, _, _, _, _, _, _, _, _, _, _, _, _, _, lc_NoPiece⟩, ⟨_, _, _, _, _, _, _, _, _, _, _, _, _, _, _, _, lc_StowError⟩, fb_StowError, fm_NoPiece_StowError⟩, ⟨_, _, ⟨_, _, _, _, _, _, _, _, _, _, _, _, _, _, _, _, lc_NoCell⟩, ⟨_, _, _, _, _, _, _, _, _, _, _, _, _, _, _, _, lc_StowError⟩, fb_StowError, fm_NoCell_StowError⟩, ⟨_, _, ⟨_, _, _, _, _, _, _, _, _, _, _, _, _, _, _, _, lc_NoAsk⟩, ⟨_, _, _, _, _, _, _, _, _, _, _, _, _, _, _, _, lc_StowError⟩, fb_StowError, fm_NoAsk_StowError⟩, ⟨_, _, ⟨_, _, _, _, _, _, _, _, _, _, _, _, _, _, _, _, lc_NoRoom⟩, ⟨_, _, _, _, _, _, _, _, _, _, _, _, _, _, _, _, lc_StowError⟩, fb_StowError, fm_NoRoom_StowError⟩, ⟨g1_NoSize, g2_NoSize, g3_NoSize, g4_NoSize, g5_NoSize⟩, ⟨g1_Broken, g2_Broken, g3_Broken, g4_Broken, g5_Broken⟩, ⟨g1_NoPiece, g2_NoPiece, g3_NoPiece, g4_NoPiece, g5_NoPiece⟩, ⟨g1_NoCell, g2_NoCell, g3_NoCell, g4_NoCell, g5_NoCell⟩, ⟨g1_NoAsk, g2_NoAsk, g3_NoAsk, g4_NoAsk, g5_NoAsk⟩, ⟨g1_NoRoom, g2_NoRoom, g3_NoRoom, g4_NoRoom, g5_NoRoom⟩, i_NoSize_NoSize, i_NoSize_Broken, i_NoSize_NoPiece, i_NoSize_NoCell, i_NoSize_NoAsk, i_NoSize_NoRoom, i_Broken_NoSize, i_Broken_Broken, i_Broken_NoPiece, i_Broken_NoCell, i_Broken_NoAsk, i_Broken_NoRoom, i_NoPiece_NoSize, i_NoPiece_Broken, i_NoPiece_NoPiece, i_NoPiece_NoCell, i_NoPiece_NoAsk, i_NoPiece_NoRoom, i_NoCell_NoSize, i_NoCell_Broken, i_NoCell_NoPiece, i_NoCell_NoCell, i_NoCell_NoAsk, i_NoCell_NoRoom, i_NoAsk_NoSize, i_NoAsk_Broken, i_NoAsk_NoPiece, i_NoAsk_NoCell, i_NoAsk_NoAsk, i_NoAsk_NoRoom, i_NoRoom_NoSize, i_NoRoom_Broken, i_NoRoom_NoPiece, i_NoRoom_NoCell, i_NoRoom_NoAsk, i_NoRoom_NoRoom⟩
 have S_Z60 := Xbe (st := Xty) X G a_Z60 l_Z60 c_Z60 k_Z60
 have S_Z36 := Xbe (st := Xrw) X G a_Z36 l_Z36 c_Z36 k_Z36
 have S_Z5 := Xbe (st := s_Z5) X G a_Z5 l_Z5 c_Z5 k_Z5
 have S_Z43 := Xbe (st := Xqt) X G a_Z43 l_Z43 c_Z43 k_Z43
 have S_Z46 := Xbe (st := Xrs) X G a_Z46 l_Z46 c_Z46 k_Z46
 have S_Z51 := Xbe (st := Xor) X G a_Z51 l_Z51 c_Z51 k_Z51
 have S_Z32 := Xbe (st := Xpb) X G a_Z32 l_Z32 c_Z32 k_Z32
 have S_Z13 := Xbe (st := Xrz) X G a_Z13 l_Z13 c_Z13 k_Z13
 have S_Z57 := Xbe (st := Xqv) X G a_Z57 l_Z57 c_Z57 k_Z57
 have S_Z28 := Xbe (st := Xqp) X G a_Z28 l_Z28 c_Z28 k_Z28
 have S_Z66 := Xbe (st := Xqb) X G a_Z66 l_Z66 c_Z66 k_Z66
 have S_Z34 := Xbe (st := Xrn) X G a_Z34 l_Z34 c_Z34 k_Z34
 have S_Z40 := Xbe (st := Xom) X G a_Z40 l_Z40 c_Z40 k_Z40
 have S_Z45 := Xbe (st := Xqq) X G a_Z45 l_Z45 c_Z45 k_Z45
 have S_Z49 := Xbe (st := Xpp) X G a_Z49 l_Z49 c_Z49 k_Z49
 have S_Z12 := Xbe (st := Xpw) X G a_Z12 l_Z12 c_Z12 k_Z12
 have S_Z25 := Xbe (st := Xoq) X G a_Z25 l_Z25 c_Z25 k_Z25
 have S_Z38 := Xbe (st := Xrb) X G a_Z38 l_Z38 c_Z38 k_Z38
 have S_Z47 := Xbe (st := Xrc) X G a_Z47 l_Z47 c_Z47 k_Z47
 have S_Z61 := Xbe (st := Xoi) X G a_Z61 l_Z61 c_Z61 k_Z61
 have S_Z10 := Xbe (st := Xrj) X G a_Z10 l_Z10 c_Z10 k_Z10
 have S_Z53 := Xbe (st := Xrq) X G a_Z53 l_Z53 c_Z53 k_Z53
 have S_Z44 := Xbe (st := Xop) X G a_Z44 l_Z44 c_Z44 k_Z44
 have S_Z22 := Xbe (st := Xol) X G a_Z22 l_Z22 c_Z22 k_Z22
 have S_Z35 := Xbe (st := Xqs) X G a_Z35 l_Z35 c_Z35 k_Z35
 have S_Z20 := Xbe (st := Xsa) X G a_Z20 l_Z20 c_Z20 k_Z20
 have S_Z14 := Xbe (st := Xpz) X G a_Z14 l_Z14 c_Z14 k_Z14
 have S_Z33 := Xbe (st := Xoz) X G a_Z33 l_Z33 c_Z33 k_Z33
 have S_Z54 := Xbe (st := Xqw) X G a_Z54 l_Z54 c_Z54 k_Z54
 have S_Z56 := Xbe (st := Xqf) X G a_Z56 l_Z56 c_Z56 k_Z56
 have S_Z55 := Xbe (st := Xse) X G a_Z55 l_Z55 c_Z55 k_Z55
 have S_Z48 := Xbe (st := Xrv) X G a_Z48 l_Z48 c_Z48 k_Z48
 have S_Z31 := Xbe (st := Xoe) X G a_Z31 l_Z31 c_Z31 k_Z31
 have S_Z42 := Xbe (st := Xpx) X G a_Z42 l_Z42 c_Z42 k_Z42
 have S_Z59 := Xbe (st := Xpm) X G a_Z59 l_Z59 c_Z59 k_Z59
 have S_Z52 := Xbe (st := Xsc) X G a_Z52 l_Z52 c_Z52 k_Z52
 subst eb_Broken en_Broken eo_Broken
 have XI_Broken : XIni K mg "Broken" Y4 Y0 f_Broken_init := ⟨PySem.W.mg_of X G cc_Broken, ⟨_, _, _, _, _, _, _, _, _, _, _, _, _, _, _, lc_Broken⟩, xx_StowError, e56_, kp_Broken, ⟨_, _, _, _, l_Broken_init, rfl⟩⟩
 refine ⟨PySem.W.fnOf "law" "law" (Xbp Xkz) (Xaz Xkz) (Xae Xkz) .none kV_law dc_law pm_law an_law cd_law ct_law, fun s v => .of_eq rfl, fun base _ _ => ?_⟩
 have D_Z43 := XQc (P := l.prog) (w := w) (base := base) S_Z43 T 
 have D_Z46 := XRr (P := l.prog) (w := w) (base := base) S_Z46 T 
 have D_Z51 := XRn (P := l.prog) (w := w) (base := base) S_Z51 T 
 have D_Z32 := XOr (P := l.prog) (w := w) (base := base) S_Z32 T D_Z46 D_Z51
 have D_Z13 := XRk (P := l.prog) (w := w) (base := base) S_Z13 T D_Z46 D_Z32
 have D_Broken := Xvh (P := l.prog) (w := w) (base := base) (Xbx l_Broken_init c_Broken_init k_Broken_init) XI_Broken T.s_Broken
 have D_Z57 := XOq (P := l.prog) (w := w) (base := base) S_Z57 T D_Z46 D_Z51 D_Z13 D_Broken
 have D_Z28 := XPp (P := l.prog) (w := w) (base := base) S_Z28 T D_Z43
 have D_Z66 := XRi (P := l.prog) (w := w) (base := base) S_Z66 T D_Z43
 have D_Z34 := XQl (P := l.prog) (w := w) (base := base) S_Z34 T D_Z66
 have D_Z10 := XPz (P := l.prog) (w := w) (base := base) S_Z10 T 
 have D_Z53 := XOp (P := l.prog) (w := w) (base := base) S_Z53 T D_Z57 D_Z10 D_Z66
 have D_Z40 := XQo (P := l.prog) (w := w) (base := base) S_Z40 T D_Z57
 have D_Z45 := XQt (P := l.prog) (w := w) (base := base) S_Z45 T D_Z40
 have D_Z49 := XNz (P := l.prog) (w := w) (base := base) S_Z49 T D_Z40
 have D_Z47 := XOs (P := l.prog) (w := w) (base := base) S_Z47 T D_Z49 D_Z34 D_Z66
 have D_Z25 := XRp (P := l.prog) (w := w) (base := base) S_Z25 T D_Z51 D_Z46
 have D_Z38 := XOl (P := l.prog) (w := w) (base := base) S_Z38 T D_Z51 D_Z46
 have D_Z61 := XRs (P := l.prog) (w := w) (base := base) S_Z61 T D_Z45 D_Z25 D_Z38 D_Z34
 have D_Z22 := XPk (P := l.prog) (w := w) (base := base) S_Z22 T 
 have D_Z35 := XRo (P := l.prog) (w := w) (base := base) S_Z35 T D_Z22 D_Z57
 have D_Z20 := XPu (P := l.prog) (w := w) (base := base) S_Z20 T 
 have D_Z44 := XRj (P := l.prog) (w := w) (base := base) S_Z44 T 
 have D_Z36 := XPf (P := l.prog) (w := w) (base := base) S_Z36 T 
 have D_Z12 := XQe (P := l.prog) (w := w) (base := base) S_Z12 T D_Z57
 have D_First := XEf (P := l.prog) (w := w) (base := base) (Xbx l_Keeper_init c_Keeper_init k_Keeper_init) ⟨mk_First, e37_, if_Keeper_init, kp_First⟩ T D_Z28
 have D_Best := XKv (P := l.prog) (w := w) (base := base) (Xbx l_Keeper_init c_Keeper_init k_Keeper_init) ⟨mk_Best, e45_, if_Keeper_init, kp_Best⟩ T D_Z28
 have D_Likes := XEt (P := l.prog) (w := w) (base := base) (Xbx l_Keeper_init c_Keeper_init k_Keeper_init) ⟨mk_Likes, e38_, if_Keeper_init, kp_Likes⟩ T D_Z28
 have D_Z27 := XOf (P := l.prog) (w := w) (base := base) (Xbx l_Keeper_init c_Keeper_init k_Keeper_init) ⟨bs_Stretches, br_Stretches, e12_, k_Keeper_init⟩ T D_Z28
 have D_Next := XLd (P := l.prog) (w := w) (base := base) (Xbx l_Next_init c_Next_init k_Next_init) ⟨mk_Next, e57_, if_Next_init, kp_Next⟩ T D_Z27
 have D_Z67 := XQu (P := l.prog) (w := w) (base := base) (Xbx l_Z1 c_Z1 k_Z1) (fun i hi => by cases i <;> first | exact ⟨e3_, if_Z1, k_Z1⟩ | exact ⟨e5_, if_Z1, k_Z1⟩ | exact ⟨e4_, if_Z1, k_Z1⟩ | exact absurd rfl hi | cases hi) T D_Z53
 have D_Z63 := XRb (P := l.prog) (w := w) (base := base) (Xbx l_Z6 c_Z6 k_Z6) (fun i hi => by cases i <;> first | exact ⟨e16_, if_Z6, k_Z6⟩ | exact absurd rfl hi | cases hi) T D_Z53
 have D_room_begin : Xbl l.prog w K mg base (cF Y10 Y13 Y14 Y11) "room_begin" 6 ["self", "cells"] [] (Xhx K (cF Y10 Y13 Y14 Y11)) := Xqz D_Z67 D_Z63 (by decide) (by decide) (fun i => by cases i <;> first | exact .inr rfl | exact .inl (fun z => by cases z))
 have D_Z58 := XRf (P := l.prog) (w := w) (base := base) (Xbx l_Z17 c_Z17 k_Z17) (four (Q := fun C => Meth K C "clear" f_Z17) ⟨e30_, if_Z17, k_Z17⟩ ⟨e34_, if_Z17, k_Z17⟩ ⟨e40_, if_Z17, k_Z17⟩ ⟨e29_, if_Z17, k_Z17⟩) T D_Z28 D_room_begin
 have D_Z69 := XPd (P := l.prog) (w := w) (base := base) (Xbx l_Z0 c_Z0 k_Z0) (fun i hi => by cases i <;> first | exact ⟨e1_, if_Z0, k_Z0⟩ | exact ⟨e2_, if_Z0, k_Z0⟩ | exact ⟨e0_, if_Z0, k_Z0⟩ | exact absurd rfl hi | cases hi) T 
 have D_Z70 := XQi (P := l.prog) (w := w) (base := base) (Xbx l_Z4 c_Z4 k_Z4) (fun i hi => by cases i <;> first | exact ⟨e14_, if_Z4, k_Z4⟩ | exact absurd rfl hi | cases hi) T 
 have D_room_granted : Xbl l.prog w K mg base (cF Y10 Y13 Y14 Y11) "room_granted" 1 ["self", "behind"] [] (Xjd (cF Y10 Y13 Y14 Y11)) := Xqz D_Z69 D_Z70 (by decide) (by decide) (fun i => by cases i <;> first | exact .inr rfl | exact .inl (fun z => by cases z))
 have D_Z62 := XOe (P := l.prog) (w := w) (base := base) (Xbx l_Z16 c_Z16 k_Z16) (four (Q := fun C => Meth K C "cells" f_Z16) ⟨e31_, if_Z16, k_Z16⟩ ⟨e35_, if_Z16, k_Z16⟩ ⟨e36_, if_Z16, k_Z16⟩ ⟨e32_, if_Z16, k_Z16⟩) T 
 have D_lay := XPg (P := l.prog) (w := w) (base := base) (Xbx l_Z30 c_Z30 k_Z30) (four (Q := fun C => Meth K C "lay" f_Z30) ⟨e42_, if_Z30, k_Z30⟩ ⟨e55_, if_Z30, k_Z30⟩ ⟨e50_, if_Z30, k_Z30⟩ ⟨e43_, if_Z30, k_Z30⟩) T D_Z57 D_room_begin
 have D_Z68 := XOj (P := l.prog) (w := w) (base := base) (Xbx l_Z21 c_Z21 k_Z21) (four (Q := fun C => Meth K C "many" f_Z21) ⟨e33_, if_Z21, k_Z21⟩ ⟨e48_, if_Z21, k_Z21⟩ ⟨e49_, if_Z21, k_Z21⟩ ⟨e39_, if_Z21, k_Z21⟩) T D_Z45
 have D_Z15 := XQx (P := l.prog) (w := w) (base := base) (Xbx l_Z2 c_Z2 k_Z2) (four (Q := fun C => Meth K C "room_cell_of" f_Z2) ⟨e6_, if_Z2, k_Z2⟩ ⟨e9_, if_Z2, k_Z2⟩ ⟨e8_, if_Z2, k_Z2⟩ ⟨e7_, if_Z2, k_Z2⟩) T D_Z68
 have D_put := XQn (P := l.prog) (w := w) (base := base) (Xbx l_Z26 c_Z26 k_Z26) (four (Q := fun C => Meth K C "put" f_Z26) ⟨e44_, if_Z26, k_Z26⟩ ⟨e51_, if_Z26, k_Z26⟩ ⟨e53_, if_Z26, k_Z26⟩ ⟨e46_, if_Z26, k_Z26⟩) T D_Z15
 have D_get := XPr (P := l.prog) (w := w) (base := base) (Xbx l_Z24 c_Z24 k_Z24) (four (Q := fun C => Meth K C "get" f_Z24) ⟨e41_, if_Z24, k_Z24⟩ ⟨e54_, if_Z24, k_Z24⟩ ⟨e52_, if_Z24, k_Z24⟩ ⟨e47_, if_Z24, k_Z24⟩) T D_Z15
 have D_Z37 := XOm (P := l.prog) (w := w) (base := base) (Xbx l_Z18 c_Z18 k_Z18) ⟨a_Z18, if_Z18, k_Z18⟩ T D_Z35 D_Z20
 have D_Z41 := XQs (P := l.prog) (w := w) (base := base) (Xbx l_Z19 c_Z19 k_Z19) ⟨a_Z19, if_Z19, k_Z19⟩ T D_Z35 D_Z20 D_Z46
 have D_Z50 := XOt (P := l.prog) (w := w) (base := base) (Xbx l_Z23 c_Z23 k_Z23) ⟨a_Z23, if_Z23, k_Z23⟩ T D_Z35 D_Z20
 have D_Z39 := XRe (P := l.prog) (w := w) (base := base) (Xbx l_Z11 c_Z11 k_Z11) ⟨a_Z11, if_Z11, k_Z11⟩ T D_Z35 D_Z20 D_Z46
 have D_chosen : Xbl l.prog w K mg base (cF Y10 Y13 Y14 Y11) "chosen" 6 ["self", "long", "bound"] [] (Xdk (cF Y10 Y13 Y14 Y11)) := Xur (sp := Xdk (cF Y10 Y13 Y14 Y11)) D_Z37 D_Z41 D_Z50 D_Z39 (by decide) (by decide) (by decide) (by decide)
 have D_ask := XOw (P := l.prog) (w := w) (base := base) (Xqe l_Z9 c_Z9 k_Z9) ld_Z9 (four (Q := fun C => Meth K C "ask" f_Z9) ⟨e21_, if_Z9, k_Z9⟩ ⟨e27_, if_Z9, k_Z9⟩ ⟨e28_, if_Z9, k_Z9⟩ ⟨e23_, if_Z9, k_Z9⟩) T D_Z36 D_chosen D_Z47 D_Z12 D_room_granted
 have D_Z64 := XRt (P := l.prog) (w := w) (base := base) (Xbx l_Z7 c_Z7 k_Z7) (four (Q := fun C => Meth K C "give" f_Z7) ⟨e17_, if_Z7, k_Z7⟩ ⟨e25_, if_Z7, k_Z7⟩ ⟨e22_, if_Z7, k_Z7⟩ ⟨e18_, if_Z7, k_Z7⟩) T D_Z61
 have D_Z29 := XQd (P := l.prog) (w := w) (base := base) (Xbx l_Z3 c_Z3 k_Z3) (four (Q := fun C => Meth K C "room_moved" f_Z3) ⟨e11_, if_Z3, k_Z3⟩ ⟨e15_, if_Z3, k_Z3⟩ ⟨e13_, if_Z3, k_Z3⟩ ⟨e10_, if_Z3, k_Z3⟩) T D_ask D_Z44 D_Z68 D_Z64
 have D_Z65 := XPa (P := l.prog) (w := w) (base := base) (Xqe l_Z8 c_Z8 k_Z8) ld_Z8 (four (Q := fun C => Meth K C "grow" f_Z8) ⟨e19_, if_Z8, k_Z8⟩ ⟨e26_, if_Z8, k_Z8⟩ ⟨e24_, if_Z8, k_Z8⟩ ⟨e20_, if_Z8, k_Z8⟩) T D_Z45 D_Z36 D_Z38 D_Z29 D_Z66 D_Z34
 have D_Z14 := XRd (P := l.prog) (w := w) (base := base) S_Z14 T D_First D_Best D_Next D_Likes
 have D_Z33 := XRg (P := l.prog) (w := w) (base := base) S_Z33 T 
 have D_Z54 := XPc (P := l.prog) (w := w) (base := base) S_Z54 T 
 have D_Z56 := XRa (P := l.prog) (w := w) (base := base) S_Z56 T 
 have D_Z55 := XOb (P := l.prog) (w := w) (base := base) S_Z55 T D_put D_get D_Z68 D_Z64 D_Z65 D_ask D_lay D_Z62
 have D_Z48 := XRc (P := l.prog) (w := w) (base := base) S_Z48 T D_Z55 D_Z56
 have D_Z31 := XQh (P := l.prog) (w := w) (base := base) S_Z31 T 
 have D_Z42 := XRh (P := l.prog) (w := w) (base := base) S_Z42 T 
 have D_Z59 := XQr (P := l.prog) (w := w) (base := base) S_Z59 T D_Z42 D_Z31
 have D_Z52 := XOi (P := l.prog) (w := w) (base := base) S_Z52 T D_Z62 D_Z54 D_Z59 D_chosen D_Z48
 exact XKq (Xbx l_law c_law k_law) T D_Z33 D_Z14 D_Z48 D_Z52 D_Z58 D_Z54 D_Z62
theorem walk {l : PySem.W.OpenLaw} {q : Program} {loose : List Str} {XP : (Str → Option Value) → Heap → Prop} {YP : World → Heap → Prop} {d : DefRec} {K : Params → PySem.W.Frag} (hn : l.most = some 63) (hdf : d.params.defaults = [])
   (hY : ∀ (w : World) (h : Heap), YP w h → (K w.params).In h)
   (F : ∀ (w : World) (mg : Str → Option Value) (fa : Addr) (h : Heap), (K w.params).In h → h.Ns mainGlobals mg → mg d.name = some (.ref fa) →
     ∃ fd : FuncData, (∀ (s : Shared) (u : Value), BindsTo s fd ⟨[u], []⟩ [("_law_script", u)]) ∧ ∀ base : Heap, (K w.params).In base → base.Ns mainGlobals mg → FnOk l.prog w (K w.params) mg base (CXe l.prog w) 14 fa fd ["_law_script"] (Xsk (K w.params))) :
   PySem.W.WalkO q loose XP YP l.row.toRowW d [] (fun f vs => PySem.call f vs) :=
 L2.walk_of (n := 63) (k := 14) (x := "_law_script") (CX := fun w => (CXe l.prog w)) (sp := fun w => Xsk (K w.params)) hn (by decide) hdf ⟨rfl, by decide, by decide⟩ hY F (fun _ _ a ns hl _ hS => ⟨a, ns, rfl, hS, hl, fun _ => rfl⟩) (fun _ _ _ _ _ ⟨_, _, _, _, _, _, _, _, _, _, _, _, _, _, _, z⟩ => z)
end Stow
open PySem PySem.W PyProof.Rows
set_option maxRecDepth 100000 in
set_option maxHeartbeats 0 in
theorem PySem.Challenge.cw_stow_k21_refused_holds : PySem.Challenge.rw_stow_k21_refused.Holds := by
 w_on; o_law
 refine holds_open (XP := fun _ _ => True) (YP := InK Stow.heap0) Stow.left0 ?y (InK.keeps (K := Stow.heap0)) (fun _ _ => trivial) (fun _ _ _ h _ => h) rfl rfl rfl (fun _ e => recFacts_of e) rfl
   (by assumption) (by decide +kernel) ⟨rfl, rfl, rfl, rfl, rfl, by decide +kernel⟩ ?hw ?hc
 case y => exact InK.of Stow.at0_eq
 case hw => w_witness2
 k_fill
 refine Stow.walk (l := PySem.Challenge.rw_stow_k21_refused) rfl rfl (fun w h Y => Y) ?F
 case F =>
   intro w mg fa h KX G hmg
   apply Stow.all_mk KX G hmg
   (case a_Z60 => k_is)
   (case l_Z60 => unfold Stow.LkF; k_is)
   (case c_Z60 => k_is)
   (case k_Z60 => k_is)
   (case a_Z36 => k_is)
   (case l_Z36 => unfold Stow.LkF; k_is)
   (case c_Z36 => k_is)
   (case k_Z36 => k_is)
   (case a_Z5 => k_is)
   (case l_Z5 => unfold Stow.LkF; k_is)
   (case c_Z5 => k_is)
   (case k_Z5 => k_is)
   (case a_Z43 => k_is)
   (case l_Z43 => unfold Stow.LkF; k_is)
   (case c_Z43 => k_is)
   (case k_Z43 => k_is)
   (case a_Z46 => k_is)
   (case l_Z46 => unfold Stow.LkF; k_is)
   (case c_Z46 => k_is)
   (case k_Z46 => k_is)
   (case a_Z51 => k_is)
   (case l_Z51 => unfold Stow.LkF; k_is)
   (case c_Z51 => k_is)
   (case k_Z51 => k_is)
   (case a_Z32 => k_is)
   (case l_Z32 => unfold Stow.LkF; k_is)
   (case c_Z32 => k_is)
   (case k_Z32 => k_is)
   (case a_Z13 => k_is)
   (case l_Z13 => unfold Stow.LkF; k_is)
   (case c_Z13 => k_is)
   (case k_Z13 => k_is)
   (case a_Z57 => k_is)
   (case l_Z57 => unfold Stow.LkF; k_is)
   (case c_Z57 => k_is)
   (case k_Z57 => k_is)
   (case a_Z28 => k_is)
   (case l_Z28 => unfold Stow.LkF; k_is)
   (case c_Z28 => k_is)
   (case k_Z28 => k_is)
   (case a_Z66 => k_is)
   (case l_Z66 => unfold Stow.LkF; k_is)
   (case c_Z66 => k_is)
   (case k_Z66 => k_is)
   (case a_Z34 => k_is)
   (case l_Z34 => unfold Stow.LkF; k_is)
   (case c_Z34 => k_is)
   (case k_Z34 => k_is)
   (case a_Z40 => k_is)
   (case l_Z40 => unfold Stow.LkF; k_is)
   (case c_Z40 => k_is)
   (case k_Z40 => k_is)
   (case a_Z45 => k_is)
   (case l_Z45 => unfold Stow.LkF; k_is)
   (case c_Z45 => k_is)
   (case k_Z45 => k_is)
   (case a_Z49 => k_is)
   (case l_Z49 => unfold Stow.LkF; k_is)
   (case c_Z49 => k_is)
   (case k_Z49 => k_is)
   (case a_Z12 => k_is)
   (case l_Z12 => unfold Stow.LkF; k_is)
   (case c_Z12 => k_is)
   (case k_Z12 => k_is)
   (case a_Z25 => k_is)
   (case l_Z25 => unfold Stow.LkF; k_is)
   (case c_Z25 => k_is)
   (case k_Z25 => k_is)
   (case a_Z38 => k_is)
   (case l_Z38 => unfold Stow.LkF; k_is)
   (case c_Z38 => k_is)
   (case k_Z38 => k_is)
   (case a_Z47 => k_is)
   (case l_Z47 => unfold Stow.LkF; k_is)
   (case c_Z47 => k_is)
   (case k_Z47 => k_is)
   (case a_Z61 => k_is)
   (case l_Z61 => unfold Stow.LkF; k_is)
   (case c_Z61 => k_is)
   (case k_Z61 => k_is)
   (case a_Z10 => k_is)
   (case l_Z10 => unfold Stow.LkF; k_is)
   (case c_Z10 => k_is)
   (case k_Z10 => k_is)
   (case a_Z53 => k_is)
   (case l_Z53 => unfold Stow.LkF; k_is)
   (case c_Z53 => k_is)
   (case k_Z53 => k_is)
   (case a_Z44 => k_is)
   (case l_Z44 => unfold Stow.LkF; k_is)
   (case c_Z44 => k_is)
   (case k_Z44 => k_is)
   (case a_Z22 => k_is)
   (case l_Z22 => unfold Stow.LkF; k_is)
   (case c_Z22 => k_is)
   (case k_Z22 => k_is)
   (case a_Z35 => k_is)
   (case l_Z35 => unfold Stow.LkF; k_is)
   (case c_Z35 => k_is)
   (case k_Z35 => k_is)
   (case a_Z20 => k_is)
   (case l_Z20 => unfold Stow.LkF; k_is)
   (case c_Z20 => k_is)
   (case k_Z20 => k_is)
   (case a_Z14 => k_is)
   (case l_Z14 => unfold Stow.LkF; k_is)
   (case c_Z14 => k_is)
   (case k_Z14 => k_is)
   (case a_Z33 => k_is)
   (case l_Z33 => unfold Stow.LkF; k_is)
   (case c_Z33 => k_is)
   (case k_Z33 => k_is)
   (case a_Z54 => k_is)
   (case l_Z54 => unfold Stow.LkF; k_is)
   (case c_Z54 => k_is)
   (case k_Z54 => k_is)
   (case a_Z56 => k_is)
   (case l_Z56 => unfold Stow.LkF; k_is)
   (case c_Z56 => k_is)
   (case k_Z56 => k_is)
   (case a_Z55 => k_is)
   (case l_Z55 => unfold Stow.LkF; k_is)
   (case c_Z55 => k_is)
   (case k_Z55 => k_is)
   (case a_Z48 => k_is)
   (case l_Z48 => unfold Stow.LkF; k_is)
   (case c_Z48 => k_is)
   (case k_Z48 => k_is)
   (case a_Z31 => k_is)
   (case l_Z31 => unfold Stow.LkF; k_is)
   (case c_Z31 => k_is)
   (case k_Z31 => k_is)
   (case a_Z42 => k_is)
   (case l_Z42 => unfold Stow.LkF; k_is)
   (case c_Z42 => k_is)
   (case k_Z42 => k_is)
   (case a_Z59 => k_is)
   (case l_Z59 => unfold Stow.LkF; k_is)
   (case c_Z59 => k_is)
   (case k_Z59 => k_is)
   (case a_Z52 => k_is)
   (case l_Z52 => unfold Stow.LkF; k_is)
   (case c_Z52 => k_is)
   (case k_Z52 => k_is)
   (case a_law => k_is)
   (case l_law => unfold Stow.LkF; k_is)
   (case c_law => k_is)
   (case k_law => k_is)
   (case z_isinstance => k_is)
   (case z_len => k_is)
   (case z_list => k_is)
   (case z_min => k_is)
   (case z_range => k_is)
   (case g_LEAST_LIVE => k_is)
   (case g_MARKS => k_is)
   (case cc_StowError => k_is)
   (case cc_NoName => k_is)
   (case cc_NoSize => k_is)
   (case cc_Broken => k_is)
   (case cc_NoPiece => k_is)
   (case cc_NoCell => k_is)
   (case cc_NoAsk => k_is)
   (case cc_NoBound => k_is)
   (case cc_NoRoom => k_is)
   (case cc_Keeper => k_is)
   (case cc_Stretches => k_is)
   (case cc_First => k_is)
   (case cc_Best => k_is)
   (case cc_Next => k_is)
   (case cc_Likes => k_is)
   (case s1_Broken => k_is)
   (case s2_Broken => k_is)
   (case s5_Broken => decide +kernel)
   (case s6_Broken => rfl)
   (case s3_Broken => k_is)
   (case s4_Broken => k_is)
   (case xx_NoSize => k_exc)
   (case xx_NoPiece => k_exc)
   (case xx_NoCell => k_exc)
   (case xx_NoAsk => k_exc)
   (case xx_NoRoom => k_exc)
   (case xx_NoName => k_exc)
   (case pg_First => k_is)
   (case hd_First => k_is)
   (case po_First => k_is)
   (case sa_First => k_is)
   (case na_First_room_cells => k_is)
   (case pg_Best => k_is)
   (case hd_Best => k_is)
   (case po_Best => k_is)
   (case sa_Best => k_is)
   (case na_Best_room_cells => k_is)
   (case pg_Next => k_is)
   (case hd_Next => k_is)
   (case po_Next => k_is)
   (case sa_Next => k_is)
   (case na_Next_room_cells => k_is)
   (case na_Next_room_rover => k_is)
   (case pg_Likes => k_is)
   (case hd_Likes => k_is)
   (case po_Likes => k_is)
   (case sa_Likes => k_is)
   (case na_Likes_room_cells => k_is)
   (case ic_First => k_is)
   (case ig => k_is)
   (case it => k_is)
   (case im_First => k_is)
   (case ic_Best => k_is)
   (case im_Best => k_is)
   (case ic_Next => k_is)
   (case im_Next => k_is)
   (case ic_Likes => k_is)
   (case im_Likes => k_is)
   (case i_First_Keeper => kit_is)
   (case i_Best_Keeper => kit_is)
   (case i_Next_Keeper => kit_is)
   (case i_Likes_Keeper => kit_is)
   (case lc_NoSize => k_is)
   (case lc_StowError => k_is)
   (case fb_StowError => decide +kernel)
   (case fm_NoSize_StowError => decide +kernel)
   (case lc_Broken => k_is)
   (case fm_Broken_StowError => decide +kernel)
   (case lc_NoPiece => k_is)
   (case fm_NoPiece_StowError => decide +kernel)
   (case lc_NoCell => k_is)
   (case fm_NoCell_StowError => decide +kernel)
   (case lc_NoAsk => k_is)
   (case fm_NoAsk_StowError => decide +kernel)
   (case lc_NoRoom => k_is)
   (case fm_NoRoom_StowError => decide +kernel)
   (case g1_NoSize => k_is)
   (case g2_NoSize => k_is)
   (case g3_NoSize => k_is)
   (case g4_NoSize => k_is)
   (case g5_NoSize => k_is)
   (case g1_Broken => k_is)
   (case g2_Broken => k_is)
   (case g3_Broken => k_is)
   (case g4_Broken => k_is)
   (case g5_Broken => k_is)
   (case g1_NoPiece => k_is)
   (case g2_NoPiece => k_is)
   (case g3_NoPiece => k_is)
   (case g4_NoPiece => k_is)
   (case g5_NoPiece => k_is)
   (case g1_NoCell => k_is)
   (case g2_NoCell => k_is)
   (case g3_NoCell => k_is)
   (case g4_NoCell => k_is)
   (case g5_NoCell => k_is)
   (case g1_NoAsk => k_is)
   (case g2_NoAsk => k_is)
   (case g3_NoAsk => k_is)
   (case g4_NoAsk => k_is)
   (case g5_NoAsk => k_is)
   (case g1_NoRoom => k_is)
   (case g2_NoRoom => k_is)
   (case g3_NoRoom => k_is)
   (case g4_NoRoom => k_is)
   (case g5_NoRoom => k_is)
   (case i_NoSize_NoSize => kit_is)
   (case i_NoSize_Broken => kit_is)
   (case i_NoSize_NoPiece => kit_is)
   (case i_NoSize_NoCell => kit_is)
   (case i_NoSize_NoAsk => kit_is)
   (case i_NoSize_NoRoom => kit_is)
   (case i_Broken_NoSize => kit_is)
   (case i_Broken_Broken => kit_is)
   (case i_Broken_NoPiece => kit_is)
   (case i_Broken_NoCell => kit_is)
   (case i_Broken_NoAsk => kit_is)
   (case i_Broken_NoRoom => kit_is)
   (case i_NoPiece_NoSize => kit_is)
   (case i_NoPiece_Broken => kit_is)
   (case i_NoPiece_NoPiece => kit_is)
   (case i_NoPiece_NoCell => kit_is)
   (case i_NoPiece_NoAsk => kit_is)
   (case i_NoPiece_NoRoom => kit_is)
   (case i_NoCell_NoSize => kit_is)
   (case i_NoCell_Broken => kit_is)
   (case i_NoCell_NoPiece => kit_is)
   (case i_NoCell_NoCell => kit_is)
   (case i_NoCell_NoAsk => kit_is)
   (case i_NoCell_NoRoom => kit_is)
   (case i_NoAsk_NoSize => kit_is)
   (case i_NoAsk_Broken => kit_is)
   (case i_NoAsk_NoPiece => kit_is)
   (case i_NoAsk_NoCell => kit_is)
   (case i_NoAsk_NoAsk => kit_is)
   (case i_NoAsk_NoRoom => kit_is)
   (case i_NoRoom_NoSize => kit_is)
   (case i_NoRoom_Broken => kit_is)
   (case i_NoRoom_NoPiece => kit_is)
   (case i_NoRoom_NoCell => kit_is)
   (case i_NoRoom_NoAsk => kit_is)
   (case i_NoRoom_NoRoom => kit_is)
   (case xx_StowError => k_exc)
   (case kp_Broken => k_is)
   (case e56_ => k_is)
   (case l_Broken_init => unfold Stow.LkF; k_is)
   (case c_Broken_init => k_is)
   (case k_Broken_init => k_is)
   (case eb_Broken => rfl)
   (case en_Broken => rfl)
   (case eo_Broken => rfl)
   (case e37_ => k_is)
   (case l_Keeper_init => unfold Stow.LkF; k_is)
   (case c_Keeper_init => k_is)
   (case k_Keeper_init => k_is)
   (case if_Keeper_init => k_is)
   (case mk_First => k_is)
   (case kp_First => k_is)
   (case e45_ => k_is)
   (case mk_Best => k_is)
   (case kp_Best => k_is)
   (case e38_ => k_is)
   (case mk_Likes => k_is)
   (case kp_Likes => k_is)
   (case e12_ => k_is)
   (case bs_Stretches => k_is)
   (case br_Stretches => k_is)
   (case e57_ => k_is)
   (case l_Next_init => unfold Stow.LkF; k_is)
   (case c_Next_init => k_is)
   (case k_Next_init => k_is)
   (case if_Next_init => k_is)
   (case mk_Next => k_is)
   (case kp_Next => k_is)
   (case e3_ => k_is)
   (case e5_ => k_is)
   (case e4_ => k_is)
   (case l_Z1 => unfold Stow.LkF; k_is)
   (case c_Z1 => k_is)
   (case k_Z1 => k_is)
   (case if_Z1 => k_is)
   (case e16_ => k_is)
   (case l_Z6 => unfold Stow.LkF; k_is)
   (case c_Z6 => k_is)
   (case k_Z6 => k_is)
   (case if_Z6 => k_is)
   (case e30_ => k_is)
   (case e34_ => k_is)
   (case e40_ => k_is)
   (case e29_ => k_is)
   (case l_Z17 => unfold Stow.LkF; k_is)
   (case c_Z17 => k_is)
   (case k_Z17 => k_is)
   (case if_Z17 => k_is)
   (case e1_ => k_is)
   (case e2_ => k_is)
   (case e0_ => k_is)
   (case l_Z0 => unfold Stow.LkF; k_is)
   (case c_Z0 => k_is)
   (case k_Z0 => k_is)
   (case if_Z0 => k_is)
   (case e14_ => k_is)
   (case l_Z4 => unfold Stow.LkF; k_is)
   (case c_Z4 => k_is)
   (case k_Z4 => k_is)
   (case if_Z4 => k_is)
   (case e31_ => k_is)
   (case e35_ => k_is)
   (case e36_ => k_is)
   (case e32_ => k_is)
   (case l_Z16 => unfold Stow.LkF; k_is)
   (case c_Z16 => k_is)
   (case k_Z16 => k_is)
   (case if_Z16 => k_is)
   (case e42_ => k_is)
   (case e55_ => k_is)
   (case e50_ => k_is)
   (case e43_ => k_is)
   (case l_Z30 => unfold Stow.LkF; k_is)
   (case c_Z30 => k_is)
   (case k_Z30 => k_is)
   (case if_Z30 => k_is)
   (case e33_ => k_is)
   (case e48_ => k_is)
   (case e49_ => k_is)
   (case e39_ => k_is)
   (case l_Z21 => unfold Stow.LkF; k_is)
   (case c_Z21 => k_is)
   (case k_Z21 => k_is)
   (case if_Z21 => k_is)
   (case e6_ => k_is)
   (case e9_ => k_is)
   (case e8_ => k_is)
   (case e7_ => k_is)
   (case l_Z2 => unfold Stow.LkF; k_is)
   (case c_Z2 => k_is)
   (case k_Z2 => k_is)
   (case if_Z2 => k_is)
   (case e44_ => k_is)
   (case e51_ => k_is)
   (case e53_ => k_is)
   (case e46_ => k_is)
   (case l_Z26 => unfold Stow.LkF; k_is)
   (case c_Z26 => k_is)
   (case k_Z26 => k_is)
   (case if_Z26 => k_is)
   (case e41_ => k_is)
   (case e54_ => k_is)
   (case e52_ => k_is)
   (case e47_ => k_is)
   (case l_Z24 => unfold Stow.LkF; k_is)
   (case c_Z24 => k_is)
   (case k_Z24 => k_is)
   (case if_Z24 => k_is)
   (case a_Z18 => k_is)
   (case l_Z18 => unfold Stow.LkF; k_is)
   (case c_Z18 => k_is)
   (case k_Z18 => k_is)
   (case if_Z18 => k_is)
   (case a_Z19 => k_is)
   (case l_Z19 => unfold Stow.LkF; k_is)
   (case c_Z19 => k_is)
   (case k_Z19 => k_is)
   (case if_Z19 => k_is)
   (case a_Z23 => k_is)
   (case l_Z23 => unfold Stow.LkF; k_is)
   (case c_Z23 => k_is)
   (case k_Z23 => k_is)
   (case if_Z23 => k_is)
   (case a_Z11 => k_is)
   (case l_Z11 => unfold Stow.LkF; k_is)
   (case c_Z11 => k_is)
   (case k_Z11 => k_is)
   (case if_Z11 => k_is)
   (case e21_ => k_is)
   (case e27_ => k_is)
   (case e28_ => k_is)
   (case e23_ => k_is)
   (case l_Z9 => unfold Stow.LkF; k_is)
   (case ld_Z9 => k_is)
   (case c_Z9 => k_is)
   (case k_Z9 => k_is)
   (case if_Z9 => k_is)
   (case e17_ => k_is)
   (case e25_ => k_is)
   (case e22_ => k_is)
   (case e18_ => k_is)
   (case l_Z7 => unfold Stow.LkF; k_is)
   (case c_Z7 => k_is)
   (case k_Z7 => k_is)
   (case if_Z7 => k_is)
   (case e11_ => k_is)
   (case e15_ => k_is)
   (case e13_ => k_is)
   (case e10_ => k_is)
   (case l_Z3 => unfold Stow.LkF; k_is)
   (case c_Z3 => k_is)
   (case k_Z3 => k_is)
   (case if_Z3 => k_is)
   (case e19_ => k_is)
   (case e26_ => k_is)
   (case e24_ => k_is)
   (case e20_ => k_is)
   (case l_Z8 => unfold Stow.LkF; k_is)
   (case ld_Z8 => k_is)
   (case c_Z8 => k_is)
   (case k_Z8 => k_is)
   (case if_Z8 => k_is)
